import PyProof.Rows.All
import Wide.All
import OpenK.AllK
import Wide.FinOn
import Lean
import PyProof.EqAt
import PyProof.EqKinds
import PyProof.TupleCall
import PySem.Str
import PyProof.NeKinds
import PyProof.IsRules
import PyProof.Rows.StrRev
import KE.KSortTup
import PyProof.Rows.ZipGen
import KE.KRevIter
import KE.KDictList
import PySem.Challenge.RW_pactboards_k27_all_stands_in_order
local macro_rules | `(tactic| nofun) => `(tactic| decide +kernel)
local macro_rules | `(tactic| ac_nf) => `(tactic| first | lia | omega)
set_option genSizeOf false
set_option Elab.async false
set_option linter.all false
set_option maxRecDepth 100000
set_option maxHeartbeats 4000000
namespace L2
open PySem PySem.Spec PyProof.Rows
noncomputable abbrev Key := Sum Int Str
noncomputable def keyIs : Key → Value → Bool
 | .inl k, v => Value.isInt k v
 | .inr x, v => Value.isStrOf x v
noncomputable def keyH (w : World) : Key → Int
 | .inl k => hashInt k
 | .inr x => hashStr w x
theorem keyIs_shape : ∀ {k : Key} {v : Value}, keyIs k v = true → (∃ i t, k = Sum.inl i ∧ v = Value.int i t) ∨ (∃ x t, k = Sum.inr x ∧ v = Value.str x t)
 | .inl i, v, h => by
  obtain ⟨t, e⟩ := Value.isInt_shape (k := i) (v := v) h
  exact .inl ⟨i, t, rfl, e⟩
 | .inr x, v, h => by
  obtain ⟨t, e⟩ := Value.isStrOf_shape (x := x) (v := v) h
  exact .inr ⟨x, t, rfl, e⟩
theorem Qaa (i : Int) (t : Tok) : keyIs (.inl i) (.int i t) = true := by simp [keyIs, Value.isInt]
theorem Qab (x : Str) (t : Tok) : keyIs (.inr x) (.str x t) = true := by simp [keyIs, Value.isStrOf]
theorem Qac (a b : Int) : decide ((Sum.inl a : Key) = Sum.inl b) = (a == b) := by
 by_cases e : a = b
 ·subst e; simp
 ·have h : ¬ (Sum.inl a : Key) = Sum.inl b := fun q => e (Sum.inl.inj q)
  rw [decide_eq_false h]
  exact (beq_eq_false_iff_ne.mpr e).symm
theorem Qad (a b : Str) : decide ((Sum.inr a : Key) = Sum.inr b) = decide (a = b) := by
 by_cases e : a = b
 ·subst e; simp
 ·have h : ¬ (Sum.inr a : Key) = Sum.inr b := fun q => e (Sum.inr.inj q)
  rw [decide_eq_false h, decide_eq_false e]
theorem Qae (a : Int) (b : Str) : decide ((Sum.inl a : Key) = Sum.inr b) = false := decide_eq_false (fun q => nomatch q)
theorem Qaf (a : Str) (b : Int) : decide ((Sum.inr a : Key) = Sum.inl b) = false := decide_eq_false (fun q => nomatch q)
noncomputable def mixKind (prog : Program) (w : World) : PySem.KeyKind prog w Key where
 is := keyIs
 hash := keyH w
 inj := fun v a b ha hb => by
  rcases keyIs_shape ha with ⟨i, t, rfl, rfl⟩ | ⟨x, t, rfl, rfl⟩
  ·rcases keyIs_shape hb with ⟨j, u, rfl, e⟩ | ⟨y, u, rfl, e⟩
   ·injection e with e1 _; rw [e1]
   ·exact nomatch e
  ·rcases keyIs_shape hb with ⟨j, u, rfl, e⟩ | ⟨y, u, rfl, e⟩
   ·exact nomatch e
   ·injection e with e1 _; rw [e1]
 byValue := fun k v h => by
  rcases keyIs_shape h with ⟨i, t, rfl, rfl⟩ | ⟨x, t, rfl, rfl⟩ <;> rfl
 pyHash := fun hv h => by
  rcases keyIs_shape hv with ⟨i, t, rfl, rfl⟩ | ⟨x, t, rfl, rfl⟩
  ·exact wpAny_pyHash_int h
  ·exact wpAny_pyHash_str h
 eqBool := fun hu hv h => by
  rcases keyIs_shape hu with ⟨i, t, rfl, rfl⟩ | ⟨x, t, rfl, rfl⟩
  ·rcases keyIs_shape hv with ⟨j, u, rfl, rfl⟩ | ⟨y, u, rfl, rfl⟩
   ·rw [Qac] at h; exact wpAny_eqBool_int h
   ·rw [Qae] at h; exact SeqAt.EqAt.int_str i t y u _ _ _ _ h
  ·rcases keyIs_shape hv with ⟨j, u, rfl, rfl⟩ | ⟨y, u, rfl, rfl⟩
   ·rw [Qaf] at h; exact SeqAt.EqAt.str_int x t j u _ _ _ _ h
   ·rw [Qad] at h; exact wpAny_eqBool_str h
 «strs» := fun k x t v h => by
  rcases keyIs_shape h with ⟨i, u, rfl, e⟩ | ⟨y, u, rfl, e⟩
  ·exact nomatch e
  ·injection e with e1 _
   subst e1
   cases v <;> rfl
theorem Qag (prog : Program) (w : World) (i : Int) (t : Tok) : (mixKind prog w).is (.inl i) (.int i t) = true := Qaa i t
theorem Qah (prog : Program) (w : World) (x : Str) (t : Tok) : (mixKind prog w).is (.inr x) (.str x t) = true := Qab x t
end L2
namespace L2
open PySem PySem.Spec PyProof.Rows
inductive V where
 | non | bl (b : Bool) | int (i : Int) | str (x : Str) | byt (b : Array UInt8) | flt (b : UInt64) | ref (a : Addr) | ty (n : String)
 deriving DecidableEq
noncomputable def RelV : V → Value → Prop
 | .non, u => u = Value.none
 | .bl b, u => u = Value.bool b
 | .int i, u => ∃ t, u = Value.int i t
 | .str x, u => ∃ t, u = Value.str x t
 | .byt b, u => ∃ t, u = Value.bytes b t
 | .flt b, u => ∃ t, u = Value.float b t
 | .ref a, u => u = Value.ref a
 | .ty n, u => u = Value.type n
noncomputable abbrev Vals : List V → List Value → Prop := Paired RelV
theorem Vals.length {xs : List V} {us : List Value} (r : Vals xs us) : xs.length = us.length := Paired.length r
theorem Vals.get : ∀ {xs : List V} {us : List Value} {i : Nat} {x : V}, Vals xs us → xs[i]? = some x → ∃ u, us[i]? = some u ∧ RelV x u
 | _, _, _, _, .nil, e => by simp at e
 | _, _, 0, _, .cons r _, e => by simp at e; subst e; exact ⟨_, rfl, r⟩
 | _, _, i + 1, x, .cons _ t, e => by
  obtain ⟨u, h1, h2⟩ := Vals.get (i := i) (x := x) t (by simpa using e)
  exact ⟨u, by simpa using h1, h2⟩
theorem Vals.set {x : V} {u : Value} (r : RelV x u) : ∀ {xs : List V} {us : List Value} (i : Nat), Vals xs us → Vals (xs.set i x) (us.set i u)
 | _, _, _, .nil => .nil
 | _, _, 0, .cons _ t => .cons r t
 | _, _, i + 1, .cons q t => .cons q (Vals.set r i t)
theorem Vals.append : ∀ {xs ys : List V} {us ws : List Value}, Vals xs us → Vals ys ws → Vals (xs ++ ys) (us ++ ws)
 | _, _, _, _, .nil, s => s
 | _, _, _, _, .cons r t, s => .cons r (Vals.append t s)
theorem Vals.take : ∀ {xs : List V} {us : List Value} (n : Nat), Vals xs us → Vals (xs.take n) (us.take n)
 | _, _, 0, _ => .nil
 | _, _, _ + 1, .nil => .nil
 | _, _, n + 1, .cons r t => .cons r (Vals.take n t)
theorem Vals.drop : ∀ {xs : List V} {us : List Value} (n : Nat), Vals xs us → Vals (xs.drop n) (us.drop n)
 | _, _, 0, r => r
 | _, _, _ + 1, .nil => .nil
 | _, _, n + 1, .cons _ t => Vals.drop n t
theorem Vals.none_of : ∀ {xs : List V} {us : List Value} {i : Nat}, Vals xs us → xs[i]? = none → us[i]? = none := fun {xs us i} r e => by
 have h1 := r.length
 have h2 : xs.length ≤ i := List.getElem?_eq_none_iff.mp e
 exact List.getElem?_eq_none_iff.mpr (by ac_nf)
noncomputable def RelO : Option V → Option Value → Prop
 | some v, some u => RelV v u
 | none, none => True
 | _, _ => False
noncomputable def KV {κ : Type} : List (κ × V) → List (κ × Value) → Prop := Paired fun (p : κ × V) (q : κ × Value) => p.1 = q.1 ∧ RelV p.2 q.2
noncomputable def kV : Key → V
 | .inl i => .int i
 | .inr x => .str x
inductive HO where
 | lst (xs : List V)
 | tup (xs : List V)
 | dK (kvs : List (Key × V)) | dT (kvs : List (List Key × V))
 | set (S : Int → Bool) (n : Nat)
 | ins (C dx : Addr) (fs : List (Str × V))
 | own (x : Addr)
 | xd (fs : List (Str × V))
 | met (f x : Addr)
 | rng (lo hi : Int)
 | frz (o : Obj) (u : HO)
 | tbl (ps : Array Value)
 | ext (φ : Heap → Prop)
noncomputable abbrev Hp := Addr → Option HO
noncomputable def upd (H : Hp) (a : Addr) (o : HO) : Hp := fun b => if b = a then some o else H b
theorem Qai {H : Hp} {a : Addr} {o : HO} : upd H a o a = some o := by unfold upd; rw [if_pos rfl]
theorem Qaj {H : Hp} {a b : Addr} {o : HO} (h : b ≠ a) : upd H a o b = H b := by unfold upd; rw [if_neg h]
theorem Qak {H : Hp} {a b : Addr} {o u : HO} (h : H a = some o) (h' : H b = some u) (d : o ≠ u) : a ≠ b := by
 intro e; subst e; rw [h] at h'; exact d (Option.some.inj h')
theorem Qal {H : Hp} {a b : Addr} {o : HO} (h : H a = some o) (h' : H b = none) : a ≠ b := by
 intro e; subst e; rw [h] at h'; cases h'
section
variable (P : Program) (w : World)
noncomputable def ObjOk (H : Hp) (h : Heap) (a : Addr) : HO → Prop
 | .lst xs => xs.length ≤ sizeLine ∧ ∃ (its : List Value) (n : Nat), Vals xs its ∧ h.get? a = some { cls := .type "list", data := .seq its.toArray n }
 | .tup xs => xs.length ≤ sizeLine ∧ ∃ its : List Value, Vals xs its ∧ IsTup h a its.toArray
 | .dK kvs => kvs.length ≤ sizeLine ∧ (a == sysModules) = false ∧ ∃ vs, KV kvs vs ∧ h.DictOf (mixKind P w) a vs
 | .dT kvs => kvs.length ≤ sizeLine ∧ (a == sysModules) = false ∧ ∃ xs : List (List Key × Addr × Value),
   Paired (fun (p : List Key × V) (q : List Key × Addr × Value) => p.1 = q.1 ∧ H q.2.1 = some (.tup (p.1.map kV)) ∧ RelV p.2 q.2.2) kvs xs ∧
   ∃ o es ep, h.get? a = some o ∧ o.ExactDict ∧ o.data = .dict es ep ∧ es.toList = xs.map (entryOfKey (tupleKind (mixKind P w))) ∧ (xs.map (·.1)).Nodup
 | .set S n => h.SetOf (intKind P w) a S n
 | .ins C dx fs => H dx = some (.own a) ∧ fs.length ≤ 1000 ∧ dx ≠ a ∧ h.get? a = some (PySem.W.instObj C dx) ∧
   ∃ mA, h.Ns1 dx mA ∧ (∀ f, RelO (fs.lookup f) (mA f)) ∧ PySem.Within mA (fs.map (·.1))
 | .own _ => ∃ o, h.get? a = some o
 | .xd fs => ∃ mA, h.Ns1 a mA ∧ ∀ f, RelO (fs.lookup f) (mA f)
 | .rng lo hi => ∃ t u v, h.get? a = some { cls := .type "range", data := .fields #[.int lo t, .int hi u, .int 1 v] }
 | .frz o u => h.get? a = some o ∧ ObjOk H h a u
 | .tbl ps => h.get? a = some { cls := .none, data := .fields ps }
 | .met f x => h.get? a = some (PySem.W.methodObj (.ref f) (.ref x))
 | .ext φ => φ h ∧ (∃ o, h.get? a = some o) ∧ ∀ h1 h2 : Heap, φ h1 → (∀ o, h1.get? a = some o → h2.get? a = some o) → φ h2
def HOk (H : Hp) (h : Heap) : Prop := ∀ a o, H a = some o → ObjOk P w H h a o
end
section
variable {P : Program} {w : World} {H H' : Hp} {h h' : Heap} {a : Addr} {o : HO}
theorem ObjOk.lt (x : ObjOk P w H h a o) : a < h.objs.size := by
 cases o with
 | lst xs => obtain ⟨_, _, _, _, e⟩ := x; exact Heap.lt_size e
 | tup xs => obtain ⟨_, _, _, p⟩ := x; exact p.lt
 | dK kvs => obtain ⟨_, _, _, _, o, _, _, e, _⟩ := x; exact Heap.lt_size e
 | dT kvs => obtain ⟨_, _, _, _, o, _, _, e, _⟩ := x; exact Heap.lt_size e
 | set S n => obtain ⟨o, _, _, _, e, _⟩ := x; exact Heap.lt_size e
 | ins C dx fs => obtain ⟨_, _, _, e, _⟩ := x; exact Heap.lt_size e
 | own y => obtain ⟨_, e⟩ := x; exact Heap.lt_size e
 | xd fs => obtain ⟨_, ⟨_, _, _, e, _⟩, _⟩ := x; exact Heap.lt_size e
 | rng lo hi => obtain ⟨_, _, _, e⟩ := x; exact Heap.lt_size e
 | frz ob u => obtain ⟨e, _⟩ := x; exact Heap.lt_size e
 | tbl ps => exact Heap.lt_size (show h.get? a = some _ from x)
 | met f y => exact Heap.lt_size (show h.get? a = some _ from x)
 | ext φ => obtain ⟨_, ⟨_, e⟩, _⟩ := x; exact Heap.lt_size e
theorem Paired.mapP {α β : Type} {F G : α → β → Prop} : ∀ {l₁ : List α} {l₂ : List β}, Paired F l₁ l₂ → (∀ a b, F a b → G a b) → Paired G l₁ l₂
 | _, _, .nil, _ => .nil
 | _, _, .cons r t, f => .cons (f _ _ r) (Paired.mapP t f)
theorem ObjOk.stay (x : ObjOk P w H h a o) (k : ∀ b u, (b = a ∨ H b = some (.own a)) → h.get? b = some u → h'.get? b = some u)
  (ho : ∀ b, H b = some (.own a) → H' b = some (.own a)) (ht : ∀ b xs, H b = some (.tup xs) → H' b = some (.tup xs)) : ObjOk P w H' h' a o := by
 induction o with
 | lst xs => obtain ⟨z, its, n, r, e⟩ := x; exact ⟨z, its, n, r, k _ _ (.inl rfl) e⟩
 | tup xs => obtain ⟨z, its, r, ob, e, c⟩ := x; exact ⟨z, its, r, ob, k _ _ (.inl rfl) e, c⟩
 | dK kvs => obtain ⟨z, y, vs, r, ob, es, ep, e, c⟩ := x; exact ⟨z, y, vs, r, ob, es, ep, k _ _ (.inl rfl) e, c⟩
 | dT kvs =>
  obtain ⟨z, y, xs, r, ob, es, ep, e, c⟩ := x
  exact ⟨z, y, xs, Paired.mapP r fun p q z => ⟨z.1, ht _ _ z.2.1, z.2.2⟩, ob, es, ep, k _ _ (.inl rfl) e, c⟩
 | set S n => obtain ⟨ob, es, ep, t, e, c⟩ := x; exact ⟨ob, es, ep, t, k _ _ (.inl rfl) e, c⟩
 | ins C dx fs =>
  obtain ⟨d, z, ne, e, mA, ⟨od, es, ep, e2, c⟩, r⟩ := x
  exact ⟨ho _ d, z, ne, k _ _ (.inl rfl) e, mA, ⟨od, es, ep, k _ _ (.inr d) e2, c⟩, r⟩
 | own y => obtain ⟨ob, e⟩ := x; exact ⟨ob, k _ _ (.inl rfl) e⟩
 | xd fs => obtain ⟨mA, ⟨od, es, ep, e, c⟩, r⟩ := x; exact ⟨mA, ⟨od, es, ep, k _ _ (.inl rfl) e, c⟩, r⟩
 | rng lo hi => obtain ⟨t, u, v, e⟩ := x; exact ⟨t, u, v, k _ _ (.inl rfl) e⟩
 | frz ob u ih => obtain ⟨e, q⟩ := x; exact ⟨k _ _ (.inl rfl) e, ih q⟩
 | tbl ps =>
  have e : h.get? a = some { cls := .none, data := .fields ps } := x
  show h'.get? a = some { cls := .none, data := .fields ps }
  exact k a _ (.inl rfl) e
 | met f y =>
  have e : h.get? a = some (PySem.W.methodObj (.ref f) (.ref y)) := x
  show h'.get? a = some (PySem.W.methodObj (.ref f) (.ref y))
  exact k a _ (.inl rfl) e
 | ext φ => obtain ⟨p, ⟨o, e⟩, st⟩ := x; exact ⟨st _ _ p fun o q => k _ _ (.inl rfl) q, ⟨o, k _ _ (.inl rfl) e⟩, st⟩
theorem HOk.lt (x : HOk P w H h) (e : H a = some o) : a < h.objs.size := (x a o e).lt
theorem HOk.fresh (x : HOk P w H h) (e : h.objs.size ≤ a) : H a = none := by
 cases q : H a with
 | none => rfl
 | some u => exact absurd (Nat.lt_of_lt_of_le (x.lt q) e) (Nat.lt_irrefl _)
theorem HOk.kept (x : HOk P w H h) (k : ∀ b u, h.get? b = some u → h'.get? b = some u) : HOk P w H h' := fun a o e =>
 (x a o e).stay (fun b u _ q => k b u q) (fun _ q => q) fun _ _ q => q
theorem HOk.laid (x : HOk P w H h) (k : ∀ b u, h.get? b = some u → h'.get? b = some u) (hp : h.objs.size ≤ a) (new : ObjOk P w (upd H a o) h' a o) : HOk P w (upd H a o) h' := fun b u e => by
 have hn := x.fresh hp
 by_cases hb : b = a
 ·subst hb; rw [Qai] at e; cases e; exact new
 ·rw [Qaj hb] at e
  exact (x b u e).stay (fun c v _ q => k c v q) (fun c q => by rw [Qaj (Qal q hn)]; exact q) fun c xs q => by rw [Qaj (Qal q hn)]; exact q
end
def Rd (H : Hp) (a : Addr) (u : HO) : Prop := H a = some u ∨ ∃ o, H a = some (.frz o u)
theorem Rd.of {H : Hp} {a : Addr} {u : HO} (h : H a = some u) : Rd H a u := .inl h
theorem Rd.ok {P : Program} {w : World} {H : Hp} {h : Heap} {a : Addr} {u : HO} (r : Rd H a u) (x : HOk P w H h) : ObjOk P w H h a u := by
 rcases r with r | ⟨o, r⟩
 ·exact x a u r
 ·obtain ⟨_, q⟩ := x a _ r
  exact q
noncomputable def Mut : Option HO → Prop
 | some (.lst _) => True
 | some (.dK _) => True
 | some (.dT _) => True
 | some (.set _ _) => True
 | some (.ins _ _ _) => True
 | some (.ext _) => True
 | _ => False
section
variable {P : Program} {w : World} {H : Hp} {h h' : Heap} {x e : Addr} {o' : HO}
theorem HOk.write (ok : HOk P w H h) (mu : Mut (H x)) (he : e = x ∨ H e = some (.own x)) (k : ∀ b u, b ≠ e → h.get? b = some u → h'.get? b = some u) (heo : ∃ u, h'.get? e = some u)
  (new : ObjOk P w (upd H x o') h' x o') : HOk P w (upd H x o') h' := fun b u q => by
 have nown : ∀ c y, H c = some (.own y) → c ≠ x := fun c y r z => by subst z; rw [r] at mu; exact mu
 have ntup : ∀ c xs, H c = some (.tup xs) → c ≠ x := fun c xs r z => by subst z; rw [r] at mu; exact mu
 by_cases hb : b = x
 ·subst hb; rw [Qai] at q; cases q; exact new
 ·rw [Qaj hb] at q
  by_cases hbe : b = e
  ·have q' : H b = some (.own x) := by
     rcases he with z | z
     ·exact absurd (hbe.trans z) hb
     ·rw [hbe]; exact z
   rw [q] at q'; cases q'
   obtain ⟨v, hv⟩ := heo
   exact ⟨v, by rw [hbe]; exact hv⟩
  ·refine (ok b u q).stay (fun c v hc r => k c v ?_ r) (fun c r => by rw [Qaj (nown c b r)]; exact r) fun c xs r => by rw [Qaj (ntup c xs r)]; exact r
   rcases hc with rfl | hc
   ·exact hbe
   ·rintro rfl
    rcases he with z | z
    ·exact nown c b hc z
    ·rw [hc] at z; cases z; exact hb rfl
end
structure Un (fs ex : List Addr) (H H' : Hp) (h h' : Heap) : Prop where
 keep : ∀ b o, h.get? b = some o → H b = none → b ∉ fs → b ∉ ex → h'.get? b = some o
 slot : ∀ b o, h.get? b = some o → H b = none → b ∈ fs → b ∉ ex → ∃ sl, h'.get? b = some { o with slots := sl }
 free : ∀ b o, h.get? b = some o → H b = none → b ∉ ex → H' b = none
 there : ∀ b o, h.get? b = some o → b ∉ ex → ∃ o', h'.get? b = some o'
 tups : ∀ b xs, H b = some (.tup xs) → H' b = some (.tup xs)
 frzs : ∀ b o u, H b = some (.frz o u) → H' b = some (.frz o u)
 tbls : ∀ b ps, H b = some (.tbl ps) → ∃ more, H' b = some (.tbl (ps ++ more))
section
variable {fs fs' ex ex' : List Addr} {H H1 H2 : Hp} {h h1 h2 h' : Heap} {a x e : Addr} {o : HO}
theorem Un.any (u : Un fs ex H H1 h h1) {b : Addr} {ob : Obj} (q : h.get? b = some ob) (n : H b = none) (hx : b ∉ ex) : ∃ sl, h1.get? b = some { ob with slots := sl } := by
 by_cases hb : b ∈ fs
 ·exact u.slot b ob q n hb hx
 ·exact ⟨ob.slots, u.keep b ob q n hb hx⟩
theorem Un.trans (a : Un fs ex H H1 h h1) (b : Un fs ex H1 H2 h1 h2) : Un fs ex H H2 h h2 where
 keep := fun c ob q n hc hx => b.keep c ob (a.keep c ob q n hc hx) (a.free c ob q n hx) hc hx
 slot := fun c ob q n hc hx => by
  obtain ⟨sl, e1⟩ := a.slot c ob q n hc hx
  obtain ⟨sl', e2⟩ := b.slot c _ e1 (a.free c ob q n hx) hc hx
  exact ⟨sl', e2⟩
 free := fun c ob q n hx => by
  obtain ⟨o', e1⟩ := a.there c ob q hx
  exact b.free c o' e1 (a.free c ob q n hx) hx
 there := fun c ob q hx => by
  obtain ⟨o', e1⟩ := a.there c ob q hx
  exact b.there c o' e1 hx
 tups := fun c xs q => b.tups c xs (a.tups c xs q)
 frzs := fun c ob xs q => b.frzs c ob xs (a.frzs c ob xs q)
 tbls := fun c ps q => by
  obtain ⟨m1, e1⟩ := a.tbls c ps q
  obtain ⟨m2, e2⟩ := b.tbls c _ e1
  exact ⟨m1 ++ m2, by rw [e2, Array.append_assoc]⟩
theorem Un.kept (k : ∀ b u, h.get? b = some u → h'.get? b = some u) : Un fs ex H H h h' :=
 ⟨fun b ob q _ _ _ => k b ob q, fun b ob q _ _ _ => ⟨ob.slots, k b ob q⟩, fun _ _ _ n _ => n, fun b ob q _ => ⟨ob, k b ob q⟩, fun _ _ q => q, fun _ _ _ q => q, fun _ ps q => ⟨#[], by rw [q]; simp⟩⟩
theorem Un.refl : Un fs ex H H h h := Un.kept fun _ _ q => q
theorem Un.laid (k : ∀ b u, h.get? b = some u → h'.get? b = some u) (hp : h.objs.size ≤ a) (hn : H a = none) : Un fs ex H (upd H a o) h h' where
 keep := fun b u q _ _ _ => k b u q
 slot := fun b u q _ _ _ => ⟨u.slots, k b u q⟩
 free := fun b u q n _ => by rw [Qaj (Nat.ne_of_lt (Nat.lt_of_lt_of_le (Heap.lt_size q) hp))]; exact n
 there := fun b u q _ => ⟨u, k b u q⟩
 tups := fun b xs q => by rw [Qaj (Qal q hn)]; exact q
 frzs := fun b u xs q => by rw [Qaj (Qal q hn)]; exact q
 tbls := fun b ps q => ⟨#[], by rw [Qaj (Qal q hn), q]; simp⟩
theorem Un.write (mu : Mut (H x)) (he : e = x ∨ H e = some (.own x)) (k : ∀ b u, b ≠ e → h.get? b = some u → h'.get? b = some u) (heo : ∃ u, h'.get? e = some u) : Un fs ex H (upd H x o) h h' := by
 have hx : ∀ b, H b = none → b ≠ x := fun b n z => by subst z; rw [n] at mu; exact mu
 have hb : ∀ b, H b = none → b ≠ e := fun b n z => by
  subst z
  rcases he with r | r
  ·exact hx b n r
  ·rw [n] at r; cases r
 have hm : ∀ b u, H b = some u → ¬ Mut (some u) → b ≠ x := fun b u q nm z => by subst z; rw [q] at mu; exact nm mu
 refine ⟨fun b u q n _ _ => k b u (hb b n) q, fun b u q n _ _ => ⟨u.slots, k b u (hb b n) q⟩, fun b u q n _ => by rw [Qaj (hx b n)]; exact n, fun b u q _ => ?_,
  fun b xs q => by rw [Qaj (hm b _ q fun z => z)]; exact q, fun b u xs q => by rw [Qaj (hm b _ q fun z => z)]; exact q, fun b ps q => ⟨#[], by rw [Qaj (hm b _ q fun z => z), q]; simp⟩⟩
 by_cases hbe : b = e
 ·subst hbe; exact heo
 ·exact ⟨u, k b u hbe q⟩
theorem Un.mono (u : Un fs ex H H1 h h1) (hs : ∀ b ∈ fs, b ∈ fs') (hx : ∀ b ∈ ex, b ∈ ex') : Un fs' ex' H H1 h h1 :=
 ⟨fun b ob q n hb he => u.keep b ob q n (fun z => hb (hs b z)) fun z => he (hx b z), fun _ _ q n _ he => u.any q n fun z => he (hx _ z), fun b ob q n he => u.free b ob q n fun z => he (hx b z), fun b ob q he => u.there b ob q fun z => he (hx b z), u.tups, u.frzs, u.tbls⟩
end
noncomputable def trk (h : Heap) (H : Hp) : List Addr := (List.range h.objs.size).filter fun a => (H a).isSome
noncomputable def hidT (h : Heap) (H : Hp) : Heap := PySem.W.hideAll h (trk h H)
theorem Qam (h : Heap) (H : Hp) : (hidT h H).objs.size = h.objs.size := PySem.W.hideAll_size _ _
theorem Qan {h : Heap} {H : Hp} {b : Addr} {o : Obj} (e : h.get? b = some o) (n : H b = none) : (hidT h H).get? b = some o :=
 PySem.W.hideAll_get _ e fun hm => by
  have q : (H b).isSome = true := (List.mem_filter.mp hm).2
  rw [n] at q; simp at q
theorem Qao {h : Heap} {H : Hp} {b : Addr} {o : Obj} (e : (hidT h H).get? b = some o) : h.get? b = some o ∧ H b = none := by
 have e' : h.get? b = some o := PySem.W.of_hideAll (trk h H) e
 refine ⟨e', ?_⟩
 cases q : H b with
 | none => rfl
 | some x =>
  have hm : b ∈ trk h H := List.mem_filter.mpr ⟨List.mem_range.mpr (Heap.lt_size e'), by simp [q]⟩
  have z : (hidT h H).get? b = none := PySem.W.hideAll_none (trk h H) hm
  rw [z] at e; cases e
noncomputable def allNews (g h : Heap) (L : Addr) : List (Addr × Obj) := (List.range h.objs.size).filterMap fun a => if a = L ∨ (g.get? a).isSome = true then none else (h.get? a).map fun o => (a, o)
theorem Qap {g h : Heap} {L a : Addr} {o : Obj} (h1 : a ≠ L) (h2 : g.get? a = none) (h3 : h.get? a = some o) : (a, o) ∈ allNews g h L :=
 List.mem_filterMap.mpr ⟨a, List.mem_range.mpr (Heap.lt_size h3), by simp [h1, h2, h3]⟩
theorem Qaq {g h : Heap} {L : Addr} {p : Addr × Obj} (hp : p ∈ allNews g h L) : p.1 ≠ L ∧ g.get? p.1 = none ∧ h.get? p.1 = some p.2 := by
 obtain ⟨b, _, e⟩ := List.mem_filterMap.mp hp
 split at e
 ·cases e
 ·rename_i hn
  cases q : h.get? b with
  | none => rw [q] at e; simp at e
  | some u =>
   rw [q] at e
   simp only [Option.map_some, Option.some.injEq] at e
   subst e
   refine ⟨fun z => hn (.inl z), ?_, q⟩
   show g.get? b = none
   cases r : g.get? b with
   | none => rfl
   | some v => exact (hn (.inr (by simp [r]))).elim
noncomputable def rest (g h : Heap) (L d : Addr) : List (Addr × Obj) := (allNews g h L).filter fun p => decide (p.1 ≠ d)
theorem Qar {g h : Heap} {L : Addr} : News g L h (allNews g h L) := fun p hp => let ⟨a, b, c⟩ := Qaq hp; ⟨c, a, b⟩
end L2
namespace L2
open PySem PySem.Spec PyProof.Rows
structure Mod (K : PySem.W.Frag) (mg : Str → Option Value) (base : Heap) : Prop where
 kin : K.In base
 glob : base.Ns mainGlobals mg
 blt : ∃ mb, base.Ns builtinsNs mb ∧ ∀ x : Str, x ≠ "__name__" → mb x = bootBuiltins x
 nolimit : base.NoLimit
structure Cx where
 prog : Program
 w : World
 K : PySem.W.Frag
 mg : Str → Option Value
 base : Heap
 A : Around
 N : List Str
 s₀ : Shared
 H₀ : Hp
 env : Env
 outer : List Env
 stack : List Env
 ex : List Addr
 fn : Str → Bool
 calm : Bool
 pn : List (Addr × Obj)
 xe : Value → Shared → Prop
noncomputable def frs (l : List Env) : List Addr := l.filterMap (·.frame)
noncomputable abbrev Cx.fs (X : Cx) : List Addr := frs X.outer
def Vis (sc : Scope) (x : Str) : Prop := sc.names.lookup x = some .local ∨ sc.names.lookup x = some .cell ∨ sc.names.lookup x = some .free
def Loc (sc : Scope) (x : Str) : Prop := sc.names.lookup x = some .local ∨ sc.names.lookup x = some .cell
def Look (env : Env) (h : Heap) (m : Str → Option Value) (x : Str) (u : Value) : Prop :=
 (env.kindOf x = some .local ∧ m x = some u) ∨ ((env.kindOf x = some .cell ∨ env.kindOf x = some .free) ∧ ∃ c, env.cells.lookup x = some c ∧ h.IsCell c (some u))
structure Cx.Ok (X : Cx) : Prop where
 mod : Mod X.K X.mg X.base
 kind : X.env.scope.kind = .function
 glob : X.env.globals = mainGlobals
 blt : X.env.builtins = builtinsNs
 above : X.s₀.heap.objs.size ≤ X.env.locals
 inj : ∀ x y c, X.env.cells.lookup x = some c → X.env.cells.lookup y = some c → x = y
 has : ∀ x, (X.env.kindOf x = some .cell ∨ X.env.kindOf x = some .free) → ∃ c, X.env.cells.lookup x = some c
 cab : ∀ x c, X.fn x = true → X.env.cells.lookup x = some c → X.s₀.heap.objs.size ≤ c
 hd : X.calm = true → X.A.handled = none
 frames : X.A.frames = some X.stack
 stk : X.stack = X.outer ∨ (X.stack = X.env :: X.outer ∧ X.env.frame = some X.env.locals)
 exf : ∀ b ∈ X.ex, b ≠ X.env.locals ∧ ∀ x c, X.env.cells.lookup x = some c → c ≠ b
 bs : ∀ b o, X.base.get? b = some o → X.s₀.heap.get? b = some o ∧ X.H₀ b = none
 bsz : X.base.objs.size ≤ X.s₀.heap.objs.size
 noex : ∀ b o, X.base.get? b = some o → b ∉ X.ex
 exfs : ∀ b ∈ X.ex, b ∉ X.fs
 funs : X.s₀.heap.FunFrames X.base X.outer
 frf : ∀ b ∈ X.fs, X.H₀ b = none
structure Inv (X : Cx) (pins : List (Addr × Obj)) (σ : List (Option V)) (H : Hp) (s : Shared) : Prop where
 ok : X.Ok
 os : s.os = X.s₀.os
 bare : AllBare s.gens
 base : Un X.fs X.ex X.H₀ H X.s₀.heap s.heap
 loc : ∃ m, s.heap.Ns X.env.locals m ∧ ∀ (i : Nat) (x : Str) (v : V), X.N[i]? = some x → σ[i]? = some (some v) → Vis X.env.scope x → ∃ u, RelV v u ∧ Look X.env s.heap m x u
 cell : ∀ x c, X.env.cells.lookup x = some c → ∃ v, s.heap.IsCell c v
 free : H X.env.locals = none
 freeC : ∀ x c, X.env.cells.lookup x = some c → H c = none
 pin : ∀ p ∈ X.pn ++ pins, s.heap.get? p.1 = some p.2 ∧ H p.1 = none ∧ p.1 ≠ X.env.locals ∧ p.1 ∉ X.fs ∧ ∀ v, p.2.data ≠ .cell v
 hok : HOk X.prog X.w H s.heap
 len : σ.length = X.N.length
section
variable {X : Cx} {pins : List (Addr × Obj)} {σ : List (Option V)} {H H' : Hp} {s : Shared} {h' : Heap}
theorem Cx.Ok.nofr (ok : X.Ok) {b : Addr} {o : Obj} (e : X.base.get? b = some o) : b ∉ X.fs := fun hb => by
 have := (ok.funs.mem hb).1
 rw [e] at this; cases this
theorem Inv.bs (I : Inv X pins σ H s) : ∀ b o, X.base.get? b = some o → s.heap.get? b = some o ∧ H b = none := fun b o e =>
 ⟨I.base.keep b o (I.ok.bs b o e).1 (I.ok.bs b o e).2 (I.ok.nofr e) (I.ok.noex b o e), I.base.free b o (I.ok.bs b o e).1 (I.ok.bs b o e).2 (I.ok.noex b o e)⟩
theorem Inv.bk (I : Inv X pins σ H s) : ∀ b o, X.base.get? b = some o → s.heap.get? b = some o := fun b o e => (I.bs b o e).1
theorem Inv.mod (I : Inv X pins σ H s) : Mod X.K X.mg X.base := I.ok.mod
theorem Inv.kIn (I : Inv X pins σ H s) : X.K.In s.heap := I.ok.mod.kin.keeps I.bk
theorem Inv.nolimit (I : Inv X pins σ H s) : s.heap.NoLimit := I.ok.mod.nolimit.keeps I.bk
theorem Inv.fr (I : Inv X pins σ H s) : ∃ m, Fr X.base X.env.locals s.heap m :=
 let ⟨m, hn, _⟩ := I.loc
 ⟨m, hn, I.bk, Nat.le_trans I.ok.bsz I.ok.above⟩
theorem Inv.lt (I : Inv X pins σ H s) : X.env.locals < s.heap.objs.size := let ⟨_, hn, _⟩ := I.loc; hn.lt
theorem Inv.sz (I : Inv X pins σ H s) : X.s₀.heap.objs.size ≤ s.heap.objs.size := Nat.le_trans I.ok.above (Nat.le_of_lt I.lt)
theorem Inv.nofs (I : Inv X pins σ H s) {a : Addr} (h : s.heap.objs.size ≤ a) : a ∉ X.fs := fun hb => by
 obtain ⟨_, o, ho, _⟩ := I.ok.funs.mem hb
 exact absurd (Nat.lt_of_lt_of_le (Heap.lt_size ho) (Nat.le_trans I.sz h)) (Nat.lt_irrefl _)
theorem Inv.cne (I : Inv X pins σ H s) : ∀ x c, X.env.cells.lookup x = some c → c ≠ X.env.locals := fun x c e z => by
 obtain ⟨v, o, ho, hd⟩ := I.cell x c e
 obtain ⟨m, ⟨o', es, ep, ho', hd', _⟩, _⟩ := I.loc
 rw [z, ho'] at ho; cases ho; rw [hd'] at hd; cases hd
theorem Inv.funs (I : Inv X pins σ H s) : s.heap.FunFrames X.base X.outer := by
 have all : ∀ (l : List Env), (∀ b ∈ frs l, b ∈ X.fs) → X.s₀.heap.FunFrames X.base l → s.heap.FunFrames X.base l := by
  intro l
  induction l with
  | nil => intro _ _; trivial
  | cons env r ih =>
   intro hs hl
   obtain ⟨hk, ⟨L, o, hf, hn, ho, hd⟩, hr⟩ := hl
   have hL : L ∈ X.fs := hs L (by unfold frs; rw [List.filterMap_cons, hf]; exact List.mem_cons_self)
   obtain ⟨sl, e⟩ := I.base.slot L o ho (I.ok.frf L hL) hL fun z => I.ok.exfs L z hL
   exact ⟨hk, ⟨L, _, hf, hn, e, hd⟩, ih (fun b hb => hs b (by unfold frs; rw [List.filterMap_cons, hf]; exact List.mem_cons_of_mem _ hb)) hr⟩
 exact all X.outer (fun _ hb => hb) I.ok.funs
theorem Inv.stack (I : Inv X pins σ H s) : s.heap.FunFrames X.base X.stack := by
 rcases I.ok.stk with e | ⟨e, hf⟩
 ·rw [e]; exact I.funs
 ·rw [e]
  obtain ⟨m, hn, _⟩ := I.loc
  refine .cons (by rw [I.ok.kind]; decide) hf hn ?_ I.funs
  exact Heap.get?_none_of_le (Nat.le_trans I.ok.bsz I.ok.above)
theorem Inv.stkSub (I : Inv X pins σ H s) : ∀ b ∈ frs X.stack, b ∈ X.env.locals :: X.fs := fun b hb => by
 rcases I.ok.stk with e | ⟨e, hf⟩
 ·rw [e] at hb; exact List.mem_cons_of_mem _ hb
 ·rw [e] at hb
  unfold frs at hb
  rw [List.filterMap_cons, hf] at hb
  exact hb
theorem Inv.stkFree (I : Inv X pins σ H s) : ∀ b ∈ frs X.stack, H b = none := fun b hb => by
 rcases List.mem_cons.mp (I.stkSub b hb) with e | hb
 ·rw [e]; exact I.free
 ·obtain ⟨_, o, ho, _⟩ := I.ok.funs.mem hb
  exact I.base.free b o ho (I.ok.frf b hb) fun z => I.ok.exfs b z hb
theorem Inv.step {g' : Array GenState} {t' : Nat} {d' : Drawn} {ch : List Addr} (I : Inv X pins σ H s)
  (hch : ∀ b ∈ ch, (b ∈ X.ex ∨ X.s₀.heap.objs.size ≤ b) ∧ b ≠ X.env.locals ∧ (∀ x c, X.env.cells.lookup x = some c → c ≠ b) ∧ ∀ p ∈ X.pn ++ pins, p.1 ≠ b)
  (keep : ∀ b o, b ≠ X.env.locals → b ∉ X.fs → b ∉ ch → s.heap.get? b = some o → H b = none → h'.get? b = some o)
  (slot : ∀ b o, b ≠ X.env.locals → b ∈ X.fs → b ∉ ch → s.heap.get? b = some o → H b = none → ∃ sl, h'.get? b = some { o with slots := sl }) (free : ∀ b o, b ∉ ch → s.heap.get? b = some o → H b = none → H' b = none)
  (there : ∀ b o, b ∉ ch → s.heap.get? b = some o → ∃ o', h'.get? b = some o')
  (tups : ∀ b xs, H b = some (.tup xs) → H' b = some (.tup xs)) (frzs : ∀ b o u, H b = some (.frz o u) → H' b = some (.frz o u)) (tbls : ∀ b ps, H b = some (.tbl ps) → ∃ more, H' b = some (.tbl (ps ++ more)))
  (ns : ∀ m, s.heap.Ns X.env.locals m → h'.Ns X.env.locals m) (hok : HOk X.prog X.w H' h') (hg : AllBare g') :
  Inv X pins σ H' { s with heap := h', gens := g', drawn := d', toks := t' } := by
 have neL : ∀ b o, X.s₀.heap.get? b = some o → b ≠ X.env.locals := fun b o e => Nat.ne_of_lt (Nat.lt_of_lt_of_le (Heap.lt_size e) I.ok.above)
 have neC : ∀ b o, X.s₀.heap.get? b = some o → b ∉ X.ex → b ∉ ch := fun b o e hx hb => by
  rcases (hch b hb).1 with z | z
  ·exact hx z
  ·exact absurd (Nat.lt_of_lt_of_le (Heap.lt_size e) z) (Nat.lt_irrefl _)
 have cellK : ∀ x c, X.env.cells.lookup x = some c → ∀ v, s.heap.IsCell c v → h'.IsCell c v := fun x c e v pq1 => by
  obtain ⟨o, ho, hd⟩ := pq1
  have nch : c ∉ ch := fun z => (hch c z).2.2.1 x c e rfl
  by_cases hc : c ∈ X.fs
  ·obtain ⟨sl, q⟩ := slot c o (I.cne x c e) hc nch ho (I.freeC x c e)
   exact ⟨_, q, hd⟩
  ·exact ⟨o, keep c o (I.cne x c e) hc nch ho (I.freeC x c e), hd⟩
 refine ⟨I.ok, I.os, hg, ⟨fun b o e n hb hx => ?_, fun b o e n hb hx => ?_, fun b o e n hx => ?_, fun b o e hx => ?_, fun b xs e => tups b xs (I.base.tups b xs e), fun b o xs e => frzs b o xs (I.base.frzs b o xs e), fun b ps e => ?_⟩, ?_, fun x c e => ?_, ?_, fun x c e => ?_, fun p hp => ?_, hok, I.len⟩
 ·exact keep b o (neL b o e) hb (neC b o e hx) (I.base.keep b o e n hb hx) (I.base.free b o e n hx)
 ·obtain ⟨sl, e1⟩ := I.base.slot b o e n hb hx
  obtain ⟨sl', e2⟩ := slot b _ (neL b o e) hb (neC b o e hx) e1 (I.base.free b o e n hx)
  exact ⟨sl', e2⟩
 ·obtain ⟨o', e1⟩ := I.base.there b o e hx
  exact free b o' (neC b o e hx) e1 (I.base.free b o e n hx)
 ·obtain ⟨o', e1⟩ := I.base.there b o e hx
  exact there b o' (neC b o e hx) e1
 ·obtain ⟨m1, e1⟩ := I.base.tbls b ps e
  obtain ⟨m2, e2⟩ := tbls b _ e1
  exact ⟨m1 ++ m2, by rw [e2, Array.append_assoc]⟩
 ·obtain ⟨m, hn, hl⟩ := I.loc
  refine ⟨m, ns m hn, fun i x v e1 e2 e3 => ?_⟩
  obtain ⟨u, r, l⟩ := hl i x v e1 e2 e3
  refine ⟨u, r, ?_⟩
  rcases l with l | ⟨k, c, e, z⟩
  ·exact .inl l
  ·exact .inr ⟨k, c, e, cellK x c e _ z⟩
 ·obtain ⟨v, z⟩ := I.cell x c e
  exact ⟨v, cellK x c e v z⟩
 ·obtain ⟨m, ⟨o, _, _, ho, _⟩, _⟩ := I.loc
  exact free _ o (fun z => (hch _ z).2.1 rfl) ho I.free
 ·obtain ⟨v, o, ho, hd⟩ := I.cell x c e
  exact free c o (fun z => (hch c z).2.2.1 x c e rfl) ho (I.freeC x c e)
 ·obtain ⟨e, n, ne, nf, d⟩ := I.pin p hp
  have nch : p.1 ∉ ch := fun z => (hch p.1 z).2.2.2 p hp rfl
  exact ⟨keep p.1 p.2 ne nf nch e n, free p.1 p.2 nch e n, ne, nf, d⟩
theorem Inv.un {t' : Nat} (I : Inv X pins σ H s) (u : Un X.fs [] H H' s.heap h') (hok : HOk X.prog X.w H' h') : Inv X pins σ H' { s with heap := h', toks := t' } := by
 obtain ⟨m, ⟨o, es, ep, ho, r⟩, _⟩ := id I.loc
 obtain ⟨sl, hL⟩ := u.any ho I.free (by simp)
 exact I.step (g' := s.gens) (d' := s.drawn) (ch := []) (fun _ z => nomatch z) (fun b o _ hb _ e n => u.keep b o e n hb (by simp)) (fun b o _ hb _ e n => u.slot b o e n hb (by simp)) (fun b o _ e n => u.free b o e n (by simp)) (fun b o _ e => u.there b o e (by simp)) u.tups u.frzs u.tbls (fun m' hm => by
  obtain ⟨o', es', ep', ho', r'⟩ := hm
  rw [ho] at ho'; cases ho'
  exact ⟨_, es', ep', hL, r'⟩) hok I.bare
theorem Inv.call {g' : Array GenState} {t' : Nat} {d' : Drawn} {ch : List Addr} (I : Inv X pins σ H s) (u : Un (frs X.stack) ch H H' s.heap h') (hok : HOk X.prog X.w H' h') (hg : AllBare g')
  (hch : ∀ b ∈ ch, (b ∈ X.ex ∨ X.s₀.heap.objs.size ≤ b) ∧ b ≠ X.env.locals ∧ (∀ x c, X.env.cells.lookup x = some c → c ≠ b) ∧ ∀ p ∈ X.pn ++ pins, p.1 ≠ b) :
  Inv X pins σ H' { s with heap := h', gens := g', drawn := d', toks := t' } := by
 obtain ⟨m, ⟨o, es, ep, ho, r⟩, _⟩ := id I.loc
 obtain ⟨sl, hL⟩ := u.any ho I.free fun z => (hch _ z).2.1 rfl
 exact I.step (ch := ch) hch (fun b o hL hb hc e n => u.keep b o e n (fun z => (List.mem_cons.mp (I.stkSub b z)).elim hL hb) hc) (fun b o _ _ hc e n => u.any e n hc) (fun b o hc e n => u.free b o e n hc) (fun b o hc e => u.there b o e hc) u.tups u.frzs u.tbls (fun m' hm => by
  obtain ⟨o', es', ep', ho', r'⟩ := hm
  rw [ho] at ho'; cases ho'
  exact ⟨_, es', ep', hL, r'⟩) hok hg
theorem Inv.turned {t' : Nat} {it : Addr} (I : Inv X pins σ H s) (k : ∀ b o, b ≠ it → s.heap.get? b = some o → h'.get? b = some o) (hn : H it = none) (hL : it ≠ X.env.locals)
  (h1 : it ∈ X.ex ∨ X.s₀.heap.objs.size ≤ it) (h2 : ∀ x c, X.env.cells.lookup x = some c → c ≠ it) (h3 : ∀ p ∈ X.pn ++ pins, p.1 ≠ it) : Inv X pins σ H { s with heap := h', toks := t' } := by
 have nit : ∀ b u, H b = some u → b ≠ it := fun b u e z => by rw [z, hn] at e; cases e
 refine I.step (g' := s.gens) (d' := s.drawn) (ch := [it]) (fun b hb => ?_) (fun b o _ _ hc e _ => k b o (fun z => hc (by simp [z])) e) (fun b o _ _ hc e _ => ⟨o.slots, k b o (fun z => hc (by simp [z])) e⟩) (fun _ _ _ _ n => n)
  (fun b o hc e => ⟨o, k b o (fun z => hc (by simp [z])) e⟩) (fun _ _ e => e) (fun _ _ _ e => e) (fun b ps e => ⟨#[], by rw [e]; simp⟩) (fun m hm => ?_) (fun b u e => ?_) I.bare
 ·have e : b = it := by simpa using hb
  subst e
  exact ⟨h1, hL, h2, h3⟩
 ·obtain ⟨o, es, ep, ho, r⟩ := hm
  exact ⟨o, es, ep, k _ o (Ne.symm hL) ho, r⟩
 ·refine (I.hok b u e).stay (fun c v hc q => k c v ?_ q) (fun _ q => q) fun _ _ q => q
  rcases hc with z | z
  ·rw [z]; exact nit b u e
  ·exact nit c _ z
theorem Inv.tok (I : Inv X pins σ H s) (t : Nat) : Inv X pins σ H { s with toks := t } := I.un (h' := s.heap) (t' := t) Un.refl I.hok
theorem Inv.kept {t' : Nat} (I : Inv X pins σ H s) (k : ∀ b u, s.heap.get? b = some u → h'.get? b = some u) : Inv X pins σ H { s with heap := h', toks := t' } := I.un (Un.kept k) (I.hok.kept k)
theorem Inv.laid {a : Addr} {o : HO} {t' : Nat} (I : Inv X pins σ H s) (k : ∀ b u, s.heap.get? b = some u → h'.get? b = some u) (hp : s.heap.objs.size ≤ a) (new : ObjOk X.prog X.w (upd H a o) h' a o) :
  Inv X pins σ (upd H a o) { s with heap := h', toks := t' } := I.un (Un.laid k hp (I.hok.fresh hp)) (I.hok.laid k hp new)
theorem Inv.write {x e : Addr} {o : HO} {t' : Nat} (I : Inv X pins σ H s) (mu : Mut (H x)) (he : e = x ∨ H e = some (.own x)) (k : ∀ b u, b ≠ e → s.heap.get? b = some u → h'.get? b = some u) (heo : ∃ u, h'.get? e = some u)
  (new : ObjOk X.prog X.w (upd H x o) h' x o) : Inv X pins σ (upd H x o) { s with heap := h', toks := t' } := I.un (Un.write mu he k heo) (I.hok.write mu he k heo new)
theorem Inv.pins_of {pins' : List (Addr × Obj)} (I : Inv X pins σ H s) (h : ∀ p ∈ pins', s.heap.get? p.1 = some p.2 ∧ H p.1 = none ∧ p.1 ≠ X.env.locals ∧ p.1 ∉ X.fs ∧ ∀ v, p.2.data ≠ .cell v) : Inv X pins' σ H s :=
 ⟨I.ok, I.os, I.bare, I.base, I.loc, I.cell, I.free, I.freeC, fun p hp => (List.mem_append.mp hp).elim (fun z => I.pin p (List.mem_append_left _ z)) (h p), I.hok, I.len⟩
theorem Qas {N : List Str} (hN : N.Nodup) {i j : Nat} {x : Str} (a : N[i]? = some x) (b : N[j]? = some x) : i = j := by
 obtain ⟨h1, e1⟩ := List.getElem?_eq_some_iff.mp a
 obtain ⟨h2, e2⟩ := List.getElem?_eq_some_iff.mp b
 exact (List.getElem_inj hN).mp (e1.trans e2.symm)
theorem Qat {M : Model} {A : Around} {E : Value → Shared → Prop} {i : Nat} {x : Str} {v : V} {u : Value} {Q : Unit → Shared → Prop} (I : Inv X pins σ H s) (hN : X.N.Nodup) (hi : X.N[i]? = some x) (hx : Loc X.env.scope x) (r : RelV v u)
  (h : ∀ s', Inv X pins (σ.set i (some v)) H s' → (∃ a, Heap.SameBut a s.heap s'.heap ∧ (a = X.env.locals ∨ X.env.cells.lookup x = some a)) → Q () s') (hf : X.fn x = true ∨ X.env.scope.names.lookup x = some .local := by first | exact .inl rfl | exact .inr rfl | assumption) : wpAny M A (storeName X.env x u) Q E s := by
 obtain ⟨m, hn, hl⟩ := id I.loc
 have hcls : (X.env.scope.kind == .class || (X.env.scope.kind == .module && X.env.locals != X.env.globals)) = false := by rw [I.ok.kind]; rfl
 have hiσ : i < σ.length := by rw [I.len]; exact (List.getElem?_eq_some_iff.mp hi).1
 have cne := I.cne
 have tracked : ∀ {a : Addr} {h' : Heap}, (∃ o, s.heap.get? a = some o ∧ H a = none) → Heap.SameBut a s.heap h' → HOk X.prog X.w H h' := fun {a h'} ha hs b ob e => by
  obtain ⟨_, _, hfree⟩ := ha
  refine (I.hok b ob e).stay (fun c w' hc q => (hs.2 c ?_).trans q) (fun _ q => q) fun _ _ q => q
  rintro rfl
  rcases hc with rfl | hc
  ·rw [hfree] at e; cases e
  ·rw [hfree] at hc; cases hc
 rcases hx with hk | hk
 ·refine wpAny_storeName_local hk hn (fun h' hn' hs => ?_) hcls
  obtain ⟨oL, _, _, hoL, _⟩ := id hn
  refine h _ ⟨I.ok, I.os, I.bare, ⟨fun b o e n hb hx => ?_, fun b o e n hb hx => ?_, I.base.free, fun b o e hx => ?_, I.base.tups, I.base.frzs, I.base.tbls⟩, ⟨_, hn', fun j y v' e1 e2 e3 => ?_⟩, fun y c e => ?_, I.free, I.freeC, fun p hp => ?_, tracked ⟨oL, hoL, I.free⟩ hs, by simpa using I.len⟩ ⟨_, hs, .inl rfl⟩
  ·exact (hs.2 b (Nat.ne_of_lt (Nat.lt_of_lt_of_le (Heap.lt_size e) I.ok.above))).trans (I.base.keep b o e n hb hx)
  ·obtain ⟨sl, e1⟩ := I.base.slot b o e n hb hx
   exact ⟨sl, (hs.2 b (Nat.ne_of_lt (Nat.lt_of_lt_of_le (Heap.lt_size e) I.ok.above))).trans e1⟩
  ·obtain ⟨o', e1⟩ := I.base.there b o e hx
   exact ⟨o', (hs.2 b (Nat.ne_of_lt (Nat.lt_of_lt_of_le (Heap.lt_size e) I.ok.above))).trans e1⟩
  ·by_cases hj : j = i
   ·subst hj
    rw [hi] at e1; cases e1
    rw [List.getElem?_set_self hiσ] at e2
    cases e2
    exact ⟨u, r, .inl ⟨hk, by simp⟩⟩
   ·rw [List.getElem?_set_ne (Ne.symm hj)] at e2
    obtain ⟨u', r', q⟩ := hl j y v' e1 e2 e3
    refine ⟨u', r', ?_⟩
    rcases q with ⟨k, e⟩ | ⟨k, c, e, z⟩
    ·refine .inl ⟨k, ?_⟩
     have : y ≠ x := fun e => hj (Qas hN e1 (e ▸ hi))
     simp [this, e]
    ·exact .inr ⟨k, c, e, z.sameBut hs (cne y c e)⟩
  ·obtain ⟨w', z⟩ := I.cell y c e
   exact ⟨w', z.sameBut hs (cne y c e)⟩
  ·obtain ⟨e, n, ne, nf, d⟩ := I.pin p hp
   exact ⟨(hs.2 p.1 ne).trans e, n, ne, nf, d⟩
 ·have hfn : X.fn x = true := by
    rcases hf with z | z
    ·exact z
    ·rw [z] at hk; cases hk
  obtain ⟨c, hc⟩ := I.ok.has x (.inl hk)
  obtain ⟨w', z⟩ := I.cell x c hc
  refine wpAny_storeName_cell I.ok.kind hk hc z (fun h' hc' hs => ?_)
  obtain ⟨oc, hoc, hocd⟩ := id z
  refine h { s with heap := h' } ⟨I.ok, I.os, I.bare, ⟨fun b o e n hb hx => ?_, fun b o e n hb hx => ?_, I.base.free, fun b o e hx => ?_, I.base.tups, I.base.frzs, I.base.tbls⟩, ⟨m, hn.sameBut hs (Ne.symm (cne x c hc)), fun j y v' e1 e2 e3 => ?_⟩, fun y c' e => ?_, I.free, I.freeC, fun p hp => ?_, tracked ⟨oc, hoc, I.freeC x c hc⟩ hs, by simpa using I.len⟩ ⟨c, hs, .inr hc⟩
  ·exact (hs.2 b (Nat.ne_of_lt (Nat.lt_of_lt_of_le (Heap.lt_size e) (I.ok.cab x c hfn hc)))).trans (I.base.keep b o e n hb hx)
  ·obtain ⟨sl, e1⟩ := I.base.slot b o e n hb hx
   exact ⟨sl, (hs.2 b (Nat.ne_of_lt (Nat.lt_of_lt_of_le (Heap.lt_size e) (I.ok.cab x c hfn hc)))).trans e1⟩
  ·obtain ⟨o', e1⟩ := I.base.there b o e hx
   exact ⟨o', (hs.2 b (Nat.ne_of_lt (Nat.lt_of_lt_of_le (Heap.lt_size e) (I.ok.cab x c hfn hc)))).trans e1⟩
  ·by_cases hj : j = i
   ·subst hj
    rw [hi] at e1; cases e1
    rw [List.getElem?_set_self hiσ] at e2
    cases e2
    exact ⟨u, r, .inr ⟨.inl hk, c, hc, hc'⟩⟩
   ·rw [List.getElem?_set_ne (Ne.symm hj)] at e2
    obtain ⟨u', r', q⟩ := hl j y v' e1 e2 e3
    refine ⟨u', r', ?_⟩
    rcases q with q | ⟨k, c', e, z'⟩
    ·exact .inl q
    ·refine .inr ⟨k, c', e, z'.sameBut hs ?_⟩
     rintro rfl
     exact hj (Qas hN e1 (I.ok.inj _ _ _ e hc ▸ hi))
  ·by_cases hcc : c' = c
   ·subst hcc; exact ⟨_, hc'⟩
   ·obtain ⟨w2, z2⟩ := I.cell y c' e
    exact ⟨w2, z2.sameBut hs hcc⟩
  ·obtain ⟨e, n, ne, nf, d⟩ := I.pin p hp
   refine ⟨(hs.2 p.1 ?_).trans e, n, ne, nf, d⟩
   intro q
   rw [q, hoc] at e
   have q' : oc = p.2 := Option.some.inj e
   exact d w' (by rw [← q']; exact hocd)
theorem Qau {M : Model} {A : Around} {E : Value → Shared → Prop} {i : Nat} {x : Str} {v : V} {u : Value} {Q : Unit → Shared → Prop} (I : Inv X pins σ H s) (hN : X.N.Nodup) (hi : X.N[i]? = some x) (hx : Loc X.env.scope x) (r : RelV v u)
  (h : ∀ s', Inv X pins (σ.set i (some v)) H s' → Q () s') (hf : X.fn x = true ∨ X.env.scope.names.lookup x = some .local := by first | exact .inl rfl | exact .inr rfl | assumption) : wpAny M A (storeName X.env x u) Q E s :=
 Qat I hN hi hx r (fun s' I' _ => h s' I') hf
theorem Inv.call' {s' : Shared} {ch : List Addr} (I : Inv X pins σ H s) (ho : s'.os = s.os) (u : Un (frs X.stack) ch H H' s.heap s'.heap) (hok : HOk X.prog X.w H' s'.heap) (hg : AllBare s'.gens)
  (hch : ∀ b ∈ ch, (b ∈ X.ex ∨ X.s₀.heap.objs.size ≤ b) ∧ b ≠ X.env.locals ∧ (∀ x c, X.env.cells.lookup x = some c → c ≠ b) ∧ ∀ p ∈ X.pn ++ pins, p.1 ≠ b) : Inv X pins σ H' s' := by
 obtain ⟨h', g', d', t', o'⟩ := s'
 have e : o' = s.os := ho
 subst e
 exact I.call (g' := g') (t' := t') (d' := d') u hok hg hch
end
noncomputable abbrev XK := Value → Option Addr → Hp → Prop
noncomputable abbrev St := List (Option V)
noncomputable abbrev VK := V → Hp → Prop
noncomputable abbrev TE := St → Hp → VK → Prop
noncomputable abbrev TT := St → Hp → (Bool → Hp → Prop) → Prop
noncomputable abbrev TA := St → Hp → (List V → Hp → Prop) → Prop
structure Ends where
 nx : St → Hp → Prop
 rt : VK
 bk : St → Hp → Prop := fun _ _ => False
 ct : St → Hp → Prop := fun _ _ => False
noncomputable abbrev TS := Ends → St → Hp → Prop
def EP (X : Cx) (pins : List (Addr × Obj)) (σ : St) (Q : VK) (u : Value) (s' : Shared) : Prop := ∃ v H', Inv X pins σ H' s' ∧ RelV v u ∧ Q v H'
def TP (X : Cx) (pins : List (Addr × Obj)) (σ : St) (Q : Bool → Hp → Prop) (b : Bool) (s' : Shared) : Prop := ∃ H', Inv X pins σ H' s' ∧ Q b H'
def AP (X : Cx) (pins : List (Addr × Obj)) (σ : St) (Q : List V → Hp → Prop) (us : List Value) (s' : Shared) : Prop := ∃ vs H', Inv X pins σ H' s' ∧ Vals vs us ∧ Q vs H'
def SP (X : Cx) (pins : List (Addr × Obj)) (D : Ends) (f : Flow) (s' : Shared) : Prop :=
 match f with
 | .next => ∃ σ' H', Inv X pins σ' H' s' ∧ D.nx σ' H'
 | .brk => ∃ σ' H', Inv X pins σ' H' s' ∧ D.bk σ' H'
 | .cont => ∃ σ' H', Inv X pins σ' H' s' ∧ D.ct σ' H'
 | .ret u => ∃ v σ' H', Inv X pins σ' H' s' ∧ RelV v u ∧ D.rt v H'
def PE (X : Cx) (e : Expr) (t : TE) : Prop :=
 ∀ (pins : List (Addr × Obj)) (s : Shared) (σ : St) (H : Hp) (Q : VK), Inv X pins σ H s → t σ H Q → wpAny (model X.prog X.w) X.A (eval e X.env) (EP X pins σ Q) X.xe s
def PT (X : Cx) (e : Expr) (t : TT) : Prop :=
 ∀ (pins : List (Addr × Obj)) (s : Shared) (σ : St) (H : Hp) (Q : Bool → Hp → Prop), Inv X pins σ H s → t σ H Q → wpAny (model X.prog X.w) X.A (isTrue e X.env (eval e X.env)) (TP X pins σ Q) X.xe s
def PW (X : Cx) (e : Expr) (t : TT) : Prop :=
 ∀ (whole : Sem Value) (pins : List (Addr × Obj)) (s : Shared) (σ : St) (H : Hp) (Q : Bool → Hp → Prop), Inv X pins σ H s → t σ H Q → wpAny (model X.prog X.w) X.A (isTrue e X.env whole) (TP X pins σ Q) X.xe s
theorem PW.pt {X : Cx} {e : Expr} {t : TT} (h : PW X e t) : PT X e t := h _
def PA (X : Cx) (es : List Expr) (t : TA) : Prop :=
 ∀ (pos : Pos) (pins : List (Addr × Obj)) (s : Shared) (σ : St) (H : Hp) (Q : List V → Hp → Prop), Inv X pins σ H s → t σ H Q → wpAny (model X.prog X.w) X.A (spliced (backTo pos (starEach es X.env))) (AP X pins σ Q) X.xe s
def PS (X : Cx) (st : Stmt) (t : TS) : Prop :=
 ∀ (pins : List (Addr × Obj)) (s : Shared) (σ : St) (H : Hp) (D : Ends), Inv X pins σ H s → t D σ H → wpAny (model X.prog X.w) X.A (exec st X.env) (SP X pins D) X.xe s
def PSs (X : Cx) (st : List Stmt) (t : TS) : Prop :=
 ∀ (pins : List (Addr × Obj)) (s : Shared) (σ : St) (H : Hp) (D : Ends), Inv X pins σ H s → t D σ H → wpAny (model X.prog X.w) X.A (execs st X.env) (SP X pins D) X.xe s
theorem thn {α : Type} {t : Sem α} {Q Q' : α → Shared → Prop} {M : Model} {A : Around} {E : Value → Shared → Prop} {s : Shared} (h : wpAny M A t Q E s) (hQ : ∀ a s, Q a s → Q' a s) : wpAny M A t Q' E s := wpAny_mono h hQ fun _ _ x => x
end L2
namespace L2
open PySem PySem.Spec PyProof.Rows
section
variable {X : Cx}
noncomputable def tVar (i : Nat) : TE := fun σ H Q => ∃ v, σ[i]? = some (some v) ∧ Q v H
noncomputable def tC (v : V) : TE := fun _ H Q => Q v H
theorem Qav {i : Nat} {x : Str} {pos : Pos} (hN : X.N[i]? = some x) (hv : Vis X.env.scope x) (hd : (x == ("__debug__" : Str)) = false := by decide) (hcd : (x == ("__classdict__" : Str)) = false := by decide) : PE X (.Name x pos) (tVar i) := by
 intro pins s σ H Q I h
 obtain ⟨v, e, h⟩ := h
 obtain ⟨m, hn, hl⟩ := I.loc
 obtain ⟨u, r, l⟩ := hl i x v hN e hv
 have fin : EP X pins σ Q u s := ⟨v, H, I, r, h⟩
 rcases l with ⟨hk, hm⟩ | ⟨hk, c, hc, hcell⟩
 ·exact wpAny_Name (wpAny_loadName_local I.ok.kind hk hn hm fin) hd
 ·rcases hk with hk | hk
  ·exact wpAny_Name (wpAny_loadName_cell I.ok.kind hk hc hcell fin) hd
  ·exact wpAny_Name (wpAny_loadName_free I.ok.kind hk hc hcell fin hcd) hd
theorem Qaw {i j pos} : PE X (.Constant (.int i) j pos) (tC (.int i)) := fun _ _ _ H _ I h => wpAny_Constant_int ⟨.int i, H, I.tok _, ⟨_, rfl⟩, h⟩
theorem Qax {b j pos} : PE X (.Constant (.bool b) j pos) (tC (.bl b)) := fun _ _ _ H _ I h => Constant_bool ⟨.bl b, H, I, rfl, h⟩
theorem Qay {j pos} : PE X (.Constant .none j pos) (tC .non) := fun _ _ _ H _ I h => Constant_none ⟨.non, H, I, rfl, h⟩
theorem Qaz {x j pos} : PE X (.Constant (.str x) j pos) (tC (.str x)) := fun _ _ _ H _ I h => Calls.Constant_str ⟨.str x, H, I.tok _, ⟨_, rfl⟩, h⟩
def Gl (X : Cx) (x : Str) : Prop := X.env.kindOf x = some .globalImplicit
theorem QaA {E : Value → Shared → Prop} {pins : List (Addr × Obj)} {s : Shared} {σ : St} {H : Hp} {x : Str} {u : Value} {pos : Pos} {Q : Value → Shared → Prop} (I : Inv X pins σ H s) (hg : Gl X x) (hm : X.mg x = some u) (h : Q u s)
  (hd : (x == ("__debug__" : Str)) = false := by decide) : wpAny (model X.prog X.w) X.A (eval (.Name x pos) X.env) Q E s :=
 Calls.Name_function_global I.ok.kind hg (Calls.loadGlobal_global (by rw [I.ok.glob]; exact I.mod.glob.keeps I.bk) hm h) hd
theorem QaB {E : Value → Shared → Prop} {pins : List (Addr × Obj)} {s : Shared} {σ : St} {H : Hp} {x : Str} {u : Value} {pos : Pos} {Q : Value → Shared → Prop} (I : Inv X pins σ H s) (hg : Gl X x) (hm : X.mg x = none) (hv : bootBuiltins x = some u) (h : Q u s)
  (hn : x ≠ "__name__" := by decide) (hd : (x == ("__debug__" : Str)) = false := by decide) : wpAny (model X.prog X.w) X.A (eval (.Name x pos) X.env) Q E s := by
 obtain ⟨mb, h1, h2⟩ := I.mod.blt
 exact Calls.Name_function_global I.ok.kind hg (Calls.loadGlobal_builtin (by rw [I.ok.glob]; exact I.mod.glob.keeps I.bk) hm (by rw [I.ok.blt]; exact h1.keeps I.bk) ((h2 x hn).trans hv) h) hd
theorem QaC {x : Str} {v : V} {u : Value} {pos : Pos} (hg : Gl X x) (hm : X.mg x = none) (hv : bootBuiltins x = some u) (r : RelV v u) (hn : x ≠ "__name__" := by decide) (hd : (x == ("__debug__" : Str)) = false := by decide) : PE X (.Name x pos) (tC v) :=
 fun _ _ _ H _ I h => QaB I hg hm hv ⟨v, H, I, r, h⟩ hn hd
variable {a b : Expr} {ta tb : TE} {pos : Pos}
variable {tA tB' : TT} {rest : List Expr}
noncomputable def tAnd (t u : TT) : TT := fun σ H Q => t σ H fun c H1 => if c = true then u σ H1 Q else Q false H1
noncomputable def tOr (t u : TT) : TT := fun σ H Q => t σ H fun c H1 => if c = true then Q true H1 else u σ H1 Q
noncomputable def tNot (t : TT) : TT := fun σ H Q => t σ H fun c H1 => Q (!c) H1
theorem QaD (ha : PT X a tA) : PW X (.BoolOp .And [a] pos) tA := by
 intro wh pins s σ H Q I h
 refine isTrue_and (thn (ha pins s σ H Q I h) fun c s1 e => ?_)
 cases c with
 | true => exact isTrue_and_nil e
 | false => exact e
theorem QaE (ha : PT X a tA) : PW X (.BoolOp .Or [a] pos) tA := by
 intro wh pins s σ H Q I h
 refine isTrue_or (thn (ha pins s σ H Q I h) fun c s1 e => ?_)
 cases c with
 | false => exact isTrue_or_nil e
 | true => exact e
theorem QaF (ha : PT X a tA) (hb : PW X (.BoolOp .And (b :: rest) pos) tB') : PW X (.BoolOp .And (a :: b :: rest) pos) (tAnd tA tB') := by
 intro wh pins s σ H Q I h
 refine isTrue_and (thn (ha pins s σ H _ I h) fun c s1 pq2 => ?_)
 obtain ⟨H1, I1, q1⟩ := pq2
 cases c with
 | true => exact hb wh pins s1 σ H1 Q I1 q1
 | false => exact ⟨H1, I1, q1⟩
theorem QaG (ha : PT X a tA) (hb : PW X (.BoolOp .Or (b :: rest) pos) tB') : PW X (.BoolOp .Or (a :: b :: rest) pos) (tOr tA tB') := by
 intro wh pins s σ H Q I h
 refine isTrue_or (thn (ha pins s σ H _ I h) fun c s1 pq3 => ?_)
 obtain ⟨H1, I1, q1⟩ := pq3
 cases c with
 | true => exact ⟨H1, I1, q1⟩
 | false => exact hb wh pins s1 σ H1 Q I1 q1
theorem QaH (ha : PT X a tA) : PT X (.UnaryOp .Not a pos) (tNot tA) := by
 intro pins s σ H Q I h
 exact isTrue_not (ha pins s σ H (fun c H1 => Q (!c) H1) I h)
noncomputable def tAndV (ta tb : TE) : TE := fun σ H Q => ta σ H fun x H1 => ∃ c, x = .bl c ∧ if c = true then tb σ H1 Q else Q (.bl false) H1
noncomputable def tOrV (ta tb : TE) : TE := fun σ H Q => ta σ H fun x H1 => ∃ c, x = .bl c ∧ if c = true then Q (.bl true) H1 else tb σ H1 Q
noncomputable def tNotV (ta : TE) : TE := fun σ H Q => ta σ H fun x H1 => ∃ c, x = .bl c ∧ Q (.bl (!c)) H1
theorem QaI {op} {t : TE} (h : PE X a t) : PE X (.BoolOp op [a] pos) t := fun pins s σ H Q I hw => BoolOp_one (h pins s σ H Q I hw)
theorem QaJ (ha : PE X a ta) (hb : PE X (.BoolOp .And (b :: rest) pos) tb) : PE X (.BoolOp .And (a :: b :: rest) pos) (tAndV ta tb) := by
 intro pins s σ H Q I h
 refine BoolOp_and (thn (ha pins s σ H _ I h) fun v s1 pq4 => ?_)
 obtain ⟨x, H1, I1, r1, q1⟩ := pq4
 obtain ⟨c, rfl, q1⟩ := q1
 cases r1
 refine wpAny_truthy_bool ?_
 cases c with
 | true => exact hb pins s1 σ H1 Q I1 q1
 | false => exact ⟨.bl false, H1, I1, rfl, q1⟩
theorem QaK (ha : PE X a ta) (hb : PE X (.BoolOp .Or (b :: rest) pos) tb) : PE X (.BoolOp .Or (a :: b :: rest) pos) (tOrV ta tb) := by
 intro pins s σ H Q I h
 refine BoolOp_or (thn (ha pins s σ H _ I h) fun v s1 pq5 => ?_)
 obtain ⟨x, H1, I1, r1, q1⟩ := pq5
 obtain ⟨c, rfl, q1⟩ := q1
 cases r1
 refine wpAny_truthy_bool ?_
 cases c with
 | false => exact hb pins s1 σ H1 Q I1 q1
 | true => exact ⟨.bl true, H1, I1, rfl, q1⟩
theorem QaL (ha : PE X a ta) : PE X (.UnaryOp .Not a pos) (tNotV ta) := by
 intro pins s σ H Q I h
 refine UnaryOp_ (thn (ha pins s σ H _ I h) fun v s1 pq6 => ?_)
 obtain ⟨x, H1, I1, r1, q1⟩ := pq6
 obtain ⟨c, rfl, q1⟩ := q1
 cases r1
 exact not_of (wpAny_truthy_bool ⟨.bl (!c), H1, I1, rfl, q1⟩)
noncomputable def tIf (t : TT) (ta tb : TE) : TE := fun σ H Q => t σ H fun c H1 => if c = true then ta σ H1 Q else tb σ H1 Q
theorem QaM {c : Expr} (hc : PT X c tA) (ha : PE X a ta) (hb : PE X b tb) : PE X (.IfExp c a b pos) (tIf tA ta tb) := by
 intro pins s σ H Q I h
 refine wpAny_IfExp (thn (hc pins s σ H _ I h) fun d s1 pq7 => ?_)
 obtain ⟨H1, I1, q1⟩ := pq7
 cases d with
 | true => exact ha pins s1 σ H1 Q I1 q1
 | false => exact hb pins s1 σ H1 Q I1 q1
end
end L2
namespace L2
open PySem PySem.Spec PyProof.Rows
def SqL (K : PySem.W.Frag) (H : Hp) (a : Addr) (xs : List V) : Prop :=
 Rd H a (.lst xs) ∨
  ∃ (o : Obj) (its : Array Value) (n : Nat), K.lookup a = some o ∧ o.cls = .type "list" ∧ o.dict = none ∧ o.data = .seq its n ∧ its.size ≤ sizeLine ∧ Vals xs its.toList
def SqT (K : PySem.W.Frag) (H : Hp) (a : Addr) (xs : List V) : Prop :=
 Rd H a (.tup xs) ∨
  ∃ (o : Obj) (its : Array Value) (n : Nat), K.lookup a = some o ∧ o.cls = .type "tuple" ∧ o.data = .seq its n ∧ its.size ≤ sizeLine ∧ Vals xs its.toList
noncomputable def absV : Value → Option V
 | .none => some .non
 | .bool b => some (.bl b)
 | .int i _ => some (.int i)
 | .str x _ => some (.str x)
 | .bytes b _ => some (.byt b)
 | .float b _ => some (.flt b)
 | .ref a => some (.ref a)
 | .type n => some (.ty n)
 | _ => none
theorem RelV.abs {x : V} {u : Value} (r : RelV x u) : absV u = some x := by
 cases x with
 | non => cases r; rfl
 | bl _ => cases r; rfl
 | int _ => obtain ⟨t, rfl⟩ := r; rfl
 | str _ => obtain ⟨t, rfl⟩ := r; rfl
 | byt _ => obtain ⟨t, rfl⟩ := r; rfl
 | flt _ => obtain ⟨t, rfl⟩ := r; rfl
 | ref _ => cases r; rfl
 | ty _ => cases r; rfl
theorem RelV.inj {x y : V} {u : Value} (r : RelV x u) (q : RelV y u) : x = y := Option.some.inj (r.abs.symm.trans q.abs)
theorem Vals.inj : ∀ {xs ys : List V} {us : List Value}, Vals xs us → Vals ys us → xs = ys
 | _, _, _, .nil, .nil => rfl
 | _, _, _, .cons r t, .cons r' t' => by rw [r.inj r', Vals.inj t t']
section
variable {X : Cx} {pins : List (Addr × Obj)} {σ : St} {H : Hp} {s : Shared} {a : Addr} {xs ys : List V}
theorem SqL.of {K : PySem.W.Frag} (h : H a = some (.lst xs)) : SqL K H a xs := .inl (.inl h)
theorem SqT.of {K : PySem.W.Frag} (h : H a = some (.tup xs)) : SqT K H a xs := .inl (.inl h)
theorem Inv.list (I : Inv X pins σ H s) (h : SqL X.K H a xs) : ∃ its : List Value, Vals xs its ∧ PlainL s.heap a its.toArray ∧ xs.length ≤ sizeLine := by
 rcases h with h | ⟨o, its, n, hk, hc, hd, hs, hz, r⟩
 ·obtain ⟨z, its, n, r, e⟩ := h.ok I.hok
  exact ⟨its, r, ⟨_, n, e, rfl, rfl, rfl⟩, z⟩
 ·refine ⟨its.toList, r, ⟨o, n, I.kIn a o hk, hc, hd, by simpa using hs⟩, ?_⟩
  have e := r.length
  simp only [Array.length_toList] at e
  ac_nf
theorem Inv.tuple (I : Inv X pins σ H s) (h : SqT X.K H a xs) : ∃ its : List Value, Vals xs its ∧ IsTup s.heap a its.toArray ∧ xs.length ≤ sizeLine := by
 rcases h with h | ⟨o, its, n, hk, hc, hs, hz, r⟩
 ·obtain ⟨z, its, r, p⟩ := h.ok I.hok
  exact ⟨its, r, p, z⟩
 ·refine ⟨its.toList, r, ⟨o, I.kIn a o hk, hc, n, by simpa using hs⟩, ?_⟩
  have e := r.length
  simp only [Array.length_toList] at e
  ac_nf
theorem Inv.list_inj (I : Inv X pins σ H s) (h : SqL X.K H a xs) (h' : SqL X.K H a ys) : xs = ys := by
 obtain ⟨its, r, ⟨o, n, e, _, _, d⟩, _⟩ := I.list h
 obtain ⟨its', r', ⟨o', n', e', _, _, d'⟩, _⟩ := I.list h'
 rw [e] at e'; cases e'
 rw [d] at d'
 injection d' with d1 _
 have : its = its' := by simpa using congrArg Array.toList d1
 subst this
 exact r.inj r'
theorem Inv.tuple_inj (I : Inv X pins σ H s) (h : SqT X.K H a xs) (h' : SqT X.K H a ys) : xs = ys := by
 obtain ⟨its, r, ⟨o, e, _, n, d⟩, _⟩ := I.tuple h
 obtain ⟨its', r', ⟨o', e', _, n', d'⟩, _⟩ := I.tuple h'
 rw [e] at e'; cases e'
 rw [d] at d'
 injection d' with d1 _
 have : its = its' := by simpa using congrArg Array.toList d1
 subst this
 exact r.inj r'
end
noncomputable abbrev Cx.wish (X : Cx) (E : Value → Shared → Prop) : Cx := { X with xe := E }
noncomputable abbrev Cx.nox (X : Cx) : Cx := X.wish fun _ _ => False
theorem Cx.Ok.wish {X : Cx} (ok : X.Ok) (E : Value → Shared → Prop) : (X.wish E).Ok :=
 ⟨ok.mod, ok.kind, ok.glob, ok.blt, ok.above, ok.inj, ok.has, ok.cab, ok.hd, ok.frames, ok.stk, ok.exf, ok.bs, ok.bsz, ok.noex, ok.exfs, ok.funs, ok.frf⟩
theorem Cx.Ok.unwish {X : Cx} {E : Value → Shared → Prop} (ok : (X.wish E).Ok) : X.Ok :=
 ⟨ok.mod, ok.kind, ok.glob, ok.blt, ok.above, ok.inj, ok.has, ok.cab, ok.hd, ok.frames, ok.stk, ok.exf, ok.bs, ok.bsz, ok.noex, ok.exfs, ok.funs, ok.frf⟩
section
variable {X : Cx} {pins : List (Addr × Obj)} {σ : St} {H : Hp} {s : Shared} {E : Value → Shared → Prop}
theorem Inv.wish (I : Inv X pins σ H s) (E : Value → Shared → Prop) : Inv (X.wish E) pins σ H s := ⟨I.ok.wish E, I.os, I.bare, I.base, I.loc, I.cell, I.free, I.freeC, I.pin, I.hok, I.len⟩
theorem Inv.unwish (I : Inv (X.wish E) pins σ H s) : Inv X pins σ H s := ⟨I.ok.unwish, I.os, I.bare, I.base, I.loc, I.cell, I.free, I.freeC, I.pin, I.hok, I.len⟩
theorem SP.unwish {D : Ends} {f : Flow} {s' : Shared} (h : SP (X.wish E) pins D f s') : SP X pins D f s' := by
 cases f with
 | next => obtain ⟨σ', H', I, q⟩ := h; exact ⟨σ', H', I.unwish, q⟩
 | brk => obtain ⟨σ', H', I, q⟩ := h; exact ⟨σ', H', I.unwish, q⟩
 | cont => obtain ⟨σ', H', I, q⟩ := h; exact ⟨σ', H', I.unwish, q⟩
 | ret u => obtain ⟨v, σ', H', I, r, q⟩ := h; exact ⟨v, σ', H', I.unwish, r, q⟩
theorem PE.nox {e : Expr} {t : TE} (h : PE X.nox e t) : PE X e t := fun pins s σ H Q I hw =>
 wpAny_mono (h pins s σ H Q (I.wish _) hw) (fun _ _ pq8 => by obtain ⟨v, H', I', r, q⟩ := pq8; exact ⟨v, H', I'.unwish, r, q⟩) fun _ _ z => False.elim z
theorem PT.nox {e : Expr} {t : TT} (h : PT X.nox e t) : PT X e t := fun pins s σ H Q I hw =>
 wpAny_mono (h pins s σ H Q (I.wish _) hw) (fun _ _ pq9 => by obtain ⟨H', I', q⟩ := pq9; exact ⟨H', I'.unwish, q⟩) fun _ _ z => False.elim z
theorem PSs.nox {st : List Stmt} {t : TS} (h : PSs X.nox st t) : PSs X st t := fun pins s σ H D I hw =>
 wpAny_mono (h pins s σ H D (I.wish _) hw) (fun _ _ q => q.unwish) fun _ _ z => False.elim z
end
section
variable {X : Cx} {st : Stmt} {rest : List Stmt} {t u : TS} {e : Expr} {te : TE} {pos : Pos}
noncomputable def tNext : TS := fun D σ H => D.nx σ H
noncomputable def tSeq (t u : TS) : TS := fun D σ H => t { D with nx := u D } σ H
theorem QaN : PSs X [] tNext := fun _ _ σ H _ I h => wpAny_execs_nil ⟨σ, H, I, h⟩
theorem QaO (h1 : PS X st t) (h2 : PSs X rest u) : PSs X (st :: rest) (tSeq t u) := by
 intro pins s σ H D I h
 refine wpAny_execs_cons (thn (h1 pins s σ H { D with nx := u D } I h) fun f s1 q => ?_)
 cases f with
 | next =>
  obtain ⟨σ', H', I', q⟩ := q
  exact h2 pins s1 σ' H' D I' q
 | ret v => exact q
 | brk => exact q
 | cont => exact q
theorem Inv.quiet {pins : List (Addr × Obj)} {σ : St} {H : Hp} {s : Shared} (I : Inv X pins σ H s) : interactive X.env = false := by simp [interactive, I.ok.kind]
noncomputable def tDrop (te : TE) : TS := fun D σ H => te σ H fun _ H1 => D.nx σ H1
theorem QaP (he : PE X e te) (hs : swapsWith e none pos.line X.env = pure false := by rfl) : PS X (.Expr e pos) (tDrop te) := by
 intro pins s σ H D I h
 exact wpAny_Expr_any (thn (he pins s σ H _ I h) fun v s1 pq10 => by obtain ⟨x, H1, I1, r1, q1⟩ := pq10; exact ⟨σ, H1, I1, q1⟩) I.quiet hs
noncomputable def tRet (te : TE) : TS := fun D σ H => te σ H D.rt
theorem QaQ (he : PE X e te) : PS X (.Return (some e) pos) (tRet te) := by
 intro pins s σ H D I h
 exact wpAny_Return_some (thn (he pins s σ H _ I h) fun v s1 pq11 => by obtain ⟨x, H1, I1, r1, q1⟩ := pq11; exact ⟨x, σ, H1, I1, r1, q1⟩)
noncomputable def tIfS (c : TT) (t u : TS) : TS := fun D σ H => c σ H fun b H1 => if b = true then t D σ H1 else u D σ H1
theorem QaR {c : Expr} {a b : List Stmt} {tc : TT} (hc : PT X c tc) (ha : PSs X a t) (hb : PSs X b u) : PS X (.If c a b pos) (tIfS tc t u) := by
 intro pins s σ H D I h
 refine wpAny_If (thn (hc pins s σ H _ I h) fun d s1 pq12 => ?_)
 obtain ⟨H1, I1, q1⟩ := pq12
 cases d with
 | true => exact ha pins s1 σ H1 D I1 q1
 | false => exact hb pins s1 σ H1 D I1 q1
noncomputable def tNever : TS := fun _ _ _ => False
theorem QaS : PS X st tNever := fun _ _ _ _ _ _ h => h.elim
end
noncomputable abbrev TG := V → St → Hp → (St → Hp → Prop) → Prop
noncomputable abbrev TGs := List V → St → Hp → (St → Hp → Prop) → Prop
def PG (X : Cx) (target : Expr) (t : TG) : Prop :=
 ∀ (pins : List (Addr × Obj)) (s : Shared) (σ : St) (H : Hp) (v : V) (u : Value) (Q : St → Hp → Prop), Inv X pins σ H s → RelV v u → t v σ H Q →
  wpAny (model X.prog X.w) X.A (assign target X.env u) (fun _ s' => ∃ σ' H', Inv X pins σ' H' s' ∧ Q σ' H') X.xe s
def PGs (X : Cx) (ts : List Expr) (t : TGs) : Prop :=
 ∀ (pins : List (Addr × Obj)) (s : Shared) (σ : St) (H : Hp) (vs : List V) (us : List Value) (Q : St → Hp → Prop), Inv X pins σ H s → Vals vs us → t vs σ H Q →
  wpAny (model X.prog X.w) X.A (assignInOrder ((assignEach ts X.env).map (·.2)) us) (fun _ s' => ∃ σ' H', Inv X pins σ' H' s' ∧ Q σ' H') X.xe s
noncomputable abbrev TSet := V → V → V → Hp → (Hp → Prop) → Prop
def PSet (X : Cx) (t : TSet) : Prop :=
 ∀ (pins : List (Addr × Obj)) (s : Shared) (σ : St) (H : Hp) (o i v : V) (ov iv u : Value) (Q : Hp → Prop), Inv X pins σ H s → RelV o ov → RelV i iv → RelV v u → t o i v H Q →
  wpAny (model X.prog X.w) X.A (setItem ov iv u) (fun _ s' => ∃ H', Inv X pins σ H' s' ∧ Q H') X.xe s
section
variable {X : Cx} {pos : Pos}
noncomputable def gName (i : Nat) : TG := fun v σ H Q => Q (σ.set i (some v)) H
theorem QaT {i : Nat} {x : Str} (hN : X.N.Nodup) (hi : X.N[i]? = some x) (hx : Loc X.env.scope x) (hf : X.fn x = true ∨ X.env.scope.names.lookup x = some .local := by first | exact .inl rfl | exact .inr rfl | assumption) : PG X (.Name x pos) (gName i) := by
 intro pins s σ H v u Q I r h
 exact wpAny_assign_Name (Qau I hN hi hx r (fun s' I' => ⟨_, H, I', h⟩) hf)
noncomputable def gNil : TGs := fun vs σ H Q => vs = [] ∧ Q σ H
noncomputable def gCons (t : TG) (u : TGs) : TGs := fun vs σ H Q => ∃ v r, vs = v :: r ∧ t v σ H fun σ' H' => u r σ' H' Q
theorem QaU : PGs X [] gNil := by
 intro pins s σ H vs us Q I r h
 obtain ⟨e, h⟩ := h
 subst e
 cases r
 exact assignInOrder_nil ⟨σ, H, I, h⟩
theorem QaV {e : Expr} {es : List Expr} {t : TG} {u : TGs} (h1 : PG X e t) (h2 : PGs X es u)
  (hs : (assignEach (e :: es) X.env).map (·.2) = assign e X.env :: (assignEach es X.env).map (·.2) := by rfl) : PGs X (e :: es) (gCons t u) := by
 intro pins s σ H vs us Q I r h
 obtain ⟨v, vr, e1, h⟩ := h
 subst e1
 cases r with
 | cons r rr =>
  rw [hs]
  refine assignInOrder_cons (thn (h1 pins s σ H _ _ _ I r h) fun _ s1 pq13 => ?_)
  obtain ⟨σ1, H1, I1, q1⟩ := pq13
  exact h2 pins s1 σ1 H1 _ _ Q I1 rr q1
noncomputable def gTup (K : PySem.W.Frag) (n : Nat) (t : TGs) : TG := fun v σ H Q => ∃ a xs, v = .ref a ∧ SqT K H a xs ∧ xs.length = n ∧ t xs σ H Q
theorem QaW {es : List Expr} {k : Nat} {t : TGs} {n : Nat} (hc : X.calm = true) (h : PGs X es t)
  (hn : (assignEach es X.env).length = n := by rfl) (hst : (assignEach es X.env).findIdx? (·.1) = none := by rfl) : PG X (.Tuple es k pos) (gTup X.K n t) := by
 intro pins s σ H v u Q I r hw
 obtain ⟨a, xs, e1, hq, hl, hw⟩ := hw
 subst e1
 cases r
 obtain ⟨its, rv, ht, hz⟩ := I.tuple hq
 refine assign_Tuple_tuple (I.ok.hd hc) ht (by simp [hn, ← hl, rv.length]) hst fun h' hx => ?_
 have I1 : Inv X pins σ H { s with heap := h' } := I.kept (t' := s.toks) fun b o e => hx b o (Nat.ne_of_lt (Heap.lt_size e)) e
 exact h pins _ σ H xs _ Q I1 (by simpa using rv) hw
noncomputable def gSub (to ti : TE) (t : TSet) : TG := fun v σ H Q => to σ H fun o H1 => ti σ H1 fun i H2 => t o i v H2 fun H3 => Q σ H3
theorem QaX {o i : Expr} {to ti : TE} {t : TSet} (ho : PE X o to) (hi : PE X i ti) (hs : PSet X t)
  (ha : ∀ v, assign (.Subscript o i pos) X.env v = (do
   let ov ← holding [v] (eval o X.env)
   let iv ← holding [v, ov] (eval i X.env)
   standAt pos
   holding [v, ov, iv] (setItem ov iv v)
   release [v, ov, iv] []) := by intro _; rfl) : PG X (.Subscript o i pos) (gSub to ti t) := by
 intro pins s σ H v u Q I r h
 rw [ha]
 refine wpAny_bind (wpAny_holding (thn (ho pins s σ H _ I h) fun ov s1 pq14 => ?_))
 obtain ⟨x, H1, I1, r1, q1⟩ := pq14
 refine wpAny_bind (wpAny_holding (thn (hi pins s1 σ H1 _ I1 q1) fun iv s2 pq15 => ?_))
 obtain ⟨y, H2, I2, r2, q2⟩ := pq15
 refine wpAny_bind (wpAny_standAt (wpAny_bind (wpAny_holding (thn (hs pins s2 σ H2 x y v ov iv u _ I2 r1 r2 r q2) fun _ s3 pq16 => ?_))))
 obtain ⟨H3, I3, q3⟩ := pq16
 exact wpAny_release ⟨σ, H3, I3, q3⟩
noncomputable def tAsg (te : TE) (g : TG) : TS := fun D σ H => te σ H fun x H1 => g x σ H1 D.nx
theorem QaY {tg e : Expr} {te : TE} {g : TG} (he : PE X e te) (hg : PG X tg g) (hs : swapsWithSole [tg] e pos.line X.env = pure false := by rfl) (hw : swappedStores [tg] e X.env = pure none := by rfl)
  (h1 : (assignEach [tg] X.env).map (·.2) = [assign tg X.env] := by rfl) : PS X (.Assign [tg] e pos) (tAsg te g) := by
 intro pins s σ H D I h
 refine wpAny_Assign_stores (thn (he pins s σ H _ I h) fun v s1 ⟨x, H1, I1, r1, q1⟩ => ?_) hs hw
 rw [h1]
 exact thn (hg pins s1 σ H1 x v _ I1 r1 q1) fun _ s2 q => q
theorem QaZ {i : Nat} {x : Str} {e : Expr} {te : TE} {pos' : Pos} (hN : X.N.Nodup) (hi : X.N[i]? = some x) (hx : Loc X.env.scope x) (he : PE X e te) (hs : swapsWith e (some (.Name x pos')) pos.line X.env = pure false := by rfl) (hf : X.fn x = true ∨ X.env.scope.names.lookup x = some .local := by first | exact .inl rfl | exact .inr rfl | assumption) :
  PS X (.Assign [.Name x pos'] e pos) (tAsg te (gName i)) := by
 intro pins s σ H D I h
 refine wpAny_Assign_Name (thn (he pins s σ H _ I h) fun v s1 ⟨y, H1, I1, r1, q1⟩ => ?_) hs
 exact Qau I1 hN hi hx r1 (fun s2 I2 => ⟨_, H1, I2, q1⟩) hf
end
section
variable {X : Cx} {pos : Pos}
noncomputable def tWhile (c : TT) (tb : TS) : TS := fun D σ H => ∃ W : Nat → St → Hp → Prop, (∃ m, W m σ H) ∧ ∀ m σ H, W m σ H →
 c σ H fun b H1 => if b = true then ∃ N : St → Hp → Prop, (∀ σ' H', N σ' H' → ∃ m', m' < m ∧ W m' σ' H') ∧ tb { D with nx := N, ct := N, bk := D.nx } σ H1 else D.nx σ H1
theorem Qa0 {c : Expr} {body : List Stmt} {tc : TT} {tb : TS} (hp : PassesOwn (model X.prog X.w) X.A X.env X.xe) (hc : PT X c tc) (hb : PSs X body tb) : PS X (.While c body [] pos) (tWhile tc tb) := by
 intro pins s σ H D I h
 obtain ⟨W, ⟨m0, w0⟩, turn⟩ := h
 refine wpAny_While (codeAny_whileLoop (fun n s' => ∃ σ' H', Inv X pins σ' H' s' ∧ W n σ' H') ?_ m0 ⟨σ, H, I, w0⟩)
 rintro n s1 ⟨σ1, H1, I1, w1⟩
 refine wpAny_passesOwn hp (thn (hc pins s1 σ1 H1 _ I1 (turn n σ1 H1 w1)) fun b s2 pq19 => ?_)
 obtain ⟨H2, I2, q2⟩ := pq19
 cases b with
 | true =>
  obtain ⟨N, hN, q2⟩ := q2
  rw [if_pos rfl]
  refine wpAny_passesOwn hp (thn (hb pins s2 σ1 H2 _ I2 q2) fun f s3 q3 => ?_)
  cases f with
  | next =>
   obtain ⟨σ3, H3, I3, n3⟩ := q3
   obtain ⟨m', hm, w3⟩ := hN σ3 H3 n3
   exact ⟨m', hm, σ3, H3, I3, w3⟩
  | cont =>
   obtain ⟨σ3, H3, I3, n3⟩ := q3
   obtain ⟨m', hm, w3⟩ := hN σ3 H3 n3
   exact ⟨m', hm, σ3, H3, I3, w3⟩
  | brk => exact q3
  | ret v => exact q3
 | false =>
  rw [if_neg Bool.false_ne_true]
  exact wpAny_execs_nil ⟨σ1, H2, I2, q2⟩
end
structure It where
 go : Nat → Hp → Prop
 yld : Nat → Hp → V → Hp → Prop
 stop : Nat → Hp → Prop
def FpOk (X : Cx) (pins : List (Addr × Obj)) (H : Hp) (b : Addr) : Prop :=
 H b = none ∧ b ≠ X.env.locals ∧ b ∉ X.fs ∧ (b ∈ X.ex ∨ X.s₀.heap.objs.size ≤ b) ∧ (∀ x c, X.env.cells.lookup x = some c → c ≠ b) ∧ ∀ p ∈ X.pn ++ pins, p.1 ≠ b
theorem Inv.fpOk {X : Cx} {pins : List (Addr × Obj)} {σ : St} {H H' : Hp} {s : Shared} {b : Addr} (I : Inv X pins σ H s) (hb : s.heap.objs.size ≤ b) (hn : H' b = none) : FpOk X pins H' b := by
 refine ⟨hn, Nat.ne_of_gt (Nat.lt_of_lt_of_le I.lt hb), I.nofs hb, .inr (Nat.le_trans I.sz hb), fun x c e z => ?_, fun p hp z => ?_⟩
 ·obtain ⟨v, q⟩ := I.cell x c e
  exact absurd (Nat.lt_of_lt_of_le q.lt (by rw [z]; exact hb)) (Nat.lt_irrefl _)
 ·exact absurd (Nat.lt_of_lt_of_le (Heap.lt_size (I.pin p hp).1) (by rw [z]; exact hb)) (Nat.lt_irrefl _)
structure Turn (P : Program) (w : World) (K : PySem.W.Frag) (tg : Expr) (J : It) (fp : List Addr) (it : Addr) (tn : Nat → Heap → Prop) : Prop where
 mem : it ∈ fp
 obj : ∀ i h, tn i h → ∀ b ∈ fp, ∃ o, h.get? b = some o ∧ ∀ v, o.data ≠ .cell v
 keep : ∀ i h h', tn i h → (∀ b ∈ fp, ∀ o, h.get? b = some o → h'.get? b = some o) → tn i h'
 item : ∀ (X : Cx), X.prog = P → X.w = w → X.K = K → X.calm = true → ∀ (i : Nat) (pins : List (Addr × Obj)) (s : Shared) (σ : St) (H : Hp) (E : Value → Shared → Prop), Inv X pins σ H s → (∀ b ∈ fp, FpOk X pins H b) → tn i s.heap → J.go i H →
  wpAny (model P w) X.A (pyNext (.ref it)) (fun r s1 => ∃ u, r = some u ∧
   wpAny (model P w) X.A (letOwnedTupleGo tg (.ref it) u) (fun _ s2 => ∃ x H', Inv X pins σ H' s2 ∧ RelV x u ∧ J.yld i H x H' ∧ tn (i + 1) s2.heap ∧ ∀ b ∈ fp, H' b = none) E s1) E s
 done : ∀ (X : Cx), X.prog = P → X.w = w → X.K = K → X.calm = true → ∀ (i : Nat) (pins : List (Addr × Obj)) (s : Shared) (σ : St) (H : Hp) (E : Value → Shared → Prop), Inv X pins σ H s → (∀ b ∈ fp, FpOk X pins H b) → tn i s.heap → J.stop i H →
  wpAny (model P w) X.A (pyNext (.ref it)) (fun r s1 => r = none ∧ Inv X pins σ H s1) E s
 self : ∀ (A : Around) (i : Nat) (s : Shared) (Q : Value → Shared → Prop) (E : Value → Shared → Prop), tn i s.heap → Q (.ref it) s → wpAny (model P w) A (pyIter (.ref it)) Q E s
noncomputable abbrev TI := St → Hp → (It → Hp → Prop) → Prop
def PIE (X : Cx) (pins : List (Addr × Obj)) (σ : St) (tg : Expr) (R : It → Hp → Prop) (itv : Value) (s2 : Shared) : Prop :=
 ∃ (it : Addr) (fp : List Addr) (tn : Nat → Heap → Prop) (J : It) (H' : Hp), itv = .ref it ∧ Inv X pins σ H' s2 ∧ Turn X.prog X.w X.K tg J fp it tn ∧ tn 0 s2.heap ∧ (∀ b ∈ fp, FpOk X pins H' b) ∧ R J H'
def PI (X : Cx) (tg iter : Expr) (wi : TI) : Prop :=
 ∀ (pins : List (Addr × Obj)) (s : Shared) (σ : St) (H : Hp) (R : It → Hp → Prop), Inv X pins σ H s → wi σ H R →
  wpAny (model X.prog X.w) X.A (eval iter X.env) (fun v s1 => wpAny (model X.prog X.w) X.A (pyIter v) (PIE X pins σ tg R) X.xe s1) X.xe s
theorem Qa1 {M : Model} {A : Around} {E : Value → Shared → Prop} {s : Shared} {tg : Expr} {it : Addr} {u : Value} {o : Obj} {n : String} {vs : Array Value} {Q : Unit → Shared → Prop} (ho : s.heap.get? it = some o) (hc : o.cls = .type n) (hd : o.data = .fields vs)
  (hn : ["enumerate", "zip", "dict_itemiterator", "dict_reverseitemiterator", "odict_iterator", "itertools.zip_longest", "itertools.pairwise"].contains n = false) (hQ : Q () s) : wpAny M A (letOwnedTupleGo tg (.ref it) u) Q E s := by
 unfold letOwnedTupleGo
 cases tg <;> first
  | exact wpAny_pure hQ
  | (cases u <;> first
    | exact wpAny_pure hQ
    | (refine wpAny_bind (wpAny_load ho ?_)
       rw [hc, hd]
       show wpAny M A (if (["enumerate", "zip", "dict_itemiterator", "dict_reverseitemiterator", "odict_iterator", "itertools.zip_longest", "itertools.pairwise"].contains n && vs[0]? == some (rawInt _)) = true then _ else _) Q E s
       rw [if_neg (by intro h; rw [hn, Bool.false_and] at h; cases h)]
       exact wpAny_pure hQ))
noncomputable def Itl (K : PySem.W.Frag) (a : Addr) : It :=
 ⟨fun i H => ∃ xs x, SqL K H a xs ∧ xs[i]? = some x, fun i H x H' => H' = H ∧ ∀ xs, SqL K H a xs → xs[i]? = some x, fun i H => ∃ xs, SqL K H a xs ∧ xs.length ≤ i⟩
noncomputable def Itt (K : PySem.W.Frag) (a : Addr) : It :=
 ⟨fun i H => ∃ xs x, SqT K H a xs ∧ xs[i]? = some x, fun i H x H' => H' = H ∧ ∀ xs, SqT K H a xs → xs[i]? = some x, fun i H => ∃ xs, SqT K H a xs ∧ xs.length ≤ i⟩
noncomputable def Itr (lo : Int) (n : Nat) : It := ⟨fun i _ => i < n, fun i H x H' => H' = H ∧ x = .int (lo + i), fun i _ => n ≤ i⟩
theorem Qa2 {P : Program} {w : World} {K : PySem.W.Frag} {tg : Expr} (a it : Addr) : Turn P w K tg (Itl K a) [it] it (fun i h => h.IsListIter it a i) where
 mem := by simp
 obj := fun i h st b hb => by
  have e : b = it := by simpa using hb
  subst e
  obtain ⟨o, e, c, d⟩ := st
  exact ⟨o, e, fun v z => by rw [d] at z; cases z⟩
 keep := fun i h h' st k => st.at fun o e => k it (by simp) o e
 item := by
  intro X hP hw hK hc i pins s σ H E I hf st hg
  subst hP hw hK
  obtain ⟨xs, x, hq, hx⟩ := hg
  obtain ⟨its, rv, p, hz⟩ := I.list hq
  obtain ⟨u, hu, ru⟩ := rv.get hx
  obtain ⟨f0, f1, f2, f3, f4, f5⟩ := hf it (by simp)
  refine wpAny_pyNext_list_item st p.isList (x := u) (by simpa using hu) fun h' st' sb => ?_
  have I1 : Inv X pins σ H { s with heap := h' } := I.turned (t' := s.toks) (fun b o hb e => (sb.2 b hb).trans e) f0 f1 f3 f4 f5
  obtain ⟨o, e, c, d⟩ := id st'
  exact ⟨u, rfl, Qa1 (s := { s with heap := h' }) e c d (by decide) ⟨x, H, I1, ru, ⟨rfl, fun ys hy => by rw [I.list_inj hy hq]; exact hx⟩, st', fun b hb => (hf b hb).1⟩⟩
 done := by
  intro X hP hw hK hc i pins s σ H E I hf st hg
  subst hP hw hK
  obtain ⟨xs, hq, hx⟩ := hg
  obtain ⟨its, rv, p, hz⟩ := I.list hq
  obtain ⟨f0, f1, f2, f3, f4, f5⟩ := hf it (by simp)
  have hl := rv.length
  exact wpAny_pyNext_list_end (I.ok.hd hc) st p.isList (by simp; ac_nf) fun h' eb => ⟨rfl, I.turned (t' := s.toks) (fun b o hb e => eb b o hb e) f0 f1 f3 f4 f5⟩
 self := fun _ _ _ _ _ st h => wpAny_pyIter_listiter st h
theorem Qa3 {P : Program} {w : World} {K : PySem.W.Frag} {tg : Expr} (a it : Addr) : Turn P w K tg (Itt K a) [it] it (fun i h => h.IsTupleIter it a i) where
 mem := by simp
 obj := fun i h st b hb => by
  have e : b = it := by simpa using hb
  subst e
  obtain ⟨o, e, c, d⟩ := st
  exact ⟨o, e, fun v z => by rw [d] at z; cases z⟩
 keep := fun i h h' st k => st.at fun o e => k it (by simp) o e
 item := by
  intro X hP hw hK hc i pins s σ H E I hf st hg
  subst hP hw hK
  obtain ⟨xs, x, hq, hx⟩ := hg
  obtain ⟨its, rv, p, hz⟩ := I.tuple hq
  obtain ⟨u, hu, ru⟩ := rv.get hx
  obtain ⟨f0, f1, f2, f3, f4, f5⟩ := hf it (by simp)
  refine wpAny_pyNext_tuple_item st (show s.heap.IsTuple a its.toArray from p) (x := u) (by simpa using hu) fun h' st' sb => ?_
  have I1 : Inv X pins σ H { s with heap := h' } := I.turned (t' := s.toks) (fun b o hb e => (sb.2 b hb).trans e) f0 f1 f3 f4 f5
  obtain ⟨o, e, c, d⟩ := id st'
  exact ⟨u, rfl, Qa1 (s := { s with heap := h' }) e c d (by decide) ⟨x, H, I1, ru, ⟨rfl, fun ys hy => by rw [I.tuple_inj hy hq]; exact hx⟩, st', fun b hb => (hf b hb).1⟩⟩
 done := by
  intro X hP hw hK hc i pins s σ H E I hf st hg
  subst hP hw hK
  obtain ⟨xs, hq, hx⟩ := hg
  obtain ⟨its, rv, p, hz⟩ := I.tuple hq
  obtain ⟨f0, f1, f2, f3, f4, f5⟩ := hf it (by simp)
  have hl := rv.length
  exact wpAny_pyNext_tuple_end (I.ok.hd hc) st (show s.heap.IsTuple a its.toArray from p) (by simp; ac_nf) fun h' eb => ⟨rfl, I.turned (t' := s.toks) (fun b o hb e => eb b o hb e) f0 f1 f3 f4 f5⟩
 self := fun _ _ _ _ _ st h => wpAny_pyIter_tupleiter st h
theorem Qa4 {P : Program} {w : World} {K : PySem.W.Frag} {tg : Expr} (it : Addr) (lo : Int) (n : Nat) : Turn P w K tg (Itr lo n) [it] it (fun i h => IsRangeIter h it (lo + (i : Nat) * 1) ((n : Int) - (i : Nat)) 1) where
 mem := by simp
 obj := fun i h st b hb => by
  have e : b = it := by simpa using hb
  subst e
  exact ⟨_, st, fun v z => by
   have z' : Data.fields _ = Data.cell v := z
   cases z'⟩
 keep := fun i h h' st k => k it (by simp) _ st
 item := by
  intro X hP hw hK hc i pins s σ H E I hf st hg
  subst hP hw hK
  obtain ⟨f0, f1, f2, f3, f4, f5⟩ := hf it (by simp)
  have W := Walks.range (prog := X.prog) (w := X.w) (I.ok.hd hc) it lo 1 n
  refine W.item i s _ _ hg st fun v h' tk hv st' kk => ?_
  obtain ⟨t, rfl⟩ := hv
  have I1 : Inv X pins σ H { s with heap := h', toks := tk } := I.turned (fun b o hb e => kk b o (by simpa using hb) e) f0 f1 f3 f4 f5
  refine ⟨_, rfl, Qa1 (s := { s with heap := h', toks := tk }) (n := "range_iterator") st' rfl rfl (by decide) ⟨.int (lo + i), H, I1, ⟨t, ?_⟩, ⟨rfl, rfl⟩, st', fun b hb => (hf b hb).1⟩⟩
  rw [Int.mul_one]
 done := by
  intro X hP hw hK hc i pins s σ H E I hf st hg
  subst hP hw hK
  obtain ⟨f0, f1, f2, f3, f4, f5⟩ := hf it (by simp)
  exact wpAny_pyNext_range_end (I.ok.hd hc) st (by have : n ≤ i := hg; ac_nf) fun h' eb => ⟨rfl, I.turned (t' := s.toks) (fun b o hb e => eb b o hb e) f0 f1 f3 f4 f5⟩
 self := fun _ _ _ _ _ st h => wpAny_pyIter_rangeiter st h
end L2
namespace L2
open PySem PySem.Spec PyProof.Rows
section
variable {X : Cx} {tg : Expr}
noncomputable def iList (K : PySem.W.Frag) (tl : TE) : TI := fun σ H R => tl σ H fun x H1 => ∃ a, x = .ref a ∧ (∃ xs, SqL K H1 a xs) ∧ R (Itl K a) H1
theorem Qa5 {l : Expr} {tl : TE} (hl : PE X l tl) : PI X tg l (iList X.K tl) := by
 intro pins s σ H R I h
 refine thn (hl pins s σ H _ I h) fun v s1 pq20 => ?_
 obtain ⟨x, H1, I1, r1, q1⟩ := pq20
 obtain ⟨a, e, ⟨xs, hq⟩, q⟩ := q1
 subst e
 cases r1
 obtain ⟨its, rv, p, hz⟩ := I1.list hq
 refine wpAny_pyIter_list p.isList ?_
 refine ⟨s1.heap.objs.size, [s1.heap.objs.size], _, _, H1, rfl, I1.kept (t' := s1.toks) fun b o e => Heap.get?_push_of_some _ e, Qa2 a _, ⟨_, Heap.get?_push_size _ rfl, rfl, rfl⟩, fun b hb => ?_, q⟩
 have e : b = s1.heap.objs.size := by simpa using hb
 subst e
 exact I1.fpOk (Nat.le_refl _) (I1.hok.fresh (Nat.le_refl _))
theorem Qa6 {pins : List (Addr × Obj)} {σ : St} {H : Hp} {s : Shared} {R : It → Hp → Prop} {E : Value → Shared → Prop} {lo hi : Int} {t u v : Tok} {tk : Nat} (I : Inv X pins σ H s) (h1 : -(2 ^ 62) ≤ lo) (h2 : lo < 2 ^ 62) (h3 : -(2 ^ 62) ≤ hi) (h4 : hi < 2 ^ 62)
  (q : R (Itr lo (hi - lo).toNat) H) : wpAny (model X.prog X.w) X.A (pyIter (.ref s.heap.objs.size)) (PIE X pins σ tg R) E { s with heap := s.heap.push { cls := .type "range", data := .fields #[.int lo t, .int hi u, .int 1 v] }, toks := tk } := by
 refine wpAny_pyIter_range (IsRange.new ..) (small_one h1 h2 h3 h4) ?_
 have I1 : Inv X pins σ H { s with heap := s.heap.push { cls := .type "range", data := .fields #[.int lo t, .int hi u, .int 1 v] }, toks := tk } := I.kept fun b o e => Heap.get?_push_of_some _ e
 refine ⟨(s.heap.push { cls := .type "range", data := .fields #[.int lo t, .int hi u, .int 1 v] }).objs.size, [(s.heap.push { cls := .type "range", data := .fields #[.int lo t, .int hi u, .int 1 v] }).objs.size], _, _, H, rfl,
  I1.kept (t' := tk) fun b o e => Heap.get?_push_of_some _ e, Qa4 _ lo (hi - lo).toNat, ?_, fun b hb => ?_, q⟩
 ·have e1 : lo + ((0 : Nat) : Int) * 1 = lo := by simp
  have e2 : (((hi - lo).toNat : Nat) : Int) - ((0 : Nat) : Int) = Builtin.Range.rangeSize lo hi 1 := by rw [rangeSize_one]; split <;> ac_nf
  show IsRangeIter _ _ (lo + ((0 : Nat) : Int) * 1) ((((hi - lo).toNat : Nat) : Int) - ((0 : Nat) : Int)) 1
  rw [e1, e2]
  exact Heap.get?_push_size _ rfl
 ·have e : b = (s.heap.push { cls := .type "range", data := .fields #[.int lo t, .int hi u, .int 1 v] }).objs.size := by simpa using hb
  subst e
  exact I1.fpOk (Nat.le_refl _) (I1.hok.fresh (Nat.le_refl _))
noncomputable def iRng1 (ta : TA) : TI := fun σ H R => ta σ H fun vs H1 => ∃ j : Int, vs = [.int j] ∧ -(2 ^ 62) ≤ j ∧ j < 2 ^ 62 ∧ R (Itr 0 j.toNat) H1
noncomputable def iRng2 (ta : TA) : TI := fun σ H R => ta σ H fun vs H1 => ∃ i j : Int, vs = [.int i, .int j] ∧ (-(2 ^ 62) ≤ i ∧ i < 2 ^ 62 ∧ -(2 ^ 62) ≤ j ∧ j < 2 ^ 62) ∧ R (Itr i (j - i).toNat) H1
theorem Qa7 {a : Expr} {ta : TA} {p pos : Pos} (hg : Gl X "range") (hm : X.mg "range" = none) (ha : PA X [a] ta) (hs : starEach [a] X.env = [(false, eval a X.env)] := by rfl) : PI X tg (.Call (.Name "range" p) [a] [] pos) (iRng1 ta) := by
 intro pins s σ H R I h
 refine Call_ (QaB I hg hm boot_range (PyProof.Rows.callWith_type1 (thn (ha pos pins s σ H _ I h) fun us s1 ⟨vs, H1, I1, r1, q1⟩ => ?_) hs rfl))
 obtain ⟨j, e, q1, q2, q⟩ := q1
 subst e
 cases r1 with
 | cons r rr =>
  cases rr
  obtain ⟨t, rfl⟩ := r
  exact call_range_1 (Qa6 I1 (by ac_nf) (by ac_nf) q1 q2 (by simpa using q))
theorem Qa8 {a b : Expr} {ta : TA} {p pos : Pos} (hg : Gl X "range") (hm : X.mg "range" = none) (ha : PA X [a, b] ta) (hs : starEach [a, b] X.env = [(false, eval a X.env), (false, eval b X.env)] := by rfl) (hs2 : starEach [b] X.env = [(false, eval b X.env)] := by rfl) :
  PI X tg (.Call (.Name "range" p) [a, b] [] pos) (iRng2 ta) := by
 intro pins s σ H R I h
 refine Call_ (QaB I hg hm boot_range (PyProof.Rows.callWith_type1 (thn (ha pos pins s σ H _ I h) fun us s1 ⟨vs, H1, I1, r1, q1⟩ => ?_) (by rw [hs, hs2]) (by rw [hs2]; rfl)))
 obtain ⟨i, j, e, ⟨q1, q2, q3, q4⟩, q⟩ := q1
 subst e
 cases r1 with
 | cons r rr =>
  cases rr with
  | cons r' rr =>
   cases rr
   obtain ⟨t, rfl⟩ := r
   obtain ⟨t', rfl⟩ := r'
   exact call_range_2 (Qa6 I1 q1 q2 q3 q4 q)
noncomputable def tFor (wi : TI) (g : TG) (tb : TS) : TS := fun D σ H => wi σ H fun J H1 => ∃ W : Nat → Nat → St → Hp → Prop, (∃ m, W 0 m σ H1) ∧ ∀ i m σ H, W i m σ H →
 (J.stop i H ∧ D.nx σ H) ∨ (J.go i H ∧ ∃ N : St → Hp → Prop, (∀ σ' H', N σ' H' → ∃ m', m' < m ∧ W (i + 1) m' σ' H') ∧ ∀ x H', J.yld i H x H' → g x σ H' fun σ2 H2 => tb { D with nx := N, ct := N, bk := D.nx } σ2 H2)
noncomputable def pinsAt (fp : List Addr) (h : Heap) : List (Addr × Obj) := fp.filterMap fun b => (h.get? b).map fun o => (b, o)
theorem Qa9 {fp : List Addr} {h : Heap} {b : Addr} {o : Obj} (hb : b ∈ fp) (e : h.get? b = some o) : (b, o) ∈ pinsAt fp h := List.mem_filterMap.mpr ⟨b, hb, by rw [e]; rfl⟩
theorem Qba {fp : List Addr} {h : Heap} {p : Addr × Obj} (hp : p ∈ pinsAt fp h) : p.1 ∈ fp ∧ h.get? p.1 = some p.2 := by
 obtain ⟨b, hb, e⟩ := List.mem_filterMap.mp hp
 cases q : h.get? b with
 | none => rw [q] at e; cases e
 | some o =>
  rw [q] at e
  have e' : (b, o) = p := Option.some.inj e
  subst e'
  exact ⟨hb, q⟩
theorem Inv.pinned {pins : List (Addr × Obj)} {σ : St} {H : Hp} {s : Shared} {fp : List Addr} (I : Inv X pins σ H s) (hf : ∀ b ∈ fp, FpOk X pins H b) (ho : ∀ b ∈ fp, ∃ o, s.heap.get? b = some o ∧ ∀ v, o.data ≠ .cell v) : Inv X (pins ++ pinsAt fp s.heap) σ H s :=
 I.pins_of fun p hp => (List.mem_append.mp hp).elim (fun z => I.pin p (List.mem_append_right _ z)) fun z => by
  obtain ⟨hb, e⟩ := Qba z
  obtain ⟨f0, f1, f2, _⟩ := hf p.1 hb
  obtain ⟨o, e', d⟩ := ho p.1 hb
  rw [e] at e'; cases e'
  exact ⟨e, f0, f1, f2, d⟩
theorem Inv.unpinned {pins pl : List (Addr × Obj)} {σ : St} {H : Hp} {s : Shared} (I : Inv X (pins ++ pl) σ H s) : Inv X pins σ H s := I.pins_of fun p hp => I.pin p (List.mem_append_right _ (List.mem_append_left _ hp))
theorem Qbb {iter : Expr} {body : List Stmt} {wi : TI} {g : TG} {tb : TS} {pos : Pos} (hp : PassesOwn (model X.prog X.w) X.A X.env X.xe) (hc : X.calm = true) (hi : PI X tg iter wi) (hg : PG X tg g) (hb : PSs X body tb)
  (hs : ∀ x, foldedSetIterable iter X.env x = pure x := by intro _; rfl) : PS X (.For tg iter body [] pos) (tFor wi g tb) := by
 intro pins s σ H D I h
 refine wpAny_For (thn (hi pins s σ H _ I h) fun v s1 h1 => thn h1 fun itv s2 h2 => ?_) hs
 obtain ⟨it, fp, tn, J, H2, e, I2, T, st2, f2, W, ⟨m0, w0⟩, turn⟩ := h2
 subst e
 have stat : ∀ {H' : Hp}, (∀ b ∈ fp, H' b = none) → ∀ b ∈ fp, FpOk X pins H' b := fun hn b hb => ⟨hn b hb, (f2 b hb).2⟩
 refine codeAny_forLoop_any (fun n s' => ∃ i σ' H', Inv X pins σ' H' s' ∧ tn i s'.heap ∧ (∀ b ∈ fp, H' b = none) ∧ W i n σ' H') ?_ m0 ⟨0, σ, H2, I2, st2, fun b hb => (f2 b hb).1, w0⟩
 rintro n s3 ⟨i, σ3, H3, I3, st3, fr3, w3⟩
 rcases turn i n σ3 H3 w3 with ⟨stop, qn⟩ | ⟨go, N, hN, step⟩
 ·refine wpAny_passesOwn hp (thn (T.done X rfl rfl rfl hc i pins s3 σ3 H3 X.xe I3 (stat fr3) st3 stop) fun r s4 pq23 => ?_)
  obtain ⟨hr, I4⟩ := pq23
  subst hr
  exact wpAny_execs_nil ⟨σ3, H3, I4, qn⟩
 ·refine wpAny_passesOwn hp (thn (T.item X rfl rfl rfl hc i pins s3 σ3 H3 X.xe I3 (stat fr3) st3 go) fun r s4 pq24 => ?_)
  obtain ⟨u, hr, h4⟩ := pq24
  subst hr
  refine wpAny_passesOwn hp (thn h4 fun _ s5 pq25 => ?_)
  obtain ⟨x, H5, I5, r5, y5, st5, fr5⟩ := pq25
  have I5' := I5.pinned (stat fr5) (T.obj _ _ st5)
  refine wpAny_passesOwn hp (thn (hg _ s5 σ3 H5 x u _ I5' r5 (step x H5 y5)) fun _ s6 pq26 => ?_)
  obtain ⟨σ6, H6, I6, q6⟩ := pq26
  refine wpAny_passesOwn hp (thn (hb _ s6 σ6 H6 _ I6 q6) fun f s7 q7 => ?_)
  have again : ∀ {σ7 : St} {H7 : Hp}, Inv X (pins ++ pinsAt fp s5.heap) σ7 H7 s7 → N σ7 H7 → ∃ m, m < n ∧ ∃ i σ' H', Inv X pins σ' H' s7 ∧ tn i s7.heap ∧ (∀ b ∈ fp, H' b = none) ∧ W i m σ' H' := fun {σ7 H7} I7 n7 => by
   obtain ⟨m', hm, w7⟩ := hN σ7 H7 n7
   refine ⟨m', hm, i + 1, σ7, H7, I7.unpinned, T.keep _ _ _ st5 fun b hb o e => (I7.pin (b, o) (List.mem_append_right _ (List.mem_append_right _ (Qa9 hb e)))).1, fun b hb => ?_, w7⟩
   obtain ⟨o, e, d⟩ := T.obj _ _ st5 b hb
   exact (I7.pin (b, o) (List.mem_append_right _ (List.mem_append_right _ (Qa9 hb e)))).2.1
  cases f with
  | next => obtain ⟨σ7, H7, I7, n7⟩ := q7; exact again I7 n7
  | cont => obtain ⟨σ7, H7, I7, n7⟩ := q7; exact again I7 n7
  | brk => obtain ⟨σ7, H7, I7, q7⟩ := q7; exact ⟨σ7, H7, I7.unpinned, q7⟩
  | ret v => obtain ⟨x7, σ7, H7, I7, r7, q7⟩ := q7; exact ⟨x7, σ7, H7, I7.unpinned, r7, q7⟩
end
end L2
namespace L2
open PySem PySem.Spec PyProof.Rows
noncomputable abbrev R2 := V → V → Hp → VK → Prop
def OpR (X : Cx) (f : Value → Value → Sem Value) (r : R2) : Prop :=
 ∀ (pins : List (Addr × Obj)) (s : Shared) (σ : St) (H : Hp) (x y : V) (v u : Value) (Q : VK), Inv X pins σ H s → RelV x v → RelV y u → r x y H Q →
  wpAny (model X.prog X.w) X.A (f v u) (EP X pins σ Q) X.xe s
def UnR (X : Cx) (f : Value → Sem Value) (r : V → Hp → VK → Prop) : Prop :=
 ∀ (pins : List (Addr × Obj)) (s : Shared) (σ : St) (H : Hp) (x : V) (v : Value) (Q : VK), Inv X pins σ H s → RelV x v → r x H Q →
  wpAny (model X.prog X.w) X.A (f v) (EP X pins σ Q) X.xe s
def CallR (X : Cx) (f : Value) (r : List V → Hp → VK → Prop) : Prop :=
 ∀ (pins : List (Addr × Obj)) (s : Shared) (σ : St) (H : Hp) (xs : List V) (us : List Value) (Q : VK), Inv X pins σ H s → Vals xs us → r xs H Q →
  wpAny (model X.prog X.w) X.A (call f us) (EP X pins σ Q) X.xe s
def TruR (X : Cx) (r : V → Hp → (Bool → Hp → Prop) → Prop) : Prop :=
 ∀ (pins : List (Addr × Obj)) (s : Shared) (σ : St) (H : Hp) (x : V) (v : Value) (Q : Bool → Hp → Prop), Inv X pins σ H s → RelV x v → r x H Q →
  wpAny (model X.prog X.w) X.A (truthy v) (TP X pins σ Q) X.xe s
noncomputable def tOp (r : R2) (ta tb : TE) : TE := fun σ H Q => ta σ H fun x H1 => tb σ H1 fun y H2 => r x y H2 Q
noncomputable def tUn (r : V → Hp → VK → Prop) (ta : TE) : TE := fun σ H Q => ta σ H fun x H1 => r x H1 Q
noncomputable def rI (C : Int → Int → Prop) (g : Int → Int → V) : R2 := fun x y H Q => ∃ i j, x = .int i ∧ y = .int j ∧ C i j ∧ Q (g i j) H
noncomputable def rI0 (g : Int → Int → V) : R2 := fun x y H Q => ∃ i j, x = .int i ∧ y = .int j ∧ Q (g i j) H
noncomputable def rU (g : Int → V) : V → Hp → VK → Prop := fun x H Q => ∃ i, x = .int i ∧ Q (g i) H
section
variable {X : Cx} {a b c : Expr} {ta tb tc : TE} {pos : Pos}
theorem binT (ha : PE X a ta) (hb : PE X b tb) {pins : List (Addr × Obj)} {s : Shared} {σ : St} {H : Hp} {R : V → V → Hp → Prop} (I : Inv X pins σ H s)
  (h : ta σ H fun x H1 => tb σ H1 fun y H2 => R x y H2) {Q : Value → Shared → Prop} {f : Value → Value → Sem Value}
  (hf : ∀ v u s2 x y H2, Inv X pins σ H2 s2 → RelV x v → RelV y u → R x y H2 → wpAny (model X.prog X.w) X.A (f v u) Q X.xe s2) :
  wpAny (model X.prog X.w) X.A (eval a X.env) (fun v s₁ => wpAny (model X.prog X.w) X.A (eval b X.env) (fun u s₂ => wpAny (model X.prog X.w) X.A (f v u) Q X.xe s₂) X.xe s₁) X.xe s := by
 refine thn (ha pins s σ H _ I h) fun v s1 pq27 => ?_
 obtain ⟨x, H1, I1, r1, q1⟩ := pq27
 refine thn (hb pins s1 σ H1 _ I1 q1) fun u s2 pq28 => ?_
 obtain ⟨y, H2, I2, r2, q2⟩ := pq28
 exact hf v u s2 x y H2 I2 r1 r2 q2
theorem Qbc {op : Operator} {r : R2} (ho : OpR X (binaryOp op) r) (ha : PE X a ta) (hb : PE X b tb) : PE X (.BinOp a op b pos) (tOp r ta tb) := by
 intro pins s σ H Q I h
 exact wpAny_BinOp (binT ha hb I h fun v u s2 x y H2 I2 rx ry q => ho pins s2 σ H2 x y v u Q I2 rx ry q)
theorem Qbd {op : UnaryOp} {r : V → Hp → VK → Prop} (ho : UnR X (unaryOp op) r) (ha : PE X a ta) : PE X (.UnaryOp op a pos) (tUn r ta) := by
 intro pins s σ H Q I h
 exact UnaryOp_ (thn (ha pins s σ H _ I h) fun v s1 pq29 => by obtain ⟨x, H1, I1, r1, q1⟩ := pq29; exact ho pins s1 σ H1 x v Q I1 r1 q1)
theorem opI {f : Value → Value → Sem Value} {C : Int → Int → Prop} {g : Int → Int → Int}
  (rule : ∀ (i j : Int) (t u : Tok) (s : Shared) (Q : Value → Shared → Prop) (E : Value → Shared → Prop), C i j → Q (.int (g i j) s.toks) { s with toks := s.toks + 1 } → wpAny (model X.prog X.w) X.A (f (.int i t) (.int j u)) Q E s) :
  OpR X f (rI C fun i j => .int (g i j)) := by
 intro pins s σ H x y v u Q I rx ry h
 obtain ⟨i, j, rfl, rfl, hc, q⟩ := h
 obtain ⟨t, rfl⟩ := rx
 obtain ⟨t', rfl⟩ := ry
 exact rule i j t t' s _ _ hc ⟨.int (g i j), H, I.tok _, ⟨_, rfl⟩, q⟩
theorem opI0 {f : Value → Value → Sem Value} {g : Int → Int → Int}
  (rule : ∀ (i j : Int) (t u : Tok) (s : Shared) (Q : Value → Shared → Prop) (E : Value → Shared → Prop), Q (.int (g i j) s.toks) { s with toks := s.toks + 1 } → wpAny (model X.prog X.w) X.A (f (.int i t) (.int j u)) Q E s) :
  OpR X f (rI0 fun i j => .int (g i j)) := by
 intro pins s σ H x y v u Q I rx ry h
 obtain ⟨i, j, rfl, rfl, q⟩ := h
 obtain ⟨t, rfl⟩ := rx
 obtain ⟨t', rfl⟩ := ry
 exact rule i j t t' s _ _ ⟨.int (g i j), H, I.tok _, ⟨_, rfl⟩, q⟩
theorem opB0 {f : Value → Value → Sem Value} {g : Int → Int → Bool}
  (rule : ∀ (i j : Int) (t u : Tok) (s : Shared) (Q : Value → Shared → Prop) (E : Value → Shared → Prop), Q (.bool (g i j)) s → wpAny (model X.prog X.w) X.A (f (.int i t) (.int j u)) Q E s) :
  OpR X f (rI0 fun i j => .bl (g i j)) := by
 intro pins s σ H x y v u Q I rx ry h
 obtain ⟨i, j, rfl, rfl, q⟩ := h
 obtain ⟨t, rfl⟩ := rx
 obtain ⟨t', rfl⟩ := ry
 exact rule i j t t' s _ _ ⟨.bl (g i j), H, I, rfl, q⟩
def CDiv (i j : Int) : Prop := 0 < j ∧ j < 1073741824
def CPow (i j : Int) : Prop := 0 ≤ j ∧ j ≤ 1000000 ∧ i.natAbs < 2 ^ 64
def CMul (i j : Int) : Prop := (-(2 ^ 64) < i ∧ i < 2 ^ 64) ∨ (-(2 ^ 64) < j ∧ j < 2 ^ 64)
theorem CMul.ok {i j : Int} (h : CMul i j) : IntMulOk i j := by
 rcases h with ⟨h1, h2⟩ | ⟨h1, h2⟩
 ·exact .of_left (intBits_le_64 h1 h2)
 ·exact .of_right (intBits_le_64 h1 h2)
theorem Qbe : OpR X (binaryOp .Add) (rI0 fun i j => .int (i + j)) := opI0 fun _ _ _ _ _ _ _ q => add_int q
theorem Qbf : OpR X (binaryOp .Sub) (rI0 fun i j => .int (i - j)) := opI0 fun _ _ _ _ _ _ _ q => sub_int q
theorem Qbg : OpR X (binaryOp .Mult) (rI CMul fun i j => .int (i * j)) := opI fun _ _ _ _ _ _ _ hc q => mul_int q hc.ok
theorem Qbh : OpR X (binaryOp .FloorDiv) (rI CDiv fun i j => .int (i / j)) := opI fun i j _ _ _ _ _ hc q => by
 have h1 : (0 : Int) < j := hc.1
 have h2 : j < 1073741824 := hc.2
 exact floordiv_int (by ac_nf) (by rw [Int.fdiv_eq_ediv_of_nonneg i (by ac_nf)]; exact q) (.inl (PyProof.noPylong_small (by ac_nf)))
theorem Qbi : OpR X (binaryOp .Mod) (rI (fun _ j => 0 < j) fun i j => .int (i % j)) := opI fun i j _ _ _ _ _ hc q => by
 have h1 : (0 : Int) < j := hc
 exact mod_int' (by ac_nf) (by rw [Int.fmod_eq_emod_of_nonneg i (by ac_nf)]; exact q)
theorem Qbj : OpR X (binaryOp .Pow) (rI CPow fun i j => .int (i ^ j.toNat)) := opI fun _ _ _ _ _ _ _ hc q => pow_int_small hc.1 hc.2.1 hc.2.2 q
theorem unI {f : Value → Sem Value} {g : Int → Int}
  (rule : ∀ (i : Int) (t : Tok) (s : Shared) (Q : Value → Shared → Prop) (E : Value → Shared → Prop), Q (.int (g i) s.toks) { s with toks := s.toks + 1 } → wpAny (model X.prog X.w) X.A (f (.int i t)) Q E s) :
  UnR X f (rU fun i => .int (g i)) := by
 intro pins s σ H x v Q I rx h
 obtain ⟨i, rfl, q⟩ := h
 obtain ⟨t, rfl⟩ := rx
 exact rule i t s _ _ ⟨.int (g i), H, I.tok _, ⟨_, rfl⟩, q⟩
theorem Qbk : UnR X (unaryOp .USub) (rU fun i => .int (-i)) := unI fun _ _ _ _ _ q => neg_int q
end
section
variable {X : Cx} {a b c : Expr} {ta tb tc : TE} {pos : Pos}
theorem Qbl {pins : List (Addr × Obj)} {σ : St} {H : Hp} {s : Shared} {Q : VK} {k k' : Bool} (I : Inv X pins σ H s) (q : Q (.bl k) H) (e : k = k') : EP X pins σ Q (.bool k') s := by
 subst e
 exact ⟨.bl k, H, I, rfl, q⟩
theorem Qbm : OpR X (compareOp .Lt) (rI0 fun i j => .bl (decide (i < j))) := opB0 fun _ _ _ _ _ _ _ q => lt_int q
theorem Qbn : OpR X (compareOp .Gt) (rI0 fun i j => .bl (decide (j < i))) := opB0 fun _ _ _ _ _ _ _ q => gt_int q
theorem Qbo : OpR X (compareOp .GtE) (rI0 fun i j => .bl (decide (j ≤ i))) := opB0 fun _ _ _ _ _ _ _ q => ge_int q
theorem Qbp : OpR X (compareOp .Is) (fun x y H Q => y = .non ∧ Q (.bl (decide (x = .non))) H) := by
 intro pins s σ H x y v u Q I rx ry h
 obtain ⟨rfl, q⟩ := h
 cases ry
 refine is_none_gen (Qbl I q ?_)
 cases x <;> first
  | (cases rx; rfl)
  | (obtain ⟨t, rfl⟩ := rx; rfl)
theorem Qbq : OpR X (compareOp .IsNot) (fun x y H Q => y = .non ∧ Q (.bl (!decide (x = .non))) H) := by
 intro pins s σ H x y v u Q I rx ry h
 obtain ⟨rfl, q⟩ := h
 cases ry
 refine isnot_none_gen (Qbl I q ?_)
 cases x <;> first
  | (cases rx; rfl)
  | (obtain ⟨t, rfl⟩ := rx; rfl)
theorem OpR.or {f : Value → Value → Sem Value} {r r' : R2} (h : OpR X f r) (h' : OpR X f r') : OpR X f (fun x y H Q => r x y H Q ∨ r' x y H Q) := by
 intro pins s σ H x y v u Q I rx ry q
 rcases q with q | q
 ·exact h pins s σ H x y v u Q I rx ry q
 ·exact h' pins s σ H x y v u Q I rx ry q
theorem Qbr (b : Expr) {op : CmpOp} (h : op ≠ .In := by decide) (h2 : op ≠ .NotIn := by decide) : behindInMarks op b = false := by
 have e1 : (op == CmpOp.In) = false := by cases op <;> first | rfl | exact absurd rfl h
 have e2 : (op == CmpOp.NotIn) = false := by cases op <;> first | rfl | exact absurd rfl h2
 cases b <;> simp [behindInMarks, e1, e2]
theorem Qbs {op : CmpOp} {r : R2} (ho : OpR X (compareOp op) r) (ha : PE X a ta) (hb : PE X b tb) (hm : behindInMarks op b = false) : PE X (.Compare a [op] [b] pos) (tOp r ta tb) := by
 intro pins s σ H Q I h
 exact wpAny_Compare1 (binT ha hb I h fun v u s2 x y H2 I2 rx ry q => ho pins s2 σ H2 x y v u Q I2 rx ry q) hm
noncomputable def tTest (t : TE) : TT := fun σ H Q => t σ H fun x H' => ∃ k, x = .bl k ∧ Q k H'
theorem Qbt {op : CmpOp} {r : R2} (ho : OpR X (compareOp op) r) (ha : PE X a ta) (hb : PE X b tb) (hm : behindInMarks op b = false) : PT X (.Compare a [op] [b] pos) (tTest (tOp r ta tb)) := by
 intro pins s σ H Q I h
 refine wpAny_isTrue_Compare1 (thn (ha pins s σ H _ I h) fun v s1 ⟨x, H1, I1, r1, q1⟩ => thn (hb pins s1 σ H1 _ I1 q1) fun u s2 ⟨y, H2, I2, r2, q2⟩ =>
  thn (ho pins s2 σ H2 x y v u _ I2 r1 r2 q2) fun c s3 ⟨z, H3, I3, r3, k, e, q3⟩ => ?_) hm
 subst e
 cases r3
 exact wpAny_truthy_bool ⟨H3, I3, q3⟩
def TruV (K : PySem.W.Frag) (x : V) (H : Hp) (k : Bool) : Prop :=
 match x with
 | .non => k = false
 | .bl b => k = b
 | .int i => k = (i != 0)
 | .str y => y.length ≤ sizeLine ∧ k = ((y.length : Int) != 0)
 | .byt y => y.size ≤ sizeLine ∧ k = ((y.size : Int) != 0)
 | .ref p => (∃ xs, SqL K H p xs ∧ k = !xs.isEmpty) ∨ (∃ xs, SqT K H p xs ∧ k = !xs.isEmpty) ∨ ∃ kvs, H p = some (.dK kvs) ∧ k = !kvs.isEmpty
 | _ => False
theorem Qbu {κ : Type} {kvs : List (κ × V)} {vs : List (κ × Value)} (r : KV kvs vs) : (!vs.isEmpty) = !kvs.isEmpty := by
 cases r <;> rfl
theorem Qbv {xs : List V} {its : List Value} (r : Vals xs its) : (!its.toArray.isEmpty) = !xs.isEmpty := by
 cases r <;> simp
theorem Qbw : (sizeLine : Nat) < 2 ^ 63 := by rw [sizeLine_eq]; decide
theorem Qbx : TruR X (fun x H Q => ∃ k, TruV X.K x H k ∧ Q k H) := by
 intro pins s σ H x v Q I rx h
 obtain ⟨k, e, q⟩ := h
 have hl := Qbw
 have hs : sizeLine = 16777216 := sizeLine_eq
 cases x with
 | non =>
  cases rx
  have e' : k = false := e
  subst e'
  exact truthy_none ⟨H, I, q⟩
 | bl b =>
  cases rx
  have e' : k = b := e
  subst e'
  exact wpAny_truthy_bool ⟨H, I, q⟩
 | int i =>
  obtain ⟨t, rfl⟩ := rx
  have e' : k = (i != 0) := e
  subst e'
  exact PySem.P.truthy_int ⟨H, I, q⟩
 | str y =>
  obtain ⟨t, rfl⟩ := rx
  obtain ⟨hy, e'⟩ : y.length ≤ sizeLine ∧ k = ((y.length : Int) != 0) := e
  subst e'
  exact PySem.P.truthy_str (by ac_nf) ⟨H, I.tok _, q⟩
 | byt y =>
  obtain ⟨t, rfl⟩ := rx
  obtain ⟨hy, e'⟩ : y.size ≤ sizeLine ∧ k = ((y.size : Int) != 0) := e
  subst e'
  exact PySem.W.truthy_bytes (by ac_nf) ⟨H, I.tok _, q⟩
 | ref p =>
  cases rx
  have e' : (∃ xs, SqL X.K H p xs ∧ k = !xs.isEmpty) ∨ (∃ xs, SqT X.K H p xs ∧ k = !xs.isEmpty) ∨ ∃ kvs, H p = some (.dK kvs) ∧ k = !kvs.isEmpty := e
  rcases e' with ⟨xs, hx, e'⟩ | ⟨xs, hx, e'⟩ | ⟨kvs, hx, e'⟩
  ·subst e'
   obtain ⟨its, r, pl, hz⟩ := I.list hx
   have hlen := r.length
   exact wpAny_truthy_list pl.isList (by simp only [List.size_toArray]; ac_nf) ⟨H, I.tok _, by rw [Qbv r]; exact q⟩
  ·subst e'
   obtain ⟨its, r, pl, hz⟩ := I.tuple hx
   have hlen := r.length
   exact truthy_tuple pl (by simp only [List.size_toArray]; ac_nf) ⟨H, I.tok _, by rw [Qbv r]; exact q⟩
  ·subst e'
   obtain ⟨hz, hS, vs, r, m⟩ : kvs.length ≤ sizeLine ∧ (p == sysModules) = false ∧ ∃ vs, KV kvs vs ∧ s.heap.DictOf (mixKind X.prog X.w) p vs := I.hok p _ hx
   have hlen : kvs.length = vs.length := Paired.length r
   exact wpAny_truthy_dict hS m (by ac_nf) ⟨H, I.tok _, by rw [Qbu r]; exact q⟩
 | _ => exact (show False from e).elim
theorem Qby (ha : PE X a ta) (he : ∀ whole, isTrue a X.env whole = (do let v ← whole; standAt a.pos; holding [v] (truthy v))) :
  PT X a (fun σ H Q => ta σ H fun x H' => ∃ k, TruV X.K x H' k ∧ Q k H') := by
 intro pins s σ H Q I h
 exact isTrue_plain (thn (ha pins s σ H _ I h) fun v s1 pq30 => by obtain ⟨x, H1, I1, r1, q1⟩ := pq30; exact Qbx pins s1 σ H1 x v Q I1 r1 q1) (he _)
theorem Qbz : OpR X (binaryOp .Add) (fun x y H Q => ∃ i j, x = .str i ∧ y = .str j ∧ i.length + j.length ≤ sizeLine ∧ Q (.str (i ++ j)) H) := by
 intro pins s σ H x y v u Q I rx ry h
 obtain ⟨i, j, rfl, rfl, hz, q⟩ := h
 obtain ⟨t, rfl⟩ := rx
 obtain ⟨t', rfl⟩ := ry
 exact add_str (fun t' tk => ⟨.str (i ++ j), H, I.tok _, ⟨_, rfl⟩, q⟩) hz
theorem QbA {x : V} {us : List Value} (r : Vals [x] us) : ∃ u, us = [u] ∧ RelV x u := by
 cases r with
 | cons r1 r2 => cases r2; exact ⟨_, rfl, r1⟩
theorem QbB {x y : V} {us : List Value} (r : Vals [x, y] us) : ∃ u w', us = [u, w'] ∧ RelV x u ∧ RelV y w' := by
 cases r with
 | cons r1 r2 =>
  cases r2 with
  | cons r3 r4 => cases r4; exact ⟨_, _, rfl, r1, r3⟩
theorem QbC (hc : X.calm = true) : CallR X (.builtin "min") (fun xs H Q => ∃ i j, xs = [.int i, .int j] ∧ Q (.int (if j < i then j else i)) H) := by
 intro pins s σ H xs us Q I r h
 obtain ⟨i, j, rfl, q⟩ := h
 obtain ⟨u, w', rfl, ⟨t, rfl⟩, ⟨t', rfl⟩⟩ := QbB r
 refine min_two_ints (I.ok.hd hc) fun h' tk k => ⟨_, H, I.kept k, ?_, q⟩
 by_cases hj : j < i
 ·rw [if_pos hj, if_pos hj]; exact ⟨_, rfl⟩
 ·rw [if_neg hj, if_neg hj]; exact ⟨_, rfl⟩
theorem QbD : CallR X (.type "int") (fun xs H Q => (∃ i, xs = [.int i] ∧ Q (.int i) H) ∨ ∃ k, xs = [.bl k] ∧ Q (.int (if k then 1 else 0)) H) := by
 intro pins s σ H xs us Q I r h
 rcases h with ⟨i, rfl, q⟩ | ⟨k, rfl, q⟩
 ·obtain ⟨u, rfl, t, rfl⟩ := QbA r
  exact call_int_int ⟨.int i, H, I, ⟨_, rfl⟩, q⟩
 ·obtain ⟨u, rfl, r1⟩ := QbA r
  cases r1
  exact call_int_bool ⟨.int (if k then 1 else 0), H, I.tok _, ⟨_, rfl⟩, q⟩
end
end L2
namespace L2
open PySem PySem.Spec PyProof.Rows
structure ObjM (h : Heap) (x dx C : Addr) (mA : Str → Option Value) : Prop where
 obj : h.get? x = some (PySem.W.instObj C dx)
 ns : h.Ns1 dx mA
 ne : dx ≠ x
theorem QbE {h : Heap} {dx : Addr} {mA : Str → Option Value} (n : h.Ns1 dx mA) : ∃ od, h.get? dx = some od ∧ ∀ name, PySem.W.lookIn name od = some (mA name) := by
 obtain ⟨o, es, ep, ho, hd, hk, _, hm⟩ := n
 refine ⟨o, ho, fun name => ?_⟩
 have e := hm name
 unfold nsFind findBy at e
 rw [← Array.find?_toList] at e
 unfold PySem.W.lookIn
 rw [hd]
 dsimp only
 split
 ·rename_i y q
  rw [q] at e
  exact congrArg some e
 ·rename_i q
  rw [q] at e
  have a : es.toList.any (·.refKey) = false := by
   rw [List.any_eq_false]
   intro y hy
   obtain ⟨z, t, hkey⟩ := hk y (Array.mem_toList_iff.mp hy)
   simp [DictEntry.refKey, hkey]
  have a' : ¬ es.toList.any (·.refKey) = true := by rw [a]; exact Bool.false_ne_true
  rw [if_neg a']
  exact congrArg some e
theorem ObjM.look {h : Heap} {x dx C : Addr} {mA : Str → Option Value} (I : ObjM h x dx C mA) : ∃ od, PySem.W.InstAt h x (PySem.W.instObj C dx) C (some od) ∧ ∀ name, PySem.W.lookIn name od = some (mA name) :=
 let ⟨od, ho, hl⟩ := QbE I.ns
 ⟨od, ⟨I.obj, rfl, rfl, ho⟩, hl⟩
section
variable {prog : Program} {w : World} {A : Around} {E : Value → Shared → Prop} {s : Shared} {K : PySem.W.Frag} {x dx C f : Addr} {mA : Str → Option Value} {name : Str} {v : Value}
end
theorem RelO.some_of {v : V} {o : Option Value} (r : RelO (some v) o) : ∃ u, o = some u ∧ RelV v u := by
 cases o with
 | none => exact (show False from r).elim
 | some u => exact ⟨u, rfl, r⟩
theorem RelO.none_of {o : Option Value} (r : RelO none o) : o = none := by
 cases o with
 | none => rfl
 | some u => exact (show False from r).elim
section
variable {P : Program} {w : World} {H H' : Hp} {h h' : Heap} {a C dx : Addr} {fs fs' : List (Str × V)}
theorem QbF (hok : HOk P w H h) (e : H a = some (.ins C dx fs)) : ∃ mA, ObjM h a dx C mA ∧ (∀ f, RelO (fs.lookup f) (mA f)) ∧ PySem.Within mA (fs.map (·.1)) ∧ fs.length ≤ 1000 ∧ H dx = some (.own a) := by
 obtain ⟨d, z, ne, ob, mA, n, r, q⟩ := (show ObjOk P w H h a (.ins C dx fs) from hok a _ e)
 exact ⟨mA, ⟨ob, n, ne⟩, r, q, z, d⟩
end
structure Cls (K : PySem.W.Frag) (C : Addr) : Prop where
 pg : PySem.W.plainGet K C Str.empty = true
 hd : PySem.W.hasDictIn K C = true
 po : PySem.W.plainOver K C = true
 sa : PySem.W.findIn K (.ref C) "__setattr__" = some (some (.builtin "object.__setattr__"))
theorem Cls.get {K : PySem.W.Frag} {C : Addr} (c : Cls K C) (f : Str) : PySem.W.plainGet K C f = true := c.pg
structure Con (K : PySem.W.Frag) (C : Addr) (f : Str) (v : V) (u : Value) : Prop where
 at_ : PySem.W.findIn K (.ref C) f = some (some u)
 rel : RelV v u
 get : PySem.W.specialIn K u "__get__" = some none
 cp : PySem.W.copiedNames.contains f = false
structure Meth (K : PySem.W.Frag) (C : Addr) (m : Str) (f : Addr) : Prop where
 at_ : PySem.W.findIn K (.ref C) m = some (some (.ref f))
 fn : PySem.W.isFn K (.ref f) = true
 kp : PySem.W.keepIn K (.ref f) = true
section
variable {X : Cx} {pins : List (Addr × Obj)} {σ : St} {H : Hp} {s : Shared} {a C dx : Addr} {fs : List (Str × V)} {f : Str} {v : V} {A : Around} {E : Value → Shared → Prop}
theorem Inv.made (I : Inv X pins σ H s) : Inv X pins σ (upd (upd H s.heap.objs.size (.own (s.heap.objs.size + 1))) (s.heap.objs.size + 1) (.ins C s.heap.objs.size []))
  { s with heap := (s.heap.push PySem.W.emptyDict).push (PySem.W.instObj C s.heap.objs.size) } := by
 have e1 : (s.heap.push PySem.W.emptyDict).get? s.heap.objs.size = some PySem.W.emptyDict := Heap.get?_push_size s.heap rfl
 have e2 : ((s.heap.push PySem.W.emptyDict).push (PySem.W.instObj C s.heap.objs.size)).get? (s.heap.objs.size + 1) = some (PySem.W.instObj C s.heap.objs.size) := by
  have := Heap.get?_push_size (s.heap.push PySem.W.emptyDict) (o := PySem.W.instObj C s.heap.objs.size) rfl
  rwa [Heap.size_push] at this
 have e3 : (s.heap.push PySem.W.emptyDict).Ns s.heap.objs.size (fun _ => none) := ⟨PySem.W.emptyDict, #[], _, e1, rfl, (fun e he => absurd he (by simp)), fun _ => rfl⟩
 have I1 := I.laid (a := s.heap.objs.size) (o := .own (s.heap.objs.size + 1)) (h' := s.heap.push PySem.W.emptyDict) (t' := s.toks) (fun b u q => Heap.get?_push_of_some _ q) (Nat.le_refl _) ⟨_, e1⟩
 refine I1.laid (a := s.heap.objs.size + 1) (o := .ins C s.heap.objs.size []) (t' := s.toks) (fun b u q => Heap.get?_push_of_some _ q) (Nat.le_of_eq (Heap.size_push _ _)) ?_
 have ne : s.heap.objs.size ≠ s.heap.objs.size + 1 := Nat.ne_of_lt (Nat.lt_succ_self _)
 refine ⟨by rw [Qaj ne, Qai], Nat.zero_le _, ne, e2, fun _ => none, (Heap.Ns1.of_empty e3).at fun o q => Heap.get?_push_of_some _ q, fun _ => True.intro, fun y hy => absurd rfl hy⟩
end
section
variable {X : Cx} {o e value : Expr} {f : Str} {pos pos' tpos : Pos} {ta tv : TE}
end
section
variable {X : Cx} {pins : List (Addr × Obj)} {σ : St} {H : Hp} {s : Shared} {A : Around} {E : Value → Shared → Prop} {Q : Value → Shared → Prop} {c : Value} {b : Bool}
inductive TyOf (K : PySem.W.Frag) (H : Hp) : V → Value → Prop where
 | non : TyOf K H .non (.type "NoneType")
 | bl (x : Bool) : TyOf K H (.bl x) (.type "bool")
 | int (i : Int) : TyOf K H (.int i) (.type "int")
 | str (x : Str) : TyOf K H (.str x) (.type "str")
 | flt (x : UInt64) : TyOf K H (.flt x) (.type "float")
 | lst {a : Addr} {xs : List V} (e : H a = some (.lst xs)) : TyOf K H (.ref a) (.type "list")
 | frz {a : Addr} {o : Obj} {xs : List V} (e : H a = some (.frz o (.lst xs))) : TyOf K H (.ref a) (.type "list")
 | tup {a : Addr} {xs : List V} (e : H a = some (.tup xs)) : TyOf K H (.ref a) (.type "tuple")
 | dK {a : Addr} {kvs : List (Key × V)} (e : H a = some (.dK kvs)) : TyOf K H (.ref a) (.type "dict")
 | dT {a : Addr} {kvs : List (List Key × V)} (e : H a = some (.dT kvs)) : TyOf K H (.ref a) (.type "dict")
 | ins {a C dx : Addr} {fs : List (Str × V)} (e : H a = some (.ins C dx fs)) (cl : Cls K C) (ha : PySem.W.findIn K (.ref C) "__class__" = some (some (.builtin "object.__class__")))
   (hn : PySem.W.specialIn K (.builtin "object.__class__") "__get__" = some (some (.builtin "getset_descriptor.__get__"))) (htk : PySem.W.takesIn K (.builtin "object.__class__") = some true)
   (hm : PySem.W.mroIn K C (.type "object") = some true) : TyOf K H (.ref a) (.ref C)
theorem QbG {x : V} {u t : Value} (I : Inv X pins σ H s) (rx : RelV x u) (ty : TyOf X.K H x t) (e : PySem.W.kitOne X.K t c = some b) (h : ∀ tk, Q (.bool b) { s with toks := tk }) :
  wpAny (model X.prog X.w) A (call (.builtin "isinstance") [u, c]) Q E s := by
 cases ty with
 | non => cases (show u = Value.none from rx); exact PySem.W.kia_one PySem.W.kitx_none I.kIn True.intro e (fun z => nomatch z) h
 | bl y => cases (show u = Value.bool y from rx); exact PySem.W.kia_one PySem.W.kitx_bool I.kIn True.intro e (fun z => nomatch z) h
 | int i => obtain ⟨t, q⟩ := (show ∃ t, u = Value.int i t from rx); cases q; exact PySem.W.kia_one PySem.W.kitx_int I.kIn True.intro e (fun z => nomatch z) h
 | str y => obtain ⟨t, q⟩ := (show ∃ t, u = Value.str y t from rx); cases q; exact PySem.W.kia_one PySem.W.kitx_str I.kIn True.intro e (fun z => nomatch z) h
 | flt y => obtain ⟨t, q⟩ := (show ∃ t, u = Value.float y t from rx); cases q; exact PySem.W.kia_one PySem.W.kitx_float I.kIn True.intro e (fun z => nomatch z) h
 | @lst a xs ea =>
  cases (show u = Value.ref a from rx)
  obtain ⟨_, _, n, _, h1⟩ := (show ObjOk X.prog X.w H s.heap a (.lst xs) from I.hok a _ ea)
  exact PySem.W.kia_one PySem.W.kitx_list I.kIn ⟨_, h1, rfl⟩ e (fun z => nomatch z) h
 | @frz a ob xs ea =>
  cases (show u = Value.ref a from rx)
  obtain ⟨_, _, _, n, _, h1⟩ := (show ObjOk X.prog X.w H s.heap a (.frz ob (.lst xs)) from I.hok a _ ea)
  exact PySem.W.kia_one PySem.W.kitx_list I.kIn ⟨_, h1, rfl⟩ e (fun z => nomatch z) h
 | @tup a xs ea =>
  cases (show u = Value.ref a from rx)
  obtain ⟨_, _, _, p⟩ := (show ObjOk X.prog X.w H s.heap a (.tup xs) from I.hok a _ ea)
  obtain ⟨o, h1, h2, _⟩ := p
  exact PySem.W.kia_one PySem.W.kitx_tuple I.kIn ⟨o, h1, h2⟩ e (fun z => nomatch z) h
 | @dK a kvs ea =>
  cases (show u = Value.ref a from rx)
  obtain ⟨_, _, vs, _, p⟩ := (show ObjOk X.prog X.w H s.heap a (.dK kvs) from I.hok a _ ea)
  obtain ⟨o, es, ep, h1, h2, _⟩ := p
  exact PySem.W.kia_one PySem.W.kitx_dict I.kIn ⟨o, h1, h2.1⟩ e (fun z => nomatch z) h
 | @dT a kvs ea =>
  cases (show u = Value.ref a from rx)
  obtain ⟨_, _, xs, _, o, es, ep, h1, h2, _⟩ := (show ObjOk X.prog X.w H s.heap a (.dT kvs) from I.hok a _ ea)
  exact PySem.W.kia_one PySem.W.kitx_dict I.kIn ⟨o, h1, h2.1⟩ e (fun z => nomatch z) h
 | @ins a C dx fs ea cl ha hn htk hm =>
  cases (show u = Value.ref a from rx)
  obtain ⟨mA, O, _⟩ := QbF I.hok ea
  obtain ⟨od, J, _⟩ := O.look
  exact PySem.W.kia_one (PySem.W.kitx_own (cl.get _) cl.hd ha hn htk hm) I.kIn J e (fun z => nomatch z) h
end
end L2
namespace L2
open PySem PySem.Spec PyProof.Rows
structure Room (k : Nat) (A : Around) : Prop where
 hd : A.handled = none
 dp : A.depth + 3 * k + 5 < recursionLimit
 un : A.units + 16 * k + 200 < cLine
theorem Room.mono {j k : Nat} {A : Around} (r : Room k A) (h : j ≤ k) : Room j A := ⟨r.hd, by have := r.dp; ac_nf, by have := r.un; ac_nf⟩
theorem Room.deeper {k : Nat} {A : Around} (r : Room (k + 1) A) (env : Env) : Room k (A.deeper env) :=
 ⟨r.hd, by have := r.dp; show A.depth + 1 + 3 * k + 5 < _; ac_nf, by have := r.un; show A.units + 3 + 16 * k + 200 < _; ac_nf⟩
theorem Room.in1 {k : Nat} {A : Around} (r : Room (k + 1) A) : Room k A.in1 :=
 ⟨r.hd, by have := r.dp; show A.depth + 3 * k + 5 < _; ac_nf, by have := r.un; show A.units + 1 + 16 * k + 200 < _; ac_nf⟩
theorem QbH {A : Around} {C : Addr} {us : List Value} {kw : List (Str × Value)} : (A.under (.builtin "type.__call__" ⟨.ref C :: us, kw⟩)).depth = A.depth + 1 := by
 first | rfl | simp [Around.under, Code.weight, Code.isCreation, Code.isGuard, Code.isCaller, Code.frames, Code.isFrame, guardIds]
theorem QbI {A : Around} {C : Addr} {us : List Value} {kw : List (Str × Value)} : (A.under (.builtin "type.__call__" ⟨.ref C :: us, kw⟩)).units = A.units + 1 := by
 first | rfl | simp [Around.under, Code.cUnits, Code.frames, Code.isFrame]
theorem Room.make {k : Nat} {A : Around} (r : Room (k + 1) A) (C : Addr) (us : List Value) (kw : List (Str × Value)) : Room k (A.under (.builtin "type.__call__" ⟨.ref C :: us, kw⟩)) :=
 ⟨r.hd, by have := r.dp; rw [QbH]; ac_nf, by have := r.un; rw [QbI]; ac_nf⟩
theorem Room.depth {k : Nat} {A : Around} (r : Room k A) : A.depth < recursionLimit := by have := r.dp; ac_nf
theorem Room.units {k : Nat} {A : Around} (r : Room k A) : A.units + 64 < cLine := by have := r.un; ac_nf
noncomputable def tNil : TA := fun _ H Q => Q [] H
noncomputable def tCons (ta : TE) (tr : TA) : TA := fun σ H Q => ta σ H fun x H1 => tr σ H1 fun xs H2 => Q (x :: xs) H2
section
variable {X : Cx} {e : Expr} {es : List Expr} {te : TE} {t : TA} {pos : Pos}
theorem QbJ : PA X [] tNil := fun _ _ _ _ H Q I h => Calls.spliced_nil ⟨[], H, I, .nil, h⟩
theorem QbK (ha : PE X e te) (hr : PA X es t) (hs : starEach (e :: es) X.env = (false, eval e X.env) :: starEach es X.env := by rfl) : PA X (e :: es) (tCons te t) := by
 intro pos pins s σ H Q I h
 rw [hs]
 show wpAny _ _ (spliced ((false, eval e X.env) :: backTo pos (starEach es X.env))) _ _ s
 refine Calls.spliced_cons (thn (ha pins s σ H _ I h) fun u s1 pq31 => ?_)
 obtain ⟨x, H1, I1, r1, q1⟩ := pq31
 exact thn (hr pos pins s1 σ H1 _ I1 q1) fun us s2 pq32 => by obtain ⟨xs, H2, I2, r2, q2⟩ := pq32; exact ⟨x :: xs, H2, I2, .cons r1 r2, q2⟩
noncomputable def tTup (t : TA) : TE := fun σ H Q => t σ H fun xs H1 => xs.length ≤ sizeLine ∧ ∀ p, H1 p = none → Q (.ref p) (upd H1 p (.tup xs))
noncomputable def tLst (t : TA) : TE := fun σ H Q => t σ H fun xs H1 => xs.length ≤ sizeLine ∧ ∀ p, H1 p = none → Q (.ref p) (upd H1 p (.lst xs))
theorem QbL {x1} (h : PA X es t) : PE X (.Tuple es x1 pos) (tTup t) := by
 intro pins s σ H Q I hq
 refine wpAny_Tuple_spliced (thn (h pos pins s σ H _ I hq) fun us s1 ⟨xs, H1, I1, r, z, q⟩ => ⟨by rw [← r.length]; exact z, ?_⟩)
 have hf : H1 s1.heap.objs.size = none := I1.hok.fresh (Nat.le_refl _)
 refine ⟨.ref s1.heap.objs.size, upd H1 s1.heap.objs.size (.tup xs), I1.laid (t' := s1.toks) (fun b u e => Heap.get?_push_of_some _ e) (Nat.le_refl _) ?_, rfl, q _ hf⟩
 exact ⟨z, us, r, ⟨_, Heap.get?_push_size _ rfl, rfl, _, rfl⟩⟩
theorem QbM (h : PA X es t) : PE X (.List es pos) (tLst t) := by
 intro pins s σ H Q I hq
 refine wpAny_List_spliced (thn (h pos pins s σ H _ I hq) fun us s1 ⟨xs, H1, I1, r, z, q⟩ => ⟨by rw [← r.length]; exact z, ?_⟩)
 have hf : H1 s1.heap.objs.size = none := I1.hok.fresh (Nat.le_refl _)
 refine ⟨.ref s1.heap.objs.size, upd H1 s1.heap.objs.size (.lst xs), I1.laid (t' := s1.toks) (fun b u e => Heap.get?_push_of_some _ e) (Nat.le_refl _) ?_, rfl, q _ hf⟩
 exact ⟨z, us, 0, r, Heap.get?_push_size _ rfl⟩
end
noncomputable abbrev Sp := List V → Hp → VK → XK → Prop
noncomputable abbrev CXT := List Env → Hp → Shared → XK → Value → Shared → Prop
structure Env0 (P : Program) (w : World) (K : PySem.W.Frag) (mg : Str → Option Value) (base : Heap) (A : Around) (outer : List Env) (s : Shared) (H : Hp) : Prop where
 frames : A.frames = some outer
 mod : Mod K mg base
 bs : ∀ b o, base.get? b = some o → s.heap.get? b = some o ∧ H b = none
 bsz : base.objs.size ≤ s.heap.objs.size
 funs : s.heap.FunFrames base outer
 frf : ∀ b ∈ frs outer, H b = none
 hok : HOk P w H s.heap
 bare : AllBare s.gens
def CE (outer : List Env) (P : Program) (w : World) (H : Hp) (s : Shared) (Q : VK) (u : Value) (s' : Shared) : Prop :=
 ∃ v H', s'.os = s.os ∧ AllBare s'.gens ∧ Un (frs outer) [] H H' s.heap s'.heap ∧ HOk P w H' s'.heap ∧ RelV v u ∧ Q v H'
def CR (CX : CXT) (outer : List Env) (P : Program) (w : World) (H : Hp) (s : Shared) (Q : VK) (E : XK) (r : Result) (s' : Shared) : Prop :=
 match r with
 | .ok (.ret u) => CE outer P w H s Q u s'
 | .ok _ => False
 | .error e => CX outer H s E e s'
structure FnOk (P : Program) (w : World) (K : PySem.W.Frag) (mg : Str → Option Value) (base : Heap) (CX : CXT) (k : Nat) (f : Addr) (fd : FuncData) (ps : List Str) (sp : Sp) : Prop where
 len : ∀ vs H Q E, sp vs H Q E → vs.length = ps.length
 run : ∀ (A : Around) (outer : List Env) (s : Shared) (H : Hp) (args : Args) (us : List Value) (vs : List V) (Q : VK) (E : XK), Room k A → Env0 P w K mg base A outer s H → BindsTo s fd args (ps.zip us) → Vals vs us → sp vs H Q E →
  codeAny (model P w) A (.call (.ref f) args) (CR CX outer P w H s Q E) s
theorem FnOk.mono {P : Program} {w : World} {K : PySem.W.Frag} {mg : Str → Option Value} {base : Heap} {CX : CXT} {j k : Nat} {f : Addr} {fd : FuncData} {ps : List Str} {sp : Sp} (F : FnOk P w K mg base CX j f fd ps sp) (h : j ≤ k) :
  FnOk P w K mg base CX k f fd ps sp := ⟨F.len, fun A outer s H args us vs Q E hr => F.run A outer s H args us vs Q E (hr.mono h)⟩
theorem FnOk.imp {P : Program} {w : World} {K : PySem.W.Frag} {mg : Str → Option Value} {base : Heap} {CX : CXT} {k : Nat} {f : Addr} {fd : FuncData} {ps : List Str} {sp sp' : Sp} (F : FnOk P w K mg base CX k f fd ps sp)
  (h : ∀ vs H Q E, sp' vs H Q E → sp vs H Q E) : FnOk P w K mg base CX k f fd ps sp' :=
 ⟨fun vs H Q E q => F.len vs H Q E (h _ _ _ _ q), fun A outer s H args us vs Q E hr he hb hv hs => F.run A outer s H args us vs Q E hr he hb hv (h _ _ _ _ hs)⟩
theorem Env0.make {P : Program} {w : World} {K : PySem.W.Frag} {mg : Str → Option Value} {base : Heap} {A : Around} {outer : List Env} {s : Shared} {H : Hp} (e : Env0 P w K mg base A outer s H) (C : Addr) (us : List Value) (kw : List (Str × Value)) :
  Env0 P w K mg base (A.under (.builtin "type.__call__" ⟨.ref C :: us, kw⟩)) outer s H := ⟨by first | exact e.frames | (simpa [Around.under, Code.envs, Code.isFrame, pushEnvs] using e.frames), e.mod, e.bs, e.bsz, e.funs, e.frf, e.hok, e.bare⟩
theorem Env0.in1 {P : Program} {w : World} {K : PySem.W.Frag} {mg : Str → Option Value} {base : Heap} {A : Around} {outer : List Env} {s : Shared} {H : Hp} (e : Env0 P w K mg base A outer s H) :
  Env0 P w K mg base A.in1 outer s H := ⟨e.frames, e.mod, e.bs, e.bsz, e.funs, e.frf, e.hok, e.bare⟩
section
variable {X : Cx} {pins : List (Addr × Obj)} {σ : St} {H : Hp} {s s' : Shared}
theorem Inv.env0 (I : Inv X pins σ H s) : Env0 X.prog X.w X.K X.mg X.base X.A X.stack s H :=
 ⟨I.ok.frames, I.ok.mod, I.bs, Nat.le_trans I.ok.bsz I.sz, I.stack, I.stkFree, I.hok, I.bare⟩
theorem Inv.after {Q : VK} {u : Value} (I : Inv X pins σ H s) (h : CE X.stack X.prog X.w H s Q u s') : EP X pins σ Q u s' := by
 obtain ⟨v, H', os, bare, un, hok, r, q⟩ := h
 obtain ⟨hh, g, d, t, os'⟩ := s'
 obtain rfl : os' = s.os := os
 exact ⟨v, H', I.call (h' := hh) (g' := g) (d' := d) (t' := t) (ch := []) un hok bare (fun b z => absurd z (by simp)), r, q⟩
end
noncomputable def tCall (sp : Sp) (dvs : List V) (E : XK) (t : TA) : TE := fun σ H Q => t σ H fun vs H1 => sp (vs ++ dvs) H1 Q E
def Binds (K : PySem.W.Frag) (fd : FuncData) (ps : List Str) (ds : List Value) : Prop :=
 ∀ (s : Shared) (us : List Value), K.In s.heap → (us ++ ds).length = ps.length → BindsTo s fd ⟨us, []⟩ (ps.zip (us ++ ds))
theorem Binds.all {K : PySem.W.Frag} {fd : FuncData} {ps : List Str} (h : ∀ us : List Value, us.length = ps.length → bindArgs fd ⟨us, []⟩ = pure (ps.zip us)) : Binds K fd ps [] := fun s us _ hl => by
 rw [List.append_nil] at hl ⊢
 exact .of_eq (h us hl)
def Passes (CX : CXT) (X : Cx) (E : XK) : Prop := ∀ (pins : List (Addr × Obj)) (σ : St) (H : Hp) (s : Shared) (e : Value) (s' : Shared), Inv X pins σ H s → CX X.stack H s E e s' → X.xe e s'
section
variable {X : Cx} {CX : CXT} {k : Nat} {f C : Addr} {fd : FuncData} {ps : List Str} {sp : Sp} {dvs : List V} {ds : List Value} {E : XK} {x m : Str} {p pos apos : Pos} {e o : Expr} {es : List Expr} {ta : TE} {t : TA}
theorem QbN {pins : List (Addr × Obj)} {σ : St} {H : Hp} {s : Shared} {Q : VK} {us : List Value} {vs : List V} (F : FnOk X.prog X.w X.K X.mg X.base CX k f fd ps sp) (hr : Room k X.A) (hb : Binds X.K fd ps ds) (hd : Vals dvs ds) (hx : Passes CX X E)
  (I : Inv X pins σ H s) (r : Vals vs us) (h : sp (vs ++ dvs) H Q E) : wpAny (model X.prog X.w) X.A (call (.ref f) us) (EP X pins σ Q) X.xe s := by
 have r2 : Vals (vs ++ dvs) (us ++ ds) := r.append hd
 have hl : (us ++ ds).length = ps.length := by rw [← r2.length]; exact F.len _ _ _ _ h
 refine wpAny_call (codeAny_mono (F.run X.A X.stack s H ⟨us, []⟩ (us ++ ds) (vs ++ dvs) Q E hr I.env0 (hb s us I.kIn hl) r2 h) fun r s' hq => ?_)
 cases r with
 | error e => exact hx pins σ H s e s' I hq
 | ok fl =>
  cases fl with
  | ret u => exact I.after hq
  | next => exact False.elim hq
  | brk => exact False.elim hq
  | cont => exact False.elim hq
theorem QbO (F : FnOk X.prog X.w X.K X.mg X.base CX k f fd ps sp) (hr : Room k X.A) (hg : Gl X x) (hm : X.mg x = some (.ref f)) (hk : PySem.W.keepIn X.K (.ref f) = true) (hb : Binds X.K fd ps ds) (hd : Vals dvs ds) (hx : Passes CX X E)
  (ha : PA X (e :: es) t) (hdb : (x == ("__debug__" : Str)) = false := by decide) (he : starEach (e :: es) X.env = (false, eval e X.env) :: starEach es X.env := by rfl) (hpl : (backTo pos (starEach es X.env)).any (·.1) = false := by rfl) :
  PE X (.Call (.Name x p) (e :: es) [] pos) (tCall sp dvs E t) := by
 intro pins s σ H Q I h
 refine wpAny_Call_Name_kw (QaA I hg hm ?_ hdb)
 refine PySem.W.callWith_K (h₀ := X.base) I.ok.mod.kin hk (thn (ha pos pins s σ H _ I h) fun us s1 ⟨vs, H1, I1, r, q⟩ => ⟨I1.kIn, ?_⟩) he hpl
 exact QbN F hr hb hd hx I1 r q
structure Mk (K : PySem.W.Frag) (C f : Addr) : Prop where
 makes : PySem.W.makesIn K C = true
 init : PySem.W.findIn K (.ref C) "__init__" = some (some (.ref f))
 fn : PySem.W.isFn K (.ref f) = true
 kp : PySem.W.keepIn K (.ref C) = true
end
section
variable {X : Cx} {CX : CXT} {k : Nat} {f C : Addr} {fd : FuncData} {ps ks : List Str} {sp : Sp} {E : XK} {x m : Str} {p pos apos kpos : Pos} {e o : Expr} {es : List Expr} {kws : List Keyword} {te ta : TE} {t tk : TA} {nm : Option Str}
structure KBinds (K : PySem.W.Frag) (fd : FuncData) (ps ks : List Str) (g : List Value → List Value → List Value) (gV : List V → List V → List V) : Prop where
 to : ∀ (s : Shared) (us ws : List Value), K.In s.heap → (g us ws).length = ps.length → BindsTo s fd ⟨us, ks.zip ws⟩ (ps.zip (g us ws))
 rel : ∀ {vs : List V} {us : List Value} {zs : List V} {ws : List Value}, Vals vs us → Vals zs ws → Vals (gV vs zs) (g us ws)
variable {g : List Value → List Value → List Value} {gV : List V → List V → List V}
end
structure FnScope (N P : List Str) (sc : Scope) : Prop where
 kind : sc.kind = .function
 co : sc.isCoroutine = false
 gen : sc.isGenerator = false
 nd : N.Nodup
 pre : N.take P.length = P
 par : ∀ x ∈ P, sc.names.lookup x = some .local ∨ sc.names.lookup x = some .cell
 nofree : ∀ y ∈ sc.names, y.2 ≠ .free
theorem QbP {kindOf : Str → Option NameKind} {x : Str} : ∀ {binds : List (Str × Value)} {m : Str → Option Value}, (∀ v, (x, v) ∉ binds) → bindL kindOf binds m x = m x
 | [], _, _ => rfl
 | (n, v) :: r, m, h => by
  unfold bindL
  rw [QbP fun w hw => h w (List.mem_cons_of_mem _ hw)]
  split
  ·have : x ≠ n := by rintro rfl; exact h v List.mem_cons_self
   simp [this]
  ·rfl
theorem QbQ {kindOf : Str → Option NameKind} {x : Str} : ∀ {binds : List (Str × Value)} {m : Str → Option Value}, (∀ v, (x, v) ∉ binds) → bindC kindOf binds m x = m x
 | [], _, _ => rfl
 | (n, v) :: r, m, h => by
  unfold bindC
  rw [QbQ fun w hw => h w (List.mem_cons_of_mem _ hw)]
  split
  ·rfl
  ·have : x ≠ n := by rintro rfl; exact h v List.mem_cons_self
   simp [this]
theorem QbR {kindOf : Str → Option NameKind} {x : Str} {v : Value} : ∀ {P : List Str} {vs : List Value} {i : Nat} {m : Str → Option Value}, P.Nodup → P[i]? = some x → vs[i]? = some v → kindOf x = some .local →
  bindL kindOf (P.zip vs) m x = some v
 | [], _, _, _, _, h, _, _ => by simp at h
 | _ :: _, [], _, _, _, _, h, _ => by simp at h
 | p :: P, w :: vs, 0, m, nd, h1, h2, hk => by
  simp at h1 h2; subst h1; subst h2
  show bindL kindOf ((p, w) :: P.zip vs) m p = _
  unfold bindL
  rw [QbP fun v hv => (List.nodup_cons.mp nd).1 (List.of_mem_zip hv).1, if_pos hk]
  simp
 | p :: P, w :: vs, i + 1, m, nd, h1, h2, hk => by
  show bindL kindOf ((p, w) :: P.zip vs) m x = _
  unfold bindL
  exact QbR (i := i) (List.nodup_cons.mp nd).2 (by simpa using h1) (by simpa using h2) hk
theorem QbS {kindOf : Str → Option NameKind} {x : Str} {v : Value} : ∀ {P : List Str} {vs : List Value} {i : Nat} {m : Str → Option Value}, P.Nodup → P[i]? = some x → vs[i]? = some v → kindOf x ≠ some .local →
  bindC kindOf (P.zip vs) m x = some v
 | [], _, _, _, _, h, _, _ => by simp at h
 | _ :: _, [], _, _, _, _, h, _ => by simp at h
 | p :: P, w :: vs, 0, m, nd, h1, h2, hk => by
  simp at h1 h2; subst h1; subst h2
  show bindC kindOf ((p, w) :: P.zip vs) m p = _
  unfold bindC
  rw [QbQ fun v hv => (List.nodup_cons.mp nd).1 (List.of_mem_zip hv).1, if_neg hk]
  simp
 | p :: P, w :: vs, i + 1, m, nd, h1, h2, hk => by
  show bindC kindOf ((p, w) :: P.zip vs) m x = _
  unfold bindC
  exact QbS (i := i) (List.nodup_cons.mp nd).2 (by simpa using h1) (by simpa using h2) hk
noncomputable def start (N : List Str) (vs : List V) : St := vs.map some ++ List.replicate (N.length - vs.length) none
noncomputable def cxOf (CX : CXT) (P : Program) (w : World) (K : PySem.W.Frag) (mg : Str → Option Value) (base : Heap) (N : List Str) (qual : Str) (scope : Scope) (f : Addr) (cd : Value) (A : Around) (outer : List Env) (s : Shared) (H : Hp) (E : XK) : Cx where
 prog := P
 w := w
 K := K
 mg := mg
 base := base
 A := A.deeper (envOfC qual scope s.heap.objs.size f cd)
 N := N
 s₀ := s
 H₀ := H
 env := envOfC qual scope s.heap.objs.size f cd
 outer := outer
 stack := envOfC qual scope s.heap.objs.size f cd :: outer
 ex := []
 calm := true
 fn := fun _ => true
 pn := []
 xe := fun e s' => wpAny (model P w) (A.deeper (envOfC qual scope s.heap.objs.size f cd)) (leaving (envOfC qual scope s.heap.objs.size f cd) e) (fun _ s'' => CX outer H s E e s'') (fun e' s'' => CX outer H s E e' s'') s'
theorem QbT {sc : Scope} {n : Nat} {x : Str} (h : sc.names.lookup x = some .cell) : ∃ c, (cellsFrom n sc.names []).lookup x = some c := by
 have q := PySem.W.cellsFrom_some sc.names n [] (.inl h)
 exact Option.isSome_iff_exists.mp q
theorem QbU {CX : CXT} {P : Program} {w : World} {K : PySem.W.Frag} {mg : Str → Option Value} {base : Heap} {N ps : List Str} {qual : Str} {scope : Scope} {f : Addr} {cd : Value} {A : Around} {outer : List Env} {s s1 : Shared} {H : Hp} {E : XK} {us : List Value} {vs : List V}
  (S : FnScope N ps scope) (hd : A.handled = none) (e0 : Env0 P w K mg base A outer s H) (hl : vs.length = ps.length) (r : Vals vs us)
  (x : InCallC s s.heap.objs.size (bindL (envOfC qual scope s.heap.objs.size f cd).kindOf (ps.zip us) fun _ => none) (cellsFrom (s.heap.objs.size + 1) scope.names []) (bindC (envOfC qual scope s.heap.objs.size f cd).kindOf (ps.zip us) fun _ => none) s1) :
  Inv (cxOf CX P w K mg base N qual scope f cd A outer s H E) [] (start N vs) H s1 := by
 have hpl : ps.length ≤ N.length := by have := congrArg List.length S.pre; rw [List.length_take] at this; ac_nf
 obtain ⟨h1, tk, rfl, hk⟩ := x.done
 have noA : ∀ b : Addr, b ∉ (cxOf CX P w K mg base N qual scope f cd A outer s H E).ex := fun b z => absurd (show b ∈ ([] : List Addr) from z) (by simp)
 refine ⟨⟨e0.mod, S.kind, rfl, rfl, Nat.le_refl _, fun y z c h1 h2 => ?_, fun y hy => ?_, fun y c _ h => ?_, fun _ => hd, Around.frames_deeper e0.frames, .inr ⟨rfl, rfl⟩, fun b z => absurd z (noA b), e0.bs, e0.bsz, fun b _ _ => noA b, fun b z => absurd z (noA b), e0.funs, e0.frf⟩,
  rfl, e0.bare, Un.kept hk, ⟨_, x.toInCall.ns, fun i y v h1 h2 h3 => ?_⟩, fun y c h => ⟨_, x.cell y c h⟩, e0.hok.fresh (Nat.le_refl _), fun y c h => ?_, fun p hp => absurd (show p ∈ ([] : List (Addr × Obj)) from hp) (by simp), e0.hok.kept hk, ?_⟩
 ·exact name_of_addr x.apart (PySem.mem_of_lookup h1) (PySem.mem_of_lookup h2)
 ·have hy : scope.names.lookup y = some .cell ∨ scope.names.lookup y = some .free := hy
  rcases hy with hy | hy
  ·exact QbT hy
  ·exact absurd rfl (S.nofree _ (PySem.mem_of_lookup hy))
 ·exact Nat.le_of_lt (x.above y c (PySem.mem_of_lookup h))
 ·have hi : i < vs.length := by
    unfold start at h2
    by_cases hi : i < vs.length
    ·exact hi
    ·rw [List.getElem?_append_right (by simpa using hi)] at h2
     rw [List.getElem?_replicate] at h2
     split at h2 <;> cases h2
  have ha : vs[i]? = some v := by
   unfold start at h2
   rw [List.getElem?_append_left (by simpa using hi), List.getElem?_map] at h2
   cases e : vs[i]? with
   | none => rw [e] at h2; cases h2
   | some a => rw [e] at h2; cases h2; rfl
  obtain ⟨u, hu, rv⟩ := r.get ha
  have hp : ps[i]? = some y := by
   rw [← S.pre, List.getElem?_take_of_lt (by ac_nf)]; exact h1
  have ndP : ps.Nodup := by rw [← S.pre]; exact S.nd.sublist (List.take_sublist _ _)
  refine ⟨u, rv, ?_⟩
  rcases S.par y (List.mem_of_getElem? hp) with k | k
  ·exact .inl ⟨k, QbR ndP hp hu k⟩
  ·obtain ⟨c, e⟩ := QbT (n := s.heap.objs.size + 1) k
   refine .inr ⟨.inl k, c, e, ?_⟩
   have q := x.cell y c e
   rw [QbS ndP hp hu (by show scope.names.lookup y ≠ _; rw [k]; decide)] at q
   exact q
 ·exact e0.hok.fresh (Nat.le_of_lt (x.above y c (PySem.mem_of_lookup h)))
 ·unfold start
  show _ = N.length
  rw [List.length_append, List.length_map, List.length_replicate]
  ac_nf
theorem QbV {CX : CXT} {P : Program} {w : World} {K : PySem.W.Frag} {mg : Str → Option Value} {base : Heap} {k : Nat} {f : Addr} {name qual : Str} {params : Arguments} {body : List Stmt} {scope : Scope} {dV kV doc pm cdv ct oc : Value} {an od : Option Addr}
  {osl : Array (Option Value)} {N ps : List Str} {sp : Sp} (lk : K.lookup f = some ⟨oc, od, .func (PySem.W.fnOf name qual params body scope dV kV doc pm an cdv ct), osl⟩) (hcd : PySem.W.codeIn K cdv qual = true) (S : FnScope N ps scope)
  (len : ∀ vs H Q E, sp vs H Q E → vs.length = ps.length)
  (hbody : ∀ (A : Around) (outer : List Env) (s : Shared) (H : Hp) (vs : List V) (Q : VK) (E : XK), Room k (A.deeper (envOfC qual scope s.heap.objs.size f cdv)) → sp vs H Q E →
   ∃ t, PSs (cxOf CX P w K mg base N qual scope f cdv A outer s H E) body t ∧ t { nx := fun _ H' => Q .non H', rt := Q } (start N vs) H) :
  FnOk P w K mg base CX (k + 1) f (PySem.W.fnOf name qual params body scope dV kV doc pm an cdv ct) ps sp := by
 refine ⟨len, fun A outer s H args us vs Q E hr e0 hb r hsp => ?_⟩
 have hl := len _ _ _ _ hsp
 have KX : K.In s.heap := e0.mod.kin.keeps fun b o e => (e0.bs b o e).1
 have lim : s.heap.NoLimit := e0.mod.nolimit.keeps fun b o e => (e0.bs b o e).1
 have hkind : ∀ y ∈ ps.zip us, scope.names.lookup y.1 = some .local ∨ (scope.names.lookup y.1 = some .cell ∧ ((cellsFrom (s.heap.objs.size + 1) scope.names []).lookup y.1).isSome = true) := fun pq36 hy => by
  obtain ⟨n, v⟩ := pq36
  rcases S.par n (List.of_mem_zip hy).1 with q | q
  ·exact .inl q
  ·exact .inr ⟨q, PySem.W.cellsFrom_some _ _ _ (.inl q)⟩
 refine codeAny_call_function hr.depth (KX _ _ lk) rfl S.co S.gen rfl (PySem.W.codeRec_of KX hcd) (hb _ _ _ _ ?_)
 refine wpAny_newFunctionEnv_cells S.kind hkind fun env he s1 x => ?_
 subst he
 refine ⟨lim.keeps x.toInCall.keep, codeAny_func ?_⟩
 obtain ⟨t, ht, hq⟩ := hbody A outer s H vs Q E (hr.deeper _) hsp
 have I : Inv (cxOf CX P w K mg base N qual scope f cdv A outer s H E) [] (start N vs) H s1 := QbU S hr.hd e0 hl r x
 refine wpAny_mono (ht [] s1 (start N vs) H _ I hq) (fun fl s' hs => ?_) fun e s' hs => hs
 have fin : ∀ {σ' : St} {H' : Hp} {v : V} {u : Value}, Inv (cxOf CX P w K mg base N qual scope f cdv A outer s H E) [] σ' H' s' → RelV v u → Q v H' → CE outer P w H s Q u s' :=
  fun {σ' H' v u} J rv q => ⟨v, H', J.os, J.bare, J.base, J.hok, rv, q⟩
 cases fl with
 | ret u =>
  obtain ⟨v, σ', H', J, rv, q⟩ := hs
  exact fin J rv q
 | next =>
  obtain ⟨σ', H', J, q⟩ := hs
  exact fin (v := V.non) (u := Value.none) J rfl q
 | brk =>
  obtain ⟨_, _, _, q⟩ := hs
  exact False.elim q
 | cont =>
  obtain ⟨_, _, _, q⟩ := hs
  exact False.elim q
end L2
namespace L2
open PySem PySem.Spec PyProof.Rows
section
variable {X : Cx} {x : Str} {p pos : Pos} {e : Expr} {es : List Expr} {t : TA} {id T : String} {r : List V → Hp → VK → Prop}
noncomputable def tCB (r : List V → Hp → VK → Prop) (t : TA) : TE := fun σ H Q => t σ H fun vs H1 => r vs H1 Q
theorem QbW (hc : CallR X (.builtin id) r) (hg : Gl X x) (hm : X.mg x = none) (hv : bootBuiltins x = some (.builtin id)) (ha : PA X (e :: es) t) (hn : x ≠ "__name__" := by decide) (hdb : (x == ("__debug__" : Str)) = false := by decide)
  (he : starEach (e :: es) X.env = (false, eval e X.env) :: starEach es X.env := by rfl) (hpl : (backTo pos (starEach es X.env)).any (·.1) = false := by rfl) : PE X (.Call (.Name x p) (e :: es) [] pos) (tCB r t) := by
 intro pins s σ H Q I h
 refine wpAny_Call_Name_kw (QaB I hg hm hv ?_ hn hdb)
 exact PyProof.Rows.callWith_builtin1 (thn (ha pos pins s σ H _ I h) fun us s1 pq37 => by obtain ⟨vs, H1, I1, r1, q1⟩ := pq37; exact hc pins s1 σ H1 vs us Q I1 r1 q1) he hpl
theorem QbX (hc : CallR X (.type T) r) (hg : Gl X x) (hm : X.mg x = none) (hv : bootBuiltins x = some (.type T)) (ha : PA X (e :: es) t) (hn : x ≠ "__name__" := by decide) (hdb : (x == ("__debug__" : Str)) = false := by decide)
  (he : starEach (e :: es) X.env = (false, eval e X.env) :: starEach es X.env := by rfl) (hpl : (backTo pos (starEach es X.env)).any (·.1) = false := by rfl) : PE X (.Call (.Name x p) (e :: es) [] pos) (tCB r t) := by
 intro pins s σ H Q I h
 refine wpAny_Call_Name_kw (QaB I hg hm hv ?_ hn hdb)
 exact PyProof.Rows.callWith_type1 (thn (ha pos pins s σ H _ I h) fun us s1 pq38 => by obtain ⟨vs, H1, I1, r1, q1⟩ := pq38; exact hc pins s1 σ H1 vs us Q I1 r1 q1) he hpl
end
end L2
namespace HT
open PySem PyProof.Rows
section
open PySem.SeqAt
open PySem.AutoSeq1 (wpAny_loadPart')
open PySem.MeetsSeq PySem.MeetsSeq2 PySem.MeetsSeq3
end
section
variable {prog : Program} {w : World} {A : Around} {E : Value → Shared → Prop} {s : Shared}
theorem cat_tup {t b : Addr} {vs ws : List Value} {Q : Value → Shared → Prop} (ht : IsTup s.heap t vs.toArray) (hb : IsTup s.heap b ws.toArray) (hv : vs ≠ [])
  (h1 : ws = [] → Q (.ref t) s) (h2 : ws ≠ [] → Q (.ref s.heap.objs.size) { s with heap := s.heap.push { cls := .type "tuple", data := .seq (vs ++ ws).toArray } })
  (hsz : vs.length + ws.length ≤ sizeLine) : wpAny (model prog w) A (binaryOp .Add (.ref t) (.ref b)) Q E s := by
 obtain ⟨⟨cls, dd, data, sl⟩, ho, hc, n, hd⟩ := id ht
 obtain ⟨⟨cls2, dd2, data2, sl2⟩, ho2, hc2, n2, hd2⟩ := id hb
 simp only at hc hd hc2 hd2
 subst hc hd hc2 hd2
 have e : vs.toArray ++ ws.toArray = (vs ++ ws).toArray := by simp
 by_cases hw : ws = []
 ·exact concat_meets ⟨_, ho, rfl⟩ ⟨_, ho2, rfl⟩ noFill_tuple_add seq_tuple_add PySem.F.slot_tuple_add PySem.F.entry_tuple_add (PySem.F.args_tuple_add_2 _ _)
    (tuple_addW1 t b vs.toArray ws.toArray n n2 dd dd2 sl sl2 (by simpa using hv) (by simp [hw])) ⟨ho, ho2, h1 hw⟩
 ·refine concat_meets ⟨_, ho, rfl⟩ ⟨_, ho2, rfl⟩ noFill_tuple_add seq_tuple_add PySem.F.slot_tuple_add PySem.F.entry_tuple_add (PySem.F.args_tuple_add_2 _ _)
    (tuple_addW2 t b vs.toArray ws.toArray n n2 dd dd2 sl sl2 (by simpa using hv) (by simpa using hw) (by rw [List.size_toArray, List.size_toArray]; exact hsz)) ⟨ho, ho2, ?_⟩
  rw [e]
  exact h2 hw
noncomputable def sIx (n d : Nat) : Option Int → Nat
 | none => d
 | some v => if v < 0 then (v + (n : Int)).toNat else min v.toNat n
theorem QbY (n d : Nat) (hd : d ≤ n) (o : Option Int) : sIx n d o ≤ n := by
 cases o with
 | none => exact hd
 | some v =>
  show (if v < 0 then (v + (n : Int)).toNat else min v.toNat n) ≤ n
  by_cases hv : v < 0
  ·rw [if_pos hv]; ac_nf
  ·rw [if_neg hv]; exact Nat.min_le_right _ _
theorem QbZ (v : Int) (n d : Nat) : (if v < 0 then max (v + (n : Int)) 0 else min v (n : Int)) = ((sIx n d (some v) : Nat) : Int) := by
 show (if v < 0 then max (v + (n : Int)) 0 else min v (n : Int)) = (((if v < 0 then (v + (n : Int)).toNat else min v.toNat n) : Nat) : Int)
 by_cases hv : v < 0
 ·simp only [if_pos hv]; ac_nf
 ·simp only [if_neg hv]; ac_nf
theorem Qb0 (lo hi : Option Int) (n : Nat) : Builtin.Slice.sliceAdjust lo hi 1 (n : Int) = (((sIx n 0 lo : Nat) : Int), ((sIx n n hi : Nat) : Int)) := by
 have h1 : ¬ ((1 : Int) < 0) := by ac_nf
 unfold Builtin.Slice.sliceAdjust
 simp only [h1, if_false]
 refine Prod.ext ?_ ?_
 ·cases lo with
  | none => rfl
  | some v => exact QbZ v n 0
 ·cases hi with
  | none => rfl
  | some v => exact QbZ v n n
theorem Qb1 (i j : Nat) : Builtin.Slice.slicePlaces (i : Int) (j : Int) 1 = j - i := by
 unfold Builtin.Slice.slicePlaces
 have h1 : (1 : Int) > 0 := by ac_nf
 simp only [h1, if_true, Int.ediv_one]
 split <;> ac_nf
theorem Qb2 {v : Value} {o : Option Int} {Q : Option Int → Shared → Prop} (p : IsPart v o) (h : Q o s) : wpAny (model prog w) A (Builtin.Slice.slicePartIndex v) Q E s := by
 cases p with
 | none => exact slicePart_none h
 | int i t => exact slicePart_int h
theorem Qb3 {sl : Addr} {vl vu : Value} {lo hi : Option Int} {n : Nat} {Q : Int × Int × Nat → Shared → Prop} (hs : s.heap.IsSliceOf sl vl vu .none) (pl : IsPart vl lo) (pu : IsPart vu hi)
  (h : Q (((sIx n 0 lo : Nat) : Int), 1, sIx n n hi - sIx n 0 lo) s) : wpAny (model prog w) A (Builtin.Slice.sliceApplied (.ref sl) (pure (n : Int))) Q E s := by
 obtain ⟨os, hos, hcs, hds⟩ := id hs
 unfold Builtin.Slice.sliceApplied Builtin.Slice.sliceFields
 refine wpAny_bind (wpAny_bind (wpAny_field hos hds (x := vl) rfl (wpAny_bind (wpAny_field hos hds (x := vu) rfl (wpAny_bind (wpAny_field hos hds (x := .none) rfl (wpAny_pure ?_)))))))
 refine wpAny_bind (slicePart_none ?_)
 show wpAny _ _ (if ((1 : Int) == 0) = true then _ else _) _ _ s
 rw [if_neg (by decide)]
 refine wpAny_bind (Qb2 pl (wpAny_bind (Qb2 pu (wpAny_bind (wpAny_pure ?_)))))
 show wpAny _ _ (match Builtin.Slice.sliceAdjust lo hi 1 (n : Int) with | (lo, hi) => pure (lo, (1 : Int), Builtin.Slice.slicePlaces lo hi 1)) _ _ s
 rw [Qb0 lo hi n]
 show wpAny _ _ (pure (((sIx n 0 lo : Nat) : Int), (1 : Int), Builtin.Slice.slicePlaces ((sIx n 0 lo : Nat) : Int) ((sIx n n hi : Nat) : Int) 1)) _ _ s
 rw [Qb1]
 exact wpAny_pure h
theorem Qb4 (xs : Array Value) (i k : Nat) : ((List.range k).filterMap fun (m : Nat) => xs[((i : Int) + (m : Int) * 1).toNat]?).toArray = ((xs.toList.drop i).take k).toArray := by
 have e : (fun (m : Nat) => xs[((i : Int) + (m : Int) * 1).toNat]?) = fun m => xs[i + m]? := by
  funext m
  have : ((i : Int) + (m : Int) * 1).toNat = i + m := by ac_nf
  rw [this]
 rw [e]
 have := pick_run xs i k
 rw [List.filterMap_map] at this
 have e2 : ((fun x => xs[x]?) ∘ fun x => i + x) = fun m => xs[i + m]? := rfl
 rw [e2] at this
 rw [this]
theorem getItem_tuple_cut {t sl : Addr} {items : Array Value} {vl vu : Value} {lo hi : Option Int} {Q : Value → Shared → Prop} (ht : IsTup s.heap t items) (hs : s.heap.IsSliceOf sl vl vu .none) (pl : IsPart vl lo) (pu : IsPart vu hi)
  (hw : ¬ (sIx items.size 0 lo = 0 ∧ sIx items.size items.size hi = items.size))
  (h : Q (.ref s.heap.objs.size) { s with heap := s.heap.push { cls := .type "tuple", data := .seq ((items.toList.drop (sIx items.size 0 lo)).take (sIx items.size items.size hi - sIx items.size 0 lo)).toArray } })
  (hsz : items.size ≤ sizeLine) : wpAny (model prog w) A (getItem (.ref t) (.ref sl)) Q E s := by
 have htake : sizeOk (.seq ((items.toList.drop (sIx items.size 0 lo)).take (sIx items.size items.size hi - sIx items.size 0 lo)).toArray) := by
  show ((items.toList.drop (sIx items.size 0 lo)).take (sIx items.size items.size hi - sIx items.size 0 lo)).toArray.size ≤ sizeLine
  rw [List.size_toArray, List.length_take, List.length_drop, Array.length_toList]
  ac_nf
 have hj : sIx items.size items.size hi ≤ items.size := QbY _ _ (Nat.le_refl _) hi
 obtain ⟨os, hos, hcs, hds⟩ := id hs
 have hTs : s.TypeIs (.ref sl) "slice" := ⟨os, hos, hcs⟩
 unfold getItem
 try with_reducible refine wpAny_holding ?_
 first | refine wpAny_bind (wpAny_pure ?_) | skip
 refine wpAny_bind (wpAny_sequenceKey ht.typeIs (by decide) ?_)
 refine wpAny_bind (wpAny_callSpecial?_slot (name := Str.ofString "__getitem__") ht.typeIs PyProof.Rows.slot_tuple_getitem
  (wpAny_call_entry PyProof.Rows.slot_tuple_getitem ht.typeIs entry_tuple_getitem ?_ (args_tuple_getitem _ _)))
 show wpAny _ _ (Builtin.Tuple.tupleItemsOf (.ref t) >>= _) _ _ s
 refine wpAny_bind (tupleItemsOf_ ht ?_)
 refine wpAny_bind (wpAny_typeOf hTs ?_)
 rw [if_pos (by decide)]
 refine wpAny_bind (Qb3 hs pl pu ?_)
 have hno : ¬ ((((sIx items.size 0 lo : Nat) : Int) == 0 && (1 : Int) == 1 && (sIx items.size items.size hi - sIx items.size 0 lo) == items.size) = true) := by
  intro q
  rw [Bool.and_eq_true, Bool.and_eq_true] at q
  have q1 : ((sIx items.size 0 lo : Nat) : Int) = 0 := eq_of_beq q.1.1
  have q2 : sIx items.size items.size hi - sIx items.size 0 lo = items.size := eq_of_beq q.2
  exact hw ⟨by ac_nf, by ac_nf⟩
 show wpAny _ _ (if (((sIx items.size 0 lo : Nat) : Int) == 0 && (1 : Int) == 1 && (sIx items.size items.size hi - sIx items.size 0 lo) == items.size) = true then _ else _) _ _ s
 rw [if_neg hno, Qb4]
 first
  | exact wpAny_bind (m := Builtin.Tuple.tupleExact _) (wpAny_newObj_type (wpAny_pure ⟨_, rfl, wpAny_pure h⟩) htake)
  | exact wpAny_bind (m := Builtin.Tuple.tupleExact _) (wpAny_newObj_type (wpAny_bind (wpAny_pure (wpAny_pure ⟨_, rfl, wpAny_pure h⟩))) htake)
  | exact wpAny_bind (wpAny_bind (m := Builtin.Tuple.tupleExact _) (wpAny_newObj_type (wpAny_pure (wpAny_pure ⟨_, rfl, wpAny_pure h⟩)) htake))
  | exact wpAny_bind (wpAny_bind (m := Builtin.Tuple.tupleExact _) (wpAny_newObj_type (wpAny_pure ⟨_, rfl, wpAny_pure h⟩) htake))
end
end HT
namespace L2
open PySem PySem.Spec PyProof.Rows
noncomputable abbrev TO := St → Hp → (Option Int → Hp → Prop) → Prop
def PO (X : Cx) (e : Option Expr) (t : TO) : Prop :=
 ∀ (pins : List (Addr × Obj)) (s : Shared) (σ : St) (H : Hp) (Q : Option Int → Hp → Prop), Inv X pins σ H s → t σ H Q →
  wpAny (model X.prog X.w) X.A (evalPart e X.env) (fun u s' => ∃ o H', Inv X pins σ H' s' ∧ IsPart u o ∧ Q o H') X.xe s
noncomputable def tNoPart : TO := fun _ H Q => Q none H
noncomputable def tPart (t : TE) : TO := fun σ H Q => t σ H fun x H1 => ∃ i, x = .int i ∧ Q (some i) H1
theorem Qb5 {ns : List Int} : ∀ {us : List Value}, Vals (ns.map V.int) us → IntsAre us ns := by
 induction ns with
 | nil => intro us r; rw [List.map_nil] at r; cases r; exact .nil
 | cons n ns ih =>
  intro us r
  rw [List.map_cons] at r
  cases r with
  | cons r1 r2 =>
   obtain ⟨t, e⟩ := r1
   subst e
   exact .cons n t (ih r2)
section
variable {X : Cx} {e : Expr} {te : TE} {lo hi : Option Expr} {tl th : TO} {pos p2 : Pos}
theorem Qb6 : PO X none tNoPart := by
 intro pins s σ H Q I h
 rw [evalPart_none]
 exact wpAny_pure ⟨none, H, I, .none, h⟩
theorem Qb7 (h : PE X e te) : PO X (some e) (tPart te) := by
 intro pins s σ H Q I hw
 rw [evalPart_some]
 refine thn (h pins s σ H _ I hw) fun u s1 pq39 => ?_
 obtain ⟨x, H1, I1, r1, q1⟩ := pq39
 obtain ⟨i, rfl, q⟩ := q1
 obtain ⟨t, rfl⟩ := r1
 exact ⟨some i, H1, I1, .int i t, q⟩
def SlR (X : Cx) (r : V → Option Int → Option Int → Hp → VK → Prop) : Prop :=
 ∀ (pins : List (Addr × Obj)) (s : Shared) (σ : St) (H : Hp) (x : V) (v vl vu : Value) (lo hi : Option Int) (sl : Addr) (Q : VK), Inv X pins σ H s → RelV x v → s.heap.IsSliceOf sl vl vu .none → IsPart vl lo → IsPart vu hi → r x lo hi H Q →
  ∃ T id, typeLookup (.type T) "__getitem__" = pure (some (.builtin id)) ∧ s.TypeIs v T ∧ wpAny (model X.prog X.w) X.A (getItem v (.ref sl)) (EP X pins σ Q) X.xe s
theorem SlR.or {r r' : V → Option Int → Option Int → Hp → VK → Prop} (h : SlR X r) (h' : SlR X r') : SlR X (fun x lo hi H Q => r x lo hi H Q ∨ r' x lo hi H Q) := by
 intro pins s σ H x v vl vu lo hi sl Q I rx hs pl pu q
 rcases q with q | q
 ·exact h pins s σ H x v vl vu lo hi sl Q I rx hs pl pu q
 ·exact h' pins s σ H x v vl vu lo hi sl Q I rx hs pl pu q
noncomputable def tSl (r : V → Option Int → Option Int → Hp → VK → Prop) (te : TE) (tl th : TO) : TE := fun σ H Q => te σ H fun x H1 => tl σ H1 fun l H2 => th σ H2 fun u H3 => r x l u H3 Q
theorem Qb8 {r : V → Option Int → Option Int → Hp → VK → Prop} (hr : SlR X r) (he : PE X e te) (hl : PO X lo tl) (hu : PO X hi th) : PE X (.Subscript e (.Slice lo hi none p2) pos) (tSl r te tl th) := by
 intro pins s σ H Q I h
 refine Subscript_ (thn (he pins s σ H _ I h) fun v s1 pq40 => ?_)
 obtain ⟨x, H1, I1, r1, q1⟩ := pq40
 refine wpAny_Slice (thn (hl pins s1 σ H1 _ I1 q1) fun vl s2 ⟨l, H2, I2, pl, q2⟩ => thn (hu pins s2 σ H2 _ I2 q2) fun vu s3 pq42 => ?_)
 obtain ⟨u, H3, I3, pu, q3⟩ := pq42
 rw [evalPart_none]
 refine wpAny_pure ?_
 have I4 : Inv X pins σ H3 { s3 with heap := s3.heap.push { cls := .type "slice", data := .fields #[vl, vu, .none] } } := I3.kept (t' := s3.toks) fun b ob q => Heap.get?_push_of_some _ q
 obtain ⟨T, id, hT, ht, hg⟩ := hr pins { s3 with heap := s3.heap.push { cls := .type "slice", data := .fields #[vl, vu, .none] } } σ H3 x v vl vu l u s3.heap.objs.size Q I4 r1 (Heap.IsSliceOf.new ..) pl pu q3
 show wpAny (model X.prog X.w) X.A (subscriptTail e (.Slice lo hi none p2) v (.ref s3.heap.objs.size)) (EP X pins σ Q) X.xe { s3 with heap := s3.heap.push { cls := .type "slice", data := .fields #[vl, vu, .none] } }
 exact tail_any (ops := [.ref s3.heap.objs.size, v]) ht hT hg (by with_unfolding_all rfl)
noncomputable def cutV (xs : List V) (lo hi : Option Int) : List V := (xs.drop (HT.sIx xs.length 0 lo)).take (HT.sIx xs.length xs.length hi - HT.sIx xs.length 0 lo)
theorem Qb9 (xs : List V) (lo hi : Option Int) : (cutV xs lo hi).length ≤ xs.length := by
 unfold cutV
 rw [List.length_take, List.length_drop]
 ac_nf
noncomputable def rSlT (K : PySem.W.Frag) : V → Option Int → Option Int → Hp → VK → Prop := fun x lo hi H Q => ∃ a xs, x = .ref a ∧ SqT K H a xs ∧
 ¬ (HT.sIx xs.length 0 lo = 0 ∧ HT.sIx xs.length xs.length hi = xs.length) ∧ ∀ p, H p = none → Q (.ref p) (upd H p (.tup (cutV xs lo hi)))
theorem Qca : SlR X (rSlT X.K) := by
 intro pins s σ H x v vl vu lo hi sl Q I rx hs pl pu h
 obtain ⟨a, xs, rfl, hx, hw, q⟩ := h
 cases rx
 obtain ⟨its, r, ht, hz⟩ := I.tuple hx
 have hlen : its.toArray.size = xs.length := by rw [List.size_toArray]; exact r.length.symm
 refine ⟨"tuple", _, PyProof.Rows.slot_tuple_getitem.lookup, ht.typeIs, ?_⟩
 refine HT.getItem_tuple_cut ht hs pl pu (by rw [hlen]; exact hw) ?_ (by rw [hlen]; exact hz)
 rw [hlen]
 refine ⟨.ref s.heap.objs.size, _, I.laid (t' := s.toks) (o := .tup (cutV xs lo hi)) (fun b ob q => Heap.get?_push_of_some _ q) (Nat.le_refl _) ?_, rfl, q _ (I.hok.fresh (Nat.le_refl _))⟩
 exact ⟨Nat.le_trans (Qb9 xs lo hi) hz, _, (r.drop (HT.sIx xs.length 0 lo)).take (HT.sIx xs.length xs.length hi - HT.sIx xs.length 0 lo), IsTup.new _ _⟩
noncomputable def rCatT (K : PySem.W.Frag) : R2 := fun x y H Q => ∃ a b xs ys, x = .ref a ∧ y = .ref b ∧ SqT K H a xs ∧ SqT K H b ys ∧ xs ≠ [] ∧ xs.length + ys.length ≤ sizeLine ∧
 (ys = [] → Q (.ref a) H) ∧ (ys ≠ [] → ∀ p, H p = none → Q (.ref p) (upd H p (.tup (xs ++ ys))))
theorem Vals.nil_iff {xs : List V} {us : List Value} (r : Vals xs us) : us = [] ↔ xs = [] := by
 cases r with
 | nil => simp
 | cons _ _ => simp
theorem Qcb : OpR X (binaryOp .Add) (rCatT X.K) := by
 intro pins s σ H x y v u Q I rx ry h
 obtain ⟨a, b, xs, ys, rfl, rfl, ha, hb, hx, hz, q1, q2⟩ := h
 cases rx
 cases ry
 obtain ⟨its, r1, p1, _⟩ := I.tuple ha
 obtain ⟨its2, r2, p2, _⟩ := I.tuple hb
 refine HT.cat_tup p1 p2 (fun z => hx (r1.nil_iff.mp z)) (fun z => ⟨.ref a, H, I, rfl, q1 (r2.nil_iff.mp z)⟩) (fun z => ?_) (by rw [← r1.length, ← r2.length]; exact hz)
 refine ⟨.ref s.heap.objs.size, _, I.laid (t' := s.toks) (o := .tup (xs ++ ys)) (fun b ob q => Heap.get?_push_of_some _ q) (Nat.le_refl _) ?_, rfl, q2 (fun w => z (r2.nil_iff.mpr w)) _ (I.hok.fresh (Nat.le_refl _))⟩
 exact ⟨by rw [List.length_append]; exact hz, _, r1.append r2, IsTup.new _ _⟩
end
end L2
namespace L2
open PySem PySem.Spec PyProof.Rows
noncomputable def ixN (n : Nat) (i : Int) : Option Nat := if 0 ≤ i then (if i < n then some i.toNat else none) else if -(n : Int) ≤ i then some (i + n).toNat else none
noncomputable def atI {α : Type} (xs : List α) (i : Int) : Option α := (ixN xs.length i).bind fun j => xs[j]?
theorem Qcc {n : Nat} {i : Int} {j : Nat} (h : ixN n i = some j) : seqIndex? i n = some j ∧ j < n ∧ -(n : Int) ≤ i ∧ i < n := by
 unfold ixN at h
 by_cases h0 : 0 ≤ i
 ·rw [if_pos h0] at h
  by_cases h1 : i < n
  ·rw [if_pos h1] at h
   have e : i.toNat = j := Option.some.inj h
   exact ⟨by rw [seqIndex_of h0 h1, e], by ac_nf, by ac_nf, h1⟩
  ·rw [if_neg h1] at h; cases h
 ·rw [if_neg h0] at h
  by_cases h1 : -(n : Int) ≤ i
  ·rw [if_pos h1] at h
   have e : (i + n).toNat = j := Option.some.inj h
   exact ⟨by rw [seqIndex_neg (by ac_nf) h1, e], by ac_nf, h1, by ac_nf⟩
  ·rw [if_neg h1] at h; cases h
theorem Qcd {α : Type} {xs : List α} {i : Int} {v : α} (h : atI xs i = some v) : ∃ j, seqIndex? i xs.length = some j ∧ xs[j]? = some v ∧ j < xs.length ∧ -(xs.length : Int) ≤ i ∧ i < xs.length := by
 unfold atI at h
 cases e : ixN xs.length i with
 | none => rw [e] at h; cases h
 | some j =>
  rw [e] at h
  obtain ⟨h1, h2, h3, h4⟩ := Qcc e
  exact ⟨j, h1, h, h2, h3, h4⟩
def PlainIx (b : Expr) : Prop := ∀ o i, subscripted b false o i = operate [o, i] (getItem o i)
def IxR (X : Cx) (r : R2) : Prop :=
 ∀ (value slice : Expr) (pins : List (Addr × Obj)) (s : Shared) (σ : St) (H : Hp) (x y : V) (v u : Value) (Q : VK), Inv X pins σ H s → RelV x v → RelV y u → r x y H Q →
  subscripted slice false v u = operate [v, u] (getItem v u) → wpAny (model X.prog X.w) X.A (subscriptTail value slice v u) (EP X pins σ Q) X.xe s
def MtR (X : Cx) (id : String) (r : V → List V → Hp → VK → Prop) : Prop :=
 ∀ (pins : List (Addr × Obj)) (s : Shared) (σ : St) (H : Hp) (x : V) (xs : List V) (v : Value) (us : List Value) (Q : VK), Inv X pins σ H s → RelV x v → Vals xs us → r x xs H Q →
  wpAny (model X.prog X.w) X.A (call (.builtin id) (v :: us)) (EP X pins σ Q) X.xe s
section
variable {X : Cx} {a b : Expr} {ta tb : TE} {pos : Pos}
theorem IxR.or {r r' : R2} (h : IxR X r) (h' : IxR X r') : IxR X (fun x y H Q => r x y H Q ∨ r' x y H Q) := by
 intro value slice pins s σ H x y v u Q I rx ry q hs
 rcases q with q | q
 ·exact h value slice pins s σ H x y v u Q I rx ry q hs
 ·exact h' value slice pins s σ H x y v u Q I rx ry q hs
theorem MtR.or {id : String} {r r' : V → List V → Hp → VK → Prop} (h : MtR X id r) (h' : MtR X id r') : MtR X id (fun x xs H Q => r x xs H Q ∨ r' x xs H Q) := by
 intro pins s σ H x xs v us Q I rx rs q
 rcases q with q | q
 ·exact h pins s σ H x xs v us Q I rx rs q
 ·exact h' pins s σ H x xs v us Q I rx rs q
theorem Qce {r : R2} (hr : IxR X r) (ha : PE X a ta) (hb : PE X b tb) (hs : PlainIx b) : PE X (.Subscript a b pos) (tOp r ta tb) := by
 intro pins s σ H Q I h
 exact Subscript_ (binT ha hb I h fun v u s2 x y H2 I2 rx ry q => hr a b pins s2 σ H2 x y v u Q I2 rx ry q (hs _ _))
noncomputable def rIxL (K : PySem.W.Frag) : R2 := fun x y H Q => ∃ p xs i v, x = .ref p ∧ y = .int i ∧ SqL K H p xs ∧ atI xs i = some v ∧ Q v H
noncomputable def rIxT (K : PySem.W.Frag) : R2 := fun x y H Q => ∃ p xs i v, x = .ref p ∧ y = .int i ∧ SqT K H p xs ∧ atI xs i = some v ∧ Q v H
noncomputable def rIxS : R2 := fun x y H Q => ∃ z i c, x = .str z ∧ y = .int i ∧ z.length ≤ sizeLine ∧ atI z.cps.toList i = some c ∧ Q (.str ⟨#[c]⟩) H
theorem Qcf : IxR X (rIxL X.K) := by
 intro value slice pins s σ H x y v u Q I rx ry h hs
 obtain ⟨p, xs, i, z, rfl, rfl, hq, he, q⟩ := h
 cases rx
 obtain ⟨t, rfl⟩ := ry
 obtain ⟨its, r, pl, hz⟩ := I.list hq
 obtain ⟨j, h1, h2, h3, h4, h5⟩ := Qcd he
 obtain ⟨w, ew, rw'⟩ := r.get h2
 have hl := r.length
 have hn := Qbw
 have fin : EP X pins σ Q w s := ⟨z, H, I, rw', q⟩
 by_cases h0 : 0 ≤ i
 ·have hj : i.toNat = j := by
    rw [seqIndex_of h0 h5] at h1
    exact Option.some.inj h1
  exact item_listR pl.isList h0 (by ac_nf) (by rw [hj]; simpa using ew) fin hs
 ·have hj : (i + (its.toArray.size : Int)).toNat = j := by
    rw [seqIndex_neg (by ac_nf) h4] at h1
    rw [List.size_toArray, ← hl]
    exact Option.some.inj h1
  exact subscriptTail_builtinR (x := w) pl.isList.typeIs slot_list_getitem.lookup
   (wpAny_getItem_list_neg (Q := fun r s' => r = w ∧ EP X pins σ Q r s') pl.isList (by ac_nf) (by rw [List.size_toArray] <;> ac_nf) (by ac_nf) (by rw [hj]; simpa using ew) ⟨rfl, fin⟩) hs
theorem Qcg : IxR X (rIxT X.K) := by
 intro value slice pins s σ H x y v u Q I rx ry h hs
 obtain ⟨p, xs, i, z, rfl, rfl, hq, he, q⟩ := h
 cases rx
 obtain ⟨t, rfl⟩ := ry
 obtain ⟨its, r, pl, hz⟩ := I.tuple hq
 obtain ⟨j, h1, h2, h3, h4, h5⟩ := Qcd he
 obtain ⟨w, ew, rw'⟩ := r.get h2
 have hl := r.length
 have hn := Qbw
 have fin : EP X pins σ Q w s := ⟨z, H, I, rw', q⟩
 exact subscriptTail_builtinR (x := w) pl.typeIs slot_tuple_getitem.lookup
  (getItem_tuple (j := j) (Q := fun r s' => r = w ∧ EP X pins σ Q r s') pl (by ac_nf) (by ac_nf) (by rw [List.size_toArray, ← hl]; exact h1) (by simpa using ew) ⟨rfl, fin⟩) hs
theorem Qch : IxR X rIxS := by
 intro value slice pins s σ H x y v u Q I rx ry h hs
 obtain ⟨z, i, c, rfl, rfl, hz, he, q⟩ := h
 obtain ⟨t, rfl⟩ := rx
 obtain ⟨t', rfl⟩ := ry
 obtain ⟨j, h1, h2, h3, h4, h5⟩ := Qcd he
 have hl : z.cps.toList.length = z.length := by simp [Str.length]
 rw [hl] at h1 h4 h5
 have hn := Qbw
 exact tail_any (typeIs_str s z t) slot_str_getitem.lookup (getItem_str (c := c) (by
  have e1 : decide (i < -(2 ^ 63 : Int)) = false := decide_eq_false (by ac_nf)
  have e2 : decide (i ≥ 2 ^ 63) = false := decide_eq_false (by ac_nf)
  rw [e1, e2, Bool.or_false]) (by rw [h1]; simpa using h2) ⟨.str ⟨#[c]⟩, H, I.tok _, ⟨_, rfl⟩, q⟩) hs
noncomputable def rIx (K : PySem.W.Frag) : R2 := fun x y H Q => rIxL K x y H Q ∨ rIxT K x y H Q ∨ rIxS x y H Q
theorem Qci : IxR X (rIx X.K) := Qcf.or (Qcg.or Qch)
theorem Qcj (its : List Value) (n j : Nat) (u : Value) : Obj.mapSeq (·.setIfInBounds j u) { cls := .type "list", data := .seq its.toArray n } = { cls := .type "list", data := .seq (its.set j u).toArray n } := by
 simp [Obj.mapSeq]
theorem Inv.lst {pins : List (Addr × Obj)} {σ : St} {H : Hp} {s : Shared} {p : Addr} {xs : List V} (I : Inv X pins σ H s) (h : H p = some (.lst xs)) :
  ∃ (its : List Value) (n : Nat), Vals xs its ∧ s.heap.get? p = some { cls := .type "list", data := .seq its.toArray n } ∧ xs.length ≤ sizeLine := by
 obtain ⟨z, its, n, r, e⟩ := I.hok p _ h
 exact ⟨its, n, r, e, z⟩
theorem Inv.lstUpd {pins : List (Addr × Obj)} {σ : St} {H : Hp} {s : Shared} {p : Addr} {xs ys : List V} {its its' : List Value} {n n' : Nat} {f : Obj → Obj} (I : Inv X pins σ H s) (h : H p = some (.lst xs))
  (ho : s.heap.get? p = some { cls := .type "list", data := .seq its.toArray n }) (hf : f { cls := .type "list", data := .seq its.toArray n } = { cls := .type "list", data := .seq its'.toArray n' }) (r : Vals ys its') (hz : ys.length ≤ sizeLine) (t : Nat) :
  Inv X pins σ (upd H p (.lst ys)) { s with heap := s.heap.update p f, toks := t } := by
 have e : (s.heap.update p f).get? p = some { cls := .type "list", data := .seq its'.toArray n' } := by
  rw [Heap.get?_update_self f ho (by rw [hf] <;> rfl), hf]
 refine I.write (x := p) (e := p) (by rw [h]; trivial) (.inl rfl) (fun b u hb q => (Heap.get?_update_other _ _ (Ne.symm hb)).trans q) ⟨_, e⟩ ?_
 exact ⟨hz, its', n', r, e⟩
noncomputable def rSetL : V → V → V → Hp → (Hp → Prop) → Prop := fun o i v H Q => ∃ p xs k j, o = .ref p ∧ i = .int k ∧ H p = some (.lst xs) ∧ ixN xs.length k = some j ∧ Q (upd H p (.lst (xs.set j v)))
theorem Qck : PSet X rSetL := by
 intro pins s σ H o i v ov iv u Q I ro ri rv h
 obtain ⟨p, xs, k, j, rfl, rfl, hp, hj, q⟩ := h
 cases ro
 obtain ⟨t, rfl⟩ := ri
 obtain ⟨its, n, r, ho, hz⟩ := I.lst hp
 obtain ⟨h1, h2, h3, h4⟩ := Qcc hj
 have hl := r.length
 have hn := Qbw
 have I' : Inv X pins σ (upd H p (.lst (xs.set j v))) { s with heap := s.heap.update p (Obj.mapSeq (·.setIfInBounds j u)) } :=
  I.lstUpd hp ho (Qcj its n j u) (r.set rv j) (by rw [List.length_set]; exact hz) s.toks
 by_cases h0 : 0 ≤ k
 ·have hk : k.toNat = j := by
    rw [seqIndex_of h0 h4] at h1
    exact Option.some.inj h1
  exact PySem.W.ki_setAt ho h0 (by ac_nf) (by rw [List.size_toArray, ← hl]; exact h4) (by rw [hk]; exact ⟨_, I', q⟩)
 ·have hk : (k + (its.toArray.size : Int)).toNat = j := by
    rw [seqIndex_neg (by ac_nf) h3] at h1
    rw [List.size_toArray, ← hl]
    exact Option.some.inj h1
  exact PySem.W.ki_setBack ho (by ac_nf) (by rw [List.size_toArray, ← hl]; exact h3) (by ac_nf) (by rw [hk]; exact ⟨_, I', q⟩)
theorem Qcl (lo hi : Option Int) (n : Nat) : (sliceBounds lo hi none n).1 = ((HT.sIx n 0 lo : Nat) : Int) ∧ (sliceBounds lo hi none n).2.1 = ((HT.sIx n n hi : Nat) : Int) ∧ (sliceBounds lo hi none n).2.2 = 1 := by
 refine ⟨?_, ?_, rfl⟩
 ·cases lo with
  | none => simp [sliceBounds, HT.sIx]
  | some i =>
   simp only [sliceBounds, HT.sIx, Option.getD_none, show (1 : Int) > 0 by decide, if_true]
   by_cases h : i < 0
   ·simp only [h, if_true] <;> ac_nf
   ·simp only [h, if_false] <;> ac_nf
 ·cases hi with
  | none => simp [sliceBounds, HT.sIx]
  | some i =>
   simp only [sliceBounds, HT.sIx, Option.getD_none, show (1 : Int) > 0 by decide, if_true]
   by_cases h : i < 0
   ·simp only [h, if_true] <;> ac_nf
   ·simp only [h, if_false] <;> ac_nf
theorem Qcm (its : List Value) (lo hi : Option Int) : slicePick its.toArray lo hi none = ((its.drop (HT.sIx its.length 0 lo)).take (HT.sIx its.length its.length hi - HT.sIx its.length 0 lo)).toArray := by
 obtain ⟨h1, h2, h3⟩ := Qcl lo hi its.toArray.size
 unfold slicePick
 rw [h1, h2, h3]
 simp only [sliceRange_one, pick_run, List.size_toArray] <;> rfl
noncomputable def rSlL (K : PySem.W.Frag) : V → Option Int → Option Int → Hp → VK → Prop := fun x lo hi H Q => ∃ a xs, x = .ref a ∧ SqL K H a xs ∧ ∀ p, H p = none → Q (.ref p) (upd H p (.lst (cutV xs lo hi)))
theorem Qcn : SlR X (rSlL X.K) := by
 intro pins s σ H x v vl vu lo hi sl Q I rx hs pl pu h
 obtain ⟨a, xs, rfl, hx, q⟩ := h
 cases rx
 obtain ⟨its, r, ht, hz⟩ := I.list hx
 have hlen := r.length
 refine ⟨"list", _, slot_list_getitem.lookup, ht.isList.typeIs, ?_⟩
 refine wpAny_getItem_list_slice ht.isList hs pl pu .none (by simp) ?_ (by rw [List.size_toArray] <;> ac_nf)
 rw [Qcm, ← hlen]
 refine ⟨.ref s.heap.objs.size, _, I.laid (t' := s.toks) (o := .lst (cutV xs lo hi)) (fun b ob q => Heap.get?_push_of_some _ q) (Nat.le_refl _) ?_, rfl, q _ (I.hok.fresh (Nat.le_refl _))⟩
 exact ⟨Nat.le_trans (Qb9 xs lo hi) hz, _, 0, (r.drop (HT.sIx xs.length 0 lo)).take (HT.sIx xs.length xs.length hi - HT.sIx xs.length 0 lo), Heap.get?_push_size _ rfl⟩
noncomputable def flatV : V → Bool
 | .non => true
 | .bl _ => true
 | .int _ => true
 | .str _ => true
 | _ => false
noncomputable def eqV : V → V → Bool
 | .non, .non => true
 | .bl a, .bl b => a == b
 | .bl a, .int b => (if a then 1 else 0) == b
 | .int a, .bl b => a == (if b then 1 else 0)
 | .int a, .int b => a == b
 | .str a, .str b => a == b
 | _, _ => false
theorem Qco {A : Around} {s : Shared} {y x : V} {u v : Value} (ry : RelV y u) (rx : RelV x v) (fy : flatV y = true) (fx : flatV x = true) : SeqAt.EqAt A s u v (eqV y x) := by
 cases y with
 | non =>
  cases ry
  cases x with
  | non => cases rx; exact SeqAt.EqAt.same _
  | bl b => cases rx; exact SeqAt.EqAt.none_bool b
  | int b => obtain ⟨t, rfl⟩ := rx; exact SeqAt.EqAt.none_int b t
  | str b => obtain ⟨t, rfl⟩ := rx; exact SeqAt.EqAt.none_str b t
  | _ => exact absurd (show false = true from fx) Bool.false_ne_true
 | bl a =>
  cases ry
  cases x with
  | non => cases rx; exact SeqAt.EqAt.bool_none a
  | bl b => cases rx; exact SeqAt.EqAt.bool_bool a b
  | int b => obtain ⟨t, rfl⟩ := rx; exact SeqAt.EqAt.bool_int a b t
  | str b => obtain ⟨t, rfl⟩ := rx; exact SeqAt.EqAt.bool_str a b t
  | _ => exact absurd (show false = true from fx) Bool.false_ne_true
 | int a =>
  obtain ⟨t', rfl⟩ := ry
  cases x with
  | non => cases rx; exact SeqAt.EqAt.int_none a t'
  | bl b => cases rx; exact SeqAt.EqAt.int_bool a t' b
  | int b => obtain ⟨t, rfl⟩ := rx; exact SeqAt.EqAt.int_int a t' b t
  | str b => obtain ⟨t, rfl⟩ := rx; exact SeqAt.EqAt.int_str a t' b t
  | _ => exact absurd (show false = true from fx) Bool.false_ne_true
 | str a =>
  obtain ⟨t', rfl⟩ := ry
  cases x with
  | non => cases rx; exact SeqAt.EqAt.str_none a t'
  | bl b => cases rx; exact SeqAt.EqAt.str_bool a t' b
  | int b => obtain ⟨t, rfl⟩ := rx; exact SeqAt.EqAt.str_int a t' b t
  | str b => obtain ⟨t, rfl⟩ := rx; exact SeqAt.EqAt.str_str a t' b t
  | _ => exact absurd (show false = true from fx) Bool.false_ne_true
 | _ => exact absurd (show false = true from fy) Bool.false_ne_true
noncomputable def eqU (x : V) (u : Value) : Bool := match u with
 | .none => eqV .non x
 | .bool b => eqV (.bl b) x
 | .int i _ => eqV (.int i) x
 | .str z _ => eqV (.str z) x
 | _ => false
theorem Qcp {x y : V} {u : Value} (r : RelV y u) (f : flatV y = true) : eqU x u = eqV y x := by
 cases y with
 | non => cases r; rfl
 | bl b => cases r; rfl
 | int i => obtain ⟨t, rfl⟩ := r; rfl
 | str z => obtain ⟨t, rfl⟩ := r; rfl
 | _ => exact absurd (show false = true from f) Bool.false_ne_true
theorem Qcq {x : V} : ∀ {xs : List V} {us : List Value}, Vals xs us → xs.all flatV = true → us.any (eqU x) = xs.any fun y => eqV y x
 | _, _, .nil, _ => rfl
 | y :: xs, u :: us, .cons r t, f => by
  rw [List.all_cons, Bool.and_eq_true] at f
  rw [List.any_cons, List.any_cons, Qcp r f.1, Qcq t f.2]
theorem Qcr {A : Around} {s : Shared} {x : V} {v : Value} (rx : RelV x v) (fx : flatV x = true) : ∀ {xs : List V} {us : List Value}, Vals xs us → xs.all flatV = true → ∀ u ∈ us, SeqAt.EqAt A s u v (eqU x u)
 | _, _, .nil, _ => fun u hu => by cases hu
 | y :: xs, u :: us, .cons r t, f => fun u' hu => by
  rw [List.all_cons, Bool.and_eq_true] at f
  rcases List.mem_cons.mp hu with rfl | hu
  ·rw [Qcp r f.1]; exact Qco r rx f.1 fx
  ·exact Qcr rx fx t f.2 u' hu
noncomputable def inV (x : V) (xs : List V) : Bool := xs.any fun y => eqV y x
noncomputable def rIn (K : PySem.W.Frag) (neg : Bool) : R2 := fun x y H Q => ∃ p xs, y = .ref p ∧ (SqL K H p xs ∨ SqT K H p xs) ∧ flatV x = true ∧ xs.all flatV = true ∧ Q (.bl (if neg then !inV x xs else inV x xs)) H
theorem Qcs : OpR X (compareOp .In) (rIn X.K false) := by
 intro pins s σ H x y v u Q I rx ry h
 obtain ⟨p, xs, rfl, hq, fx, fs, q⟩ := h
 cases ry
 rcases hq with hq | hq
 ·obtain ⟨its, r, pl, hz⟩ := I.list hq
  refine SeqAt.in_listAt (eqU x) pl.isList (fun w hw => Qcr rx fx r fs w (by simpa using hw)) ⟨.bl _, H, I, rfl, ?_⟩
  rw [show its.toArray.any (eqU x) = its.any (eqU x) by simp, Qcq r fs]
  exact q
 ·obtain ⟨its, r, pl, hz⟩ := I.tuple hq
  refine SeqAt.in_tupleAt (eqU x) pl (fun w hw => Qcr rx fx r fs w (by simpa using hw)) ⟨.bl _, H, I, rfl, ?_⟩
  rw [show its.toArray.any (eqU x) = its.any (eqU x) by simp, Qcq r fs]
  exact q
theorem Qct : OpR X (compareOp .NotIn) (rIn X.K true) := by
 intro pins s σ H x y v u Q I rx ry h
 obtain ⟨p, xs, rfl, hq, fx, fs, q⟩ := h
 cases ry
 rcases hq with hq | hq
 ·obtain ⟨its, r, pl, hz⟩ := I.list hq
  refine SeqAt.notIn_listAt (eqU x) pl.isList (fun w hw => Qcr rx fx r fs w (by simpa using hw)) ⟨.bl _, H, I, rfl, ?_⟩
  rw [show its.toArray.any (eqU x) = its.any (eqU x) by simp, Qcq r fs]
  exact q
 ·obtain ⟨its, r, pl, hz⟩ := I.tuple hq
  refine SeqAt.notIn_tupleAt (eqU x) pl (fun w hw => Qcr rx fx r fs w (by simpa using hw)) ⟨.bl _, H, I, rfl, ?_⟩
  rw [show its.toArray.any (eqU x) = its.any (eqU x) by simp, Qcq r fs]
  exact q
theorem Qcu : CallR X (.builtin "len") (fun xs H Q => ∃ p ys, xs = [.ref p] ∧ (SqL X.K H p ys ∨ SqT X.K H p ys) ∧ Q (.int ys.length) H) := by
 intro pins s σ H xs us Q I r h
 obtain ⟨p, ys, rfl, hq, q⟩ := h
 obtain ⟨u, rfl, rx⟩ := QbA r
 cases rx
 have hn := Qbw
 rcases hq with hq | hq
 ·obtain ⟨its, r', pl, hz⟩ := I.list hq
  have hlen := r'.length
  exact Calls.call_len_list pl.isList (by simp only [List.size_toArray] <;> ac_nf) ⟨.int ys.length, H, I.tok _, ⟨s.toks + 1, by rw [List.size_toArray, hlen]⟩, q⟩
 ·obtain ⟨its, r', pl, hz⟩ := I.tuple hq
  have hlen := r'.length
  exact len_tuple pl (by simp only [List.size_toArray] <;> ac_nf) ⟨.int ys.length, H, I.tok _, ⟨s.toks + 1, by rw [List.size_toArray, hlen]⟩, q⟩
theorem Qcv : CallR X (.builtin "len") (fun xs H Q => ∃ z, xs = [.str z] ∧ z.length ≤ sizeLine ∧ Q (.int z.length) H) := by
 intro pins s σ H xs us Q I r h
 obtain ⟨z, rfl, hz, q⟩ := h
 obtain ⟨u, rfl, t, rfl⟩ := QbA r
 have hn := Qbw
 exact len_str (by ac_nf) ⟨.int z.length, H, I.tok _, ⟨_, rfl⟩, q⟩
theorem CallR.or {f : Value} {r r' : List V → Hp → VK → Prop} (h : CallR X f r) (h' : CallR X f r') : CallR X f (fun xs H Q => r xs H Q ∨ r' xs H Q) := by
 intro pins s σ H xs us Q I rs q
 rcases q with q | q
 ·exact h pins s σ H xs us Q I rs q
 ·exact h' pins s σ H xs us Q I rs q
theorem Qcw : CallR X (.type "list") (fun xs H Q => ∃ p ys, xs = [.ref p] ∧ (SqL X.K H p ys ∨ SqT X.K H p ys) ∧ ∀ l, H l = none → Q (.ref l) (upd H l (.lst ys))) := by
 intro pins s σ H xs us Q I r h
 obtain ⟨p, ys, rfl, hq, q⟩ := h
 obtain ⟨u, rfl, rx⟩ := QbA r
 cases rx
 have fin : ∀ (its : List Value), Vals ys its → ys.length ≤ sizeLine → ∀ (h' : Heap) (c' : Nat), (∀ b o', s.heap.get? b = some o' → h'.get? b = some o') →
   h'.get? s.heap.objs.size = some { cls := .type "list", dict := none, data := .seq its.toArray c', slots := #[] } → EP X pins σ Q (.ref s.heap.objs.size) { s with heap := h' } := fun its r' hz h' c' kp e =>
  ⟨.ref s.heap.objs.size, _, I.laid (t' := s.toks) kp (Nat.le_refl _) (show ObjOk X.prog X.w _ h' _ (.lst ys) from ⟨hz, its, c', r', e⟩), rfl, q _ (I.hok.fresh (Nat.le_refl _))⟩
 rcases hq with hq | hq
 ·obtain ⟨its, r', pl, hz⟩ := I.list hq
  have hlen := r'.length
  obtain ⟨o, ho, hc, n, hd⟩ := pl.isList
  exact call_list_seq p (.inl rfl) ho hc hd (fun h' c' kp e => fin its r' hz h' c' kp e) (by simp only [List.size_toArray] <;> ac_nf)
 ·obtain ⟨its, r', pl, hz⟩ := I.tuple hq
  have hlen := r'.length
  obtain ⟨o, ho, hc, n, hd⟩ := pl
  exact call_list_seq p (.inr rfl) ho hc hd (fun h' c' kp e => fin its r' hz h' c' kp e) (by simp only [List.size_toArray] <;> ac_nf)
theorem Qcx : CallR X (.type "tuple") (fun xs H Q => ∃ p ys, xs = [.ref p] ∧ ((SqL X.K H p ys ∧ ∀ l, H l = none → Q (.ref l) (upd H l (.tup ys))) ∨ (SqT X.K H p ys ∧ Q (.ref p) H))) := by
 intro pins s σ H xs us Q I r h
 obtain ⟨p, ys, rfl, h⟩ := h
 obtain ⟨u, rfl, rx⟩ := QbA r
 cases rx
 rcases h with ⟨hq, q⟩ | ⟨hq, q⟩
 ·obtain ⟨its, r', pl, hz⟩ := I.list hq
  have hlen := r'.length
  refine call_tuple_list pl.isList (fun h' kp => ?_) (by simp only [List.size_toArray] <;> ac_nf)
  have I1 : Inv X pins σ H { s with heap := h' } := I.kept (t' := s.toks) kp
  have I2 : Inv X pins σ (upd H h'.objs.size (.tup ys)) { s with heap := h'.push { cls := .type "tuple", data := .seq its.toArray } } :=
   I1.laid (t' := s.toks) (fun b o e => Heap.get?_push_of_some _ e) (Nat.le_refl _) (show ObjOk X.prog X.w _ _ _ (.tup ys) from ⟨hz, its, r', IsTup.new _ _⟩)
  exact ⟨.ref h'.objs.size, _, I2, rfl, q _ (I1.hok.fresh (Nat.le_refl _))⟩
 ·obtain ⟨its, r', pl, hz⟩ := I.tuple hq
  exact call_tuple_same pl ⟨.ref p, H, I, rfl, q⟩
def tyV (K : PySem.W.Frag) (T : String) (x : V) (H : Hp) : Prop := match x with
 | .str _ => T = "str"
 | .int _ => T = "int"
 | .ref p => (T = "list" ∧ ∃ xs, SqL K H p xs) ∨ (T = "tuple" ∧ ∃ o, K.lookup p = some o ∧ o.cls = .type "tuple" ∧ o.dict = none) ∨
   (T = "dict" ∧ ((∃ kvs, H p = some (.dK kvs)) ∨ ∃ kvs, H p = some (.dT kvs))) ∨ (T = "set" ∧ ∃ S n, H p = some (.set S n))
 | _ => False
theorem Qcy {pins : List (Addr × Obj)} {σ : St} {H : Hp} {s : Shared} {T : String} {x : V} {v : Value} (I : Inv X pins σ H s) (r : RelV x v) (ty : tyV X.K T x H) :
  s.TypeIs v T ∧ ∀ a, v = .ref a → ∃ ob, s.heap.get? a = some ob ∧ ob.dict = none := by
 cases x with
 | str z =>
  obtain ⟨t, rfl⟩ := r
  cases (show T = "str" from ty)
  exact ⟨typeIs_str s z t, fun _ e => nomatch e⟩
 | int i =>
  obtain ⟨t, rfl⟩ := r
  cases (show T = "int" from ty)
  exact ⟨typeIs_int s i t, fun _ e => nomatch e⟩
 | ref p =>
  cases r
  rcases ty with ⟨rfl, xs, hq⟩ | ⟨rfl, o, hk, hc, hd⟩ | ⟨rfl, hk⟩ | ⟨rfl, S, n, hk⟩
  ·obtain ⟨its, _, pl, _⟩ := I.list hq
   refine ⟨pl.isList.typeIs, fun a e => ?_⟩
   cases e
   obtain ⟨o, n, e, c, hd, _⟩ := pl
   exact ⟨o, e, hd⟩
  ·refine ⟨⟨o, I.kIn p o hk, hc⟩, fun a e => ?_⟩
   cases e
   exact ⟨o, I.kIn _ o hk, hd⟩
  ·have z : ∃ o, s.heap.get? p = some o ∧ o.ExactDict := by
     rcases hk with ⟨kvs, hk⟩ | ⟨kvs, hk⟩
     ·obtain ⟨_, _, _, _, o, _, _, e, ex, _⟩ := I.hok p _ hk
      exact ⟨o, e, ex⟩
     ·obtain ⟨_, _, _, _, o, _, _, e, ex, _⟩ := I.hok p _ hk
      exact ⟨o, e, ex⟩
   obtain ⟨o, e, ex⟩ := z
   refine ⟨⟨o, e, ex.1⟩, fun a e2 => ?_⟩
   cases e2
   exact ⟨o, e, ex.2.1⟩
  ·obtain ⟨o, _, _, _, e, ex, _⟩ := I.hok p _ hk
   refine ⟨⟨o, e, ex.1⟩, fun a e2 => ?_⟩
   cases e2
   exact ⟨o, e, ex.2.1⟩
 | _ => exact False.elim ty
noncomputable def tBM0 (K : PySem.W.Frag) (T : String) (r : V → List V → Hp → VK → Prop) (to : TE) : TE := fun σ H Q => to σ H fun x H1 => tyV K T x H1 ∧ r x [] H1 Q
noncomputable def tBM (K : PySem.W.Frag) (T : String) (r : V → List V → Hp → VK → Prop) (to : TE) (t : TA) : TE := fun σ H Q => to σ H fun x H1 => tyV K T x H1 ∧ t σ H1 fun xs H2 => r x xs H2 Q
variable {o e : Expr} {es : List Expr} {to : TE} {t : TA} {name : Str} {apos cpos : Pos} {T id : String} {r : V → List V → Hp → VK → Prop}
theorem Qcz (pa : PlainAttrs T) (slot : Slot T name id) (hty : typeOf (.builtin id) = pure (.type "method_descriptor")) (hm : MtR X id r) (ho : PE X o to)
  (hbase : attributeBase o name X.env (eval o X.env) = eval o X.env := by rfl) (hline : (apos.endLine == cpos.line) = true := by rfl) : PE X (.Call (.Attribute o name apos) [] [] cpos) (tBM0 X.K T r to) := by
 intro pins s σ H Q I h
 refine wpAny_Call_method0_late hbase hline (thn (ho pins s σ H _ I h) fun v s1 pq43 => ?_)
 obtain ⟨x, H1, I1, r1, ty, q1⟩ := pq43
 obtain ⟨h1, h2⟩ := Qcy I1 r1 ty
 exact ⟨T, id, pa, slot, hty, h1, h2, Calls.callWith_builtin rfl (PySem.evalArgs_none (hm pins s1 σ H1 x [] v [] Q I1 r1 .nil q1))⟩
theorem QcA (pa : PlainAttrs T) (slot : Slot T name id) (hty : typeOf (.builtin id) = pure (.type "method_descriptor")) (hm : MtR X id r) (ho : PE X o to) (ha : PA X (e :: es) t)
  (hbase : attributeBase o name X.env (eval o X.env) = eval o X.env := by rfl)
  (hfew : ((backTo cpos (starEach (e :: es) X.env)).all (fun x => !x.1) && (backToKw cpos (keywordEach [] X.env)).all (fun x => x.1.isSome)
   && decide ((e :: es).length + ([] : List Keyword).length + (if ([] : List Keyword).isEmpty then 0 else 1) < 30)) = true := by rfl)
  (hline : (apos.endLine == cpos.line) = true := by rfl) (hs : starEach (e :: es) X.env = (false, eval e X.env) :: starEach es X.env := by rfl) (hplain : (backTo cpos (starEach es X.env)).any (·.1) = false := by rfl) :
  PE X (.Call (.Attribute o name apos) (e :: es) [] cpos) (tBM X.K T r to t) := by
 intro pins s σ H Q I h
 refine wpAny_Call_method_late hbase hfew hline rfl (thn (ho pins s σ H _ I h) fun v s1 pq44 => ?_)
 obtain ⟨x, H1, I1, r1, ty, q1⟩ := pq44
 obtain ⟨h1, h2⟩ := Qcy I1 r1 ty
 refine ⟨T, id, pa, slot, hty, h1, h2, ?_⟩
 have hA := ha cpos pins s1 σ H1 _ I1 q1
 rw [hs] at hA ⊢
 refine Calls.callWith_builtin (by show (false || (backTo cpos (starEach es X.env)).any (·.1)) = false; rw [hplain] <;> rfl) (Calls.evalArgs_plain ?_)
 exact thn hA fun us s2 pq45 => by obtain ⟨vs, H2, I2, r2, q2⟩ := pq45; exact hm pins s2 σ H2 x vs v us Q I2 r1 r2 q2
/- xs.append(e), list.index on a module's tuple .. are MtR facts of 06m -/
end
end L2
namespace L2
open PySem PySem.Spec PyProof.Rows
def MtM (X : Cx) (id : String) (r : V → List V → Hp → VK → Prop) : Prop :=
 ∀ (pins : List (Addr × Obj)) (s : Shared) (σ : St) (H : Hp) (x : V) (xs : List V) (v : Value) (us : List Value) (Q : VK), Inv X pins σ H s → RelV x v → Vals xs us → r x xs H Q →
  wpAny (model X.prog X.w) X.A (call (.builtin id) (v :: us)) (EP X pins σ Q) X.xe s
theorem Vals.one {x : V} {us : List Value} (h : Vals [x] us) : ∃ u, us = [u] ∧ RelV x u := by
 cases h with
 | cons r h => cases h; exact ⟨_, rfl, r⟩
theorem Vals.two {x y : V} {us : List Value} (h : Vals [x, y] us) : ∃ u v, us = [u, v] ∧ RelV x u ∧ RelV y v := by
 cases h with
 | cons r h => cases h with
  | cons q h => cases h; exact ⟨_, _, rfl, r, q⟩
theorem Vals.zero : ∀ {us : List Value}, Vals [] us → us = []
 | _, .nil => rfl
theorem Vals.dropLast {xs : List V} {us : List Value} (h : Vals xs us) : Vals xs.dropLast us.dropLast := by
 induction h with
 | nil => exact .nil
 | cons r t ih =>
  cases t with
  | nil => exact .nil
  | cons q t' => exact .cons r ih
theorem Vals.eraseIdx : ∀ {xs : List V} {us : List Value} (i : Nat), Vals xs us → Vals (xs.eraseIdx i) (us.eraseIdx i)
 | _, _, _, .nil => .nil
 | _, _, 0, .cons _ t => t
 | _, _, i + 1, .cons r t => .cons r (Vals.eraseIdx i t)
theorem Vals.reverse {xs : List V} {us : List Value} (h : Vals xs us) : Vals xs.reverse us.reverse := by
 induction h with
 | nil => exact .nil
 | cons r t ih => rw [List.reverse_cons, List.reverse_cons]; exact Vals.append ih (.cons r .nil)
theorem Vals.rep {xs : List V} {us : List Value} (h : Vals xs us) : ∀ k : Nat, Vals (List.replicate k xs).flatten (List.replicate k us).flatten
 | 0 => .nil
 | k + 1 => by
  rw [List.replicate_succ, List.replicate_succ, List.flatten_cons, List.flatten_cons]
  exact Vals.append h (Vals.rep h k)
theorem QcB {α : Type} (l : List α) : l.eraseIdx (l.length - 1) = l.dropLast := by
 induction l with
 | nil => rfl
 | cons a r ih =>
  cases r with
  | nil => rfl
  | cons b r =>
   have e : (a :: b :: r).length - 1 = ((b :: r).length - 1) + 1 := by
    have h1 : (a :: b :: r).length = r.length + 2 := rfl
    have h2 : (b :: r).length = r.length + 1 := rfl
    ac_nf
   rw [e, List.eraseIdx_cons_succ, ih]
   all_goals rfl
section
variable {X : Cx} {pins : List (Addr × Obj)} {σ : St} {H : Hp} {s : Shared} {l b : Addr} {xs ys zs : List V}
theorem Inv.lset {its its' : List Value} {n : Nat} {f : Array Value → Array Value} {t' : Nat} (I : Inv X pins σ H s) (hH : H l = some (.lst xs))
  (e : s.heap.get? l = some { cls := .type "list", data := .seq its.toArray n }) (hf : f its.toArray = its'.toArray) (hv : Vals ys its') (hz : ys.length ≤ sizeLine) :
  Inv X pins σ (upd H l (.lst ys)) { s with heap := s.heap.update l (Obj.mapSeq f), toks := t' } := by
 have q := PySem.IsL.update e f
 rw [hf] at q
 refine I.write (x := l) (e := l) (by rw [hH]; exact trivial) (.inl rfl) (fun b' u hb hu => (Heap.get?_update_other s.heap (Obj.mapSeq f) (Ne.symm hb)).trans hu) ⟨_, q⟩ ?_
 exact ⟨hz, its', _, hv, q⟩
theorem Inv.lnew {its : List Value} {t' : Nat} (I : Inv X pins σ H s) (hv : Vals ys its) (hz : ys.length ≤ sizeLine) :
  Inv X pins σ (upd H s.heap.objs.size (.lst ys)) { s with heap := s.heap.push { cls := .type "list", data := .seq its.toArray }, toks := t' } :=
 I.laid (fun _ _ q => Heap.get?_push_of_some _ q) (Nat.le_refl _) ⟨hz, its, 0, hv, Heap.get?_push_size _ rfl⟩
theorem Inv.fresh (I : Inv X pins σ H s) : H s.heap.objs.size = none := I.hok.fresh (Nat.le_refl _)
theorem Inv.lstM (I : Inv X pins σ H s) (hH : H l = some (.lst xs)) : xs.length ≤ sizeLine ∧ ∃ (its : List Value) (n : Nat), Vals xs its ∧ xs.length = its.length ∧ s.heap.get? l = some { cls := .type "list", data := .seq its.toArray n } := by
 obtain ⟨z, its, n, r, e⟩ := I.hok l _ hH
 exact ⟨z, its, n, r, r.length, e⟩
theorem QcC {n : Nat} (h : n ≤ sizeLine) : Builtin.List.listTooLong n = false := by
 unfold Builtin.List.listTooLong
 exact decide_eq_false (by ac_nf)
end
section
variable {X : Cx}
noncomputable def rAppend : V → List V → Hp → VK → Prop := fun x vs H Q => ∃ l xs y, x = .ref l ∧ vs = [y] ∧ H l = some (.lst xs) ∧ xs.length < sizeLine ∧ Q .non (upd H l (.lst (xs ++ [y])))
theorem QcD : MtM X "list.append" rAppend := by
 intro pins s σ H x vs v us Q I rx rv h
 obtain ⟨l, xs, y, rfl, rfl, hH, hz, q⟩ := h
 cases rx
 obtain ⟨u, rfl, ru⟩ := rv.one
 obtain ⟨z, its, n, r, hl, e⟩ := I.lstM hH
 refine call_meets F.slot_list_append ⟨_, e, rfl⟩ F.entry_list_append (F.args_list_append_2 _ _) (PySem.list_append l its.toArray n u (by rw [List.size_toArray]; ac_nf)) ⟨e, ?_⟩
 refine ⟨.non, _, I.lset (its' := its ++ [u]) hH e (by simp) (r.append (.cons ru .nil)) ?_, rfl, q⟩
 rw [List.length_append, List.length_singleton]
 ac_nf
noncomputable def rPop : V → List V → Hp → VK → Prop := fun x vs H Q => ∃ l xs y, x = .ref l ∧ vs = [] ∧ H l = some (.lst xs) ∧ xs[xs.length - 1]? = some y ∧ Q y (upd H l (.lst xs.dropLast))
theorem QcE : MtM X "list.pop" rPop := by
 intro pins s σ H x vs v us Q I rx rv h
 obtain ⟨l, xs, y, rfl, rfl, hH, hy, q⟩ := h
 cases rx
 have hus := rv.zero
 subst hus
 obtain ⟨z, its, n, r, hl, e⟩ := I.lstM hH
 obtain ⟨u, hu, ru⟩ := r.get hy
 have hy' : its.toArray[its.toArray.size - 1]? = some u := by
  show its.toArray[its.length - 1]? = some u
  rw [← Array.getElem?_toList, ← hl]
  exact hu
 refine call_meets F.slot_list_pop ⟨_, e, rfl⟩ F.entry_list_pop (F.args_list_pop_1 _) (MeetsSeq.list_pop_last l its.toArray n u hy' (by rw [List.size_toArray]; ac_nf)) ⟨e, ?_⟩
 refine ⟨y, _, I.lset (its' := its.dropLast) hH e ?_ r.dropLast ?_, ru, q⟩
 ·show its.toArray.eraseIdxIfInBounds (its.toArray.size - 1) = its.dropLast.toArray
  rw [List.size_toArray, List.eraseIdxIfInBounds_toArray, QcB]
 ·rw [List.length_dropLast]
  ac_nf
noncomputable def rReverse : V → List V → Hp → VK → Prop := fun x vs H Q => ∃ l xs, x = .ref l ∧ vs = [] ∧ H l = some (.lst xs) ∧ Q .non (upd H l (.lst xs.reverse))
theorem QcF : MtM X "list.reverse" rReverse := by
 intro pins s σ H x vs v us Q I rx rv h
 obtain ⟨l, xs, rfl, rfl, hH, q⟩ := h
 cases rx
 have hus := rv.zero
 subst hus
 obtain ⟨z, its, n, r, hl, e⟩ := I.lstM hH
 refine call_meets F.slot_list_reverse ⟨_, e, rfl⟩ F.entry_list_reverse (F.args_list_reverse_1 _) (AutoSeq1.list_reverse_list_0 l its.toArray n (by rw [List.size_toArray]; ac_nf)) ⟨e, ?_⟩
 refine ⟨.non, _, I.lset (its' := its.reverse) hH e (by simp) r.reverse ?_, rfl, q⟩
 rw [List.length_reverse]
 ac_nf
noncomputable def rCat : R2 := fun x y H Q => ∃ l b xs zs, x = .ref l ∧ y = .ref b ∧ H l = some (.lst xs) ∧ H b = some (.lst zs) ∧ xs.length + zs.length ≤ sizeLine ∧ ∀ p, H p = none → Q (.ref p) (upd H p (.lst (xs ++ zs)))
theorem QcG : OpR X (binaryOp .Add) rCat := by
 intro pins s σ H x y v u Q I rx ry h
 obtain ⟨l, b, xs, zs, rfl, rfl, hH, hB, hz, q⟩ := h
 cases rx
 cases ry
 obtain ⟨z, its, n, r, hl, e⟩ := I.lstM hH
 obtain ⟨z2, its2, n2, r2, hl2, e2⟩ := I.lstM hB
 refine PySem.P.add_list e e2 ?_ (by rw [List.size_toArray, List.size_toArray]; ac_nf)
 have ea : its.toArray ++ its2.toArray = (its ++ its2).toArray := by simp
 rw [ea]
 exact ⟨.ref _, _, I.lnew (t' := s.toks) (r.append r2) (by rw [List.length_append]; ac_nf), rfl, q _ I.fresh⟩
end
section
variable {prog : Program} {w : World} {A : Around} {E : Value → Shared → Prop} {s : Shared}
theorem QcH {a c n : Nat} (hac : a ≤ c) (hc : c ≤ n) : sliceBounds (some (a : Int)) (some (c : Int)) none n = ((a : Int), (c : Int), 1) := by
 simp only [sliceBounds, Option.getD_none]
 have h1 : ¬ ((a : Int) < 0) := by ac_nf
 have h2 : ¬ ((c : Int) < 0) := by ac_nf
 simp only [h1, h2, if_false, show (1 : Int) > 0 by decide, if_true]
 congr 1
 ·ac_nf
 ·congr 1; ac_nf
theorem QcI {l b sl : Addr} {items new : Array Value} {n n2 : Nat} {vl vu : Value} {a c : Nat} {Q : Unit → Shared → Prop}
  (e : s.heap.get? l = some { cls := .type "list", data := .seq items n }) (e2 : s.heap.get? b = some { cls := .type "list", data := .seq new n2 }) (hne : l ≠ b)
  (hs : s.heap.IsSliceOf sl vl vu .none) (pl : IsPart vl (some (a : Int))) (pu : IsPart vu (some (c : Int))) (hac : a ≤ c) (hc : c ≤ items.size)
  (hsz : items.size + new.size ≤ sizeLine) (h : Q () { s with heap := s.heap.update l (Obj.mapSeq fun xs => xs.extract 0 a ++ new ++ xs.extract c xs.size) }) :
  wpAny (model prog w) A (setItem (.ref l) (.ref sl) (.ref b)) Q E s := by
 have hl : s.heap.IsList l items := PySem.IsL.isList e
 have hb : s.heap.IsList b new := PySem.IsL.isList e2
 obtain ⟨os, hos, hcs, hds⟩ := id hs
 have hTs : s.TypeIs (.ref sl) "slice" := ⟨os, hos, hcs⟩
 have hstep : ¬ ((rawPart none == rawInt 0) = true) := Bool.false_ne_true
 have hsame : Builtin.List.listSameRef (.ref l) (.ref b) = false := by
  unfold Builtin.List.listSameRef
  exact beq_eq_false_iff_ne.mpr hne
 have hmax : (max (a : Int) (c : Int)).toNat = c := by ac_nf
 have hz' : ((fun xs : Array Value => xs.extract 0 a ++ new ++ xs.extract c xs.size) items).size ≤ sizeLine + 1 := by
  simp only [Array.size_append, Array.size_extract]
  ac_nf
 unfold setItem
 try with_reducible refine wpAny_holding ?_
 first | refine wpAny_bind (wpAny_pure ?_) | skip
 refine wpAny_bind (wpAny_sequenceKey hl.typeIs (by decide) ?_)
 refine wpAny_bind (wpAny_callSpecial?_slot (name := Str.ofString "__setitem__") hl.typeIs slot_list_setitem
  (wpAny_call_entry slot_list_setitem hl.typeIs entry_list_setitem ?_ (args_list_setitem _ _ _)))
 show wpAny _ _ (Builtin.List.listSubscript? (.ref sl) >>= _) _ _ s
 refine wpAny_bind ?_
 unfold Builtin.List.listSubscript?
 refine wpAny_bind (wpAny_specialOf hTs slice_no_index ?_)
 simp only [Option.isNone_none, if_true]
 refine wpAny_pure ?_
 show wpAny _ _ (typeOf (.ref sl) >>= _) _ _ s
 refine wpAny_bind (wpAny_typeOf hTs ?_)
 first
  | rw [if_neg (by decide)]
  | refine PySem.W.KFB.if_not (by decide) ?_
 rw [listSliceParts_eq]
 refine wpAny_bind (wpAny_bind (wpAny_field hos hds (x := .none) rfl (wpAny_bind (wpAny_listPart .none ?_))))
 rw [if_neg hstep]
 refine wpAny_bind (wpAny_field hos hds (x := vl) rfl (wpAny_bind (wpAny_listPart pl ?_)))
 refine wpAny_bind (wpAny_field hos hds (x := vu) rfl (wpAny_bind (wpAny_listPart pu (wpAny_pure ?_))))
 first
  | simp only [hsame, Bool.false_eq_true, if_false]
  | refine PySem.W.KFB.if_not hsame ?_
  | (dsimp only
     rw [if_neg (by rw [hsame]; exact Bool.false_ne_true)])
 refine wpAny_bind (m := Builtin.List.listAllItems (.ref b) "must assign iterable to extended slice") ?_
 unfold Builtin.List.listAllItems
 refine wpAny_bind (wpAny_typeOf hb.typeIs ?_)
 first
  | refine PySem.W.KFB.if_so (by decide) ?_
  | rw [if_pos (by decide)]
  | simp only [beq_self_eq_true, Bool.true_or, if_true]
 unfold Builtin.List.listItems
 refine wpAny_bind (wpAny_seqItems e2 rfl (wpAny_pure ?_))
 refine wpAny_bind (wpAny_bind (wpAny_seqItems e rfl (wpAny_pure ?_)))
 refine wpAny_bind (wpAny_of_eq ((sliceIndices_raw (some (a : Int)) (some (c : Int)) none items.size (by simp)).trans (congrArg (pure : Int × Int × Int → Sem (Int × Int × Int)) (QcH hac hc))) ?_)
 show wpAny _ _ (if ((1 : Int) == 1) = true then _ else _) _ _ s
 rw [if_pos (by decide)]
 refine wpAny_bind (wpAny_rule ?_)
 first
  | simp only [QcC hsz, Bool.false_eq_true, if_false]
  | refine PySem.W.KFB.if_not (QcC hsz) ?_
 first | refine wpAny_bind (wpAny_pure ?_) | skip
 show wpAny _ _ (updateSeq l (fun xs => xs.extract 0 ((a : Int)).toNat ++ new ++ xs.extract (max (a : Int) (c : Int)).toNat xs.size) >>= _) _ _ s
 rw [hmax, Int.toNat_natCast]
 refine wpAny_bind (wpAny_updateSeq (hz := Nat.le_trans (Nat.le_add_right _ _) hsz) (_hz' := hz') e rfl ?_)
 refine wpAny_bind (wpAny_letGo ?_)
 first
  | exact wpAny_bind (wpAny_pure (wpAny_pure ⟨.none, rfl, wpAny_pure h⟩))
  | exact wpAny_pure ⟨.none, rfl, wpAny_pure h⟩
end
section
variable {X : Cx}
end
end L2
namespace Att
open PySem PySem.W PySem.Calls PyProof.Rows
theorem QcJ {P : Params} {h : Heap} : ∀ (ns : List Int) (vs : List Value), WellAll P h vs (ns.map WData.int) → IntsAre vs ns := by
 intro ns
 induction ns with
 | nil =>
  intro vs w
  rw [List.map_nil] at w
  cases w
  exact .nil
 | cons n ns ih =>
  intro vs w
  rw [List.map_cons] at w
  cases w with
  | cons a b =>
   cases a
   exact .cons _ _ (ih _ b)
theorem QcK {l : OpenLaw} {n : Nat} (hn : l.most = some n) {P : Params} {h : Heap} {args : List WData} {vals : List Value}
  (hpre : l.row.toRowW.claim.pre args = true) (hwl : WellAll P h vals args) :
  ∃ a vs ns, vals = [Value.ref a] ∧ args = [WData.list (ns.map WData.int)] ∧ h.get? a = some { cls := .type "list", data := .seq vs.toArray } ∧ IntsAre vs ns ∧ ns.length ≤ n := by
 have hsh : WShape.hasAll [] args [.list .int] = true := (pre_splitW hpre).1
 have hc : l.pre.holds [] { args := args } = true := (pre_splitW hpre).2
 obtain ⟨d, r, rfl, h1, h2⟩ := hasAllW_cons hsh
 obtain rfl := hasAllW_nil h2
 obtain ⟨xs, rfl, h3⟩ := hasW_list h1
 obtain ⟨ns, rfl⟩ := items_int h3
 have hlen : ns.length ≤ n := by
  unfold OpenLaw.pre at hc
  have h4 : (WTm.not (.lt (.lit (.int (n : Int))) (.len (.arg 0)))).holds [] { args := [.list (ns.map .int)] } = true := by
   have h4 := (holds_andW hc).1
   rw [hn] at h4
   exact h4
  have h5 := condW_of h4 (w_not (w_lt w_lit (w_len_list (w_arg rfl))))
  rw [List.length_map] at h5
  refine Nat.le_of_not_lt fun q => ?_
  have q' : (n : Int) < ((ns.length : Nat) : Int) := by ac_nf
  first
   | (rw [decide_eq_true q'] at h5; exact absurd h5 (by decide))
   | (simp at h5; ac_nf)
 cases hwl with
 | cons w1 w2 =>
  cases w2
  cases w1 with
  | list ho hall => exact ⟨_, _, ns, rfl, rfl, ho, QcJ ns _ hall, hlen⟩
theorem QcL (l : OpenLaw) (args : List WData) : l.row.toRowW.claim.post args (.bool true) args = true :=
 postW_of (r := l.row.toRowW) (X := (true == true))
  (show WShape.has [] (.bool true) .bool = true by first | rfl | decide | simp [WShape.has, WShape.arms, WShape.armsAll])
  (show (WTm.eq .res (.lit (.bool true))).value [] { args := args, res := some (.bool true), after := args } = some (.bool (true == true)) from w_eq_bool (w_res rfl) w_lit) rfl
theorem attach_call {l : OpenLaw} {n : Nat} {q : Program} {loose : List Str} {XP : (Str → Option Value) → Heap → Prop} {YP : World → Heap → Prop} {d : DefRec}
  (hn : l.most = some n) (hdf : d.params.defaults = [])
  (call : ∀ (w : World) (s₀ s₁ : Shared) (mg mb : Str → Option Value) (fa : Addr) (o : Obj) (pm cd doc : Value) (a : Addr) (vs : List Value) (ns : List Int),
   Ground q loose [] XP w s₀ mg mb s₁.heap → YP w s₁.heap →
   s₁.heap.get? fa = some o → o.data = .func (docDef d.name d.params d.body d.scope pm cd doc) → s₁.heap.CodeRec cd d.name → mg d.name = some (.ref fa) →
   s₁.heap.get? a = some { cls := .type "list", data := .seq vs.toArray } → IntsAre vs ns → ns.length ≤ n → s₁.gens = #[] →
   codeAny (model l.prog w) callerA (.call (.ref fa) ⟨[.ref a], []⟩) (fun r s' => r = .ok (.ret (.bool true)) ∧ OldK s₁.heap s'.heap ∧ s'.os = s₁.os ∧ AllBare s'.gens) s₁) :
  WalkO q loose XP YP l.row.toRowW d [] (fun f vs => PySem.call f vs) := by
 intro w s₀ s₁ mg mb G Y fa o pm cd doc dV kV ho hd hcd hD hmg hg args vals as hpre hlay hrd hwl hlo
 obtain rfl : dV = .none := Dflts.none hD hdf
 obtain rfl : kV = .none := Dflts.noKw hD
 obtain ⟨a, vs, ns, rfl, rfl, hobj, hints, hlen⟩ := QcK hn hpre hwl
 refine enter_call (codeAny_mono (call w s₀ s₁ mg mb fa o pm cd doc a vs ns G Y ho (fd_plain hd) hcd hmg hobj hints hlen hg) fun r s' hq => ?_)
 obtain ⟨rfl, h2, h3, h4⟩ := hq
 exact ⟨.inl ⟨.bool true, .bool true, [], rfl, fun _ => rfl, .bool true, QcL l _, fun _ => ⟨List.Pairwise.nil, fun _ hm => (nomatch hm)⟩⟩, h2, h3, h4⟩
section
variable {prog : Program} {w : World} {A : Around} {E : Value → Shared → Prop} {s : Shared} {K : Frag}
noncomputable def ledger (h : Heap) (L d : Addr) : List (Addr × Obj) := (List.range h.objs.size).filterMap fun a => if a = L ∨ a = d then none else (h.get? a).map fun o => (a, o)
end
end Att
namespace L2
open PySem PySem.Spec PyProof.Rows
theorem QcM : ∀ {vs : List Value} {ns : List Int}, IntsAre vs ns → Vals (ns.map V.int) vs
 | _, _, .nil => .nil
 | _, _, .cons n t h => .cons ⟨t, rfl⟩ (QcM h)
def Only (H : Hp) : Prop := ∀ b, H b = none ∨ ∃ o xs, H b = some (.frz o (.lst xs))
theorem QcN {P : Program} {w : World} {K : PySem.W.Frag} {mg mb : Str → Option Value} {CX : CXT} {k : Nat} {fa a : Addr} {fd : FuncData} {x : Str} {sp : Sp} {s₁ : Shared} {vs : List Value} {ns : List Int}
  (KX : K.In s₁.heap) (hns : s₁.heap.Ns mainGlobals mg) (hb : s₁.heap.Ns builtinsNs mb) (hbb : ∀ x : Str, x ≠ "__name__" → mb x = bootBuiltins x) (hlim : s₁.heap.NoLimit) (hg : s₁.gens = #[])
  (ha : s₁.heap.get? a = some { cls := .type "list", data := .seq vs.toArray }) (hi : IntsAre vs ns) (hl : ns.length ≤ sizeLine) (hr : Room k callerA)
  (F : ∀ base : Heap, K.In base → base.Ns mainGlobals mg → FnOk P w K mg base CX k fa fd [x] sp) (hbind : ∀ (s : Shared) (u : Value), BindsTo s fd ⟨[u], []⟩ [(x, u)])
  (hsp : ∀ H : Hp, Only H → SqL K H a (ns.map V.int) → sp [.ref a] H (fun v _ => v = .bl true) fun _ _ _ => False)
  (hCX : ∀ H e s', CX [] H s₁ (fun _ _ _ => False) e s' → False) :
  codeAny (model P w) callerA (.call (.ref fa) ⟨[.ref a], []⟩) (fun r s' => r = .ok (.ret (.bool true)) ∧ OldK s₁.heap s'.heap ∧ s'.os = s₁.os ∧ AllBare s'.gens) s₁ := by
 have rv := QcM hi
 have lenV := hi.length
 have core : ∀ H : Hp, Only H → SqL K H a (ns.map V.int) → HOk P w H s₁.heap → (∀ b, H b ≠ none → b = a) → (H a ≠ none → K.lookup a = none) →
   codeAny (model P w) callerA (.call (.ref fa) ⟨[.ref a], []⟩) (fun r s' => r = .ok (.ret (.bool true)) ∧ OldK s₁.heap s'.heap ∧ s'.os = s₁.os ∧ AllBare s'.gens) s₁ := by
  intro H hO hS hok hA hK
  have base_of : ∀ {b : Addr} {o : Obj}, s₁.heap.get? b = some o → H b = none → (hidT s₁.heap H).get? b = some o := fun e n => Qan e n
  have noA : ∀ {b : Addr} {o : Obj} {es : Array DictEntry} {ep : Nat}, s₁.heap.get? b = some o → o.data = .dict es ep → H b = none := fun {b o es ep} e d => by
   cases q : H b with
   | none => rfl
   | some u =>
    have e' : b = a := hA b (by rw [q]; simp)
    subst e'
    rw [ha] at e; cases e
    have d' : Data.seq vs.toArray _ = Data.dict es ep := d
    cases d'
  have nsK : ∀ {b : Addr} {m : Str → Option Value}, s₁.heap.Ns b m → (hidT s₁.heap H).Ns b m := fun {b m} pq46 => by obtain ⟨o, es, ep, e, d, r⟩ := pq46; exact ⟨o, es, ep, base_of e (noA e d), d, r⟩
  have hKb : K.In (hidT s₁.heap H) := fun b o e => base_of (KX b o e) (by
   cases q : H b with
   | none => rfl
   | some u =>
    have e' : b = a := hA b (by rw [q]; simp)
    subst e'
    rw [hK (by rw [q]; simp)] at e; cases e)
  have hM : Mod K mg (hidT s₁.heap H) := ⟨hKb, nsK hns, ⟨mb, nsK hb, hbb⟩, let ⟨mc, h1, h2⟩ := hlim; ⟨mc, nsK h1, h2⟩⟩
  have e0 : Env0 P w K mg (hidT s₁.heap H) callerA [] s₁ H := ⟨rfl, hM, fun b o e => Qao e, Nat.le_of_eq (Qam _ _), trivial, fun b hb => absurd (show b ∈ ([] : List Addr) from hb) (by simp), hok, .of_eq hg⟩
  refine codeAny_mono ((F _ hKb (nsK hns)).run callerA [] s₁ H ⟨[.ref a], []⟩ [.ref a] [.ref a] _ _ hr e0 (hbind s₁ (.ref a)) (.cons rfl .nil) (hsp H hO hS)) fun r s' h => ?_
  cases r with
  | error e => exact (hCX H e s' h).elim
  | ok fl =>
   cases fl with
   | next => exact False.elim h
   | brk => exact False.elim h
   | cont => exact False.elim h
   | ret u =>
    obtain ⟨v, H', os, bare, un, hok', r', q⟩ := h
    have q' : v = .bl true := q
    subst q'
    obtain rfl : u = Value.bool true := r'
    refine ⟨rfl, OldK.of_keep fun b o e => ?_, os, bare⟩
    cases q : H b with
    | none => exact un.keep b o e q (by intro z; exact absurd (show b ∈ ([] : List Addr) from z) (by simp)) (by simp)
    | some u =>
     rcases hO b with z | ⟨ob, xs, z⟩
     ·rw [q] at z; cases z
     ·have z2 := un.frzs b ob _ z
      obtain ⟨e1, _⟩ := hok b _ z
      obtain ⟨e2, _⟩ := hok' b _ z2
      rw [e] at e1; cases e1
      exact e2
 cases hk : K.lookup a with
 | some o =>
  have e := KX a o hk
  rw [ha] at e
  cases e
  refine core (fun _ => none) (fun _ => .inl rfl) (.inr ⟨_, vs.toArray, _, hk, rfl, rfl, rfl, by rw [List.size_toArray, lenV]; exact hl, by simpa using rv⟩) (fun b u z => by have z' : (none : Option HO) = some u := z; cases z') (fun b z => absurd rfl z) fun z => absurd rfl z
 | none =>
  refine core (fun b => if b = a then some (.frz { cls := .type "list", data := .seq vs.toArray } (.lst (ns.map V.int))) else none) (fun b => ?_) (.inl (.inr ⟨{ cls := .type "list", data := .seq vs.toArray }, if_pos rfl⟩)) (fun b u z => ?_) (fun b z => ?_) fun _ => hk
  ·by_cases hb : b = a
   ·exact .inr ⟨_, _, if_pos hb⟩
   ·exact .inl (if_neg hb)
  ·by_cases hb : b = a
   ·have z' := (if_pos hb).symm.trans z
    cases z'
    subst hb
    exact ⟨ha, by rw [List.length_map]; exact hl, vs, _, rv, ha⟩
   ·have z' := (if_neg hb).symm.trans z
    cases z'
  ·by_cases hb : b = a
   ·exact hb
   ·exact absurd (if_neg hb) z
end L2
namespace L2
open PySem PySem.Spec PyProof.Rows
noncomputable abbrev KOf {K : PySem.W.Frag} {h : Heap} (_ : K.In h) : PySem.W.Frag := K
theorem walk_of {l : PySem.W.OpenLaw} {n k : Nat} {q : Program} {loose : List Str} {XP : (Str → Option Value) → Heap → Prop} {YP : World → Heap → Prop} {d : DefRec} {K : Params → PySem.W.Frag} {CX : World → CXT} {sp : World → Sp} {x : Str}
  (hn : l.most = some n) (hn2 : n ≤ sizeLine) (hdf : d.params.defaults = []) (hr : Room k callerA)
  (hY : ∀ (w : World) (h : Heap), YP w h → (K w.params).In h)
  (F : ∀ (w : World) (mg : Str → Option Value) (fa : Addr) (h : Heap), (K w.params).In h → h.Ns mainGlobals mg → mg d.name = some (.ref fa) →
   ∃ fd : FuncData, (∀ (s : Shared) (u : Value), BindsTo s fd ⟨[u], []⟩ [(x, u)]) ∧
    ∀ base : Heap, (K w.params).In base → base.Ns mainGlobals mg → FnOk l.prog w (K w.params) mg base (CX w) k fa fd [x] (sp w))
  (hsp : ∀ (w : World) (H : Hp) (a : Addr) (ns : List Int), ns.length ≤ n → Only H → SqL (K w.params) H a (ns.map V.int) → sp w [.ref a] H (fun v _ => v = .bl true) fun _ _ _ => False)
  (hCX : ∀ (w : World) (H : Hp) (s : Shared) (e : Value) (s' : Shared), CX w [] H s (fun _ _ _ => False) e s' → False) :
  PySem.W.WalkO q loose XP YP l.row.toRowW d [] (fun f vs => PySem.call f vs) := by
 refine Att.attach_call hn hdf fun w s₀ s₁ mg mb fa o pm cd doc a vs ns G Y ho hd hcd hmg hobj hints hlen hg => ?_
 have KX := hY w _ Y
 obtain ⟨fd, hb, hF⟩ := F w mg fa _ KX G.T.g hmg
 exact QcN KX G.T.g G.T.b G.T.builtins G.T.nolimit hg hobj hints (Nat.le_trans hlen hn2) hr hF hb (fun H hO hS => hsp w H a ns hlen hO hS) fun H e s' => hCX w H s₁ e s'
theorem walk_ofK {l : PySem.W.OpenLaw} {n k : Nat} {q : Program} {loose : List Str} {XP : (Str → Option Value) → Heap → Prop} {YP : World → Heap → Prop} {d : DefRec} {K : Params → PySem.W.Frag} {CX : CXT} {sp : PySem.W.Frag → Sp} {x : Str}
  (hn : l.most = some n) (hn2 : n ≤ sizeLine) (hdf : d.params.defaults = []) (hr : Room k callerA)
  (hY : ∀ (w : World) (h : Heap), YP w h → (K w.params).In h)
  (F : ∀ (w : World) (mg : Str → Option Value) (fa : Addr) (h : Heap), (K w.params).In h → h.Ns mainGlobals mg → mg d.name = some (.ref fa) →
   ∃ fd : FuncData, (∀ (s : Shared) (u : Value), BindsTo s fd ⟨[u], []⟩ [(x, u)]) ∧
    ∀ base : Heap, (K w.params).In base → base.Ns mainGlobals mg → FnOk l.prog w (K w.params) mg base CX k fa fd [x] (sp (K w.params)))
  (hsp : ∀ (K : PySem.W.Frag) (H : Hp) (a : Addr) (ns : List Int), ns.length ≤ n → Only H → SqL K H a (ns.map V.int) → sp K [.ref a] H (fun v _ => v = .bl true) fun _ _ _ => False)
  (hCX : ∀ (H : Hp) (s : Shared) (e : Value) (s' : Shared), CX [] H s (fun _ _ _ => False) e s' → False) :
  PySem.W.WalkO q loose XP YP l.row.toRowW d [] (fun f vs => PySem.call f vs) :=
 walk_of (K := K) (CX := fun _ => CX) (sp := fun w => sp (K w.params)) hn hn2 hdf hr hY F (fun w H a ns h1 h2 h3 => hsp (K w.params) H a ns h1 h2 h3) fun _ H s e s' => hCX H s e s'
end L2
/- THE LAST THEOREM (shape; LID, My.* are yours):
  My.Adr: a structure of the addresses that your layer names (classes, functions); My.Txt K t: a structure (Prop) of the equations over K;
  My.txt_mk : {K} {implicit addresses ..} (e1 : nsIn K mainGlobals "law" = some (some (.ref f))) (e2 : K.lookup f = some ⟨oc, od, .func (fnOf "law" "law" params body scope dV kV doc pm an cdv ct), sl⟩) (e3 : codeIn K cdv "law" = true) .. : ∃ t, My.Txt K t
set_option maxHeartbeats 0 in
theorem PySem.Challenge.cw_LID_holds : PySem.Challenge.rw_LID.Holds := by
 w_on; o_law; k_head; (case hw => w_witness2)
 k_fill
 refine L2.walk_of (l := PySem.Challenge.rw_LID) (n := 63) (k := 40) (x := "script") (CX := fun w => ..) (sp := fun _ => My.sp_law) rfl (by decide) rfl ⟨rfl, by decide, by decide⟩ (fun w h Y => PySem.W.kIn_of Y) ?F ?S ?C
 case F =>
  intro w mg fa h KX G hmg
  have T : ∃ t, My.Txt (L2.KOf KX) t := by
   dsimp only [L2.KOf]                          -- K must stand as «<heap const> w.params» for k_is
   refine' My.txt_mk ?e1 ?e2 ?e3 ..
   (case e1 => PySem.W.k_is)                    -- in the order: a name -> its address -> its object -> its parts
   (case e2 => PySem.W.k_is)
   ..
  obtain ⟨t, T⟩ := T
  have e0 := hmg.symm.trans (PySem.W.mg_of KX G T.law)
  cases e0                                       -- fa is the law's own address
  exact ⟨_, fun s u => .of_eq rfl, fun base kb nb => My.law_fn T kb nb⟩     -- if «.of_eq rfl» comes too early: refine' ⟨_, ?b, fun base kb nb => My.law_fn T kb nb⟩; exact fun s u => .of_eq rfl
 case S => exact fun w H a ns hl hO hS => ..
 case C => exact ..
(the tactic k_is has no namespace: write k_is) -/
namespace L2
open PySem PySem.Spec PyProof.Rows
noncomputable def defArgs (s : Stmt) : Arguments := match s with
 | .FunctionDef _ a _ _ _ _ _ _ _ _ => a
 | _ => { posonlyargs := [], args := [], vararg := none, kwonlyargs := [], kw_defaults := [], kwarg := none, defaults := [] }
noncomputable def defBody (s : Stmt) : List Stmt := match s with
 | .FunctionDef _ _ b _ _ _ _ _ _ _ => b
 | _ => []
noncomputable def defScope (s : Stmt) : Scope := match s with
 | .FunctionDef _ _ _ _ _ _ sc _ _ _ => sc
 | _ => { kind := .function, names := [], isGenerator := false, isCoroutine := false }
noncomputable abbrev CX0 : CXT := fun _ _ _ _ _ _ => False
noncomputable abbrev E0 : XK := fun _ _ _ => False
theorem QcO {X : Cx} : Passes CX0 X E0 := fun _ _ _ _ _ _ _ h => h.elim
structure Fun (K : PySem.W.Frag) (x qual : Str) (st : Stmt) (f : Addr) (fd : FuncData) : Prop where
 ex : ∃ (oc : Value) (od : Option Addr) (kV doc pm : Value) (an : Option Addr) (cdv ct : Value) (osl : Array (Option Value)),
  fd = PySem.W.fnOf x qual (defArgs st) (defBody st) (defScope st) .none kV doc pm an cdv ct ∧ K.lookup f = some ⟨oc, od, .func fd, osl⟩ ∧ PySem.W.codeIn K cdv qual = true
 kp : PySem.W.keepIn K (.ref f) = true
section
variable {P : Program} {w : World} {K : PySem.W.Frag} {mg : Str → Option Value} {base : Heap}
theorem Fun.ok {x qual : Str} {st : Stmt} {f : Addr} {fd : FuncData} {N ps : List Str} {k : Nat} {sp : Sp} (F : Fun K x qual st f fd) (S : FnScope N ps (defScope st)) (len : ∀ vs H Q E, sp vs H Q E → vs.length = ps.length)
  (hbody : ∀ (cdv : Value) (A : Around) (outer : List Env) (s : Shared) (H : Hp) (vs : List V) (Q : VK) (E : XK), Room k (A.deeper (envOfC qual (defScope st) s.heap.objs.size f cdv)) → sp vs H Q E →
   ∃ t, PSs (cxOf CX0 P w K mg base N qual (defScope st) f cdv A outer s H E).nox (defBody st) t ∧ t { nx := fun _ H' => Q .non H', rt := Q } (start N vs) H) : FnOk P w K mg base CX0 (k + 1) f fd ps sp := by
 obtain ⟨oc, od, kV, doc, pm, an, cdv, ct, osl, rfl, lk, hcd⟩ := F.ex
 refine QbV lk hcd S len fun A outer s H vs Q E hr hsp => ?_
 obtain ⟨t, h, q⟩ := hbody cdv A outer s H vs Q E hr hsp
 exact ⟨t, h.nox, q⟩
theorem Fun.binds {x qual : Str} {st : Stmt} {f : Addr} {fd : FuncData} {ps : List Str} (F : Fun K x qual st f fd)
  (h : ∀ (kV doc pm : Value) (an : Option Addr) (cdv ct : Value) (us : List Value), us.length = ps.length → bindArgs (PySem.W.fnOf x qual (defArgs st) (defBody st) (defScope st) .none kV doc pm an cdv ct) ⟨us, []⟩ = pure (ps.zip us)) : Binds K fd ps [] := by
 obtain ⟨oc, od, kV, doc, pm, an, cdv, ct, osl, rfl, lk, hcd⟩ := F.ex
 exact .all (h kV doc pm an cdv ct)
theorem QcP {x qual : Str} {st : Stmt} {f : Addr} {oc : Value} {od an : Option Addr} {osl : Array (Option Value)} {kV doc pm cdv ct : Value} (l : K.lookup f = some ⟨oc, od, .func (PySem.W.fnOf x qual (defArgs st) (defBody st) (defScope st) .none kV doc pm an cdv ct), osl⟩)
  (c : PySem.W.codeIn K cdv qual = true) (k : PySem.W.keepIn K (.ref f) = true) : Fun K x qual st f (PySem.W.fnOf x qual (defArgs st) (defBody st) (defScope st) .none kV doc pm an cdv ct) := ⟨⟨oc, od, kV, doc, pm, an, cdv, ct, osl, rfl, l, c⟩, k⟩
end
section
variable {X : Cx}
end
def Same (H H' : Hp) : Prop := ∀ b o, H b = some o → H' b = some o
theorem Same.refl (H : Hp) : Same H H := fun _ _ h => h
theorem Same.trans {H H1 H2 : Hp} (a : Same H H1) (b : Same H1 H2) : Same H H2 := fun c o h => b c o (a c o h)
theorem Same.free {H H' : Hp} (e : Same H H') {l : Addr} (h : H' l = Option.none) : H l = Option.none := by
 cases q : H l with
 | none => rfl
 | some o =>
  rw [e l o q] at h
  cases h
theorem Same.seq {K : PySem.W.Frag} {H H' : Hp} {a : Addr} {xs : List V} (e : Same H H') (h : SqL K H a xs) : SqL K H' a xs := by
 rcases h with (h | ⟨o, h⟩) | h
 ·exact .inl (.inl (e _ _ h))
 ·exact .inl (.inr ⟨o, e _ _ h⟩)
 ·exact .inr h
end L2
namespace L2
open PySem PySem.Spec PyProof.Rows
section
variable {κ : Type} [DecidableEq κ]
noncomputable def valV (kvs : List (κ × V)) (k : κ) : Option V := (kvs.find? fun kv => decide (kv.1 = k)).map (·.2)
noncomputable def putK (kvs : List (κ × V)) (k : κ) (v : V) : List (κ × V) :=
 if (kvs.any fun kv => decide (kv.1 = k)) = true then kvs.map (fun kv => if kv.1 = k then (kv.1, v) else kv) else kvs ++ [(k, v)]
noncomputable def dropK (kvs : List (κ × V)) (k : κ) : List (κ × V) := kvs.filter fun kv => decide (kv.1 ≠ k)
theorem QcQ {p : κ × V} {r : List (κ × V)} {k : κ} (e : p.1 = k) : valV (p :: r) k = some p.2 := by simp [valV, List.find?_cons, e]
theorem QcR {p : κ × V} {r : List (κ × V)} {k : κ} (e : ¬ p.1 = k) : valV (p :: r) k = valV r k := by simp [valV, List.find?_cons, e]
theorem QcS (k : κ) : ∀ kvs : List (κ × V), (kvs.any fun kv => decide (kv.1 = k)) = (valV kvs k).isSome
 | [] => rfl
 | p :: r => by
  rw [List.any_cons]
  by_cases e : p.1 = k
  ·simp only [QcQ e, decide_eq_true e, Bool.true_or, Option.isSome_some]
  ·rw [QcR e, decide_eq_false e, Bool.false_or]; exact QcS k r
theorem QcT (kvs : List (κ × V)) (k : κ) (v : V) : (putK kvs k v).length ≤ kvs.length + 1 := by
 unfold putK
 split
 ·rw [List.length_map]; ac_nf
 ·rw [List.length_append, List.length_cons, List.length_nil]; ac_nf
theorem RelO.isSome_eq {o : Option V} {u : Option Value} (r : RelO o u) : o.isSome = u.isSome := by
 cases o with
 | none => cases u with
  | none => rfl
  | some _ => exact (show False from r).elim
 | some _ => cases u with
  | none => exact (show False from r).elim
  | some _ => rfl
theorem RelO.getD {o : Option V} {u : Option Value} {d : V} {d' : Value} (r : RelO o u) (rd : RelV d d') : RelV (o.getD d) (u.getD d') := by
 cases o with
 | none => cases u with
  | none => exact rd
  | some _ => exact (show False from r).elim
 | some _ => cases u with
  | none => exact (show False from r).elim
  | some _ => exact r
theorem KV.val {kvs : List (κ × V)} {vs : List (κ × Value)} (r : KV kvs vs) (k : κ) : RelO (valV kvs k) (valueAt vs k) := by
 unfold KV at r
 induction r with
 | nil => exact True.intro
 | @cons p q ps qs h t ih =>
  obtain ⟨h1, h2⟩ := h
  by_cases e : p.1 = k
  ·have e' : q.1 = k := h1.symm.trans e
   have b : valueAt (q :: qs) k = some q.2 := by simp [valueAt, List.find?_cons, e']
   rw [QcQ e, b]; exact h2
  ·have e' : ¬ q.1 = k := fun z => e (h1.trans z)
   have b : valueAt (q :: qs) k = valueAt qs k := by simp [valueAt, List.find?_cons, e']
   rw [QcR e, b]; exact ih
theorem KV.any {kvs : List (κ × V)} {vs : List (κ × Value)} (r : KV kvs vs) (k : κ) : (kvs.any fun kv => decide (kv.1 = k)) = vs.any fun kv => decide (kv.1 = k) := by
 unfold KV at r
 induction r with
 | nil => rfl
 | cons h t ih => rw [List.any_cons, List.any_cons, ih, h.1]
theorem KV.repl {kvs : List (κ × V)} {vs : List (κ × Value)} (r : KV kvs vs) (k : κ) {y : V} {u : Value} (ry : RelV y u) :
  KV (kvs.map fun kv => if kv.1 = k then (kv.1, y) else kv) (vs.map fun kv => if kv.1 = k then (kv.1, u) else kv) := by
 unfold KV at r ⊢
 induction r with
 | nil => exact .nil
 | @cons p q ps qs h t ih =>
  rw [List.map_cons, List.map_cons]
  refine .cons ?_ ih
  obtain ⟨h1, h2⟩ := h
  by_cases e : p.1 = k
  ·rw [if_pos e, if_pos (h1.symm.trans e)]; exact ⟨h1, ry⟩
  ·rw [if_neg e, if_neg (fun z => e (h1.trans z))]; exact ⟨h1, h2⟩
theorem KV.put {kvs : List (κ × V)} {vs : List (κ × Value)} (r : KV kvs vs) (k : κ) {y : V} {u : Value} (ry : RelV y u) : KV (putK kvs k y) (stored vs k u) := by
 unfold putK stored
 rw [r.any k]
 by_cases e : (vs.any fun kv => decide (kv.1 = k)) = true
 ·rw [if_pos e, if_pos e]; exact r.repl k ry
 ·rw [if_neg e, if_neg e]; exact Paired.snoc r ⟨rfl, ry⟩
theorem KV.drop {kvs : List (κ × V)} {vs : List (κ × Value)} (r : KV kvs vs) (k : κ) : KV (dropK kvs k) (without vs k) := by
 unfold KV at r ⊢
 unfold dropK without
 induction r with
 | nil => exact .nil
 | @cons p q ps qs h t ih =>
  obtain ⟨h1, h2⟩ := h
  rw [List.filter_cons, List.filter_cons]
  by_cases e : p.1 = k
  ·have a : ¬ decide (p.1 ≠ k) = true := by simp [e]
   have b : ¬ decide (q.1 ≠ k) = true := by simp [h1.symm.trans e]
   rw [if_neg a, if_neg b]; exact ih
  ·have e' : ¬ q.1 = k := fun z => e (h1.trans z)
   have a : decide (p.1 ≠ k) = true := by simp [e]
   have b : decide (q.1 ≠ k) = true := by simp [e']
   rw [if_pos a, if_pos b]; exact .cons ⟨h1, h2⟩ ih
theorem KV.keys {kvs : List (κ × V)} {vs : List (κ × Value)} (r : KV kvs vs) : kvs.map (·.1) = vs.map (·.1) := by
 unfold KV at r
 induction r with
 | nil => rfl
 | cons h t ih => rw [List.map_cons, List.map_cons, ih, h.1]
theorem KV.length {kvs : List (κ × V)} {vs : List (κ × Value)} (r : KV kvs vs) : kvs.length = vs.length := Paired.length r
end
theorem QcU {P : Program} {w : World} {k : Key} {u : Value} (r : RelV (kV k) u) : (mixKind P w).is k u = true := by
 cases k with
 | inl i => obtain ⟨t, e⟩ := (show ∃ t, u = Value.int i t from r); subst e; exact Qag P w i t
 | inr x => obtain ⟨t, e⟩ := (show ∃ t, u = Value.str x t from r); subst e; exact Qah P w x t
theorem QcV {P : Program} {w : World} : ∀ {ks : List Key} {us : List Value}, Vals (ks.map kV) us → ItemsAre (mixKind P w) ks us
 | [], _, r => by rw [List.map_nil] at r; cases r; exact .nil
 | k :: ks, _, r => by
  rw [List.map_cons] at r
  cases r with
  | cons h t => exact .cons (QcU h) (QcV t)
noncomputable abbrev KT (H : Hp) : List (List Key × V) → List (List Key × Addr × Value) → Prop := Paired fun p q => p.1 = q.1 ∧ H q.2.1 = some (.tup (p.1.map kV)) ∧ RelV p.2 q.2.2
theorem KT.val {H : Hp} {kvs : List (List Key × V)} {xs : List (List Key × Addr × Value)} (r : KT H kvs xs) (k : List Key) : RelO (valV kvs k) ((atKey xs k).map (·.2)) := by
 induction r with
 | nil => exact True.intro
 | @cons p q ps qs h t ih =>
  obtain ⟨h1, _, h2⟩ := h
  by_cases e : p.1 = k
  ·have e' : q.1 = k := h1.symm.trans e
   have b : atKey (q :: qs) k = some q.2 := by simp [atKey, List.find?_cons, e']
   rw [QcQ e, b]; exact h2
  ·have e' : ¬ q.1 = k := fun z => e (h1.trans z)
   have b : atKey (q :: qs) k = atKey qs k := by simp [atKey, List.find?_cons, e']
   rw [QcR e, b]; exact ih
theorem KT.repl {H : Hp} {kvs : List (List Key × V)} {xs : List (List Key × Addr × Value)} (r : KT H kvs xs) (k : List Key) {y : V} {u : Value} (ry : RelV y u) :
  KT H (kvs.map fun kv => if kv.1 = k then (kv.1, y) else kv) (xs.map (putAt k u)) := by
 induction r with
 | nil => exact .nil
 | @cons p q ps qs h t ih =>
  rw [List.map_cons, List.map_cons]
  refine .cons ?_ ih
  obtain ⟨h1, h2, h3⟩ := h
  unfold putAt
  by_cases e : p.1 = k
  ·rw [if_pos e, if_pos (h1.symm.trans e)]; exact ⟨h1, h2, ry⟩
  ·rw [if_neg e, if_neg (fun z => e (h1.trans z))]; exact ⟨h1, h2, h3⟩
theorem KT.put {H : Hp} {kvs : List (List Key × V)} {xs : List (List Key × Addr × Value)} (r : KT H kvs xs) (k : List Key) {b : Addr} {y : V} {u : Value} (hb : H b = some (.tup (k.map kV))) (ry : RelV y u) :
  KT H (putK kvs k y) (storedH xs k b u) := by
 have e : (kvs.any fun kv => decide (kv.1 = k)) = (atKey xs k).isSome := by
  rw [QcS, (r.val k).isSome_eq, Option.isSome_map]
 unfold putK storedH
 rw [e]
 by_cases q : (atKey xs k).isSome = true
 ·rw [if_pos q, if_pos q]; exact r.repl k ry
 ·rw [if_neg q, if_neg q]; exact Paired.snoc r ⟨rfl, hb, ry⟩
theorem KT.keeps {H H' : Hp} {kvs : List (List Key × V)} {xs : List (List Key × Addr × Value)} (r : KT H kvs xs) (ht : ∀ b ys, H b = some (.tup ys) → H' b = some (.tup ys)) : KT H' kvs xs :=
 Paired.mapP r fun _ _ z => ⟨z.1, ht _ _ z.2.1, z.2.2⟩
section
variable {P : Program} {w : World} {H : Hp} {h : Heap} {a : Addr}
theorem QcW {u : HO} (ok : HOk P w H h) (e : Rd H a u) : ObjOk P w H h a u := e.ok ok
theorem QcX {kvs : List (Key × V)} (ok : HOk P w H h) (e : Rd H a (.dK kvs)) : kvs.length ≤ sizeLine ∧ (a == sysModules) = false ∧ ∃ vs, KV kvs vs ∧ h.DictOf (mixKind P w) a vs :=
 show ObjOk P w H h a (.dK kvs) from QcW ok e
theorem QcY {kvs : List (Key × V)} (ok : HOk P w H h) (e : H a = some (.dK kvs)) : kvs.length ≤ sizeLine ∧ (a == sysModules) = false ∧ ∃ vs, KV kvs vs ∧ h.DictOf (mixKind P w) a vs := QcX ok (.inl e)
theorem QcZ {ks : List Key} (ok : HOk P w H h) (e : H a = some (.tup (ks.map kV))) : (tupleKind (mixKind P w)).is h ks a := by
 obtain ⟨_, its, r, o, h1, h2, n, h3⟩ := (show ObjOk P w H h a (.tup (ks.map kV)) from ok a _ e)
 exact ⟨o, its.toArray, n, h1, h2, h3, by simpa using QcV r⟩
theorem Qc0 {kvs : List (List Key × V)} (ok : HOk P w H h) (e : Rd H a (.dT kvs)) : kvs.length ≤ sizeLine ∧ (a == sysModules) = false ∧
  ∃ xs, KT H kvs xs ∧ h.DictOfH (tupleKind (mixKind P w)) a xs := by
 obtain ⟨z, y, xs, r, o, es, ep, h1, h2, h3, h4, h5⟩ := (show ObjOk P w H h a (.dT kvs) from QcW ok e)
 refine ⟨z, y, xs, r, o, es, ep, h1, h2, h3, h4, fun x hx => ?_, h5⟩
 have all : ∀ {l : List (List Key × V)} {m : List (List Key × Addr × Value)}, KT H l m → ∀ x ∈ m, (tupleKind (mixKind P w)).is h x.1 x.2.1 := by
  intro l m q
  induction q with
  | nil => intro x hx; exact nomatch hx
  | @cons p q ps qs hq t ih =>
   intro x hx
   rcases List.mem_cons.mp hx with e | hx
   ·subst e
    exact QcZ ok (by rw [← hq.1]; exact hq.2.1)
   ·exact ih x hx
 exact all r x hx
theorem Qc1 {kvs : List (List Key × V)} (ok : HOk P w H h) (e : H a = some (.dT kvs)) : kvs.length ≤ sizeLine ∧ (a == sysModules) = false ∧
  ∃ xs, KT H kvs xs ∧ h.DictOfH (tupleKind (mixKind P w)) a xs := Qc0 ok (.inl e)
end
def DGet (H : Hp) (a : Addr) (y : V) (r : Option V) : Prop :=
 (∃ kvs k, Rd H a (.dK kvs) ∧ y = kV k ∧ r = valV kvs k) ∨ ∃ kvs k b, Rd H a (.dT kvs) ∧ y = .ref b ∧ H b = some (.tup (k.map kV)) ∧ r = valV kvs k
def DPut (H : Hp) (a : Addr) (y v : V) (H' : Hp) : Prop :=
 (∃ kvs k, H a = some (.dK kvs) ∧ y = kV k ∧ kvs.length < sizeLine ∧ H' = upd H a (.dK (putK kvs k v))) ∨
 ∃ kvs k b, H a = some (.dT kvs) ∧ y = .ref b ∧ H b = some (.tup (k.map kV)) ∧ kvs.length < sizeLine ∧ H' = upd H a (.dT (putK kvs k v))
theorem DGet.k {H : Hp} {a : Addr} {kvs : List (Key × V)} {k : Key} (e : H a = some (.dK kvs)) : DGet H a (kV k) (valV kvs k) := .inl ⟨kvs, k, .inl e, rfl, rfl⟩
theorem DGet.t {H : Hp} {a b : Addr} {kvs : List (List Key × V)} {k : List Key} (e : H a = some (.dT kvs)) (eb : H b = some (.tup (k.map kV))) : DGet H a (.ref b) (valV kvs k) := .inr ⟨kvs, k, b, .inl e, rfl, eb, rfl⟩
theorem DPut.k {H : Hp} {a : Addr} {kvs : List (Key × V)} {k : Key} {v : V} (e : H a = some (.dK kvs)) (hl : kvs.length < sizeLine) : DPut H a (kV k) v (upd H a (.dK (putK kvs k v))) := .inl ⟨kvs, k, e, rfl, hl, rfl⟩
theorem DPut.t {H : Hp} {a b : Addr} {kvs : List (List Key × V)} {k : List Key} {v : V} (e : H a = some (.dT kvs)) (eb : H b = some (.tup (k.map kV))) (hl : kvs.length < sizeLine) :
  DPut H a (.ref b) v (upd H a (.dT (putK kvs k v))) := .inr ⟨kvs, k, b, e, rfl, eb, hl, rfl⟩
section
variable {X : Cx} {pins : List (Addr × Obj)} {σ : St} {H : Hp} {s : Shared} {a : Addr} {y v : V} {u r : Value} {o : Option V} {A : Around} {E : Value → Shared → Prop}
theorem Inv.big (I : Inv X pins σ H s) : sysModules < s.heap.objs.size := by
 have h : mainGlobals < s.heap.objs.size := (I.mod.glob.keeps I.bk).lt
 exact Nat.lt_trans (by decide) h
theorem Qc2 {Q : Value → Shared → Prop} (hu : A.units + 1 < cLine) (I : Inv X pins σ H s) (g : DGet H a y (some v)) (ry : RelV y u) (h : ∀ w' s', Inv X pins σ H s' → RelV v w' → Q w' s') :
  wpAny (model X.prog X.w) A (getItem (.ref a) u) Q E s := by
 rcases g with ⟨kvs, k, e, ey, l⟩ | ⟨kvs, k, b, e, ey, eb, l⟩
 ·subst ey
  obtain ⟨z, hd, vs, rel, dd⟩ := QcX I.hok e
  obtain ⟨w', hw, rw'⟩ := RelO.some_of (v := v) (o := valueAt vs k) (by rw [l]; exact rel.val k)
  exact wpAny_getItem_of (QcU ry) dd.mapOf hw (h w' _ (I.tok _) rw')
 ·subst ey
  cases (show u = Value.ref b from ry)
  obtain ⟨z, hd, xs, rel, dd⟩ := Qc0 I.hok e
  obtain ⟨w', hw, rw'⟩ := RelO.some_of (v := v) (o := (atKey xs k).map (·.2)) (by rw [l]; exact rel.val k)
  obtain ⟨p, hp, hp2⟩ := Option.map_eq_some_iff.mp hw
  refine wpAny_getItem_heap (tupleKind_room_in1 hu) (QcZ I.hok eb) dd hp ?_
  rw [hp2]
  exact h w' _ (I.tok _) rw'
theorem Qc3 {Q : Value → Shared → Prop} (hu : A.units + 1 < cLine) (I : Inv X pins σ H s) (g : DGet H a y o) (ry : RelV y u) (h : ∀ s', Inv X pins σ H s' → Q (.bool (!o.isSome)) s') :
  wpAny (model X.prog X.w) A (compareOp .NotIn u (.ref a)) Q E s := by
 rcases g with ⟨kvs, k, e, ey, l⟩ | ⟨kvs, k, b, e, ey, eb, l⟩
 ·subst ey
  obtain ⟨z, hd, vs, rel, dd⟩ := QcX I.hok e
  refine wpAny_notIn_of (QcU ry) hd dd.mapOf ?_
  rw [← (rel.val k).isSome_eq, ← l]
  exact h _ (I.tok _)
 ·subst ey
  cases (show u = Value.ref b from ry)
  obtain ⟨z, hd, xs, rel, dd⟩ := Qc0 I.hok e
  refine wpAny_notIn_heap (tupleKind_room_in1 hu) (QcZ I.hok eb) hd dd ?_
  have q := (rel.val k).isSome_eq
  rw [Option.isSome_map] at q
  rw [← q, ← l]
  exact h _ (I.tok _)
theorem Qc4 {h' : Heap} {t' : Nat} {ob : HO} (I : Inv X pins σ H s) (mu : Mut (H a)) (hs : Heap.SameBut a s.heap h') (he : ∃ q, h'.get? a = some q) (new : ObjOk X.prog X.w (upd H a ob) h' a ob) :
  Inv X pins σ (upd H a ob) { s with heap := h', toks := t' } :=
 I.write (x := a) (e := a) mu (.inl rfl) (fun b q hb z => (hs.2 b hb).trans z) he new
theorem Qc5 {P : Program} {w : World} {H' : Hp} {h' : Heap} {kvs : List (Key × V)} {vs : List (Key × Value)} (z : kvs.length ≤ sizeLine) (hd : (a == sysModules) = false) (rel : KV kvs vs) (dd : h'.DictOf (mixKind P w) a vs) :
  ObjOk P w H' h' a (.dK kvs) := ⟨z, hd, vs, rel, dd⟩
theorem Qc6 {H' : Hp} {Q : Unit → Shared → Prop} (hu : A.units + 1 < cLine) (I : Inv X pins σ H s) (g : DPut H a y v H') (ry : RelV y u) (rv : RelV v r) (h : ∀ s', Inv X pins σ H' s' → Q () s') :
  wpAny (model X.prog X.w) A (setItem (.ref a) u r) Q E s := by
 rcases g with ⟨kvs, k, e, ey, l, eH⟩ | ⟨kvs, k, b, e, ey, eb, l, eH⟩
 ·subst ey eH
  obtain ⟨z, hd, vs, rel, dd⟩ := QcY I.hok e
  have hz : vs.length ≤ sizeLine := by rw [← rel.length]; exact z
  have hl : (putK kvs k v).length ≤ sizeLine := by have := QcT kvs k v; ac_nf
  refine wpAny_setItem_pairs (hsz := hz) (QcU ry) dd fun h' dd' hs => h _ ?_
  have he : ∃ q, h'.get? a = some q := let ⟨q, _, _, hq, _⟩ := dd'; ⟨q, hq⟩
  exact Qc4 I (by rw [e]; exact True.intro) hs he (Qc5 hl hd (rel.put k rv) dd')
 ·subst ey eH
  cases (show u = Value.ref b from ry)
  obtain ⟨z, hd, xs, rel, dd⟩ := Qc1 I.hok e
  have hz : xs.length ≤ sizeLine := by rw [← Paired.length rel]; exact z
  have hl : (putK kvs k v).length ≤ sizeLine := by have := QcT kvs k v; ac_nf
  refine wpAny_setItem_heap (hsz := hz) (tupleKind_room_in1 hu) (QcZ I.hok eb) dd fun h' dd' hs => h _ ?_
  obtain ⟨q, es, ep, hq, h2, h3, h4, _, h5⟩ := dd'
  refine Qc4 I (by rw [e]; exact True.intro) hs ⟨q, hq⟩ ⟨hl, hd, _, (rel.put k eb rv).keeps fun c ys ec => ?_, q, es, ep, hq, h2, h3, h4, h5⟩
  rw [Qaj (Qak ec e (fun z => nomatch z))]
  exact ec
end
section
variable {X : Cx} {pins : List (Addr × Obj)} {σ : St} {H : Hp} {s : Shared} {a : Addr} {kvs : List (Key × V)} {k : Key} {u : Value} {A : Around} {E : Value → Shared → Prop}
theorem Qc7 {Q : Value → Shared → Prop} (I : Inv X pins σ H s) (e : Rd H a (.dK kvs)) (h : ∀ t s', Inv X pins σ H s' → Q (.int kvs.length t) s') : wpAny (model X.prog X.w) A (call (.builtin "len") [.ref a]) Q E s := by
 obtain ⟨z, hd, vs, rel, dd⟩ := QcX I.hok e
 refine call_len_dict hd dd (by rw [← rel.length]; rw [sizeLine_eq] at z; ac_nf) ?_
 rw [← rel.length]
 exact h _ _ (I.tok _)
end
section
variable {X : Cx} {o i e value : Expr} {pos pos' tpos : Pos} {td ty tv : TE}
end
section
variable {X : Cx} {pos : Pos}
end
noncomputable def mergeK (kvs more : List (Key × V)) : List (Key × V) := more.foldl (fun acc kv => putK acc kv.1 kv.2) kvs
theorem KV.merge : ∀ {more : List (Key × V)} {rs : List (Key × Value)} {kvs : List (Key × V)} {vs : List (Key × Value)}, KV more rs → KV kvs vs → KV (mergeK kvs more) (merged vs rs) := by
 intro more rs kvs vs r
 unfold KV at r
 induction r generalizing kvs vs with
 | nil => intro q; exact q
 | @cons p q ps qs h t ih =>
  intro r0
  have e : KV (putK kvs p.1 p.2) (stored vs q.1 q.2) := by
   have := r0.put p.1 h.2
   rw [← h.1]; exact this
  exact ih e
structure M1 (X : Cx) (o : Expr) (m : Str) (apos : Pos) (e : Expr) (cpos : Pos) : Prop where
 base : attributeBase o m X.env (eval o X.env) = eval o X.env
 few : ((backTo cpos (starEach [e] X.env)).all (fun x => !x.1) && (backToKw cpos (keywordEach [] X.env)).all (fun x => x.1.isSome)
  && decide (([e] : List Expr).length + ([] : List Keyword).length + (if ([] : List Keyword).isEmpty then 0 else 1) < 30)) = true
 line : (apos.endLine == cpos.line) = true
 trees : backTo cpos (starEach [e] X.env) = [(false, eval e X.env)]
structure M2 (X : Cx) (o : Expr) (m : Str) (apos : Pos) (e f : Expr) (cpos : Pos) : Prop where
 base : attributeBase o m X.env (eval o X.env) = eval o X.env
 few : ((backTo cpos (starEach [e, f] X.env)).all (fun x => !x.1) && (backToKw cpos (keywordEach [] X.env)).all (fun x => x.1.isSome)
  && decide (([e, f] : List Expr).length + ([] : List Keyword).length + (if ([] : List Keyword).isEmpty then 0 else 1) < 30)) = true
 line : (apos.endLine == cpos.line) = true
 trees : backTo cpos (starEach [e, f] X.env) = [(false, eval e X.env), (false, eval f X.env)]
end L2
namespace MM
open PySem PySem.Spec PyProof.Rows L2
section
variable {prog : Program} {w : World} {K : Type} [DecidableEq K] (knd : KeyKind prog w K)
inductive TIts (h : Heap) : List (List K) → List Value → Prop
 | nil : TIts h [] []
 | cons {k : List K} {b : Addr} {ks : List (List K)} {vs : List Value} : IsTupleKey knd h k b → TIts h ks vs → TIts h (k :: ks) (.ref b :: vs)
def IsNestKey (h : Heap) (ks : List (List K)) (a : Addr) : Prop := ∃ o items n, h.get? a = some o ∧ o.cls = .type "tuple" ∧ o.data = .seq items n ∧ TIts knd h ks items.toList
variable {knd}
theorem TIts.inj {h : Heap} {x y : List (List K)} {vs : List Value} (a : TIts knd h x vs) (b : TIts knd h y vs) : x = y := by
 induction a generalizing y with
 | nil => cases b; rfl
 | cons a t ih => cases b with
  | cons b u => rw [a.inj b, ih u]
theorem IsNestKey.typeIs {s : Shared} {ks : List (List K)} {a : Addr} (x : IsNestKey knd s.heap ks a) : s.TypeIs (.ref a) "tuple" := let ⟨o, _, _, ho, hc, _⟩ := x; ⟨o, ho, hc⟩
theorem IsNestKey.inj {h : Heap} {a : Addr} {x y : List (List K)} (hx : IsNestKey knd h x a) (hy : IsNestKey knd h y a) : x = y := by
 obtain ⟨o, items, n, ho, _, hd, hi⟩ := hx
 obtain ⟨o', items', n', ho', _, hd', hi'⟩ := hy
 cases ho.symm.trans ho'
 rw [hd] at hd'
 injection hd' with h1 _
 subst h1
 exact hi.inj hi'
theorem TIts.keeps {h h' : Heap} {d : Addr} {o : Obj} {es ep} (ho : h.get? d = some o) (hd : o.data = .dict es ep) (hs : Heap.SameBut d h h') : ∀ {x : List (List K)} {vs : List Value}, TIts knd h x vs → TIts knd h' x vs
 | _, _, .nil => .nil
 | _, _, .cons a t => .cons (a.keeps ho hd hs) (TIts.keeps ho hd hs t)
theorem IsNestKey.keeps {h h' : Heap} {ks : List (List K)} {a d : Addr} {o : Obj} {es ep} (x : IsNestKey knd h ks a) (ho : h.get? d = some o) (hd : o.data = .dict es ep) (hs : Heap.SameBut d h h') :
  IsNestKey knd h' ks a := by
 obtain ⟨o', items, n, ho', hc, hd', hi⟩ := x
 have hne : a ≠ d := by
  rintro rfl
  obtain rfl : o' = o := Option.some.inj (ho'.symm.trans ho)
  rw [hd] at hd'; exact nomatch hd'
 exact ⟨o', items, n, (hs.2 a hne).trans ho', hc, hd', hi.keeps ho hd hs⟩
noncomputable def nestHash (knd : KeyKind prog w K) (ks : List (List K)) : Int := reduceHash (Builtin.Tuple.tupleHashOf (ks.map (tupleKeyHash knd)))
noncomputable def nestDraws : List (List K) → Nat
 | [] => 0
 | k :: ks => (k.length + 1) + nestDraws ks
variable {A : Around} {E : Value → Shared → Prop} {s : Shared}
theorem Qc8 (k : List K) : ∀ (l : List (List K)), nestDraws (l ++ [k]) = nestDraws l + (k.length + 1)
 | [] => by simp [nestDraws]
 | x :: l => by simp [nestDraws, Qc8 k l]; ac_nf
theorem Qc9 {ks : List (List K)} {a : Addr} {Q : Int → Shared → Prop} (hu : A.units + 1 < cLine) (hk : IsNestKey knd s.heap ks a) (h : Q (nestHash knd ks) { s with toks := s.toks + (nestDraws ks + 1) }) :
  wpAny (model prog w) A (pyHash (.ref a)) Q E s := by
 have hT := hk.typeIs
 obtain ⟨o, items, n, ho, _, hd, hi⟩ := hk
 unfold pyHash
 first | unfold pyHashByItsType | skip
 first | refine wpAny_bind (wpAny_cRoomFor_or (.inr (by ac_nf)) ?_) | skip
 refine wpAny_bind (wpAny_specialOf hT F.slot_tuple_hash.lookup ?_)
 show wpAny _ _ (if (some (Value.builtin "tuple.__hash__") == some Value.none) = true then _ else _) Q E s
 rw [if_neg (by rw [beq_builtin_none]; exact Bool.false_ne_true)]
 refine wpAny_bind (wpAny_specialOf hT F.slot_tuple_hash.lookup ?_)
 show wpAny _ _ (callSpecialIfBoundUnlessNone? (.ref a) "__hash__" _ >>= _) Q E s
 refine wpAny_bind (wpAny_callSpecialIfBoundUnlessNone?_slot hT F.slot_tuple_hash (wpAny_call_entry F.slot_tuple_hash hT F.entry_tuple_hash ?_ (F.args_tuple_hash_1 _)))
 show wpAny _ _ (Builtin.Tuple.tupleItemsOf (.ref a) >>= _) _ _ s
 refine wpAny_bind (wpAny_tupleItemsOf ho hd ?_)
 refine wpAny_bind ?_
 rw [← Array.forIn_toList]
 refine wpAny_forIn_list _
  (fun rest (b : Array Int) s' => ∃ done left, ks = done ++ left ∧ TIts knd s.heap left rest ∧ b.toList = done.map (tupleKeyHash knd) ∧ s' = { s with toks := s.toks + nestDraws done })
  _ ?_ ?_ _ _ ⟨[], ks, rfl, hi, rfl, rfl⟩
 ·rintro x rest b s' ⟨done, left, rfl, hl, hb, rfl⟩
  cases hl with
  | @cons k b' ks' _ h1 hl' =>
   refine wpAny_bind (wpAny_pyHash_tuple (knd := knd) (ks := k) hu h1 ?_)
   first
    | exact wpAny_pure ⟨done ++ [k], ks', by simp, hl', by simp [hb], by simp [Qc8, Nat.add_assoc]⟩
    | exact wpAny_bind (wpAny_pure (wpAny_pure ⟨done ++ [k], ks', by simp, hl', by simp [hb], by simp [Qc8, Nat.add_assoc]⟩))
 ·rintro b s' ⟨done, left, rfl, hl, hb, rfl⟩
  cases hl
  rw [List.append_nil] at h
  show wpAny _ _ (retInt (Builtin.Tuple.tupleHashOf b.toList)) _ _ _
  rw [hb]
  refine wpAny_ret_mkInt ?_
  show wpAny _ _ (if (decide (-(2 : Int) ^ 63 ≤ Builtin.Tuple.tupleHashOf (done.map (tupleKeyHash knd))) && decide (Builtin.Tuple.tupleHashOf (done.map (tupleKeyHash knd)) < 2 ^ 63)) = true then _ else _) Q E _
  unfold nestHash reduceHash at h
  by_cases hr : (decide (-(2 : Int) ^ 63 ≤ Builtin.Tuple.tupleHashOf (done.map (tupleKeyHash knd))) && decide (Builtin.Tuple.tupleHashOf (done.map (tupleKeyHash knd)) < 2 ^ 63)) = true
  ·rw [if_pos hr]
   rw [if_pos hr] at h
   exact wpAny_pure (by simpa [Nat.add_assoc] using h)
  ·rw [if_neg hr]
   rw [if_neg hr] at h
   exact wpAny_bind (wpAny_rule (wpAny_pure (by simpa [Nat.add_assoc] using h)))
theorem Qda {x y : List (List K)} {a b : Addr} {P : Fin → Shared → Prop} (hu : A.units < cLine) (hx : IsNestKey knd s.heap x a) (hy : IsNestKey knd s.heap y b) (h : P (.done (.ret (.bool (decide (x = y))))) s) :
  wpAny (model prog w) A (Builtin.«tuple.__eq__» ⟨[.ref a, .ref b], []⟩) P E s := by
 have hTb := hy.typeIs
 obtain ⟨oa, xs, na, hoa, _, hda, hia⟩ := hx
 obtain ⟨ob, ys, nb, hob, _, hdb, hib⟩ := hy
 show wpAny _ _ (isInstance (.ref b) (.type "tuple") >>= _) _ _ s
 refine wpAny_bind (wpAny_isInstance hTb isSubtype_tuple_tuple ?_)
 simp only [Bool.not_true, Bool.false_eq_true, if_false]
 refine wpAny_bind (wpAny_tupleItemsOf hoa hda ?_)
 refine wpAny_bind (wpAny_tupleItemsOf hob hdb ?_)
 refine wpAny_bind ?_
 refine wpAny_forIn_list _
  (fun rest r s' => r.1 = none ∧ s' = s ∧ ∃ x' y' xs' ys', rest = List.zip xs' ys' ∧ TIts knd s.heap x' xs' ∧ TIts knd s.heap y' ys' ∧ decide (x' = y') = decide (x = y) ∧ (xs'.length == ys'.length) = (xs.size == ys.size))
  _ ?_ ?_ _ _ ⟨rfl, rfl, x, y, xs.toList, ys.toList, rfl, hia, hib, rfl, by simp⟩
 ·rintro ⟨u, v⟩ rest r s' ⟨hr, rfl, x', y', xs', ys', hz, hx', hy', hdec, hlen⟩
  cases hx' with
  | nil => simp at hz
  | @cons k1 u' x'' xs'' h1 hx'' =>
   cases hy' with
   | nil => simp at hz
   | @cons k2 v' y'' ys'' h2 hy'' =>
    simp only [List.zip_cons_cons, List.cons.injEq, Prod.mk.injEq] at hz
    obtain ⟨⟨rfl, rfl⟩, rfl⟩ := hz
    refine wpAny_bind (wpAny_eqBool_tuple (knd := knd) (x := k1) (y := k2) hu h1 h2 ?_)
    by_cases hk : k1 = k2
    ·subst hk
     rw [decide_eq_true rfl]
     simp only [Bool.not_true, Bool.false_eq_true, if_false]
     refine wpAny_pure ⟨rfl, rfl, x'', y'', xs'', ys'', rfl, hx'', hy'', ?_, by simpa using hlen⟩
     rw [← hdec]
     by_cases hxy : x'' = y''
     ·simp [hxy]
     ·simp [hxy]
    ·rw [decide_eq_false hk]
     simp only [Bool.not_false, if_true]
     have hf : decide (x = y) = false := by rw [← hdec]; simp [hk]
     rw [hf] at h
     exact wpAny_bind (wpAny_pure (wpAny_pure (wpAny_pure h)))
 ·rintro ⟨r1, r2⟩ s' ⟨hr, rfl, x', y', xs', ys', hz, hx', hy', hdec, hlen⟩
  simp only at hr
  subst hr
  refine wpAny_pure ?_
  have hfin : (xs.size == ys.size) = decide (x = y) := by
   rw [← hdec, ← hlen]
   cases hx' with
   | nil =>
    cases hy' with
    | nil => simp
    | cons _ _ => simp
   | cons _ _ =>
    cases hy' with
    | nil => simp
    | cons _ _ => simp at hz
  show P (.done (.ret (.bool (xs.size == ys.size)))) s'
  rw [hfin]; exact h
theorem Qdb {x y : List (List K)} {a b : Addr} {Q : Bool → Shared → Prop} (hu : A.units + 1 < cLine) (hx : IsNestKey knd s.heap x a) (hy : IsNestKey knd s.heap y b) (h : Q (decide (x = y)) s) :
  wpAny (model prog w) A (eqBool (.ref a) (.ref b)) Q E s := by
 unfold eqBool
 try with_reducible refine wpAny_holding ?_
 show wpAny _ _ (if (Value.ref a == Value.ref b) = true then _ else _) Q E s
 by_cases hab : (Value.ref a == Value.ref b) = true
 ·rw [if_pos hab]
  have e : a = b := by have := eq_of_beq hab; injection this
  subst e
  obtain rfl := hx.inj hy
  exact wpAny_bind (wpAny_rule (wpAny_pure (by simpa using h)))
 ·rw [if_neg hab]
  exact wpAny_bind (wpAny_richCompare_same_room (op := .Eq) hx.typeIs hy.typeIs F.slot_tuple_eq
   (wpAny_call_entry F.slot_tuple_eq hx.typeIs F.entry_tuple_eq (Qda (by exact hu) hx hy ⟨_, rfl, (fun e => nomatch e), wpAny_truthy_bool h⟩) (F.args_tuple_eq_2 _ _)) (by ac_nf))
theorem Qdc {n : Nat} {ks : List K} {a : Addr} {Q : Bool → Shared → Prop} (hk : IsTupleKey knd s.heap ks a) (h : Q true s) : wpAny (model prog w) A (eqIsQuiet (n + 1) (.ref a)) Q E s := by
 have hT := hk.typeIs
 obtain ⟨o, items, n, ho, _, hd, hi⟩ := hk
 unfold eqIsQuiet
 refine wpAny_bind (wpAny_specialOf hT F.slot_tuple_eq.lookup ?_)
 show wpAny _ _ (isInstance (.ref a) (.type "tuple") >>= _) _ _ s
 refine wpAny_bind (wpAny_isInstance hT isSubtype_tuple_tuple ?_)
 simp only [Bool.not_true, Bool.false_eq_true, if_false]
 refine wpAny_bind (wpAny_seqItems ho hd ?_)
 refine wpAny_bind ?_
 show wpAny _ _ (forIn items _ _) _ _ s
 rw [← Array.forIn_toList]
 refine wpAny_forIn_list _ (fun rest r s' => r.1 = none ∧ s' = s ∧ ∀ v ∈ rest, carriedByValue v = true) _ ?_ ?_ _ _ ⟨rfl, rfl, hi.byValue⟩
 ·rintro v rest r s' ⟨hr, rfl, hall⟩
  rw [eqIsQuiet_byValue _ (hall v List.mem_cons_self)]
  refine wpAny_bind (wpAny_pure ?_)
  simp only [Bool.not_true, Bool.false_eq_true, if_false]
  exact wpAny_pure ⟨rfl, rfl, fun u hu' => hall u (List.mem_cons_of_mem _ hu')⟩
 ·rintro ⟨r1, r2⟩ s' ⟨hr, rfl, _⟩
  simp only at hr
  subst hr
  exact wpAny_pure h
theorem Qdd {ks : List (List K)} {a : Addr} {Q : Bool → Shared → Prop} (hk : IsNestKey knd s.heap ks a) (h : Q true s) : wpAny (model prog w) A (eqIsQuiet 8 (.ref a)) Q E s := by
 have hT := hk.typeIs
 obtain ⟨o, items, n, ho, _, hd, hi⟩ := hk
 unfold eqIsQuiet
 refine wpAny_bind (wpAny_specialOf hT F.slot_tuple_eq.lookup ?_)
 show wpAny _ _ (isInstance (.ref a) (.type "tuple") >>= _) _ _ s
 refine wpAny_bind (wpAny_isInstance hT isSubtype_tuple_tuple ?_)
 simp only [Bool.not_true, Bool.false_eq_true, if_false]
 refine wpAny_bind (wpAny_seqItems ho hd ?_)
 refine wpAny_bind ?_
 show wpAny _ _ (forIn items _ _) _ _ s
 rw [← Array.forIn_toList]
 refine wpAny_forIn_list _ (fun rest r s' => r.1 = none ∧ s' = s ∧ ∃ left, TIts knd s.heap left rest) _ ?_ ?_ _ _ ⟨rfl, rfl, ks, hi⟩
 ·rintro v rest r s' ⟨hr, rfl, left, hall⟩
  cases hall with
  | cons h1 hl =>
   refine wpAny_bind (Qdc (n := 6) h1 ?_)
   simp only [Bool.not_true, Bool.false_eq_true, if_false]
   exact wpAny_pure ⟨rfl, rfl, _, hl⟩
 ·rintro ⟨r1, r2⟩ s' ⟨hr, rfl, _⟩
  simp only at hr
  subst hr
  exact wpAny_pure h
end
noncomputable def nestKind {prog : Program} {w : World} {K : Type} [DecidableEq K] (knd : KeyKind prog w K) : HeapKind prog w (List (List K)) where
 is := IsNestKey knd
 hash := nestHash knd
 draws := fun ks => nestDraws ks + 1
 room := fun A => A.units + 1 < cLine
 inj := fun hx hy => hx.inj hy
 keeps := fun x ho hd hs => x.keeps ho hd hs
 pyHash := fun hu hk h => Qc9 hu hk h
 eqBool := fun hu hx hy h => Qdb hu hx hy h
 quiet := fun hk h => Qdd hk h
end MM
namespace MM
open PySem
inductive D where
 | non | bl (b : Bool) | int (i : Int) | str (x : Str) | tup (ds : List D) | lit (ds : List D) | ref (n : Nat) | dic (n : Nat)
inductive MO where
 | lst (ds : List D) | dct (b : Bool) (kvs : List (D × D))
noncomputable abbrev Sto := List MO
structure Exn where
 cls : Nat
 args : List D
inductive Rs (α : Type) where
 | ok (a : α) (s : Sto) | exc (x : Exn) (s : Sto) | bad
noncomputable def M (α : Type) := Sto → Rs α
section
variable {α β : Type}
noncomputable def ret (a : α) : M α := fun s => .ok a s
noncomputable def bnd (m : M α) (f : α → M β) : M β := fun s => match m s with
 | .ok a s' => f a s'
 | .exc x s' => .exc x s'
 | .bad => .bad
noncomputable def bad : M α := fun _ => .bad
@[irreducible] noncomputable def chk (c : Prop) [Decidable c] (m : M α) : M α := if c then m else bad
end
noncomputable abbrev Loc := List (Option D)
noncomputable abbrev CE := Loc → M D
noncomputable abbrev CT := Loc → M Bool
noncomputable abbrev CA := Loc → M (List D)
inductive Flw where
 | next (l : Loc) | ret (d : D) | brk (l : Loc) | cnt (l : Loc)
noncomputable abbrev CS := Loc → M Flw
noncomputable def lim : Nat := 2 ^ 24
noncomputable def alloc (o : MO) : M D := fun s => .ok (.ref s.length) (s ++ [o])
noncomputable def getL (n : Nat) : M (List D) := fun s => match s[n]? with
 | some (.lst ds) => .ok ds s
 | _ => .bad
noncomputable def putL (n : Nat) (ds : List D) : M Unit := fun s => match s[n]? with
 | some (.lst _) => .ok () (s.set n (.lst ds))
 | _ => .bad
noncomputable def getDc (n : Nat) : M (Bool × List (D × D)) := fun s => match s[n]? with
 | some (.dct b kvs) => .ok (b, kvs) s
 | _ => .bad
noncomputable def putDc (n : Nat) (b : Bool) (kvs : List (D × D)) : M Unit := fun s => match s[n]? with
 | some (.dct c _) => if b = c then .ok () (s.set n (.dct b kvs)) else .bad
 | _ => .bad
mutual
noncomputable def eqK : D → D → Bool
 | .int i, .int j => decide (i = j)
 | .str x, .str y => decide (x = y)
 | .tup xs, .tup ys => eqKs xs ys
 | _, _ => false
noncomputable def eqKs : List D → List D → Bool
 | [], [] => true
 | x :: xs, y :: ys => eqK x y && eqKs xs ys
 | _, _ => false
end
noncomputable def intsK : List D → Option (List Int)
 | [] => some []
 | .int i :: ds => (intsK ds).map (i :: ·)
 | _ => none
noncomputable def rowsK : List D → Option (List (List Int))
 | [] => some []
 | .tup xs :: ds => match intsK xs, rowsK ds with
  | some r, some rs => some (r :: rs)
  | _, _ => none
 | _ => none
noncomputable def stK : D → Option (List (List Int))
 | .tup ds => rowsK ds
 | _ => none
noncomputable def kOk : Bool → D → Bool
 | false, .int _ => true
 | false, .str _ => true
 | true, d => (stK d).isSome
 | _, _ => false
noncomputable def lkK (kvs : List (D × D)) (k : D) : Option D := (kvs.find? fun p => eqK p.1 k).map (·.2)
noncomputable def ptK (kvs : List (D × D)) (k v : D) : List (D × D) := if (kvs.any fun p => eqK p.1 k) = true then kvs.map fun p => if eqK p.1 k = true then (p.1, v) else p else kvs ++ [(k, v)]
noncomputable def mgK (kvs more : List (D × D)) : List (D × D) := more.foldl (fun acc p => ptK acc p.1 p.2) kvs
noncomputable def itemK (n : Nat) (k : D) : M D := bnd (getDc n) fun p => chk (kOk p.1 k = true) (match lkK p.2 k with
 | some d => ret d
 | none => bad)
noncomputable def storeK (n : Nat) (k v : D) : M Unit := bnd (getDc n) fun p => chk (kOk p.1 k = true ∧ p.2.length < lim) (putDc n p.1 (ptK p.2 k v))
noncomputable def hasK (n : Nat) (k : D) : M Bool := bnd (getDc n) fun p => chk (kOk p.1 k = true) (ret (lkK p.2 k).isSome)
noncomputable def seqOf : D → M (List D)
 | .tup ds => ret ds
 | .lit ds => ret ds
 | .ref n => getL n
 | _ => bad
noncomputable def ixN (n : Nat) (i : Int) : Option Nat := if 0 ≤ i then (if i < n then some i.toNat else none) else (if -(n : Int) ≤ i then some (i + n).toNat else none)
noncomputable def addD : D → D → M D
 | .int i, .int j => ret (.int (i + j))
 | .str x, .str y => chk (x.length + y.length ≤ lim) (ret (.str (x ++ y)))
 | .tup x, .tup y => chk (x.length + y.length ≤ lim) (ret (.tup (x ++ y)))
 | .ref a, .ref b => bnd (getL a) fun x => bnd (getL b) fun y => chk (x.length + y.length ≤ lim) (alloc (.lst (x ++ y)))
 | _, _ => bad
noncomputable def subD : D → D → M D
 | .int i, .int j => ret (.int (i - j))
 | _, _ => bad
def mulOk (i j : Int) : Prop := (-(2 ^ 64) < i ∧ i < 2 ^ 64) ∨ (-(2 ^ 64) < j ∧ j < 2 ^ 64)
noncomputable instance (i j : Int) : Decidable (mulOk i j) := by unfold mulOk; infer_instance
noncomputable def mulD : D → D → M D
 | .int i, .int j => chk (mulOk i j) (ret (.int (i * j)))
 | _, _ => bad
noncomputable def fdivD : D → D → M D
 | .int i, .int j => chk (0 < j ∧ j < 1073741824) (ret (.int (i / j)))
 | _, _ => bad
noncomputable def modD : D → D → M D
 | .int i, .int j => chk (0 < j) (ret (.int (i % j)))
 | _, _ => bad
noncomputable def powD : D → D → M D
 | .int i, .int j => chk (0 ≤ j ∧ j ≤ 1000000 ∧ i.natAbs < 2 ^ 64) (ret (.int (i ^ j.toNat)))
 | _, _ => bad
noncomputable def shlD : D → D → M D
 | .int i, .int j => chk (0 ≤ j ∧ j ≤ 1000000 ∧ i.natAbs < 2 ^ 64) (ret (.int (i * 2 ^ j.toNat)))
 | _, _ => bad
noncomputable def negD : D → M D
 | .int i => ret (.int (-i))
 | _ => bad
noncomputable def cmpI (p : Int → Int → Bool) : D → D → M D
 | .int i, .int j => ret (.bl (p i j))
 | _, _ => bad
noncomputable def ltD := cmpI fun i j => decide (i < j)
noncomputable def leD := cmpI fun i j => decide (i ≤ j)
noncomputable def gtD := cmpI fun i j => decide (j < i)
noncomputable def geD := cmpI fun i j => decide (j ≤ i)
noncomputable def allF (f : D → D → Option Bool) : List D → List D → Option Bool
 | [], [] => some true
 | x :: xs, y :: ys => match f x y with
  | some true => allF f xs ys
  | some false => (allF f xs ys).map fun _ => false
  | none => none
 | _ :: _, [] => some false
 | [], _ :: _ => some false
noncomputable def eqS (g : List D → List D → Option Bool) : D → D → Option Bool
 | .non, .non => some true
 | .non, .bl _ => some false
 | .non, .int _ => some false
 | .non, .str _ => some false
 | .non, .tup _ => some false
 | .bl _, .non => some false
 | .bl a, .bl b => some (a == b)
 | .bl a, .int b => some ((if a then 1 else 0) == b)
 | .bl _, .str _ => some false
 | .bl _, .tup _ => some false
 | .int _, .non => some false
 | .int a, .bl b => some (a == (if b then 1 else 0))
 | .int a, .int b => some (a == b)
 | .int _, .str _ => some false
 | .int _, .tup _ => some false
 | .str _, .non => some false
 | .str _, .bl _ => some false
 | .str _, .int _ => some false
 | .str a, .str b => some (a == b)
 | .str _, .tup _ => some false
 | .tup _, .non => some false
 | .tup _, .bl _ => some false
 | .tup _, .int _ => some false
 | .tup _, .str _ => some false
 | .tup xs, .tup ys => g xs ys
 | _, _ => none
noncomputable def eqF : Nat → D → D → Option Bool
 | 0, d, e => eqS (fun _ _ => none) d e
 | n + 1, d, e => eqS (allF (eqF n)) d e
noncomputable def eqB (d e : D) : M Bool := match d, e with
 | .ref a, .ref b => bnd (getL a) fun x => bnd (getL b) fun y => match (if x.length = y.length then allF (eqF 50) x y else some false) with
  | some r => ret r
  | none => bad
 | .ref a, .non => bnd (getL a) fun _ => ret false
 | .non, .ref a => bnd (getL a) fun _ => ret false
 | d, e => match eqF 50 d e with
  | some r => ret r
  | none => bad
noncomputable def eqD (d e : D) : M D := bnd (eqB d e) fun b => ret (.bl b)
noncomputable def neD (d e : D) : M D := bnd (eqB d e) fun b => ret (.bl !b)
noncomputable def isND : D → M D
 | .non => ret (.bl true)
 | _ => ret (.bl false)
noncomputable def notND : D → M D
 | .non => ret (.bl false)
 | _ => ret (.bl true)
noncomputable def itemD (ds : List D) (i : Int) : M D := match ixN ds.length i with
 | some k => match ds[k]? with
  | some d => ret d
  | none => bad
 | none => bad
noncomputable def subsD : D → D → M D
 | .tup ds, .int i => itemD ds i
 | .lit ds, .int i => itemD ds i
 | .ref n, .int i => bnd (getL n) fun ds => itemD ds i
 | .dic n, k => itemK n k
 | .str x, .int i => chk (x.length ≤ lim) (match ixN x.length i with
  | some k => match x.cps.toList[k]? with
   | some c => ret (.str ⟨#[c]⟩)
   | none => bad
  | none => bad)
 | _, _ => bad
noncomputable def truD : D → M Bool
 | .non => ret false
 | .bl b => ret b
 | .int i => ret (i != 0)
 | .str x => chk (x.length ≤ lim) (ret ((x.length : Int) != 0))
 | .tup ds => ret (!ds.isEmpty)
 | .lit ds => ret (!ds.isEmpty)
 | .ref n => bnd (getL n) fun ds => ret (!ds.isEmpty)
 | .dic _ => bad
noncomputable def cVar (i : Nat) : CE := fun l => match l[i]? with
 | some (some d) => ret d
 | _ => bad
noncomputable def cCon (d : D) : CE := fun _ => ret d
noncomputable def c1 (g : D → M D) (a : CE) : CE := fun l => bnd (a l) g
noncomputable def c2 (g : D → D → M D) (a b : CE) : CE := fun l => bnd (a l) fun x => bnd (b l) fun y => g x y
noncomputable def cNil : CA := fun _ => ret []
noncomputable def cCons (a : CE) (r : CA) : CA := fun l => bnd (a l) fun x => bnd (r l) fun xs => ret (x :: xs)
noncomputable def cTup (a : CA) : CE := fun l => bnd (a l) fun xs => chk (xs.length ≤ lim) (ret (.tup xs))
noncomputable def cChain (f g : D → D → M D) (a b c : CE) : CE := fun l => bnd (a l) fun x => bnd (b l) fun y => bnd (f x y) fun z => match z with
 | .bl true => bnd (c l) fun w => g y w
 | .bl false => ret (.bl false)
 | _ => bad
noncomputable def cAnd (a b : CE) : CE := fun l => bnd (a l) fun x => match x with
 | .bl true => b l
 | .bl false => ret (.bl false)
 | _ => bad
noncomputable def cOr (a b : CE) : CE := fun l => bnd (a l) fun x => match x with
 | .bl true => ret (.bl true)
 | .bl false => b l
 | _ => bad
noncomputable def cNot (a : CE) : CE := fun l => bnd (a l) fun x => match x with
 | .bl b => ret (.bl !b)
 | _ => bad
noncomputable def cIfE (t : CT) (a b : CE) : CE := fun l => bnd (t l) fun c => if c = true then a l else b l
noncomputable def cCall (g : List D → M D) (a : CA) : CE := fun l => bnd (a l) g
noncomputable def tVal (a : CE) : CT := fun l => bnd (a l) truD
noncomputable def tCmpB (a : CE) : CT := fun l => bnd (a l) fun x => match x with
 | .bl b => ret b
 | _ => bad
noncomputable def tAndB (a b : CT) : CT := fun l => bnd (a l) fun c => if c = true then b l else ret false
noncomputable def tOrB (a b : CT) : CT := fun l => bnd (a l) fun c => if c = true then ret true else b l
noncomputable def tNotB (a : CT) : CT := fun l => bnd (a l) fun c => ret !c
structure Wk where
 ds : List D
 same : Sto → Prop
noncomputable abbrev CI := Loc → M Wk
open Classical in
noncomputable def  chkS (p : Sto → Prop) : M Unit := fun s => if p s then .ok () s else .bad
noncomputable def anySt : Sto → Prop := fun _ => True
noncomputable def sameL (n : Nat) (ds : List D) : Sto → Prop := fun s => s[n]? = some (.lst ds)
noncomputable def iSeq (a : CE) : CI := fun l => bnd (a l) fun x => match x with
 | .tup ds => ret ⟨ds, anySt⟩
 | .lit ds => ret ⟨ds, anySt⟩
 | .ref n => bnd (getL n) fun ds => ret ⟨ds, sameL n ds⟩
 | _ => bad
noncomputable def rngD (lo : Int) (n : Nat) : List D := (List.range n).map fun k => .int (lo + (k : Nat))
noncomputable def iRng1 (a : CE) : CI := fun l => bnd (a l) fun x => match x with
 | .int j => chk (-(2 ^ 62) ≤ j ∧ j < 2 ^ 62) (ret ⟨rngD 0 j.toNat, anySt⟩)
 | _ => bad
noncomputable def iRng2 (a b : CE) : CI := fun l => bnd (a l) fun x => bnd (b l) fun y => match x, y with
 | .int i, .int j => chk ((-(2 ^ 62) ≤ i ∧ i < 2 ^ 62) ∧ (-(2 ^ 62) ≤ j ∧ j < 2 ^ 62)) (ret ⟨rngD i (j - i).toNat, anySt⟩)
 | _, _ => bad
noncomputable def iTmp (a : CA) : CI := fun l => bnd (a l) fun ds => ret ⟨ds, anySt⟩
noncomputable def iEnum (a : CE) : CI := fun l => bnd (a l) fun x => match x with
 | .tup ds => ret ⟨(rngD 0 ds.length).zipWith (fun i d => .tup [i, d]) ds, anySt⟩
 | _ => bad
noncomputable abbrev CG := D → Loc → M Loc
noncomputable def gVar (i : Nat) : CG := fun d l => ret (l.set i (some d))
noncomputable def gsNil : List D → Loc → M Loc
 | [], l => ret l
 | _, _ => bad
noncomputable def gsCons (g : CG) (r : List D → Loc → M Loc) : List D → Loc → M Loc
 | d :: ds, l => bnd (g d l) fun l' => r ds l'
 | _, _ => bad
noncomputable def gTupD (n : Nat) (r : List D → Loc → M Loc) : CG := fun d l => match d with
 | .tup ds => chk (ds.length = n) (r ds l)
 | _ => bad
noncomputable def capt (n : Nat) (caps : List Nat) (l : Loc) : Loc := List.replicate n none ++ caps.map fun i => (l[i]?).join
noncomputable def  collect (g : CG) (t : CT) (e : CE) (same : Sto → Prop) : List D → Loc → M (List D)
 | [], _ => bnd (chkS same) fun _ => ret []
 | d :: ds, l => bnd (chkS same) fun _ => bnd (g d l) fun l' => bnd (t l') fun b => if b = true then bnd (e l') fun x => bnd (collect g t e same ds l') fun xs => ret (x :: xs) else collect g t e same ds l'
noncomputable def  aComp (n : Nat) (caps : List Nat) (i : CI) (g : CG) (t : CT) (e : CE) : CA := fun l => bnd (i l) fun w => chk (w.ds.length ≤ lim) (collect g t e w.same w.ds (capt n caps l))
noncomputable def sIx (n d : Nat) : Option Int → Nat
 | none => d
 | some v => if v < 0 then (v + (n : Int)).toNat else min v.toNat n
noncomputable def cutD (xs : List D) (lo hi : Option Int) : List D := (xs.drop (sIx xs.length 0 lo)).take (sIx xs.length xs.length hi - sIx xs.length 0 lo)
noncomputable abbrev CO := Loc → M (Option Int)
noncomputable def oNone : CO := fun _ => ret none
noncomputable def oSome (a : CE) : CO := fun l => bnd (a l) fun x => match x with
 | .int i => ret (some i)
 | _ => bad
noncomputable def aSlice (a : CE) (lo hi : CO) : CA := fun l => bnd (a l) fun x => bnd (lo l) fun i => bnd (hi l) fun j => match x with
 | .lit ds => ret (cutD ds i j)
 | .ref n => bnd (getL n) fun ds => ret (cutD ds i j)
 | _ => bad
noncomputable def cSliceT (a : CE) (lo hi : CO) : CE := fun l => bnd (a l) fun x => bnd (lo l) fun i => bnd (hi l) fun j => match x with
 | .tup ds => chk (¬(sIx ds.length 0 i = 0 ∧ sIx ds.length ds.length j = ds.length)) (ret (.tup (cutD ds i j)))
 | _ => bad
noncomputable def tTrue : CT := fun _ => ret true
noncomputable def cKeep (a : CA) : CE := fun l => bnd (a l) fun ds => alloc (.lst ds)
noncomputable def aDisp (a : CA) : CA := fun l => bnd (a l) fun xs => chk (xs.length ≤ lim) (ret xs)
noncomputable def cTmpSub (a : CA) (b : CE) : CE := fun l => bnd (a l) fun ds => bnd (b l) fun i => match i with
 | .int k => itemD ds k
 | _ => bad
noncomputable def cTmp (g : List D → M D) (a : CA) : CE := fun l => bnd (a l) g
noncomputable def sNext : CS := fun l => ret (.next l)
noncomputable def sSeq (a b : CS) : CS := fun l => bnd (a l) fun f => match f with
 | .next l' => b l'
 | f => ret f
noncomputable def sAsg (g : CG) (a : CE) : CS := fun l => bnd (a l) fun d => bnd (g d l) fun l' => ret (.next l')
noncomputable def sRet (a : CE) : CS := fun l => bnd (a l) fun d => ret (.ret d)
noncomputable def sExp (a : CE) : CS := fun l => bnd (a l) fun _ => ret (.next l)
noncomputable def sIf (t : CT) (a b : CS) : CS := fun l => bnd (t l) fun c => if c = true then a l else b l
noncomputable def sBad : CS := fun _ => bad
noncomputable def  forD (g : CG) (b : CS) (same : Sto → Prop) : List D → CS
 | [], l => bnd (chkS same) fun _ => ret (.next l)
 | d :: ds, l => bnd (chkS same) fun _ => bnd (g d l) fun l' => bnd (b l') fun f => match f with
  | .next l2 => forD g b same ds l2
  | .cnt l2 => forD g b same ds l2
  | .brk l2 => ret (.next l2)
  | .ret d => ret (.ret d)
noncomputable def  sFor (i : CI) (g : CG) (b : CS) : CS := fun l => bnd (i l) fun w => forD g b w.same w.ds l
noncomputable def flwD : Flw → M D
 | .ret d => ret d
 | .next _ => ret .non
 | _ => bad
noncomputable def runDef (n : Nat) (body : CS) (ds : List D) : M D := bnd (body (ds.map some ++ List.replicate (n - ds.length) none)) flwD
noncomputable def setItemD (o i v : D) : M Unit := match o, i with
 | .ref n, .int k => bnd (getL n) fun ds => match ixN ds.length k with
  | some j => putL n (ds.set j v)
  | none => bad
 | .dic n, k => storeK n k v
 | _, _ => bad
noncomputable def gSubD (o i : CE) : CG := fun v l => bnd (o l) fun y => bnd (i l) fun z => bnd (setItemD y z v) fun _ => ret l
noncomputable def lenD : D → M D
 | .tup ds => ret (.int ds.length)
 | .lit ds => ret (.int ds.length)
 | .ref n => bnd (getL n) fun ds => ret (.int ds.length)
 | .str x => chk (x.length ≤ lim) (ret (.int x.length))
 | .dic n => bnd (getDc n) fun p => ret (.int p.2.length)
 | _ => bad
noncomputable def appendL (n : Nat) (v : D) : M D := bnd (getL n) fun ds => chk (ds.length < lim) (bnd (putL n (ds ++ [v])) fun _ => ret .non)
noncomputable def cAppend (a b : CE) : CE := fun l => bnd (a l) fun x => match x with
 | .ref n => bnd (b l) fun v => appendL n v
 | _ => bad
noncomputable def cClear (a : CE) : CE := fun l => bnd (a l) fun x => match x with
 | .ref n => bnd (putL n []) fun _ => ret .non
 | _ => bad
noncomputable def intD : D → M D
 | .int i => ret (.int i)
 | .bl b => ret (.int (if b then 1 else 0))
 | _ => bad
noncomputable def tupleD : D → M D
 | .tup ds => ret (.tup ds)
 | .lit ds => ret (.tup ds)
 | .ref n => bnd (getL n) fun ds => ret (.tup ds)
 | _ => bad
noncomputable def isTy : D → Option (List String)
 | .non => some ["NoneType"]
 | .bl _ => some ["bool", "int"]
 | .int _ => some ["int"]
 | .str _ => some ["str"]
 | .tup _ => some ["tuple"]
 | .lit _ => some ["list"]
 | .ref _ => some ["list"]
 | .dic _ => none
noncomputable def numsL : List D → Option (List Int)
 | [] => some []
 | .int i :: ds => (numsL ds).map (i :: ·)
 | _ => none
noncomputable def maxD (ds : List D) : M D := match numsL ds with
 | some (n :: ns) => ret (.int (ns.foldl max n))
 | _ => bad
noncomputable def tupL (ds : List D) : M D := ret (.tup ds)
noncomputable def lenL (ds : List D) : M D := ret (.int ds.length)
noncomputable def isInst (ts : List String) (d : D) : M D := match isTy d with
 | some us => ret (.bl (ts.any fun t => us.contains t))
 | none => bad
noncomputable def isD : D → D → M D
 | .bl a, .bl b => ret (.bl (a == b))
 | x, .non => isND x
 | _, _ => bad
noncomputable def isntD : D → D → M D
 | .bl a, .bl b => ret (.bl !(a == b))
 | x, .non => notND x
 | _, _ => bad
noncomputable def flatD : D → Bool
 | .non => true
 | .bl _ => true
 | .int _ => true
 | .str _ => true
 | _ => false
noncomputable def eqFl : D → D → Bool
 | .non, .non => true
 | .bl a, .bl b => a == b
 | .bl a, .int b => (if a then 1 else 0) == b
 | .int a, .bl b => a == (if b then 1 else 0)
 | .int a, .int b => a == b
 | .str a, .str b => a == b
 | _, _ => false
noncomputable def inL (x : D) (ds : List D) : M D := chk (flatD x = true ∧ ds.all flatD = true) (ret (.bl (ds.any fun d => eqFl d x)))
noncomputable def ninL (x : D) (ds : List D) : M D := chk (flatD x = true ∧ ds.all flatD = true) (ret (.bl !(ds.any fun d => eqFl d x)))
noncomputable def inD (x y : D) : M D := match y with
 | .dic n => bnd (hasK n x) fun b => ret (.bl b)
 | y => bnd (seqOf y) (inL x)
noncomputable def ninD (x y : D) : M D := match y with
 | .dic n => bnd (hasK n x) fun b => ret (.bl !b)
 | y => bnd (seqOf y) (ninL x)
noncomputable def allocK (b : Bool) (kvs : List (D × D)) : M D := fun s => .ok (.dic s.length) (s ++ [.dct b kvs])
noncomputable def cDNew (b : Bool) : CE := fun _ => allocK b []
noncomputable def cDisp (ks : List D) (vs : CA) : CE := fun l => bnd (vs l) fun xs => chk (ks.length = xs.length) (allocK false (mgK [] (ks.zip xs)))
noncomputable def aTimes (a : CA) (b : CE) : CA := fun l => bnd (a l) fun xs => bnd (b l) fun k => match k with
 | .int k => chk ((-(2 ^ 63) ≤ k ∧ k < 2 ^ 63) ∧ xs.length * k.toNat ≤ lim) (ret (List.replicate k.toNat xs).flatten)
 | _ => bad
noncomputable def aRev (a : CA) : CA := fun l => bnd (a l) fun ds => ret ds.reverse
noncomputable def cInTmp (g : D → List D → M D) (a : CE) (b : CA) : CE := fun l => bnd (a l) fun x => bnd (b l) fun ds => g x ds
noncomputable def min2D : D → D → M D
 | .int i, .int j => ret (.int (min i j))
 | _, _ => bad
noncomputable def max2D : D → D → M D
 | .int i, .int j => ret (.int (max i j))
 | _, _ => bad
noncomputable def listD (d : D) : M D := bnd (seqOf d) fun ds => alloc (.lst ds)
noncomputable def cPop (a : CE) : CE := fun l => bnd (a l) fun x => match x with
 | .ref n => bnd (getL n) fun ds => match ds.getLast? with
  | some d => bnd (putL n ds.dropLast) fun _ => ret d
  | none => bad
 | _ => bad
noncomputable def cReverse (a : CE) : CE := fun l => bnd (a l) fun x => match x with
 | .ref n => bnd (getL n) fun ds => bnd (putL n ds.reverse) fun _ => ret .non
 | _ => bad
noncomputable def aBack (a : CE) : CA := fun l => bnd (a l) fun x => match x with
 | .ref n => getL n |> fun m => bnd m fun ds => ret ds.reverse
 | _ => bad
noncomputable def whileN (t : CT) (b : CS) : Nat → CS
 | 0 => fun _ => bad
 | n + 1 => fun l => bnd (t l) fun c => if c = true then bnd (b l) fun f => match f with
   | .next l2 => whileN t b n l2
   | .cnt l2 => whileN t b n l2
   | .brk l2 => ret (.next l2)
   | .ret d => ret (.ret d) else ret (.next l)
open Classical in
noncomputable def  sWhile (t : CT) (b : CS) : CS := fun l s => if h : ∃ n, (∀ r, whileN t b n l s = r → r ≠ .bad) then whileN t b (choose h) l s else .bad
end MM
namespace MM
open PySem PySem.Spec PyProof.Rows L2
noncomputable abbrev St := L2.St
def FzL (K : PySem.W.Frag) (H : Hp) (a : Addr) (xs : List V) : Prop :=
 (∃ o, H a = some (.frz o (.lst xs))) ∨
  ∃ (o : Obj) (its : Array Value) (n : Nat), K.lookup a = some o ∧ o.cls = .type "list" ∧ o.dict = none ∧ o.data = .seq its n ∧ its.size ≤ sizeLine ∧ Vals xs its.toList
theorem FzL.seq {K : PySem.W.Frag} {H : Hp} {a : Addr} {xs : List V} (h : FzL K H a xs) : SqL K H a xs := by
 rcases h with ⟨o, h⟩ | h
 ·exact .inl (.inr ⟨o, h⟩)
 ·exact .inr h
noncomputable def kO : HO → Nat
 | .lst _ => 0
 | .dK _ => 1
 | .ext _ => 2
 | _ => 3
noncomputable abbrev NK := List (List Int)
noncomputable def nH (k : NK) : Int := reduceHash (Builtin.Tuple.tupleHashOf (k.map fun r => reduceHash (Builtin.Tuple.tupleHashOf (r.map hashInt))))
noncomputable def nEnt (x : NK × Addr × Value) : DictEntry := ⟨nH x.1, .ref x.2.1, x.2.2⟩
def NOk (a : Addr) (es : List (NK × Addr × V)) (h : Heap) : Prop := es.length ≤ sizeLine ∧ (a == sysModules) = false ∧ ∃ xs : List (NK × Addr × Value), Paired (fun (p : NK × Addr × V) (q : NK × Addr × Value) => p.1 = q.1 ∧ p.2.1 = q.2.1 ∧ RelV p.2.2 q.2.2) es xs ∧
 ∃ o es' ep, h.get? a = some o ∧ o.ExactDict ∧ o.data = .dict es' ep ∧ es'.toList = xs.map nEnt ∧ (xs.map (·.1)).Nodup
noncomputable def nstO (a : Addr) (es : List (NK × Addr × V)) : HO := .ext (NOk a es)
noncomputable def rowD (r : List Int) : D := .tup (r.map .int)
noncomputable def stD (k : NK) : D := .tup (k.map rowD)
noncomputable def keyD : Key → D
 | .inl i => .int i
 | .inr x => .str x
mutual
inductive Rep (K : PySem.W.Frag) (ρ : List Addr) (H : Hp) : V → D → Prop
 | non : Rep K ρ H .non .non
 | bl (b : Bool) : Rep K ρ H (.bl b) (.bl b)
 | int (i : Int) : Rep K ρ H (.int i) (.int i)
 | str (x : Str) : Rep K ρ H (.str x) (.str x)
 | tup {a : Addr} {vs : List V} {ds : List D} (h : SqT K H a vs) (r : Reps K ρ H vs ds) : Rep K ρ H (.ref a) (.tup ds)
 | lit {a : Addr} {vs : List V} {ds : List D} (h : FzL K H a vs) (r : Reps K ρ H vs ds) : Rep K ρ H (.ref a) (.lit ds)
 | ref {a : Addr} {n : Nat} (k : ∃ o, H a = some o ∧ kO o = 0) (h : ρ[n]? = some a) : Rep K ρ H (.ref a) (.ref n)
 | dic {a : Addr} {n : Nat} (k : ∃ o, H a = some o ∧ (kO o = 1 ∨ kO o = 2)) (h : ρ[n]? = some a) : Rep K ρ H (.ref a) (.dic n)
inductive Reps (K : PySem.W.Frag) (ρ : List Addr) (H : Hp) : List V → List D → Prop
 | nil : Reps K ρ H [] []
 | cons {v : V} {d : D} {vs : List V} {ds : List D} (r : Rep K ρ H v d) (t : Reps K ρ H vs ds) : Reps K ρ H (v :: vs) (d :: ds)
end
noncomputable def ObR (K : PySem.W.Frag) (ρ : List Addr) (H : Hp) (a : Addr) : MO → Prop
 | .lst ds => ∃ vs, H a = some (.lst vs) ∧ Reps K ρ H vs ds
 | .dct false kvs => ∃ es, H a = some (.dK es) ∧ Paired (fun (p : Key × V) (q : D × D) => keyD p.1 = q.1 ∧ Rep K ρ H p.2 q.2) es kvs
 | .dct true kvs => ∃ es, H a = some (nstO a es) ∧ Paired (fun (p : NK × Addr × V) (q : D × D) => stD p.1 = q.1 ∧ Rep K ρ H (.ref p.2.1) q.1 ∧ Rep K ρ H p.2.2 q.2) es kvs
structure SR (K : PySem.W.Frag) (ρ : List Addr) (H : Hp) (st : Sto) : Prop where
 len : ρ.length = st.length
 nd : ρ.Nodup
 ob : ∀ (n : Nat) (a : Addr) (o : MO), ρ[n]? = some a → st[n]? = some o → ObR K ρ H a o
def LR (K : PySem.W.Frag) (ρ : List Addr) (H : Hp) (σ : St) (l : Loc) : Prop :=
 σ.length = l.length ∧ ∀ (i : Nat) (d : D), l[i]? = some (some d) → ∃ v, σ[i]? = some (some v) ∧ Rep K ρ H v d
structure Ex (ρ : List Addr) (H : Hp) (ρ' : List Addr) (H' : Hp) : Prop where
 pre : ∃ τ, ρ' = ρ ++ τ ∧ ∀ a ∈ τ, H a = none
 fix : ∀ a o, kO o = 3 → H a = some o → H' a = some o
 oth : ∀ a o, a ∉ ρ → H a = some o → H' a = some o
 knd : ∀ a o, H a = some o → ∃ o', H' a = some o' ∧ kO o' = kO o
structure Up (ρ : List Addr) (H : Hp) (ρ' : List Addr) (H' : Hp) : Prop where
 pre : ∃ τ, ρ' = ρ ++ τ
 fix : ∀ a o, kO o = 3 → H a = some o → H' a = some o
 knd : ∀ a o, H a = some o → ∃ o', H' a = some o' ∧ kO o' = kO o
section
variable {K : PySem.W.Frag} {ρ ρ1 ρ2 : List Addr} {H H1 H2 : Hp} {st st1 : Sto} {v : V} {d : D} {vs : List V} {ds : List D} {a : Addr}
theorem Ex.lst (x : Ex ρ H ρ1 H1) (a : Addr) (xs : List V) (na : a ∉ ρ) (h : H a = some (.lst xs)) : H1 a = some (.lst xs) := x.oth a _ na h
theorem Ex.trk (x : Ex ρ H ρ1 H1) (a : Addr) (o : HO) (h : H a = some o) : H1 a ≠ none := by
 obtain ⟨o', e, _⟩ := x.knd a o h
 rw [e]; exact fun z => nomatch z
theorem Ex.up (x : Ex ρ H ρ1 H1) : Up ρ H ρ1 H1 := ⟨let ⟨τ, e, _⟩ := x.pre; ⟨τ, e⟩, x.fix, x.knd⟩
theorem Up.grow {τ : List Addr} : Up ρ H (ρ ++ τ) H := ⟨⟨τ, rfl⟩, fun _ _ _ e => e, fun _ o e => ⟨o, e, rfl⟩⟩
theorem Ex.refl : Ex ρ H ρ H := ⟨⟨[], by simp, by simp⟩, fun _ _ _ e => e, fun _ _ _ e => e, fun _ o e => ⟨o, e, rfl⟩⟩
theorem Ex.trans (x : Ex ρ H ρ1 H1) (y : Ex ρ1 H1 ρ2 H2) : Ex ρ H ρ2 H2 := by
 obtain ⟨τ1, rfl, f1⟩ := x.pre
 obtain ⟨τ2, rfl, f2⟩ := y.pre
 refine ⟨⟨τ1 ++ τ2, by simp, fun a ha => ?_⟩, fun a o no e => y.fix a o no (x.fix a o no e), fun a o na e => ?_, fun a o e => ?_⟩
 ·rcases List.mem_append.mp ha with ha | ha
  ·exact f1 a ha
  ·cases q : H a with
   | none => rfl
   | some o => exact absurd (f2 a ha) (x.trk a o q)
 ·refine y.oth a o (fun z => ?_) (x.oth a o na e)
  rcases List.mem_append.mp z with z | z
  ·exact na z
  ·rw [f1 a z] at e; cases e
 ·obtain ⟨o1, e1, k1⟩ := x.knd a o e
  obtain ⟨o2, e2, k2⟩ := y.knd a o1 e1
  exact ⟨o2, e2, k2.trans k1⟩
theorem Ex.new {o : HO} (h : H a = none) : Ex ρ H ρ (upd H a o) :=
 ⟨⟨[], by simp, by simp⟩, fun b u _ e => by rw [Qaj (Qal e h)]; exact e, fun b u _ e => by rw [Qaj (Qal e h)]; exact e,
  fun b u e => ⟨u, by rw [Qaj (Qal e h)]; exact e, rfl⟩⟩
theorem Ex.newO {o : HO} (h : H a = none) : Ex ρ H (ρ ++ [a]) (upd H a o) :=
 ⟨⟨[a], rfl, fun b hb => by rw [List.mem_singleton] at hb; rw [hb]; exact h⟩, (Ex.new (ρ := ρ) h).fix, (Ex.new (ρ := ρ) h).oth, (Ex.new (ρ := ρ) h).knd⟩
theorem Ex.newL {vs : List V} (h : H a = none) : Ex ρ H (ρ ++ [a]) (upd H a (.lst vs)) := Ex.newO h
theorem SqT.mono (x : Up ρ H ρ1 H1) (h : SqT K H a vs) : SqT K H1 a vs := by
 rcases h with h | h
 ·rcases h with h | ⟨o, h⟩
  ·exact .inl (.inl (x.fix a _ rfl h))
  ·exact .inl (.inr ⟨o, x.fix a _ rfl h⟩)
 ·exact .inr h
theorem FzL.mono (x : Up ρ H ρ1 H1) (h : FzL K H a vs) : FzL K H1 a vs := by
 rcases h with ⟨o, h⟩ | h
 ·exact .inl ⟨o, x.fix a _ rfl h⟩
 ·exact .inr h
theorem Qde {α : Type} {l τ : List α} {n : Nat} {a : α} (h : l[n]? = some a) : (l ++ τ)[n]? = some a := by
 rw [List.getElem?_append_left (List.getElem?_eq_some_iff.mp h).1]; exact h
mutual
theorem Rep.up (x : Up ρ H ρ1 H1) : ∀ {v : V} {d : D}, Rep K ρ H v d → Rep K ρ1 H1 v d
 | _, _, .non => .non
 | _, _, .bl b => .bl b
 | _, _, .int i => .int i
 | _, _, .str y => .str y
 | _, _, .tup h r => .tup (SqT.mono x h) (Reps.up x r)
 | _, _, .lit h r => .lit (FzL.mono x h) (Reps.up x r)
 | _, _, .ref ⟨o, ho, hk⟩ h => by
  obtain ⟨τ, e⟩ := x.pre
  obtain ⟨o', ho', hk'⟩ := x.knd _ o ho
  exact .ref ⟨o', ho', hk'.trans hk⟩ (by rw [e]; exact Qde h)
 | _, _, .dic ⟨o, ho, hk⟩ h => by
  obtain ⟨τ, e⟩ := x.pre
  obtain ⟨o', ho', hk'⟩ := x.knd _ o ho
  exact .dic ⟨o', ho', by rw [hk']; exact hk⟩ (by rw [e]; exact Qde h)
theorem Reps.up (x : Up ρ H ρ1 H1) : ∀ {vs : List V} {ds : List D}, Reps K ρ H vs ds → Reps K ρ1 H1 vs ds
 | _, _, .nil => .nil
 | _, _, .cons r t => .cons (Rep.up x r) (Reps.up x t)
end
theorem Rep.mono (r : Rep K ρ H v d) (x : Ex ρ H ρ1 H1) : Rep K ρ1 H1 v d := r.up x.up
theorem Reps.mono (r : Reps K ρ H vs ds) (x : Ex ρ H ρ1 H1) : Reps K ρ1 H1 vs ds := r.up x.up
theorem Reps.length : ∀ {vs : List V} {ds : List D}, Reps K ρ H vs ds → vs.length = ds.length
 | _, _, .nil => rfl
 | _, _, .cons _ t => by simp [Reps.length t]
theorem Reps.get : ∀ {vs : List V} {ds : List D} {i : Nat} {d : D}, Reps K ρ H vs ds → ds[i]? = some d → ∃ v, vs[i]? = some v ∧ Rep K ρ H v d
 | _, _, _, _, .nil, e => by simp at e
 | _, _, 0, _, .cons r _, e => by simp at e; subst e; exact ⟨_, rfl, r⟩
 | _, _, i + 1, _, .cons _ t, e => by
  obtain ⟨v, h1, h2⟩ := Reps.get (i := i) t (by simpa using e)
  exact ⟨v, by simpa using h1, h2⟩
theorem Reps.app : ∀ {vs ws : List V} {ds es : List D}, Reps K ρ H vs ds → Reps K ρ H ws es → Reps K ρ H (vs ++ ws) (ds ++ es)
 | _, _, _, _, .nil, s => s
 | _, _, _, _, .cons r t, s => .cons r (Reps.app t s)
theorem Reps.set : ∀ {vs : List V} {ds : List D} {v : V} {d : D} (i : Nat), Reps K ρ H vs ds → Rep K ρ H v d → Reps K ρ H (vs.set i v) (ds.set i d)
 | _, _, _, _, _, .nil, _ => .nil
 | _, _, _, _, 0, .cons _ t, r => .cons r t
 | _, _, _, _, i + 1, .cons q t, r => .cons q (Reps.set i t r)
theorem Reps.take : ∀ {vs : List V} {ds : List D} (n : Nat), Reps K ρ H vs ds → Reps K ρ H (vs.take n) (ds.take n)
 | _, _, 0, _ => .nil
 | _, _, _ + 1, .nil => .nil
 | _, _, n + 1, .cons r t => .cons r (Reps.take n t)
theorem Reps.drop : ∀ {vs : List V} {ds : List D} (n : Nat), Reps K ρ H vs ds → Reps K ρ H (vs.drop n) (ds.drop n)
 | _, _, 0, r => r
 | _, _, _ + 1, .nil => .nil
 | _, _, n + 1, .cons _ t => Reps.drop n t
theorem LR.mono {σ : St} {l : Loc} (x : Ex ρ H ρ1 H1) (h : LR K ρ H σ l) : LR K ρ1 H1 σ l :=
 ⟨h.1, fun i d e => let ⟨v, e1, r⟩ := h.2 i d e; ⟨v, e1, r.mono x⟩⟩
theorem SR.at (s : SR K ρ H st) {n : Nat} {o : MO} (e : st[n]? = some o) : ∃ a, ρ[n]? = some a ∧ ObR K ρ H a o := by
 have hl : n < ρ.length := by rw [s.len]; exact (List.getElem?_eq_some_iff.mp e).1
 have q : ρ[n]? = some ρ[n] := List.getElem?_eq_getElem hl
 exact ⟨_, q, s.ob n _ o q e⟩
theorem SR.seq (s : SR K ρ H st) {n : Nat} (e : st[n]? = some (.lst ds)) : ∃ a vs, ρ[n]? = some a ∧ H a = some (.lst vs) ∧ Reps K ρ H vs ds := by
 obtain ⟨a, h, vs, q, r⟩ := s.at e
 exact ⟨a, vs, h, q, r⟩
theorem ObR.ex {o : MO} (h : ObR K ρ H a o) : ∃ u, H a = some u := by
 cases o with
 | lst ds => obtain ⟨vs, q, _⟩ := h; exact ⟨_, q⟩
 | dct b kvs => cases b <;> (obtain ⟨vs, q, _⟩ := h; exact ⟨_, q⟩)
theorem SR.fresh (s : SR K ρ H st) (h : H a = none) : a ∉ ρ := fun z => by
 obtain ⟨n, hn⟩ := List.getElem?_of_mem z
 have hl : n < st.length := by rw [← s.len]; exact (List.getElem?_eq_some_iff.mp hn).1
 obtain ⟨u, q⟩ := ObR.ex (s.ob n a _ hn (List.getElem?_eq_getElem hl))
 rw [h] at q; cases q
theorem Qdf {n : Nat} {xs : List D} {s' : Sto} (h : getL n st = .ok xs s') : s' = st ∧ st[n]? = some (.lst xs) := by
 unfold getL at h
 cases e : st[n]? with
 | none => rw [e] at h; cases h
 | some o =>
  rw [e] at h
  cases o with
  | lst ds => cases h; exact ⟨rfl, rfl⟩
  | dct _ _ => cases h
theorem Paired.mapS {α β : Type} {F G : α → β → Prop} : ∀ {l₁ : List α} {l₂ : List β}, Paired F l₁ l₂ → (∀ a b, F a b → G a b) → Paired G l₁ l₂
 | _, _, .nil, _ => .nil
 | _, _, .cons r t, f => .cons (f _ _ r) (Paired.mapS t f)
theorem ObR.mono {o : MO} (x : Up ρ H ρ1 H1) (h : ObR K ρ H a o) (hk : ∀ u, H a = some u → H1 a = some u) : ObR K ρ1 H1 a o := by
 cases o with
 | lst ds =>
  obtain ⟨vs, q, r⟩ := h
  exact ⟨vs, hk _ q, r.up x⟩
 | dct b kvs =>
  cases b with
  | false =>
   obtain ⟨es, q, r⟩ := h
   exact ⟨es, hk _ q, Paired.mapS r fun p q z => ⟨z.1, z.2.up x⟩⟩
  | true =>
   obtain ⟨es, q, r⟩ := h
   exact ⟨es, hk _ q, Paired.mapS r fun p q z => ⟨z.1, z.2.1.up x, z.2.2.up x⟩⟩
theorem SR.new {o : HO} (s : SR K ρ H st) (h : H a = none) : SR K ρ (upd H a o) st :=
 ⟨s.len, s.nd, fun n b ob e1 e2 => ObR.mono (o := ob) (Ex.new (ρ := ρ) h).up (s.ob n b ob e1 e2) fun vs q => by rw [Qaj (Qal q h)]; exact q⟩
theorem SR.keepO {o' : MO} (s : SR K ρ H st) (na : a ∉ ρ) (r : ObR K ρ H a o') : SR K (ρ ++ [a]) H (st ++ [o']) := by
 have hl := s.len
 have old : ∀ (n : Nat) (b : Addr), (ρ ++ [a])[n]? = some b → (n < ρ.length ∧ ρ[n]? = some b) ∨ (n = ρ.length ∧ b = a) := fun n b e => by
  by_cases hn : n < ρ.length
  ·rw [List.getElem?_append_left hn] at e; exact .inl ⟨hn, e⟩
  ·rw [List.getElem?_append_right (by ac_nf)] at e
   have hz : n - ρ.length = 0 := by
    cases q : n - ρ.length with
    | zero => rfl
    | succ k => rw [q] at e; simp at e
   rw [hz] at e
   simp at e
   exact .inr ⟨by ac_nf, e.symm⟩
 refine ⟨by simp [hl], List.nodup_append.mpr ⟨s.nd, by simp, fun x hx y hy => ?_⟩, fun n b o e1 e2 => ?_⟩
 ·rw [List.mem_singleton] at hy
  subst hy
  exact fun z => na (z ▸ hx)
 ·rcases old n b e1 with ⟨hn, f1⟩ | ⟨hn, f1⟩
  ·rw [List.getElem?_append_left (by ac_nf)] at e2
   exact ObR.mono (o := o) Up.grow (s.ob n b o f1 e2) fun _ q => q
  ·subst f1
   have : o = o' := by
    rw [hn, hl, List.getElem?_append_right (Nat.le_refl _)] at e2
    simp at e2; exact e2.symm
   subst this
   exact ObR.mono (o := o) Up.grow r fun _ q => q
theorem SR.keep (s : SR K ρ H st) (h : H a = some (.lst vs)) (na : a ∉ ρ) (r : Reps K ρ H vs ds) : SR K (ρ ++ [a]) H (st ++ [.lst ds]) := s.keepO na ⟨vs, h, r⟩
theorem SR.putO (s : SR K ρ H st) {n : Nat} {o' : MO} {u u' : HO} (hl : n < st.length) (ha : ρ[n]? = some a) (hu : H a = some u) (k3 : kO u ≠ 3) (hk : kO u' = kO u) (r : ObR K ρ (upd H a u') a o') :
  SR K ρ (upd H a u') (st.set n o') ∧ Ex ρ H ρ (upd H a u') := by
 have x : Ex ρ H ρ (upd H a u') := by
  refine ⟨⟨[], by simp, by simp⟩, fun b o no q => ?_, fun b xs nb q => ?_, fun b o q => ?_⟩
  ·have : b ≠ a := fun z => by subst z; rw [hu] at q; cases q; exact k3 no
   rw [Qaj this]; exact q
  ·have : b ≠ a := fun z => by subst z; exact nb (List.mem_of_getElem? ha)
   rw [Qaj this]; exact q
  ·by_cases z : b = a
   ·subst z; rw [hu] at q; cases q; exact ⟨u', Qai, hk⟩
   ·exact ⟨o, by rw [Qaj z]; exact q, rfl⟩
 refine ⟨⟨by simp [s.len], s.nd, fun m b o e1 e2 => ?_⟩, x⟩
 by_cases z : m = n
 ·subst z
  rw [ha] at e1; cases e1
  rw [List.getElem?_set_self hl] at e2; cases e2
  exact r
 ·rw [List.getElem?_set_ne (Ne.symm z)] at e2
  refine ObR.mono (o := o) x.up (s.ob m b o e1 e2) fun us q => ?_
  have : b ≠ a := fun w => by
   subst w
   exact z ((List.getElem?_inj (List.getElem?_eq_some_iff.mp e1).1 s.nd).mp (e1.trans ha.symm))
  rw [Qaj this]; exact q
theorem SR.put (s : SR K ρ H st) {n : Nat} {ws : List V} (hl : n < st.length) (ha : ρ[n]? = some a) (hw : H a = some (.lst ws)) (r : Reps K ρ H vs ds) :
  SR K ρ (upd H a (.lst vs)) (st.set n (.lst ds)) ∧ Ex ρ H ρ (upd H a (.lst vs)) := by
 have u : Up ρ H ρ (upd H a (.lst vs)) := by
  refine ⟨⟨[], by simp⟩, fun b o no q => ?_, fun b o q => ?_⟩
  ·have : b ≠ a := fun z => by subst z; rw [hw] at q; cases q; exact nomatch no
   rw [Qaj this]; exact q
  ·by_cases z : b = a
   ·subst z; rw [hw] at q; cases q; exact ⟨_, Qai, rfl⟩
   ·exact ⟨o, by rw [Qaj z]; exact q, rfl⟩
 exact s.putO hl ha hw (by show (0 : Nat) ≠ 3; decide) rfl ⟨vs, Qai, r.up u⟩
theorem Qdg (k : ∃ o, H a = some o ∧ kO o = 0) : ∃ vs, H a = some (.lst vs) := by
 obtain ⟨o, e, hk⟩ := k
 cases o with
 | lst vs => exact ⟨vs, e⟩
 | _ => exact nomatch hk
def Post {α : Type} (K : PySem.W.Frag) (ρ : List Addr) (H : Hp) (r : Rs α) (R : α → Sto → List Addr → Hp → Prop) : Prop := match r with
 | .ok a st => ∀ ρ' H', Ex ρ H ρ' H' → SR K ρ' H' st → R a st ρ' H'
 | _ => False
theorem Post.left {α : Type} {r : Rs α} {R : α → Sto → List Addr → Hp → Prop} (x : Ex ρ H ρ1 H1) (h : Post K ρ H r R) : Post K ρ1 H1 r R := by
 cases r with
 | ok a st => exact fun ρ' H' y s => h ρ' H' (x.trans y) s
 | exc _ _ => exact h
 | bad => exact h
theorem Post.imp {α : Type} {r : Rs α} {R R' : α → Sto → List Addr → Hp → Prop} (h : Post K ρ H r R) (f : ∀ a st ρ' H', Ex ρ H ρ' H' → SR K ρ' H' st → R a st ρ' H' → R' a st ρ' H') : Post K ρ H r R' := by
 cases r with
 | ok a st => exact fun ρ' H' y s => f a st ρ' H' y s (h ρ' H' y s)
 | exc _ _ => exact h
 | bad => exact h
theorem Post.bnd {α β : Type} {m : M α} {f : α → M β} {R : β → Sto → List Addr → Hp → Prop} (h : Post K ρ H (bnd m f st) R) : Post K ρ H (m st) fun a st' ρ' H' => Post K ρ' H' (f a st') R := by
 unfold MM.bnd at h
 cases e : m st with
 | ok a s' =>
  rw [e] at h
  exact fun ρ' H' y s => h.left y
 | exc _ _ => rw [e] at h; exact h
 | bad => rw [e] at h; exact h
theorem Post.ret {α : Type} {a : α} {R : α → Sto → List Addr → Hp → Prop} (h : Post K ρ H (MM.ret a st) R) (s : SR K ρ H st) : R a st ρ H := h ρ H Ex.refl s
theorem Post.chk {α : Type} {c : Prop} [Decidable c] {m : M α} {R : α → Sto → List Addr → Hp → Prop} (h : Post K ρ H (MM.chk c m st) R) : c ∧ Post K ρ H (m st) R := by
 unfold MM.chk at h
 by_cases hc : c
 ·rw [if_pos hc] at h; exact ⟨hc, h⟩
 ·rw [if_neg hc] at h; exact h.elim
theorem Post.getL {n : Nat} {R : List D → Sto → List Addr → Hp → Prop} (h : Post K ρ H (MM.getL n st) R) (s : SR K ρ H st) : ∃ xs, st[n]? = some (.lst xs) ∧ R xs st ρ H := by
 cases e : MM.getL n st with
 | ok xs s' =>
  obtain ⟨rfl, q⟩ := Qdf e
  rw [e] at h
  exact ⟨xs, q, h ρ H Ex.refl s⟩
 | exc _ _ => rw [e] at h; exact h.elim
 | bad => rw [e] at h; exact h.elim
noncomputable def tOf (K : PySem.W.Frag) (f : CE) : TE := fun σ H Q => ∃ ρ l st, LR K ρ H σ l ∧ SR K ρ H st ∧ Post K ρ H (f l st) fun d _ ρ' H' => ∀ v, Rep K ρ' H' v d → Q v H'
noncomputable def ttOf (K : PySem.W.Frag) (f : CT) : TT := fun σ H Q => ∃ ρ l st, LR K ρ H σ l ∧ SR K ρ H st ∧ Post K ρ H (f l st) fun b _ _ H' => Q b H'
noncomputable def taOf (K : PySem.W.Frag) (f : CA) : TA := fun σ H Q => ∃ ρ l st, LR K ρ H σ l ∧ SR K ρ H st ∧ Post K ρ H (f l st) fun ds _ ρ' H' => ∀ vs, Reps K ρ' H' vs ds → Q vs H'
noncomputable def tlOf (K : PySem.W.Frag) (f : CA) : TE := fun σ H Q => ∃ ρ l st, LR K ρ H σ l ∧ SR K ρ H st ∧ Post K ρ H (f l st) fun ds _ ρ' H' => ∀ a vs, H a = none → a ∉ ρ' → H' a = some (.lst vs) → Reps K ρ' H' vs ds → Q (.ref a) H'
noncomputable def tsOf (K : PySem.W.Frag) (c : CS) : TS := fun G σ H => ∃ ρ l st, LR K ρ H σ l ∧ SR K ρ H st ∧ Post K ρ H (c l st) fun f _ ρ' H' => match f with
 | .next l' => ∀ σ', LR K ρ' H' σ' l' → G.nx σ' H'
 | .ret d => ∀ v, Rep K ρ' H' v d → G.rt v H'
 | .brk l' => ∀ σ', LR K ρ' H' σ' l' → G.bk σ' H'
 | .cnt l' => ∀ σ', LR K ρ' H' σ' l' → G.ct σ' H'
noncomputable def tgOf (K : PySem.W.Frag) (g : CG) : TG := fun v σ H Q => ∃ ρ l st d, LR K ρ H σ l ∧ SR K ρ H st ∧ Rep K ρ H v d ∧ Post K ρ H (g d l st) fun l' _ ρ' H' => ∀ σ', LR K ρ' H' σ' l' → Q σ' H'
noncomputable def tgsOf (K : PySem.W.Frag) (g : List D → Loc → M Loc) : TGs := fun vs σ H Q => ∃ ρ l st ds, LR K ρ H σ l ∧ SR K ρ H st ∧ Reps K ρ H vs ds ∧ Post K ρ H (g ds l st) fun l' _ ρ' H' => ∀ σ', LR K ρ' H' σ' l' → Q σ' H'
noncomputable def rOf (K : PySem.W.Frag) (g : D → D → M D) : R2 := fun x y H Q => ∃ ρ st d e, SR K ρ H st ∧ Rep K ρ H x d ∧ Rep K ρ H y e ∧ Post K ρ H (g d e st) fun r _ ρ' H' => ∀ v, Rep K ρ' H' v r → Q v H'
noncomputable def uOf (K : PySem.W.Frag) (g : D → M D) : V → Hp → VK → Prop := fun x H Q => ∃ ρ st d, SR K ρ H st ∧ Rep K ρ H x d ∧ Post K ρ H (g d st) fun r _ ρ' H' => ∀ v, Rep K ρ' H' v r → Q v H'
noncomputable def kOf (K : PySem.W.Frag) (g : List D → M D) : List V → Hp → VK → Prop := fun xs H Q => ∃ ρ st ds, SR K ρ H st ∧ Reps K ρ H xs ds ∧ Post K ρ H (g ds st) fun r _ ρ' H' => ∀ v, Rep K ρ' H' v r → Q v H'
noncomputable def spOf (K : PySem.W.Frag) (n : Nat) (g : List D → M D) : Sp := fun vs H Q _ => vs.length = n ∧ kOf K g vs H Q
end
section
variable {X : Cx} {a b c : Expr} {pos : Pos}
abbrev SE (X : Cx) (e : Expr) (f : CE) : Prop := PE X e (tOf X.K f)
abbrev SL (X : Cx) (e : Expr) (f : CA) : Prop := PE X e (tlOf X.K f)
abbrev ST (X : Cx) (e : Expr) (f : CT) : Prop := PT X e (ttOf X.K f)
abbrev SA (X : Cx) (es : List Expr) (f : CA) : Prop := PA X es (taOf X.K f)
abbrev SS (X : Cx) (s : Stmt) (f : CS) : Prop := PS X s (tsOf X.K f)
abbrev SSs (X : Cx) (s : List Stmt) (f : CS) : Prop := PSs X s (tsOf X.K f)
theorem _root_.L2.PE.of {e : Expr} {t t' : TE} (h : PE X e t) (f : ∀ σ H Q, t' σ H Q → t σ H Q) : PE X e t' := fun pins s σ H Q I q => h pins s σ H Q I (f σ H Q q)
theorem _root_.L2.PT.of {e : Expr} {t t' : TT} (h : PT X e t) (f : ∀ σ H Q, t' σ H Q → t σ H Q) : PT X e t' := fun pins s σ H Q I q => h pins s σ H Q I (f σ H Q q)
theorem _root_.L2.PA.of {e : List Expr} {t t' : TA} (h : PA X e t) (f : ∀ σ H Q, t' σ H Q → t σ H Q) : PA X e t' := fun pos pins s σ H Q I q => h pos pins s σ H Q I (f σ H Q q)
theorem _root_.L2.PS.of {e : Stmt} {t t' : TS} (h : PS X e t) (f : ∀ D σ H, t' D σ H → t D σ H) : PS X e t' := fun pins s σ H D I q => h pins s σ H D I (f D σ H q)
theorem _root_.L2.PSs.of {e : List Stmt} {t t' : TS} (h : PSs X e t) (f : ∀ D σ H, t' D σ H → t D σ H) : PSs X e t' := fun pins s σ H D I q => h pins s σ H D I (f D σ H q)
theorem _root_.L2.PG.of {e : Expr} {t t' : TG} (h : PG X e t) (f : ∀ v σ H Q, t' v σ H Q → t v σ H Q) : PG X e t' := fun pins s σ H v u Q I r q => h pins s σ H v u Q I r (f v σ H Q q)
theorem _root_.L2.PGs.of {e : List Expr} {t t' : TGs} (h : PGs X e t) (f : ∀ v σ H Q, t' v σ H Q → t v σ H Q) : PGs X e t' := fun pins s σ H v u Q I r q => h pins s σ H v u Q I r (f v σ H Q q)
theorem _root_.L2.OpR.of {f : Value → Value → Sem Value} {r r' : R2} (h : OpR X f r) (g : ∀ x y H Q, r' x y H Q → r x y H Q) : OpR X f r' := fun pins s σ H x y v u Q I rx ry q => h pins s σ H x y v u Q I rx ry (g x y H Q q)
theorem _root_.L2.CallR.of {f : Value} {r r' : List V → Hp → VK → Prop} (h : CallR X f r) (g : ∀ x H Q, r' x H Q → r x H Q) : CallR X f r' := fun pins s σ H x u Q I rx q => h pins s σ H x u Q I rx (g x H Q q)
variable {fa fb fc : CE}
theorem Qdh (i : Nat) {x : Str} (h : PE X (.Name x pos) (tVar i)) : SE X (.Name x pos) (cVar i) := h.of fun σ H Q pq47 => by
 obtain ⟨ρ, l, st, lr, sr, p⟩ := pq47
 unfold cVar at p
 cases e : l[i]? with
 | none => rw [e] at p; exact p.elim
 | some o =>
  rw [e] at p
  cases o with
  | none => exact p.elim
  | some d =>
   obtain ⟨v, e1, r⟩ := lr.2 i d e
   exact ⟨v, e1, p.ret sr v r⟩
theorem Qdi {i : Int} {j : Nat} : SE X (.Constant (.int i) j pos) (cCon (.int i)) := (Qaw (i := i) (j := j) (pos := pos)).of fun σ H Q pq48 => by obtain ⟨ρ, l, st, lr, sr, p⟩ := pq48; exact p.ret sr _ (.int i)
theorem Qdj {i : Bool} {j : Nat} : SE X (.Constant (.bool i) j pos) (cCon (.bl i)) := (Qax (b := i) (j := j) (pos := pos)).of fun σ H Q pq49 => by obtain ⟨ρ, l, st, lr, sr, p⟩ := pq49; exact p.ret sr _ (.bl i)
theorem Qdk {j : Nat} : SE X (.Constant .none j pos) (cCon .non) := (Qay (j := j) (pos := pos)).of fun σ H Q pq50 => by obtain ⟨ρ, l, st, lr, sr, p⟩ := pq50; exact p.ret sr _ .non
theorem Qdl {i : Str} {j : Nat} : SE X (.Constant (.str i) j pos) (cCon (.str i)) := (Qaz (x := i) (j := j) (pos := pos)).of fun σ H Q pq51 => by obtain ⟨ρ, l, st, lr, sr, p⟩ := pq51; exact p.ret sr _ (.str i)
theorem Qdm {g : D → D → M D} {r : R2} (hr : ∀ x y H Q, rOf X.K g x y H Q → r x y H Q) : ∀ σ H Q, tOf X.K (c2 g fa fb) σ H Q → tOp r (tOf X.K fa) (tOf X.K fb) σ H Q := fun σ H Q pq52 =>
 by obtain ⟨ρ, l, st, lr, sr, p⟩ := pq52; exact ⟨ρ, l, st, lr, sr, p.bnd.imp fun d st1 ρ1 H1 x1 s1 p1 v rv => ⟨ρ1, l, st1, lr.mono x1, s1, p1.bnd.imp fun e st2 ρ2 H2 x2 s2 p2 u ru => hr _ _ _ _ ⟨ρ2, st2, d, e, s2, rv.mono x2, ru, p2⟩⟩⟩
theorem Qdn {op : Operator} {g : D → D → M D} (ho : OpR X (binaryOp op) (rOf X.K g)) (ha : SE X a fa) (hb : SE X b fb) : SE X (.BinOp a op b pos) (c2 g fa fb) :=
 (Qbc ho ha hb).of (Qdm fun _ _ _ _ h => h)
theorem Qdo {op : CmpOp} {g : D → D → M D} (ho : OpR X (compareOp op) (rOf X.K g)) (ha : SE X a fa) (hb : SE X b fb) (hm : behindInMarks op b = false) : SE X (.Compare a [op] [b] pos) (c2 g fa fb) :=
 (Qbs ho ha hb hm).of (Qdm fun _ _ _ _ h => h)
end
theorem _root_.Exists.el {α β γ : Type} {A B C : α → β → γ → Prop} {G : Prop} (h : ∃ a b c, A a b c ∧ B a b c ∧ C a b c) (k : ∀ a b c, A a b c → B a b c → C a b c → G) : G := by
 obtain ⟨ρ, l, st, a, b, c⟩ := h; exact k ρ l st a b c
theorem tOf.el {K : PySem.W.Frag} {f : CE} {σ : St} {H : Hp} {Q : VK} {C : Prop} (h : tOf K f σ H Q) (k : ∀ ρ l st, LR K ρ H σ l → SR K ρ H st → Post K ρ H (f l st) (fun d _ ρ' H' => ∀ v, Rep K ρ' H' v d → Q v H') → C) : C := by
 obtain ⟨ρ, l, st, a, b, c⟩ := h; exact k ρ l st a b c
theorem ttOf.el {K : PySem.W.Frag} {f : CT} {σ : St} {H : Hp} {Q : Bool → Hp → Prop} {C : Prop} (h : ttOf K f σ H Q) (k : ∀ ρ l st, LR K ρ H σ l → SR K ρ H st → Post K ρ H (f l st) (fun b _ _ H' => Q b H') → C) : C := by
 obtain ⟨ρ, l, st, a, b, c⟩ := h; exact k ρ l st a b c
theorem tsOf.el {K : PySem.W.Frag} {c : CS} {σ : St} {H : Hp} {G : Ends} {C : Prop} (h : tsOf K c G σ H) (k : ∀ ρ l st, LR K ρ H σ l → SR K ρ H st → Post K ρ H (c l st) (fun f _ ρ' H' => match f with
 | .next l' => ∀ σ', LR K ρ' H' σ' l' → G.nx σ' H'
 | .ret d => ∀ v, Rep K ρ' H' v d → G.rt v H'
 | .brk l' => ∀ σ', LR K ρ' H' σ' l' → G.bk σ' H'
 | .cnt l' => ∀ σ', LR K ρ' H' σ' l' → G.ct σ' H') → C) : C := by
 obtain ⟨ρ, l, st, a, b, c⟩ := h; exact k ρ l st a b c
end MM
namespace MM
open PySem PySem.Spec PyProof.Rows L2
theorem Qdp : ∀ (a b : List Int), eqKs (a.map .int) (b.map .int) = decide (a = b)
 | [], [] => by simp [eqKs]
 | [], _ :: _ => by simp [eqKs]
 | _ :: _, [] => by simp [eqKs]
 | x :: xs, y :: ys => by
  rw [List.map_cons, List.map_cons]
  show (eqK (.int x) (.int y) && eqKs _ _) = _
  rw [Qdp xs ys]
  show (decide (x = y) && _) = _
  simp [Bool.decide_and]
theorem Qdq : ∀ (a b : List (List Int)), eqKs (a.map rowD) (b.map rowD) = decide (a = b)
 | [], [] => by simp [eqKs]
 | [], _ :: _ => by simp [eqKs]
 | _ :: _, [] => by simp [eqKs]
 | x :: xs, y :: ys => by
  rw [List.map_cons, List.map_cons]
  show (eqK (rowD x) (rowD y) && eqKs _ _) = _
  rw [Qdq xs ys]
  show (eqKs (x.map .int) (y.map .int) && _) = _
  rw [Qdp]
  simp [Bool.decide_and]
theorem Qdr (a b : NK) : eqK (stD a) (stD b) = decide (a = b) := Qdq a b
theorem Qds (a b : Key) : eqK (keyD a) (keyD b) = decide (a = b) := by
 cases a <;> cases b <;> simp [keyD, eqK]
theorem Qdt : ∀ {ds : List D} {r : List Int}, intsK ds = some r → ds = r.map .int
 | [], r, h => by simp [intsK] at h; subst h; rfl
 | d :: ds, r, h => by
  cases d with
  | int i =>
   unfold intsK at h
   cases e : intsK ds with
   | none => rw [e] at h; cases h
   | some q =>
    rw [e] at h
    cases h
    rw [List.map_cons, Qdt e]
  | _ => cases h
theorem Qdu : ∀ {ds : List D} {r : NK}, rowsK ds = some r → ds = r.map rowD
 | [], r, h => by simp [rowsK] at h; subst h; rfl
 | d :: ds, r, h => by
  cases d with
  | tup xs =>
   unfold rowsK at h
   cases e : intsK xs with
   | none => rw [e] at h; cases h
   | some q =>
    cases e2 : rowsK ds with
    | none => rw [e, e2] at h; cases h
    | some q2 =>
     rw [e, e2] at h
     cases h
     rw [List.map_cons, ← Qdu e2]
     show _ = D.tup (q.map .int) :: ds
     rw [← Qdt e]
  | _ => cases h
theorem Qdv {d : D} {r : NK} (h : stK d = some r) : d = stD r := by
 cases d with
 | tup ds => show D.tup ds = D.tup _; rw [Qdu h]
 | _ => cases h
theorem Qdw {d : D} (h : kOk true d = true) : ∃ k, d = stD k := by
 cases e : stK d with
 | none =>
  have : kOk true d = (stK d).isSome := by cases d <;> rfl
  rw [this, e] at h; cases h
 | some k => exact ⟨k, Qdv e⟩
theorem Qdx {d : D} (h : kOk false d = true) : ∃ k, d = keyD k := by
 cases d with
 | int i => exact ⟨.inl i, rfl⟩
 | str x => exact ⟨.inr x, rfl⟩
 | _ => cases h
section
variable {X : Cx} {K : PySem.W.Frag} {ρ : List Addr} {H : Hp} {st : Sto} {pins : List (Addr × Obj)} {σ : St} {s : Shared} {a b : Addr}
theorem Qdy {k : Key} {v : V} (r : Rep K ρ H v (keyD k)) : v = kV k := by
 cases k with
 | inl i => cases r; rfl
 | inr x => cases r; rfl
noncomputable abbrev KR (K : PySem.W.Frag) (ρ : List Addr) (H : Hp) : List (Key × V) → List (D × D) → Prop := Paired fun (p : Key × V) (q : D × D) => keyD p.1 = q.1 ∧ Rep K ρ H p.2 q.2
noncomputable def RO (K : PySem.W.Frag) (ρ : List Addr) (H : Hp) : Option V → Option D → Prop
 | some v, some d => Rep K ρ H v d
 | none, none => True
 | _, _ => False
theorem RO.some_of {o : Option V} {d : D} (h : RO K ρ H o (some d)) : ∃ v, o = some v ∧ Rep K ρ H v d := by
 cases o with
 | none => exact h.elim
 | some v => exact ⟨v, rfl, h⟩
theorem RO.isSome_eq {o : Option V} {d : Option D} (h : RO K ρ H o d) : o.isSome = d.isSome := by
 cases o <;> cases d <;> first | rfl | exact h.elim
theorem KR.val {es : List (Key × V)} {kvs : List (D × D)} (r : KR K ρ H es kvs) (k : Key) : RO K ρ H (valV es k) (lkK kvs (keyD k)) := by
 induction r with
 | nil => exact True.intro
 | @cons p q ps qs h t ih =>
  obtain ⟨h1, h2⟩ := h
  unfold lkK
  rw [List.find?_cons, ← h1, Qds]
  by_cases e : p.1 = k
  ·rw [QcQ e, decide_eq_true e]; exact h2
  ·rw [QcR e, decide_eq_false e]; exact ih
theorem KR.any {es : List (Key × V)} {kvs : List (D × D)} (r : KR K ρ H es kvs) (k : Key) : (es.any fun kv => decide (kv.1 = k)) = kvs.any fun p => eqK p.1 (keyD k) := by
 induction r with
 | nil => rfl
 | @cons p q ps qs h t ih => rw [List.any_cons, List.any_cons, ih, ← h.1, Qds]
theorem KR.put {es : List (Key × V)} {kvs : List (D × D)} (r : KR K ρ H es kvs) (k : Key) {v : V} {d : D} (rv : Rep K ρ H v d) : KR K ρ H (L2.putK es k v) (ptK kvs (keyD k) d) := by
 unfold L2.putK ptK
 rw [r.any k]
 by_cases e : (kvs.any fun p => eqK p.1 (keyD k)) = true
 ·rw [if_pos e, if_pos e]
  clear e
  induction r with
  | nil => exact .nil
  | @cons p q ps qs h t ih =>
   rw [List.map_cons, List.map_cons]
   refine .cons ?_ ih
   rw [← h.1, Qds]
   by_cases e : p.1 = k
   ·rw [if_pos e, if_pos (decide_eq_true e)]; exact ⟨rfl, rv⟩
   ·rw [if_neg e, if_neg (by rw [decide_eq_false e]; exact Bool.false_ne_true)]; exact h
 ·rw [if_neg e, if_neg e]
  exact Paired.snoc r ⟨rfl, rv⟩
theorem KR.up {ρ1 : List Addr} {H1 : Hp} (x : Up ρ H ρ1 H1) {es : List (Key × V)} {kvs : List (D × D)} (r : KR K ρ H es kvs) : KR K ρ1 H1 es kvs := Paired.mapS r fun _ _ z => ⟨z.1, z.2.up x⟩
theorem KR.length {es : List (Key × V)} {kvs : List (D × D)} (r : KR K ρ H es kvs) : es.length = kvs.length := Paired.length r
noncomputable abbrev NR (K : PySem.W.Frag) (ρ : List Addr) (H : Hp) : List (NK × Addr × V) → List (D × D) → Prop := Paired fun (p : NK × Addr × V) (q : D × D) => stD p.1 = q.1 ∧ Rep K ρ H (.ref p.2.1) q.1 ∧ Rep K ρ H p.2.2 q.2
noncomputable abbrev NX : List (NK × Addr × V) → List (NK × Addr × Value) → Prop := Paired fun (p : NK × Addr × V) (q : NK × Addr × Value) => p.1 = q.1 ∧ p.2.1 = q.2.1 ∧ RelV p.2.2 q.2.2
noncomputable abbrev nkd (X : Cx) : HeapKind X.prog X.w NK := nestKind (intKind X.prog X.w)
theorem Qdz {P : Program} {w : World} : ∀ {r : List Int} {vs : List V} {us : List Value}, Reps K ρ H vs (r.map .int) → Vals vs us → ItemsAre (intKind P w) r us
 | [], _, _, h, g => by cases h; cases g; exact .nil
 | i :: r, _, _, h, g => by
  cases h with
  | cons h1 ht =>
   cases h1
   cases g with
   | cons g1 gt =>
    obtain ⟨t, e⟩ := g1
    subst e
    exact .cons (by show Value.isInt i (Value.int i t) = true; simp [Value.isInt]) (Qdz ht gt)
theorem QdA {r : List Int} {v : V} {u : Value} (I : Inv X pins σ H s) (h : Rep X.K ρ H v (rowD r)) (g : RelV v u) : ∃ b, u = .ref b ∧ IsTupleKey (intKind X.prog X.w) s.heap r b := by
 cases h with
 | @tup b vs ds h q =>
  have e : u = Value.ref b := g
  subst e
  obtain ⟨its, rv, ⟨o, h1, h2, n, h3⟩, _⟩ := I.tuple h
  exact ⟨b, rfl, o, its.toArray, n, h1, h2, h3, by simpa using Qdz q rv⟩
theorem QdB (I : Inv X pins σ H s) : ∀ {k : NK} {vs : List V} {us : List Value}, Reps X.K ρ H vs (k.map rowD) → Vals vs us → TIts (intKind X.prog X.w) s.heap k us
 | [], _, _, h, g => by cases h; cases g; exact .nil
 | r :: k, _, _, h, g => by
  cases h with
  | cons h1 ht =>
   cases g with
   | cons g1 gt =>
    obtain ⟨b, e, hb⟩ := QdA I h1 g1
    subst e
    exact .cons hb (QdB I ht gt)
theorem QdC {k : NK} {v : V} {u : Value} (I : Inv X pins σ H s) (h : Rep X.K ρ H v (stD k)) (g : RelV v u) : ∃ b, v = .ref b ∧ u = .ref b ∧ (nkd X).is s.heap k b := by
 cases h with
 | @tup b vs ds h q =>
  have e : u = Value.ref b := g
  subst e
  obtain ⟨its, rv, ⟨o, h1, h2, n, h3⟩, _⟩ := I.tuple h
  exact ⟨b, rfl, rfl, o, its.toArray, n, h1, h2, h3, by simpa using QdB I q rv⟩
theorem QdD {es : List (NK × Addr × V)} {kvs : List (D × D)} (I : Inv X pins σ H s) (e : H a = some (nstO a es)) (r : NR X.K ρ H es kvs) :
  es.length ≤ sizeLine ∧ (a == sysModules) = false ∧ ∃ xs, NX es xs ∧ s.heap.DictOfH (nkd X) a xs := by
 obtain ⟨⟨z, y, xs, rx, o, es', ep, h1, h2, h3, h4, h5⟩, w1, w2⟩ := (show ObjOk X.prog X.w H s.heap a (nstO a es) from I.hok a _ e)
 refine ⟨z, y, xs, rx, o, es', ep, h1, h2, h3, h4, ?_, h5⟩
 clear h1 h2 h3 h4 h5 e z y w1 w2
 induction rx generalizing kvs with
 | nil => intro x hx; exact nomatch hx
 | @cons p q ps qs h t ih =>
  cases r with
  | cons g gt =>
   intro x hx
   rcases List.mem_cons.mp hx with e | hx
   ·subst e
    obtain ⟨b, e1, _, hb⟩ := QdC I (by rw [g.1]; exact g.2.1) (show RelV (.ref p.2.1) (.ref p.2.1) from rfl)
    cases e1
    rw [← h.1, ← h.2.1]
    exact hb
   ·exact ih gt x hx
theorem QdE {H' : Hp} {h' : Heap} {P : Program} {w : World} {es : List (NK × Addr × V)} {xs : List (NK × Addr × Value)} (z : es.length ≤ sizeLine) (y : (a == sysModules) = false) (r : NX es xs) (dd : h'.DictOfH (nestKind (intKind P w)) a xs) :
  ObjOk P w H' h' a (nstO a es) := by
 obtain ⟨o, es', ep, h1, h2, h3, h4, _, h5⟩ := dd
 refine ⟨⟨z, y, xs, r, o, es', ep, h1, h2, h3, h4, h5⟩, ⟨o, h1⟩, ?_⟩
 rintro g1 g2 ⟨z, y, xs, r, o, es', ep, h1, h2⟩ k
 exact ⟨z, y, xs, r, o, es', ep, k o h1, h2⟩
noncomputable def valN (es : List (NK × Addr × V)) (k : NK) : Option V := (es.find? fun p => decide (p.1 = k)).map (·.2.2)
noncomputable def putN (es : List (NK × Addr × V)) (k : NK) (b : Addr) (v : V) : List (NK × Addr × V) := if (es.any fun p => decide (p.1 = k)) = true then es.map (fun p => if p.1 = k then (p.1, p.2.1, v) else p) else es ++ [(k, b, v)]
theorem NR.val {es : List (NK × Addr × V)} {kvs : List (D × D)} (r : NR K ρ H es kvs) (k : NK) : RO K ρ H (valN es k) (lkK kvs (stD k)) := by
 induction r with
 | nil => exact True.intro
 | @cons p q ps qs h t ih =>
  obtain ⟨h1, _, h2⟩ := h
  unfold lkK valN
  rw [List.find?_cons, List.find?_cons, ← h1, Qdr]
  by_cases e : p.1 = k
  ·rw [decide_eq_true e]; exact h2
  ·rw [decide_eq_false e]; exact ih
theorem NX.val {es : List (NK × Addr × V)} {xs : List (NK × Addr × Value)} (r : NX es xs) (k : NK) : RelO (valN es k) ((atKey xs k).map (·.2)) := by
 induction r with
 | nil => exact True.intro
 | @cons p q ps qs h t ih =>
  obtain ⟨h1, _, h2⟩ := h
  unfold atKey valN
  rw [List.find?_cons, List.find?_cons, ← h1]
  by_cases e : p.1 = k
  ·rw [decide_eq_true e]; exact h2
  ·rw [decide_eq_false e]; exact ih
theorem NX.put {es : List (NK × Addr × V)} {xs : List (NK × Addr × Value)} (r : NX es xs) (k : NK) (b : Addr) {v : V} {u : Value} (rv : RelV v u) : NX (putN es k b v) (storedH xs k b u) := by
 have e : (es.any fun p => decide (p.1 = k)) = (atKey xs k).isSome := by
  clear rv
  induction r with
  | nil => rfl
  | @cons p q ps qs h t ih =>
   rw [List.any_cons, ih]
   unfold atKey
   rw [List.find?_cons, ← h.1]
   by_cases e : p.1 = k
   ·rw [decide_eq_true e]; rfl
   ·rw [decide_eq_false e]; rfl
 unfold putN storedH
 rw [e]
 by_cases q : (atKey xs k).isSome = true
 ·rw [if_pos q, if_pos q]
  clear q e
  induction r with
  | nil => exact .nil
  | @cons p q ps qs h t ih =>
   rw [List.map_cons, List.map_cons]
   refine .cons ?_ ih
   unfold putAt
   by_cases e : p.1 = k
   ·rw [if_pos e, if_pos (h.1.symm.trans e)]; exact ⟨h.1, h.2.1, rv⟩
   ·rw [if_neg e, if_neg (fun z => e (h.1.trans z))]; exact h
 ·rw [if_neg q, if_neg q]; exact Paired.snoc r ⟨rfl, rfl, rv⟩
theorem NR.put {es : List (NK × Addr × V)} {kvs : List (D × D)} (r : NR K ρ H es kvs) (k : NK) (b : Addr) {v : V} {d : D} (rk : Rep K ρ H (.ref b) (stD k)) (rv : Rep K ρ H v d) : NR K ρ H (putN es k b v) (ptK kvs (stD k) d) := by
 have e : (es.any fun p => decide (p.1 = k)) = kvs.any fun p => eqK p.1 (stD k) := by
  clear rk rv
  induction r with
  | nil => rfl
  | @cons p q ps qs h t ih => rw [List.any_cons, List.any_cons, ih, ← h.1, Qdr]
 unfold putN ptK
 rw [e]
 clear e
 by_cases e : (kvs.any fun p => eqK p.1 (stD k)) = true
 ·rw [if_pos e, if_pos e]
  clear e
  induction r with
  | nil => exact .nil
  | @cons p q ps qs h t ih =>
   rw [List.map_cons, List.map_cons]
   refine .cons ?_ ih
   by_cases e : p.1 = k
   ·have z : eqK q.1 (stD k) = true := by rw [← h.1, Qdr]; exact decide_eq_true e
    rw [if_pos e, if_pos z]; exact ⟨h.1, h.2.1, rv⟩
   ·have z : ¬ eqK q.1 (stD k) = true := by rw [← h.1, Qdr, decide_eq_false e]; exact Bool.false_ne_true
    rw [if_neg e, if_neg z]; exact h
 ·rw [if_neg e, if_neg e]
  exact Paired.snoc r ⟨rfl, rk, rv⟩
theorem NR.up {ρ1 : List Addr} {H1 : Hp} (x : Up ρ H ρ1 H1) {es : List (NK × Addr × V)} {kvs : List (D × D)} (r : NR K ρ H es kvs) : NR K ρ1 H1 es kvs := Paired.mapS r fun _ _ z => ⟨z.1, z.2.1.up x, z.2.2.up x⟩
theorem NR.length {es : List (NK × Addr × V)} {kvs : List (D × D)} (r : NR K ρ H es kvs) : es.length = kvs.length := Paired.length r
theorem QdF (es : List (NK × Addr × V)) (k : NK) (b : Addr) (v : V) : (putN es k b v).length ≤ es.length + 1 := by
 unfold putN
 split
 ·rw [List.length_map]; ac_nf
 ·rw [List.length_append, List.length_cons, List.length_nil]; ac_nf
theorem QdG {n : Nat} {p : Bool × List (D × D)} {s' : Sto} (h : getDc n st = .ok p s') : s' = st ∧ st[n]? = some (.dct p.1 p.2) := by
 unfold getDc at h
 cases e : st[n]? with
 | none => rw [e] at h; cases h
 | some o =>
  rw [e] at h
  cases o with
  | lst ds => cases h
  | dct b kvs => cases h; exact ⟨rfl, rfl⟩
theorem Post.getDc {n : Nat} {R : Bool × List (D × D) → Sto → List Addr → Hp → Prop} (h : Post K ρ H (MM.getDc n st) R) (s : SR K ρ H st) : ∃ b kvs, st[n]? = some (.dct b kvs) ∧ R (b, kvs) st ρ H := by
 cases e : MM.getDc n st with
 | ok xs s' =>
  obtain ⟨rfl, q⟩ := QdG e
  rw [e] at h
  exact ⟨xs.1, xs.2, q, h ρ H Ex.refl s⟩
 | exc _ _ => rw [e] at h; exact h.elim
 | bad => rw [e] at h; exact h.elim
theorem QdH {b : Bool} {kvs : List (D × D)} {k d : D} {y : V} {u : Value} {Q : Value → Shared → Prop} {E : Value → Shared → Prop} {A : Around} (hu : A.units + 2 < cLine) (I : Inv X pins σ H s) (g : ObR X.K ρ H a (.dct b kvs)) (rk : Rep X.K ρ H y k) (hk : kOk b k = true) (hl : lkK kvs k = some d) (ry : RelV y u)
  (h : ∀ v w' s', Inv X pins σ H s' → Rep X.K ρ H v d → RelV v w' → Q w' s') : wpAny (model X.prog X.w) A (getItem (.ref a) u) Q E s := by
 cases b with
 | false =>
  obtain ⟨es, e, r⟩ := g
  obtain ⟨k, rfl⟩ := Qdx hk
  cases Qdy rk
  have q := KR.val r k
  rw [hl] at q
  obtain ⟨v, e1, rv⟩ := q.some_of
  exact Qc2 (by ac_nf) I (by have := DGet.k (k := k) e; rw [e1] at this; exact this) ry fun w' s' I' rw' => h v w' s' I' rv rw'
 | true =>
  obtain ⟨es, e, r⟩ := g
  obtain ⟨k, rfl⟩ := Qdw hk
  have q := NR.val r k
  rw [hl] at q
  obtain ⟨v, e1, rv⟩ := q.some_of
  obtain ⟨_, hd, xs, rx, dd⟩ := QdD I e r
  obtain ⟨c, e2, e3, hc⟩ := QdC I rk ry
  subst e3
  obtain ⟨w', hw, rw'⟩ := RelO.some_of (v := v) (o := (atKey xs k).map (·.2)) (by rw [← e1]; exact NX.val rx k)
  obtain ⟨p, hp, hp2⟩ := Option.map_eq_some_iff.mp hw
  refine wpAny_getItem_heap (knd := nkd X) (show A.in1.units + 1 < cLine from hu) hc dd hp ?_
  rw [hp2]
  exact h v w' _ (I.tok _) rv rw'
theorem QdI {b : Bool} {kvs : List (D × D)} {k : D} {y : V} {u : Value} {Q : Value → Shared → Prop} {E : Value → Shared → Prop} {A : Around} (hu : A.units + 2 < cLine) (I : Inv X pins σ H s) (g : ObR X.K ρ H a (.dct b kvs)) (rk : Rep X.K ρ H y k) (hk : kOk b k = true) (ry : RelV y u)
  (h : ∀ s', Inv X pins σ H s' → Q (.bool (!(lkK kvs k).isSome)) s') : wpAny (model X.prog X.w) A (compareOp .NotIn u (.ref a)) Q E s := by
 cases b with
 | false =>
  obtain ⟨es, e, r⟩ := g
  obtain ⟨k, rfl⟩ := Qdx hk
  cases Qdy rk
  rw [← (KR.val r k).isSome_eq] at h
  exact Qc3 (by ac_nf) I (DGet.k (k := k) e) ry h
 | true =>
  obtain ⟨es, e, r⟩ := g
  obtain ⟨k, rfl⟩ := Qdw hk
  rw [← (NR.val r k).isSome_eq] at h
  obtain ⟨_, hd, xs, rx, dd⟩ := QdD I e r
  obtain ⟨c, e2, e3, hc⟩ := QdC I rk ry
  subst e3
  refine wpAny_notIn_heap (knd := nkd X) (show A.in1.units + 1 < cLine from hu) hc hd dd ?_
  have q := (NX.val rx k).isSome_eq
  rw [Option.isSome_map] at q
  rw [← q]
  exact h _ (I.tok _)
theorem QdJ {n : Nat} {b : Bool} {kvs : List (D × D)} {k d : D} {y v : V} {u r' : Value} {Q : Unit → Shared → Prop} {E : Value → Shared → Prop} {A : Around} (hu : A.units + 2 < cLine) (I : Inv X pins σ H s) (sr : SR X.K ρ H st) (ha : ρ[n]? = some a) (hn : st[n]? = some (.dct b kvs))
  (rk : Rep X.K ρ H y k) (hk : kOk b k = true) (hl : kvs.length < sizeLine) (rv : Rep X.K ρ H v d) (ry : RelV y u) (rr : RelV v r')
  (h : ∀ H' s', Inv X pins σ H' s' → SR X.K ρ H' (st.set n (.dct b (ptK kvs k d))) → Ex ρ H ρ H' → Q () s') : wpAny (model X.prog X.w) A (setItem (.ref a) u r') Q E s := by
 have hlt := (List.getElem?_eq_some_iff.mp hn).1
 have g := sr.ob n a _ ha hn
 cases b with
 | false =>
  obtain ⟨es, e, r⟩ := g
  obtain ⟨k, rfl⟩ := Qdx hk
  cases Qdy rk
  have w := sr.putO (o' := .dct false (ptK kvs (keyD k) d)) (u' := .dK (L2.putK es k v)) hlt ha e (by show (1 : Nat) ≠ 3; decide) rfl ⟨_, Qai, (KR.put r k rv).up ?_⟩
  ·exact Qc6 (by ac_nf) I (DPut.k (k := k) e (by rw [KR.length r]; exact hl)) ry rr fun s' I' => h _ s' I' w.1 w.2
  ·refine ⟨⟨[], by simp⟩, fun c o no q => ?_, fun c o q => ?_⟩
   ·rw [Qaj fun z => by subst z; rw [e] at q; cases q; exact nomatch no]; exact q
   ·by_cases z : c = a
    ·subst z; rw [e] at q; cases q; exact ⟨_, Qai, rfl⟩
    ·exact ⟨o, by rw [Qaj z]; exact q, rfl⟩
 | true =>
  obtain ⟨es, e, r⟩ := g
  obtain ⟨k, rfl⟩ := Qdw hk
  obtain ⟨_, hd, xs, rx, dd⟩ := QdD I e r
  obtain ⟨c, e2, e3, hc⟩ := QdC I rk ry
  subst e2 e3
  have w := sr.putO (o' := .dct true (ptK kvs (stD k) d)) (u' := nstO a (putN es k c v)) hlt ha e (by show (2 : Nat) ≠ 3; decide) rfl ⟨_, Qai, (NR.put r k c rk rv).up ?_⟩
  ·have hz : xs.length ≤ sizeLine := by
     rw [← Paired.length rx, NR.length r]; ac_nf
   refine wpAny_setItem_heap (knd := nkd X) (hsz := hz) (show A.in1.units + 1 < cLine from hu) hc dd fun h' dd' hs => h _ _ ?_ w.1 w.2
   have he : ∃ q, h'.get? a = some q := let ⟨q, _, _, hq, _⟩ := dd'; ⟨q, hq⟩
   refine Qc4 I (by rw [e]; exact True.intro) hs he (QdE ?_ hd (NX.put rx k c rr) dd')
   have := QdF es k c v
   rw [NR.length r] at this
   ac_nf
  ·refine ⟨⟨[], by simp⟩, fun c o no q => ?_, fun c o q => ?_⟩
   ·rw [Qaj fun z => by subst z; rw [e] at q; cases q; exact nomatch no]; exact q
   ·by_cases z : c = a
    ·subst z; rw [e] at q; cases q; exact ⟨_, Qai, rfl⟩
    ·exact ⟨o, by rw [Qaj z]; exact q, rfl⟩
end
end MM
namespace MM
open PySem PySem.Spec PyProof.Rows L2
noncomputable abbrev NoE : Value → Shared → Prop := fun _ _ => False
noncomputable def tests (ifs : List Expr) (env : Env) : Sem Bool := forIn ifs true fun c r => if r = true then do let ok ← isTrue c env (eval c env); pure (ForInStep.yield ok) else pure (ForInStep.yield r)
section
variable {prog : Program} {w : World} {A : Around} {R : Result → Shared → Prop} {s : Shared}
theorem QdK {elt target iter : Expr} {ifs : List Expr} {scope : Scope} {pos : Pos} {it acc : Value} {env : Env} (I : Nat → Shared → Prop)
  (turn : ∀ n s, I n s → wpAny (model prog w) A (pyNext it) (fun r s₁ => match r with
   | none => R (.ok .next) s₁
   | some v => wpAny (model prog w) A (letOwnedTupleGo target it v) (fun _ s₁' => wpAny (model prog w) A (assign target env v) (fun _ s₂ =>
     wpAny (model prog w) A (tests ifs env) (fun ok s₃ =>
      if ok = true then wpAny (model prog w) A (eval elt env) (fun x s₄ =>
       wpAny (model prog w) A (call (.builtin "list.append") [acc, x]) (fun _ s₅ => ∃ m, m < n ∧ I m s₅) NoE s₄) NoE s₃
      else ∃ m, m < n ∧ I m s₃) NoE s₂) NoE s₁') NoE s₁) NoE s)
  (n : Nat) (h : I n s) : codeAny (model prog w) A (.compLoop (.ListComp elt [⟨target, iter, ifs, 0⟩] scope pos) 0 it acc env) R s := by
 refine codeAny_loop rfl I (fun n s hI => ?_) n h
 show wpAny _ A ((compTurn (.ListComp elt [⟨target, iter, ifs, 0⟩] scope pos) 0 it acc env).onRaise (fun x => do noteFrame x env; theTreesLotGoes x)) _ _ s
 refine wpAny_noted ?_
 rw [compTurn_list]
 refine wpAny_bind (wpAny_standAt (wpAny_bind (wpAny_mono (turn n s hI) (fun r s₁ h₁ => ?_) fun _ _ h' => h'.elim)))
 cases r with
 | none => exact wpAny_pure h₁
 | some v =>
  refine wpAny_bind (wpAny_mono h₁ (fun _ s₁' h₁' => ?_) fun _ _ h' => h'.elim)
  refine wpAny_bind (wpAny_mono h₁' (fun _ s₂ h₂ => wpAny_bind (wpAny_mono h₂ (fun ok s₃ h₃ => ?_) fun _ _ h' => h'.elim)) fun _ _ h' => h'.elim)
  cases ok with
  | false => exact wpAny_pure ⟨rfl, h₃⟩
  | true =>
   exact wpAny_bind (wpAny_bind (wpAny_mono h₃ (fun x s₄ h₄ => wpAny_bind (wpAny_mono h₄ (fun _ s₅ h₅ => wpAny_pure (wpAny_pure ⟨rfl, h₅⟩)) fun _ _ h' => h'.elim)) fun _ _ h' => h'.elim))
end
noncomputable def clOf : List (Str × NameKind) → List (Str × Addr) → List (Str × Addr) → List (Str × Addr)
 | [], _, acc => acc
 | (n, k) :: r, cells, acc => clOf r cells (if k == .free then (match cells.lookup n with | some c => (n, c) :: acc | none => acc) else acc)
theorem QdL {env : Env} : ∀ (names : List (Str × NameKind)) (acc : List (Str × Addr)), (∀ x, (x, NameKind.free) ∈ names → ∃ c, env.cells.lookup x = some c) →
  (forIn names acc fun (x : Str × NameKind) r => if (x.2 == NameKind.free) = true then (do let a ← cellOf env x.1; pure (ForInStep.yield ((x.1, a) :: r)) : Sem _) else pure (ForInStep.yield r)) = (pure (clOf names env.cells acc) : Sem _)
 | [], acc, _ => rfl
 | (n, k) :: r, acc, h => by
  rw [List.forIn_cons]
  by_cases hk : (k == NameKind.free) = true
  ·have e : k = .free := by simpa using hk
   subst e
   obtain ⟨c, hc⟩ := h n List.mem_cons_self
   have q : cellOf env n = pure c := by unfold cellOf; rw [hc]
   simp only [beq_self_eq_true, if_true, q]
   unfold clOf
   simp only [beq_self_eq_true, if_true, hc]
   exact QdL r ((n, c) :: acc) fun x hx => h x (List.mem_cons_of_mem _ hx)
  ·simp only [hk, if_false]
   unfold clOf
   simp only [hk, if_false]
   exact QdL r acc fun x hx => h x (List.mem_cons_of_mem _ hx)
theorem QdM {scope : Scope} {env : Env} (h : ∀ x, (x, NameKind.free) ∈ scope.names → ∃ c, env.cells.lookup x = some c) : closureFor scope env = pure (clOf scope.names env.cells []) := by
 have q := QdL (env := env) scope.names [] h
 simp only [closureFor]
 exact congrArg (fun m => m >>= fun cs => pure cs) q
theorem QdN {α : Type} {x y : Str} {v : α} {r : List (Str × α)} (h : x ≠ y) : List.lookup x ((y, v) :: r) = r.lookup x := by
 rw [List.lookup_cons]
 have : (x == y) = false := beq_eq_false_iff_ne.mpr h
 rw [this]
theorem QdO {α : Type} {x : Str} {v : α} {r : List (Str × α)} : List.lookup x ((x, v) :: r) = some v := by
 rw [List.lookup_cons, beq_self_eq_true]
theorem clOf_of {cells : List (Str × Addr)} {x : Str} {c : Addr} : ∀ (names : List (Str × NameKind)) (acc : List (Str × Addr)), (clOf names cells acc).lookup x = some c → cells.lookup x = some c ∨ acc.lookup x = some c
 | [], acc, h => .inr h
 | (n, k) :: r, acc, h => by
  unfold clOf at h
  rcases clOf_of r _ h with q | q
  ·exact .inl q
  ·split at q
   ·split at q
    ·rename_i c' hc
     by_cases hx : x = n
     ·subst hx
      rw [QdO] at q
      cases q
      exact .inl hc
     ·rw [QdN hx] at q; exact .inr q
    ·exact .inr q
   ·exact .inr q
theorem QdP {cells : List (Str × Addr)} {x : Str} {c : Addr} (hc : cells.lookup x = some c) : ∀ (names : List (Str × NameKind)) (acc : List (Str × Addr)), ((x, NameKind.free) ∈ names ∨ acc.lookup x = some c) → (∀ d, acc.lookup x = some d → d = c) → (clOf names cells acc).lookup x = some c
 | [], acc, h, _ => by
  rcases h with h | h
  ·cases h
  ·exact h
 | (n, k) :: r, acc, h, ha => by
  unfold clOf
  by_cases hx : x = n
  ·subst hx
   by_cases hk : (k == NameKind.free) = true
   ·rw [if_pos hk, hc]
    exact QdP hc r _ (.inr QdO) fun d hd => by rw [QdO] at hd; cases hd; rfl
   ·rw [if_neg hk]
    refine QdP hc r _ ?_ ha
    rcases h with h | h
    ·rcases List.mem_cons.mp h with e | e
     ·cases e; exact absurd rfl hk
     ·exact .inl e
    ·exact .inr h
  ·have step : ∀ acc', acc'.lookup x = acc.lookup x → (clOf r cells acc').lookup x = some c := fun acc' e => by
     refine QdP hc r acc' ?_ (by rw [e]; exact ha)
     rcases h with h | h
     ·rcases List.mem_cons.mp h with z | z
      ·cases z; exact absurd rfl hx
      ·exact .inl z
     ·exact .inr (by rw [e]; exact h)
   refine step _ ?_
   split
   ·split
    ·exact QdN hx
    ·rfl
   ·rfl
theorem cellsFrom_of {x : Str} {c : Addr} : ∀ (names : List (Str × NameKind)) (n : Nat) (acc : List (Str × Addr)), (cellsFrom n names acc).lookup x = some c → n ≤ c ∨ acc.lookup x = some c
 | [], _, _, h => .inr h
 | (y, k) :: r, n, acc, h => by
  unfold cellsFrom at h
  split at h
  ·rcases cellsFrom_of r (n + 1) _ h with q | q
   ·exact .inl (by ac_nf)
   ·by_cases hx : x = y
    ·subst hx; rw [QdO] at q; cases q; exact .inl (Nat.le_refl _)
    ·rw [QdN hx] at q; exact .inr q
  ·exact cellsFrom_of r n acc h
theorem QdQ : ∀ (names : List (Str × NameKind)) (n : Nat) (acc : List (Str × Addr)), (∀ x y c, acc.lookup x = some c → acc.lookup y = some c → x = y) → (∀ x c, acc.lookup x = some c → c < n) →
  ∀ x y c, (cellsFrom n names acc).lookup x = some c → (cellsFrom n names acc).lookup y = some c → x = y
 | [], _, _, hi, _ => hi
 | (z, k) :: r, n, acc, hi, hb => by
  unfold cellsFrom
  split
  ·refine QdQ r (n + 1) _ (fun x y c h1 h2 => ?_) (fun x c h => ?_)
   ·by_cases hx : x = z
    ·subst hx
     rw [QdO] at h1; cases h1
     by_cases hy : y = x
     ·exact hy.symm
     ·rw [QdN hy] at h2
      exact absurd (hb y _ h2) (Nat.lt_irrefl _)
    ·rw [QdN hx] at h1
     by_cases hy : y = z
     ·subst hy
      rw [QdO] at h2; cases h2
      exact absurd (hb x _ h1) (Nat.lt_irrefl _)
     ·rw [QdN hy] at h2; exact hi x y c h1 h2
   ·by_cases hx : x = z
    ·subst hx; rw [QdO] at h; cases h; exact Nat.lt_succ_self _
    ·rw [QdN hx] at h; exact Nat.lt_succ_of_lt (hb x c h)
  ·exact QdQ r n acc hi hb
theorem cellsFrom_cell {x : Str} {c : Addr} : ∀ (names : List (Str × NameKind)) (h : Heap) (acc : List (Str × Addr)), (cellsFrom h.objs.size names acc).lookup x = some c → acc.lookup x = some c ∨ ((pushCells h names).IsCell c none ∧ h.objs.size ≤ c)
 | [], _, _, q => .inl q
 | (y, k) :: r, h, acc, q => by
  unfold cellsFrom at q
  unfold pushCells
  split at q
  ·rename_i hk
   rw [if_pos hk]
   rw [← Heap.size_push h { cls := .type "cell", data := .cell none }] at q
   rcases cellsFrom_cell r _ _ q with z | z
   ·by_cases hx : x = y
    ·subst hx; rw [QdO] at z; cases z
     refine .inr ⟨?_, Nat.le_refl _⟩
     refine ⟨{ cls := .type "cell", data := .cell none }, pushCells_keeps r _ _ _ (Heap.get?_push_size _ rfl), rfl⟩
    ·rw [QdN hx] at z; exact .inl z
   ·refine .inr ⟨z.1, ?_⟩
    have := z.2
    rw [Heap.size_push] at this
    ac_nf
  ·rename_i hk
   rw [if_neg hk]
   exact cellsFrom_cell r h acc q
theorem QdR {x : Str} : ∀ (names : List (Str × NameKind)) (n : Nat) (acc : List (Str × Addr)), (x, NameKind.cell) ∉ names → (cellsFrom n names acc).lookup x = acc.lookup x
 | [], _, _, _ => rfl
 | (y, k) :: r, n, acc, h => by
  unfold cellsFrom
  split
  ·rename_i hk
   have e : k = .cell := by simpa using hk
   subst e
   have hx : x ≠ y := fun z => h (by rw [z]; exact List.mem_cons_self)
   rw [QdR r (n + 1) _ fun z => h (List.mem_cons_of_mem _ z), QdN hx]
  ·exact QdR r n acc fun z => h (List.mem_cons_of_mem _ z)
theorem QdS {α β : Type} (f : Str → α → β) (x : Str) : ∀ (l : List (Str × α)), (l.map fun p => (p.1, f p.1 p.2)).lookup x = (l.lookup x).map (f x)
 | [] => rfl
 | (y, v) :: r => by
  by_cases hx : x = y
  ·subst hx
   rw [List.map_cons, QdO, QdO]; rfl
  ·rw [List.map_cons, QdN hx, QdN hx]; exact QdS f x r
theorem QdT (scope : Scope) (env : Env) (x : Str) :
  (relabel scope env).names.lookup x = (scope.names.lookup x).map fun k => if (k == NameKind.free && env.scope.kind == .function && env.kindOf x == some .cell) = true then .cell else k := by
 have e : (relabel scope env).names = scope.names.map fun p => (p.1, (fun (n : Str) k => if (k == NameKind.free && env.scope.kind == .function && env.kindOf n == some .cell) = true then NameKind.cell else k) p.1 p.2) := by
  show scope.names.map _ = _
  congr 1
  funext p
  obtain ⟨n, k⟩ := p
  dsimp only
  split <;> rfl
 rw [e]
 exact QdS (fun (n : Str) k => if (k == NameKind.free && env.scope.kind == .function && env.kindOf n == some .cell) = true then NameKind.cell else k) x scope.names
theorem QdU {M : Model} {A : Around} {E : Value → Shared → Prop} {s : Shared} {scope : Scope} {globals : Addr} {cl : List (Str × Addr)} {qual : Str} {env : Env} {Q : Env → Shared → Prop}
  (h : Q { scope := scope, locals := s.heap.objs.size, globals := globals, cells := cellsFrom (s.heap.objs.size + 1) scope.names cl, qual := qual, func := none, code := env.code, frame := env.frame, builtins := env.builtins }
   { s with heap := pushCells (s.heap.push { cls := .type "dict", data := .dict #[] }) scope.names }) : wpAny M A (newFunctionEnv scope globals cl [] qual none .none (some env)) Q E s := by
 simp only [newFunctionEnv, Option.isSome_some, if_true]
 refine wpAny_bind (wpAny_alloc ?_)
 refine wpAny_bind (wpAny_layCells _ (fun name kind cells => by cases hkc : kind == NameKind.cell <;> simp [hkc]) _ _ _ _ ?_)
 rw [show ({ s with heap := s.heap.push { cls := .type "dict", data := .dict #[] } } : Shared).heap.objs.size = s.heap.objs.size + 1 from Heap.size_push ..]
 exact wpAny_bind (wpAny_pure (wpAny_pure h))
noncomputable def cxC (X : Cx) (N : List Str) (scope : Scope) (fp : List Addr) (s : Shared) (H : Hp) : Cx where
 prog := X.prog
 w := X.w
 K := X.K
 mg := X.mg
 base := X.base
 A := X.A
 N := N
 s₀ := s
 H₀ := H
 env := compEnvC scope (cellsFrom (s.heap.objs.size + 1) scope.names (clOf scope.names X.env.cells [])) s.heap.objs.size X.env
 outer := X.stack
 stack := X.stack
 ex := fp
 fn := fun x => decide (scope.names.lookup x = some .local ∨ scope.names.lookup x = some .cell)
 calm := X.calm
 pn := []
 xe := NoE
structure CompScope (X : Cx) (scope : Scope) : Prop where
 kind : scope.kind = .function
 names : ∀ x ∈ scope.names, x.2 = .local → scope.names.lookup x.1 = some .local
 free : ∀ x, (x, NameKind.free) ∈ scope.names → X.env.kindOf x = some .cell ∨ X.env.kindOf x = some .free
 once : ∀ x, (x, NameKind.free) ∈ scope.names → (x, NameKind.cell) ∉ scope.names
 own : ∀ x, (x, NameKind.free) ∈ scope.names → scope.names.lookup x ≠ some .local
noncomputable def capV (n : Nat) (ix : List Nat) (σ : St) : St := List.replicate n none ++ ix.map fun i => (σ[i]?).join
structure CompNames (X : Cx) (scope : Scope) (N : List Str) (n : Nat) (ix : List Nat) : Prop where
 len : N.length = n + ix.length
 cap : ∀ (j i : Nat) (x : Str), ix[j]? = some i → N[n + j]? = some x → X.N[i]? = some x ∧ scope.names.lookup x = some .free
theorem clOf_mem {cells : List (Str × Addr)} {x : Str} {c : Addr} : ∀ (names : List (Str × NameKind)) (acc : List (Str × Addr)), (clOf names cells acc).lookup x = some c → (x, NameKind.free) ∈ names ∨ acc.lookup x = some c
 | [], acc, h => .inr h
 | (n, k) :: r, acc, h => by
  unfold clOf at h
  rcases clOf_mem r _ h with q | q
  ·exact .inl (List.mem_cons_of_mem _ q)
  ·split at q
   ·rename_i hk
    have e : k = .free := by simpa using hk
    subst e
    split at q
    ·by_cases hx : x = n
     ·subst hx; exact .inl List.mem_cons_self
     ·rw [QdN hx] at q; exact .inr q
    ·exact .inr q
   ·exact .inr q
theorem QdV {X : Cx} {scope : Scope} {cells : List (Str × Addr)} {x : Str} {c : Addr} (h : (clOf scope.names cells []).lookup x = some c) (hf : scope.names.lookup x = some .local ∨ scope.names.lookup x = some .cell) (S : CompScope X scope) : False := by
 rcases clOf_mem _ _ h with q | q
 ·rcases hf with z | z
  ·exact S.own x q z
  ·exact S.once x q (PySem.mem_of_lookup z)
 ·cases q
section
variable {X : Cx} {pins : List (Addr × Obj)} {σ : St} {H : Hp} {s : Shared} {scope : Scope} {N : List Str} {fp : List Addr}
theorem QdW (I : Inv X pins σ H s) {x : Str} {c : Addr} (h : (clOf scope.names X.env.cells []).lookup x = some c) : X.env.cells.lookup x = some c ∧ c < s.heap.objs.size ∧ (∃ v, s.heap.IsCell c v) ∧ H c = none := by
 rcases clOf_of _ _ h with q | q
 ·obtain ⟨v, z⟩ := I.cell x c q
  exact ⟨q, z.lt, ⟨v, z⟩, I.freeC x c q⟩
 ·cases q
theorem QdX (I : Inv X pins σ H s) (S : CompScope X scope) (hfp : ∀ b ∈ fp, FpOk X pins H b) (hlt : ∀ b ∈ fp, b < s.heap.objs.size) : (cxC X N scope fp s H).Ok := by
 have inj : ∀ x y c, (cellsFrom (s.heap.objs.size + 1) scope.names (clOf scope.names X.env.cells [])).lookup x = some c → (cellsFrom (s.heap.objs.size + 1) scope.names (clOf scope.names X.env.cells [])).lookup y = some c → x = y :=
  QdQ scope.names _ _ (fun x y c h1 h2 => I.ok.inj x y c (QdW I h1).1 (QdW I h2).1) fun x c h => Nat.lt_succ_of_lt (QdW I h).2.1
 refine ⟨I.ok.mod, S.kind, I.ok.glob, I.ok.blt, Nat.le_refl _, inj, fun x hx => ?_, fun x c hf hc => ?_, I.ok.hd, I.ok.frames, .inl rfl, fun b hb => ?_, I.bs, Nat.le_trans I.ok.bsz I.sz, fun b o e hb => ?_, fun b hb z => ?_, I.stack, I.stkFree⟩
 ·have hx' : (relabel scope X.env).names.lookup x = some .cell ∨ (relabel scope X.env).names.lookup x = some .free := hx
  rw [QdT] at hx'
  cases e : scope.names.lookup x with
  | none => rw [e] at hx'; rcases hx' with z | z <;> cases z
  | some k =>
   refine Option.isSome_iff_exists.mp (PySem.W.cellsFrom_some scope.names _ _ ?_)
   cases k with
   | cell => exact .inl e
   | free =>
    have hm := PySem.mem_of_lookup e
    obtain ⟨c, hc⟩ := I.ok.has x (S.free x hm)
    exact .inr (by rw [QdP hc scope.names [] (.inl hm) fun d hd => by cases hd]; rfl)
   | _ =>
    rw [e] at hx'
    rcases hx' with z | z <;> (simp at z)
 ·have hc' : (cellsFrom (s.heap.objs.size + 1) scope.names (clOf scope.names X.env.cells [])).lookup x = some c := hc
  rcases cellsFrom_of _ _ _ hc' with q | q
  ·exact Nat.le_of_succ_le q
  ·exfalso
   have hf' : scope.names.lookup x = some .local ∨ scope.names.lookup x = some .cell := of_decide_eq_true hf
   exact QdV q hf' S
 ·obtain ⟨f0, f1, f2, f3, f4, f5⟩ := hfp b hb
  refine ⟨Nat.ne_of_lt (hlt b hb), fun x c hc z => ?_⟩
  have hc' : (cellsFrom (s.heap.objs.size + 1) scope.names (clOf scope.names X.env.cells [])).lookup x = some c := hc
  rcases cellsFrom_of _ _ _ hc' with q | q
  ·rw [z] at q
   exact absurd (Nat.lt_of_lt_of_le (Nat.lt_succ_of_lt (hlt b hb)) q) (Nat.lt_irrefl _)
  ·exact f4 x c (QdW I q).1 z
 ·obtain ⟨f0, f1, f2, f3, f4, f5⟩ := hfp b hb
  rcases f3 with z | z
  ·exact I.ok.noex b o e z
  ·exact absurd (Nat.lt_of_lt_of_le (Nat.lt_of_lt_of_le (Heap.lt_size e) I.ok.bsz) z) (Nat.lt_irrefl _)
 ·obtain ⟨f0, f1, f2, f3, f4, f5⟩ := hfp b hb
  rcases List.mem_cons.mp (I.stkSub b z) with q | q
  ·exact f1 q
  ·exact f2 q
noncomputable abbrev heapC (h : Heap) (scope : Scope) : Heap := pushCells (h.push { cls := .type "dict", data := .dict #[] }) scope.names
theorem QdY (h : Heap) (scope : Scope) : ∀ b o, h.get? b = some o → (heapC h scope).get? b = some o := fun b o e => pushCells_keeps _ _ b o (Heap.get?_push_of_some _ e)
theorem QdZ {n : Nat} {ix : List Nat} (I : Inv X pins σ H s) (S : CompScope X scope) (T : CompNames X scope N n ix) (hfp : ∀ b ∈ fp, FpOk X pins H b) (hlt : ∀ b ∈ fp, b < s.heap.objs.size) :
  Inv (cxC X N scope fp s H) [] (capV n ix σ) H { s with heap := heapC s.heap scope } := by
 have kp := QdY s.heap scope
 have hns : (heapC s.heap scope).Ns s.heap.objs.size fun _ => none := (Heap.Ns.new s.heap (.type "dict")).keeps (pushCells_keeps _ _)
 have cells : ∀ x c, (cellsFrom (s.heap.objs.size + 1) scope.names (clOf scope.names X.env.cells [])).lookup x = some c →
   (∃ v, (heapC s.heap scope).IsCell c v) ∧ H c = none := fun x c h => by
  have h' : (cellsFrom (s.heap.push { cls := .type "dict", data := .dict #[] }).objs.size scope.names (clOf scope.names X.env.cells [])).lookup x = some c := by rw [Heap.size_push]; exact h
  rcases cellsFrom_cell _ _ _ h' with q | ⟨q, z⟩
  ·obtain ⟨_, _, ⟨v, hv⟩, hn⟩ := QdW I q
   exact ⟨⟨v, hv.keeps kp⟩, hn⟩
  ·refine ⟨⟨none, q⟩, I.hok.fresh ?_⟩
   rw [Heap.size_push] at z
   ac_nf
 refine ⟨QdX I S hfp hlt, rfl, I.bare, Un.kept kp, ⟨_, hns, fun i x v h1 h2 h3 => ?_⟩, fun x c h => (cells x c h).1, I.hok.fresh (Nat.le_refl _), fun x c h => (cells x c h).2, fun p hp => absurd (show p ∈ ([] : List (Addr × Obj)) from hp) (by simp), I.hok.kept kp, ?_⟩
 ·have h1' : N[i]? = some x := h1
  have h2' : (List.replicate n none ++ ix.map fun i => (σ[i]?).join)[i]? = some (some v) := h2
  have hi : n ≤ i := Nat.le_of_not_lt fun z => by
   rw [List.getElem?_append_left (by simpa using z), List.getElem?_replicate] at h2'
   split at h2' <;> cases h2'
  rw [List.getElem?_append_right (by simpa using hi), List.length_replicate, List.getElem?_map] at h2'
  cases e : ix[i - n]? with
  | none => rw [e] at h2'; cases h2'
  | some k =>
   rw [e] at h2'
   have hj : (σ[k]?).join = some v := Option.some.inj h2'
   have hk : σ[k]? = some (some v) := by
    cases q : σ[k]? with
    | none => rw [q] at hj; cases hj
    | some o => rw [q] at hj; exact congrArg some hj
   obtain ⟨hN, hfr⟩ := T.cap (i - n) k x e (by rw [show n + (i - n) = i by ac_nf]; exact h1')
   have hm := PySem.mem_of_lookup hfr
   have kx := S.free x hm
   obtain ⟨m, hn, hl⟩ := I.loc
   obtain ⟨u, ru, lk⟩ := hl k x v hN hk (by
    rcases kx with z | z
    ·exact .inr (.inl z)
    ·exact .inr (.inr z))
   have lk2 : ∃ c, X.env.cells.lookup x = some c ∧ s.heap.IsCell c (some u) := by
    rcases lk with ⟨z, _⟩ | ⟨_, c, hc, q⟩
    ·rcases kx with y | y <;> (rw [y] at z; cases z)
    ·exact ⟨c, hc, q⟩
   obtain ⟨c, hc, q⟩ := lk2
   refine ⟨u, ru, .inr ⟨?_, c, ?_, q.keeps kp⟩⟩
   ·show (relabel scope X.env).names.lookup x = some .cell ∨ (relabel scope X.env).names.lookup x = some .free
    rw [QdT, hfr, Option.map_some]
    by_cases hq : (NameKind.free == NameKind.free && X.env.scope.kind == .function && X.env.kindOf x == some .cell) = true
    ·rw [if_pos hq]; exact .inl rfl
    ·rw [if_neg hq]; exact .inr rfl
   ·show (cellsFrom (s.heap.objs.size + 1) scope.names (clOf scope.names X.env.cells [])).lookup x = some c
    rw [QdR _ _ _ (S.once x hm)]
    exact QdP hc scope.names [] (.inl hm) fun d hd => by cases hd
 ·show (List.replicate n none ++ ix.map fun i => (σ[i]?).join).length = N.length
  rw [List.length_append, List.length_replicate, List.length_map, T.len]
noncomputable def tComp (wi : TI) (n : Nat) (ix : List Nat) (g : TG) (tt : TT) (te : TE) : TE := fun σ H Q => wi σ H fun J H1 => ∀ l, H1 l = none → ∃ W : Nat → Nat → St → Hp → Prop, (∃ m, W 0 m (capV n ix σ) (upd H1 l (.lst []))) ∧
 ∀ i m σ' H', W i m σ' H' → (J.stop i H' ∧ Q (.ref l) H') ∨ (J.go i H' ∧ ∀ x H2, J.yld i H' x H2 → g x σ' H2 fun σ2 H3 => tt σ2 H3 fun b H4 =>
  if b = true then te σ2 H4 fun v H5 => ∃ ys, H5 l = some (.lst ys) ∧ ys.length < sizeLine ∧ ∃ m', m' < m ∧ W (i + 1) m' σ2 (upd H5 l (.lst (ys ++ [v]))) else ∃ m', m' < m ∧ W (i + 1) m' σ2 H4)
def PIfs (X : Cx) (ifs : List Expr) (tt : TT) : Prop :=
 ∀ (pins : List (Addr × Obj)) (s : Shared) (σ : St) (H : Hp) (Q : Bool → Hp → Prop), Inv X pins σ H s → tt σ H Q → wpAny (model X.prog X.w) X.A (tests ifs X.env) (TP X pins σ Q) X.xe s
theorem Qd0 : PIfs X [] (fun _ H Q => Q true H) := fun pins s σ H Q I h => wpAny_tests_nil ⟨H, I, h⟩
theorem Qd1 {c : Expr} {tt : TT} (h : PT X c tt) : PIfs X [c] tt := fun pins s σ H Q I q => wpAny_tests_one (h pins s σ H Q I q)
structure CFree (X : Cx) (pins : List (Addr × Obj)) (C : Addr) (H : Hp) (s : Shared) : Prop where
 ns : ∃ m, s.heap.Ns C m
 free : H C = none
 loc : C ≠ X.env.locals
 cell : ∀ x c, X.env.cells.lookup x = some c → c ≠ C
 sz : X.s₀.heap.objs.size ≤ C
 pin : ∀ p ∈ X.pn ++ pins, p.1 ≠ C
theorem CFree.go {C : Addr} {h' : Heap} (c : CFree X pins C H s) (I : Inv X pins σ H s) (hs : Heap.SameBut C s.heap h') : Inv X pins σ H { s with heap := h' } :=
 I.turned (t' := s.toks) (fun b o hb e => (hs.2 b hb).trans e) c.free c.loc (.inr c.sz) c.cell c.pin
theorem Qd2 {elt target iter : Expr} {ifs : List Expr} {pos : Pos} {n : Nat} {ix : List Nat} {wi : TI} {g : TG} {tt : TT} {te : TE} {use : Option (Value → Sem Unit)} {Q : Value → Shared → Prop} {QH : VK}
  (hc : X.calm = true) (S : CompScope X scope) (T : CompNames X scope N n ix) (hi : PI X target iter wi)
  (blk : ∀ (fp : List Addr) (s : Shared) (H : Hp), PG (cxC X N scope fp s H) target g ∧ PIfs (cxC X N scope fp s H) ifs tt ∧ PE (cxC X N scope fp s H) elt te)
  (hs : ∀ x, foldedSetIterable iter X.env x = pure x) (I : Inv X pins σ H s) (h : tComp wi n ix g tt te σ H QH)
  (fin : ∀ (l C : Addr) (H' : Hp) (s' : Shared), Inv X pins σ H' s' → QH (.ref l) H' → CFree X pins C H' s' → compPost (model X.prog X.w) X.A X.xe use Q (.ref l) C (.ok .next) s') :
  wpAny (model X.prog X.w) X.A (comprehension (.ListComp elt [⟨target, iter, ifs, 0⟩] scope pos) scope X.env (firstIterPos [⟨target, iter, ifs, 0⟩] pos) (newList []) false (eval iter X.env) use) Q X.xe s := by
 have hclos : closureFor scope X.env = pure (clOf scope.names X.env.cells []) := QdM fun x hx => I.ok.has x (S.free x hx)
 refine wpAny_comprehension_free rfl hs hclos S.kind S.names ?_
 refine thn (hi pins s σ H _ I h) fun v s1 h1 => thn h1 fun itv s2 h2 => ?_
 obtain ⟨it, fp, tn, J, H2, rfl, I2, TT, st2, f2, rest⟩ := h2
 refine wpAny_newObj_type (hd := by size_fits) ?_
 have hf2 : H2 s2.heap.objs.size = none := I2.hok.fresh (Nat.le_refl _)
 obtain ⟨W, ⟨m0, w0⟩, turn⟩ := rest _ hf2
 have fl : ∀ b ∈ fp, b < s2.heap.objs.size := fun b hb => by
  obtain ⟨o, e, _⟩ := TT.obj _ _ st2 b hb
  exact Heap.lt_size e
 have f3 : ∀ b ∈ fp, FpOk X pins (upd H2 s2.heap.objs.size (.lst [])) b := fun b hb => by
  obtain ⟨f0, fr⟩ := f2 b hb
  refine ⟨?_, fr⟩
  rw [Qaj (Nat.ne_of_lt (fl b hb))]
  exact f0
 have I3 : Inv X pins σ (upd H2 s2.heap.objs.size (.lst [])) { s2 with heap := s2.heap.push { cls := .type "list", dict := none, data := .seq ([] : List Value).toArray } } :=
  I2.laid (t' := s2.toks) (fun b o e => Heap.get?_push_of_some _ e) (Nat.le_refl _) ⟨Nat.zero_le _, [], 0, .nil, Heap.get?_push_size _ rfl⟩
 have tn3 : tn 0 (s2.heap.push { cls := .type "list", dict := none, data := .seq ([] : List Value).toArray }) := TT.keep _ _ _ st2 fun b hb o e => Heap.get?_push_of_some _ e
 have fl3 : ∀ b ∈ fp, b < (s2.heap.push { cls := .type "list", dict := none, data := .seq ([] : List Value).toArray }).objs.size := fun b hb => by
  rw [Heap.size_push]; exact Nat.lt_succ_of_lt (fl b hb)
 generalize s2.heap.objs.size = l at *
 generalize hs3 : ({ s2 with heap := s2.heap.push { cls := .type "list", dict := none, data := .seq ([] : List Value).toArray } } : Shared) = s3 at *
 have e3 : s2.heap.push { cls := .type "list", dict := none, data := .seq ([] : List Value).toArray } = s3.heap := by rw [← hs3]
 rw [e3] at tn3 fl3
 generalize upd H2 l (.lst []) = H3 at *
 refine QdU ?_
 have I4 := QdZ (N := N) (n := n) (ix := ix) I3 S T f3 fl3
 obtain ⟨bg, bt, be⟩ := blk fp s3 H3
 have tn4 : tn 0 (heapC s3.heap scope) := TT.keep _ _ _ tn3 fun b hb o e => QdY _ _ _ _ e
 have fr4 : ∀ b ∈ fp, H3 b = none := fun b hb => (f3 b hb).1
 show codeAny (model X.prog X.w) X.A (.compStart (.ListComp elt [⟨target, iter, ifs, 0⟩] scope pos) 0 (.ref it) (.ref l) (cxC X N scope fp s3 H3).env) (compPost (model X.prog X.w) X.A X.xe use Q (.ref l) s3.heap.objs.size) { s3 with heap := heapC s3.heap scope }
 have fpx : ∀ {σ' : St} {H' : Hp} {s' : Shared}, Inv (cxC X N scope fp s3 H3) [] σ' H' s' → (∀ b ∈ fp, H' b = none) → ∀ b ∈ fp, FpOk (cxC X N scope fp s3 H3) [] H' b := fun I' hn b hb => by
  have q := I'.ok.exf b hb
  exact ⟨hn b hb, q.1, I'.ok.exfs b hb, .inl hb, q.2, fun p hp => absurd (show p ∈ ([] : List (Addr × Obj)) from hp) (by simp)⟩
 have hc' : (cxC X N scope fp s3 H3).calm = true := hc
 have loop : codeAny (model X.prog X.w) X.A (.compLoop (.ListComp elt [⟨target, iter, ifs, 0⟩] scope pos) 0 (.ref it) (.ref l) (cxC X N scope fp s3 H3).env) (compPost (model X.prog X.w) X.A X.xe use Q (.ref l) s3.heap.objs.size) { s3 with heap := heapC s3.heap scope } := by
  refine QdK (fun k s' => ∃ i σ' H', Inv (cxC X N scope fp s3 H3) [] σ' H' s' ∧ tn i s'.heap ∧ (∀ b ∈ fp, H' b = none) ∧ W i k σ' H') ?_ m0 ⟨0, _, H3, I4, tn4, fr4, w0⟩
  rintro k s5 ⟨i, σ5, H5, I5, tn5, fr5, w5⟩
  rcases turn i k σ5 H5 w5 with ⟨stop, q⟩ | ⟨go, step⟩
  ·refine thn (TT.done (cxC X N scope fp s3 H3) rfl rfl rfl hc' i [] s5 σ5 H5 NoE I5 (fpx I5 fr5) tn5 stop) fun r s6 pq53 => ?_
   obtain ⟨hr, I6⟩ := pq53
   subst hr
   have J6 : Inv X pins σ H5 s6 := I3.call' I6.os I6.base I6.hok I6.bare fun b hb => by
    obtain ⟨g0, g1, g2, g3, g4, g5⟩ := f3 b hb
    exact ⟨g3, g1, g4, g5⟩
   obtain ⟨m, hn, _⟩ := I6.loc
   refine fin l s3.heap.objs.size H5 s6 J6 q ⟨⟨m, hn⟩, I6.free, Nat.ne_of_gt I3.lt, fun x c e => ?_, I3.sz, fun p hp => ?_⟩
   ·obtain ⟨v, z⟩ := I3.cell x c e
    exact Nat.ne_of_lt z.lt
   ·exact Nat.ne_of_lt (Heap.lt_size (I3.pin p hp).1)
  ·refine thn (TT.item (cxC X N scope fp s3 H3) rfl rfl rfl hc' i [] s5 σ5 H5 NoE I5 (fpx I5 fr5) tn5 go) fun r s6 pq54 => ?_
   obtain ⟨u, hr, h6⟩ := pq54
   subst hr
   refine thn h6 fun _ s7 pq55 => ?_
   obtain ⟨x, H7, I7, r7, y7, tn7, fr7⟩ := pq55
   have I7' := I7.pinned (fpx I7 fr7) (TT.obj _ _ tn7)
   refine thn (bg _ s7 σ5 H7 x u _ I7' r7 (step x H7 y7)) fun _ s8 pq56 => ?_
   obtain ⟨σ8, H8, I8, q8⟩ := pq56
   refine thn (bt _ s8 σ8 H8 _ I8 q8) fun ok s9 pq57 => ?_
   obtain ⟨H9, I9, q9⟩ := pq57
   have again : ∀ {s' : Shared} {H' : Hp}, Inv (cxC X N scope fp s3 H3) ([] ++ pinsAt fp s7.heap) σ8 H' s' → (∃ m', m' < k ∧ W (i + 1) m' σ8 H') →
     ∃ m, m < k ∧ ∃ i σ' H', Inv (cxC X N scope fp s3 H3) [] σ' H' s' ∧ tn i s'.heap ∧ (∀ b ∈ fp, H' b = none) ∧ W i m σ' H' := fun {s' H'} I' pq58 => by
    obtain ⟨m', hm, w'⟩ := pq58
    refine ⟨m', hm, i + 1, σ8, H', I'.unpinned, TT.keep _ _ _ tn7 fun b hb o e => (I'.pin (b, o) (List.mem_append_right _ (List.mem_append_right _ (Qa9 hb e)))).1, fun b hb => ?_, w'⟩
    obtain ⟨o, e, d⟩ := TT.obj _ _ tn7 b hb
    exact (I'.pin (b, o) (List.mem_append_right _ (List.mem_append_right _ (Qa9 hb e)))).2.1
   cases ok with
   | false => exact again I9 q9
   | true =>
    refine thn (be _ s9 σ8 H9 _ I9 q9) fun xv s10 pq59 => ?_
    obtain ⟨v, H10, I10, r10, ys, hy, hz, q10⟩ := pq59
    refine thn (QcD (X := cxC X N scope fp s3 H3) _ s10 σ8 H10 (.ref l) [v] (.ref l) [xv] (fun _ H' => H' = upd H10 l (.lst (ys ++ [v]))) I10 rfl (.cons r10 .nil) ⟨l, ys, v, rfl, rfl, hy, hz, rfl⟩) fun _ s11 pq60 => ?_
    obtain ⟨_, H11, I11, _, e⟩ := pq60
    subst e
    exact again I11 q10
 exact codeAny_compStart_list loop (TT.self _ 0 _ _ _ tn4 loop)
theorem Qd3 {elt target iter : Expr} {ifs : List Expr} {pos : Pos} {n : Nat} {ix : List Nat} {wi : TI} {g : TG} {tt : TT} {te : TE}
  (hc : X.calm = true) (S : CompScope X scope) (T : CompNames X scope N n ix) (hi : PI X target iter wi)
  (blk : ∀ (fp : List Addr) (s : Shared) (H : Hp), PG (cxC X N scope fp s H) target g ∧ PIfs (cxC X N scope fp s H) ifs tt ∧ PE (cxC X N scope fp s H) elt te)
  (hs : ∀ x, foldedSetIterable iter X.env x = pure x := by intro _; rfl) : PE X (.ListComp elt [⟨target, iter, ifs, 0⟩] scope pos) (tComp wi n ix g tt te) := by
 intro pins s σ H Q I h
 rw [eval_ListComp]
 refine Qd2 (use := none) hc S T hi blk hs I h fun l C H' s' I' q c => ?_
 obtain ⟨m, hn⟩ := c.ns
 exact ⟨m, hn, fun h' hs' => ⟨.ref l, H', c.go I' hs', rfl, q⟩⟩
theorem Qd4 {elt target iter : Expr} {ifs : List Expr} {pos pos' spos : Pos} {n i : Nat} {ix : List Nat} {wi : TI} {g : TG} {tt : TT} {te : TE} {x : Str}
  (hN : X.N.Nodup) (hi' : X.N[i]? = some x) (hx : L2.Loc X.env.scope x) (hf : X.fn x = true ∨ X.env.scope.names.lookup x = some .local)
  (hc : X.calm = true) (S : CompScope X scope) (T : CompNames X scope N n ix) (hi : PI X target iter wi)
  (blk : ∀ (fp : List Addr) (s : Shared) (H : Hp), PG (cxC X N scope fp s H) target g ∧ PIfs (cxC X N scope fp s H) ifs tt ∧ PE (cxC X N scope fp s H) elt te)
  (hsw : swapsWith (.ListComp elt [⟨target, iter, ifs, 0⟩] scope pos) (some (.Name x pos')) spos.line X.env = pure true)
  (hs : ∀ x, foldedSetIterable iter X.env x = pure x := by intro _; rfl) : PS X (.Assign [.Name x pos'] (.ListComp elt [⟨target, iter, ifs, 0⟩] scope pos) spos) (tAsg (tComp wi n ix g tt te) (gName i)) := by
 intro pins s σ H D I h
 rw [exec_Assign_Name_used _ _ _ _ hsw]
 refine wpAny_bind (wpAny_standAt (wpAny_bind ?_))
 show wpAny _ _ (comprehension (.ListComp elt [⟨target, iter, ifs, 0⟩] scope pos) scope X.env _ (newList []) false (eval iter X.env) (some (assign (.Name x pos') X.env)) >>= fun _ => pure ()) _ _ s
 refine wpAny_bind (wpAny_mono (Qd2 (use := some (assign (.Name x pos') X.env)) (Q := fun _ s' => SP X pins D .next s') hc S T hi blk hs I h fun l C H' s' I' q c => ?_) (fun _ s' hq => wpAny_pure (wpAny_pure hq)) fun _ _ e => e)
 obtain ⟨m, hn⟩ := c.ns
 refine wpAny_assign_Name (Qat I' hN hi' hx (v := .ref l) rfl (fun s2 I2 ⟨b, hb, hb2⟩ => ?_) hf)
 have hbC : b ≠ C := by
  rcases hb2 with z | z
  ·rw [z]; exact c.loc.symm
  ·exact c.cell x b z
 refine ⟨m, hn.sameBut hb hbC.symm, fun h' hs' => ⟨_, H', ?_, q⟩⟩
 exact CFree.go ⟨⟨m, hn.sameBut hb hbC.symm⟩, c.free, c.loc, c.cell, c.sz, c.pin⟩ I2 hs'
end
end MM
namespace MM
open PySem PySem.Spec PyProof.Rows L2
section
variable {X : Cx} {a b c e : Expr} {es : List Expr} {pos : Pos} {fa fb fc : CE} {ca cb : CA} {K : PySem.W.Frag} {ρ : List Addr} {H : Hp} {st : Sto}
theorem Qd5 {K : PySem.W.Frag} {g : D → D → M D} {x y : V} {H : Hp} {Q : VK} (hg : ∀ d e, (∃ i j, d = D.int i ∧ e = D.int j) ∨ g d e = bad) (h : rOf K g x y H Q) :
  ∃ (i j : Int) (ρ : List Addr) (st : Sto), x = .int i ∧ y = .int j ∧ SR K ρ H st ∧ Post K ρ H (g (.int i) (.int j) st) (fun r _ ρ' H' => ∀ v, Rep K ρ' H' v r → Q v H') := by
 obtain ⟨ρ, st, d, e, sr, rx, ry, p⟩ := h
 rcases hg d e with ⟨i, j, e1, e2⟩ | hb
 ·subst e1 e2; cases rx; cases ry; exact ⟨_, _, ρ, st, rfl, rfl, sr, p⟩
 ·rw [hb] at p; exact p.elim
theorem Qd6 : OpR X (binaryOp .Sub) (rOf X.K subD) := Qbf.of fun x y H Q h => by
 obtain ⟨i, j, ρ, st, rfl, rfl, sr, p⟩ := Qd5 (by intro d e; cases d <;> cases e <;> first | exact .inl ⟨_, _, rfl, rfl⟩ | exact .inr rfl) h
 exact ⟨_, _, rfl, rfl, p.ret sr _ (.int _)⟩
theorem Qd7 : OpR X (binaryOp .Mult) (rOf X.K mulD) := Qbg.of fun x y H Q h => by
 obtain ⟨i, j, ρ, st, rfl, rfl, sr, p⟩ := Qd5 (by intro d e; cases d <;> cases e <;> first | exact .inl ⟨_, _, rfl, rfl⟩ | exact .inr rfl) h
 exact ⟨_, _, rfl, rfl, p.chk.1, p.chk.2.ret sr _ (.int _)⟩
theorem Qd8 : OpR X (binaryOp .FloorDiv) (rOf X.K fdivD) := Qbh.of fun x y H Q h => by
 obtain ⟨i, j, ρ, st, rfl, rfl, sr, p⟩ := Qd5 (by intro d e; cases d <;> cases e <;> first | exact .inl ⟨_, _, rfl, rfl⟩ | exact .inr rfl) h
 exact ⟨_, _, rfl, rfl, p.chk.1, p.chk.2.ret sr _ (.int _)⟩
theorem Qd9 : OpR X (binaryOp .Mod) (rOf X.K modD) := Qbi.of fun x y H Q h => by
 obtain ⟨i, j, ρ, st, rfl, rfl, sr, p⟩ := Qd5 (by intro d e; cases d <;> cases e <;> first | exact .inl ⟨_, _, rfl, rfl⟩ | exact .inr rfl) h
 exact ⟨_, _, rfl, rfl, p.chk.1, p.chk.2.ret sr _ (.int _)⟩
theorem Qea : OpR X (binaryOp .Pow) (rOf X.K powD) := Qbj.of fun x y H Q h => by
 obtain ⟨i, j, ρ, st, rfl, rfl, sr, p⟩ := Qd5 (by intro d e; cases d <;> cases e <;> first | exact .inl ⟨_, _, rfl, rfl⟩ | exact .inr rfl) h
 exact ⟨_, _, rfl, rfl, p.chk.1, p.chk.2.ret sr _ (.int _)⟩
theorem Qeb : OpR X (compareOp .Lt) (rOf X.K ltD) := Qbm.of fun x y H Q h => by
 obtain ⟨i, j, ρ, st, rfl, rfl, sr, p⟩ := Qd5 (by intro d e; cases d <;> cases e <;> first | exact .inl ⟨_, _, rfl, rfl⟩ | exact .inr rfl) h
 exact ⟨_, _, rfl, rfl, p.ret sr _ (.bl _)⟩
theorem Qec : OpR X (compareOp .Gt) (rOf X.K gtD) := Qbn.of fun x y H Q h => by
 obtain ⟨i, j, ρ, st, rfl, rfl, sr, p⟩ := Qd5 (by intro d e; cases d <;> cases e <;> first | exact .inl ⟨_, _, rfl, rfl⟩ | exact .inr rfl) h
 exact ⟨_, _, rfl, rfl, p.ret sr _ (.bl _)⟩
theorem Qed : OpR X (compareOp .GtE) (rOf X.K geD) := Qbo.of fun x y H Q h => by
 obtain ⟨i, j, ρ, st, rfl, rfl, sr, p⟩ := Qd5 (by intro d e; cases d <;> cases e <;> first | exact .inl ⟨_, _, rfl, rfl⟩ | exact .inr rfl) h
 exact ⟨_, _, rfl, rfl, p.ret sr _ (.bl _)⟩
theorem Qee : SA X [] cNil := QbJ.of fun σ H Q h_ => h_.el fun ρ l st lr sr p => p.ret sr [] .nil
theorem Qef (ha : SE X e fa) (hr : SA X es ca) (hs : starEach (e :: es) X.env = (false, eval e X.env) :: starEach es X.env := by rfl) : SA X (e :: es) (cCons fa ca) :=
 (QbK ha hr hs).of fun σ H Q h_ => h_.el fun ρ l st lr sr p => ⟨ρ, l, st, lr, sr, p.bnd.imp fun d st1 ρ1 H1 x1 s1 p1 v rv => ⟨ρ1, l, st1, lr.mono x1, s1, p1.bnd.imp fun ds st2 ρ2 H2 x2 s2 p2 vs rvs => p2.ret s2 _ (.cons (rv.mono x2) rvs)⟩⟩
theorem Qeg {k : Nat} (h : SA X es ca) : SE X (.Tuple es k pos) (cTup ca) := (QbL h).of fun σ H Q h_ => h_.el fun ρ l st lr sr p => ⟨ρ, l, st, lr, sr, p.bnd.imp fun ds st1 ρ1 H1 x1 s1 p1 vs rvs => by
 obtain ⟨hl, p2⟩ := p1.chk
 refine ⟨by rw [rvs.length]; exact hl, fun q hq => ?_⟩
 exact p2 ρ1 _ (Ex.new hq) (s1.new hq) _ (.tup (SqT.of Qai) (rvs.mono (Ex.new hq)))⟩
theorem Qeh (h : SA X es ca) : SL X (.List es pos) (aDisp ca) := (QbM h).of fun σ H Q h_ => h_.el fun ρ l st lr sr p => ⟨ρ, l, st, lr, sr, p.bnd.imp fun ds st1 ρ1 H1 x1 s1 p1 vs rvs => by
 obtain ⟨hl, p2⟩ := p1.chk
 refine ⟨by rw [rvs.length]; exact hl, fun q hq => ?_⟩
 have hn : H q = none := by
  cases z : H q with
  | none => rfl
  | some o => exact absurd hq (x1.trk q o z)
 exact p2 ρ1 _ (Ex.new hq) (s1.new hq) q vs hn (s1.fresh hq) Qai (rvs.mono (Ex.new hq))⟩
theorem Post.bnd0 {α β : Type} {m : M α} {f : α → M β} {R : β → Sto → List Addr → Hp → Prop} (h : Post K ρ H (MM.bnd m f st) R) : Post K ρ H (m st) fun a st' _ _ => Post K ρ H (f a st') R := by
 unfold MM.bnd at h
 cases e : m st with
 | ok a s' =>
  rw [e] at h
  exact fun ρ' H' y s => h
 | exc _ _ => rw [e] at h; exact h
 | bad => rw [e] at h; exact h
theorem Qei (h : SL X e ca) : SE X e (cKeep ca) := h.of fun σ H Q h_ => h_.el fun ρ l st lr sr p => ⟨ρ, l, st, lr, sr, p.bnd0.imp fun ds st1 ρ1 H1 x1 s1 p1 a vs ha na hv rvs => by
 have x : Ex ρ H (ρ1 ++ [a]) H1 := by
  obtain ⟨τ, e, f⟩ := x1.pre
  refine ⟨⟨τ ++ [a], by rw [e, List.append_assoc], fun b hb => ?_⟩, x1.fix, x1.oth, x1.knd⟩
  rcases List.mem_append.mp hb with hb | hb
  ·exact f b hb
  ·rw [List.mem_singleton] at hb; rw [hb]; exact ha
 refine p1 (ρ1 ++ [a]) H1 x (s1.keep hv na rvs) _ (.ref ⟨_, hv, rfl⟩ ?_)
 rw [← s1.len]; simp⟩
theorem _root_.L2.IxR.of {r r' : R2} (h : IxR X r) (g : ∀ x y H Q, r' x y H Q → r x y H Q) : IxR X r' := fun value slice pins s σ H x y v u Q I rx ry q hs => h value slice pins s σ H x y v u Q I rx ry (g x y H Q q) hs
theorem Post.item {ds : List D} {i : Int} {R : D → Sto → List Addr → Hp → Prop} (h : Post K ρ H (itemD ds i st) R) (s : SR K ρ H st) : ∃ k d, L2.ixN ds.length i = some k ∧ ds[k]? = some d ∧ R d st ρ H := by
 unfold itemD at h
 cases e : MM.ixN ds.length i with
 | none => rw [e] at h; exact h.elim
 | some k =>
  rw [e] at h
  cases e2 : ds[k]? with
  | none => dsimp only at h; rw [e2] at h; exact h.elim
  | some d => dsimp only at h; rw [e2] at h; exact ⟨k, d, e, e2, h.ret s⟩
theorem Qej {vs : List V} {ds : List D} {i : Int} {k : Nat} {d : D} (r : Reps K ρ H vs ds) (h1 : L2.ixN ds.length i = some k) (h2 : ds[k]? = some d) : ∃ v, atI vs i = some v ∧ Rep K ρ H v d := by
 obtain ⟨v, e, rv⟩ := r.get h2
 refine ⟨v, ?_, rv⟩
 unfold atI
 rw [r.length, h1]
 exact e
theorem Post.itemK {n : Nat} {k : D} {R : D → Sto → List Addr → Hp → Prop} (h : Post K ρ H (MM.itemK n k st) R) (s : SR K ρ H st) : ∃ b kvs d, st[n]? = some (.dct b kvs) ∧ kOk b k = true ∧ lkK kvs k = some d ∧ R d st ρ H := by
 obtain ⟨b, kvs, e, p1⟩ := Post.getDc (Post.bnd h) s
 obtain ⟨hk, p2⟩ := Post.chk p1
 cases e2 : lkK kvs k with
 | none => dsimp only at p2; rw [e2] at p2; exact p2.elim
 | some d => dsimp only at p2; rw [e2] at p2; exact ⟨b, kvs, d, e, hk, e2, p2.ret s⟩
theorem ObR.dictIs {X : Cx} {pins : List (Addr × Obj)} {σ : St} {s : Shared} {a : Addr} {b : Bool} {kvs : List (D × D)} (I : Inv X pins σ H s) (g : ObR X.K ρ H a (.dct b kvs)) : s.TypeIs (.ref a) "dict" := by
 cases b with
 | false =>
  obtain ⟨es, e, r⟩ := g
  obtain ⟨_, _, vs, _, dd⟩ := QcY I.hok e
  exact dd.typeIs
 | true =>
  obtain ⟨es, e, r⟩ := g
  obtain ⟨_, _, xs, _, dd⟩ := QdD I e r
  exact dd.typeIs
theorem Qek (hu : X.A.units + 60 < cLine) : IxR X (fun x y H Q => ∃ (ρ : List Addr) (st : Sto) (n : Nat) (a : Addr) (b : Bool) (kvs : List (D × D)) (k d : D), x = .ref a ∧ SR X.K ρ H st ∧ ρ[n]? = some a ∧ st[n]? = some (.dct b kvs) ∧ Rep X.K ρ H y k ∧ kOk b k = true ∧ lkK kvs k = some d ∧ ∀ v, Rep X.K ρ H v d → Q v H) := by
 intro value slice pins s σ H x y v u Q I rx ry pq122 hs; obtain ⟨ρ, st, n, a, b, kvs, k, d, ex, sr, ha, hn, rk, hk, hl, q⟩ := pq122
 subst ex
 cases rx
 have g := sr.ob n a _ ha hn
 exact tail_any (ObR.dictIs I g) PySem.F.slot_dict_getitem.lookup (QdH (by ac_nf) I g rk hk hl ry fun v w' s' I' rv rw' => ⟨v, H, I', rw', q v rv⟩) hs
theorem Qel {x y : V} {d e : D} {Q : VK} (sr : SR K ρ H st) (rx : Rep K ρ H x d) (ry : Rep K ρ H y e) (hd : ∀ n, d ≠ .dic n) (p : Post K ρ H (subsD d e st) fun r _ ρ' H' => ∀ v, Rep K ρ' H' v r → Q v H') : rIx K x y H Q := by
 cases ry with
 | int i =>
  cases rx with
  | dic _ _ => exact absurd rfl (hd _)
  | tup h r =>
   obtain ⟨k, d, h1, h2, q⟩ := Post.item p sr
   obtain ⟨v, h3, rv⟩ := Qej r h1 h2
   exact .inr (.inl ⟨_, _, i, v, rfl, rfl, h, h3, q v rv⟩)
  | lit h r =>
   obtain ⟨k, d, h1, h2, q⟩ := Post.item p sr
   obtain ⟨v, h3, rv⟩ := Qej r h1 h2
   exact .inl ⟨_, _, i, v, rfl, rfl, h.seq, h3, q v rv⟩
  | ref _ h =>
   obtain ⟨xs, e, p1⟩ := Post.getL (Post.bnd p) sr
   obtain ⟨a, vs, ha, hv, r⟩ := sr.seq e
   rw [h] at ha; cases ha
   obtain ⟨k, d, h1, h2, q⟩ := Post.item p1 sr
   obtain ⟨v, h3, rv⟩ := Qej r h1 h2
   exact .inl ⟨_, _, i, v, rfl, rfl, SqL.of hv, h3, q v rv⟩
  | str z =>
   obtain ⟨hz, p1⟩ := Post.chk p
   cases e : MM.ixN z.length i with
   | none => rw [e] at p1; exact p1.elim
   | some k =>
    rw [e] at p1
    cases e2 : z.cps.toList[k]? with
    | none => dsimp only at p1; rw [e2] at p1; exact p1.elim
    | some c =>
     dsimp only at p1
     rw [e2] at p1
     refine .inr (.inr ⟨z, i, c, rfl, rfl, hz, ?_, p1.ret sr _ (.str _)⟩)
     unfold atI
     rw [show z.cps.toList.length = z.length by simp [Str.length]]
     show (L2.ixN z.length i).bind _ = _
     rw [show L2.ixN z.length i = some k from e]
     exact e2
  | _ => exact p.elim
 | _ => cases rx <;> first | exact absurd rfl (hd _) | exact p.elim
theorem ixd (hu : X.A.units + 60 < cLine) : IxR X (rOf X.K subsD) := (Qci.or (Qek hu)).of fun x y H Q pq62 => by
 obtain ⟨ρ, st, d, e, sr, rx, ry, p⟩ := pq62
 by_cases hd : ∃ n, d = .dic n
 ·obtain ⟨n, rfl⟩ := hd
  cases rx with
  | @dic a n _ h =>
   have p' : Post X.K ρ H (itemK n e st) fun r _ ρ' H' => ∀ (v : V), Rep X.K ρ' H' v r → Q v H' := by cases ry <;> exact p
   obtain ⟨b, kvs, d, e1, hk, hl, q⟩ := Post.itemK p' sr
   exact .inr ⟨ρ, st, n, a, b, kvs, e, d, rfl, sr, h, e1, ry, hk, hl, q⟩
 ·exact .inl (Qel sr rx ry (fun n z => hd ⟨n, z⟩) p)
theorem Qem (hu : X.A.units + 60 < cLine) (ha : SE X a fa) (hb : SE X b fb) (hs : PlainIx b) : SE X (.Subscript a b pos) (c2 subsD fa fb) := (Qce (ixd hu) ha hb hs).of (Qdm fun _ _ _ _ h => h)
theorem Qen (ha : SL X a ca) (hb : SE X b fb) (hs : PlainIx b) : SE X (.Subscript a b pos) (cTmpSub ca fb) := (Qce Qcf ha hb hs).of fun σ H Q h_ => h_.el fun ρ l st lr sr p =>
 ⟨ρ, l, st, lr, sr, p.bnd.imp fun ds st1 ρ1 H1 x1 s1 p1 a vs ha na hv rvs => ⟨ρ1, l, st1, lr.mono x1, s1, p1.bnd.imp fun e st2 ρ2 H2 x2 s2 p2 u ru => by
  cases ru with
  | int i =>
   obtain ⟨k, d, h1, h2, q⟩ := Post.item p2 s2
   obtain ⟨v, h3, rv⟩ := Qej (rvs.mono x2) h1 h2
   exact ⟨a, vs, i, v, rfl, rfl, SqL.of (x2.lst a vs na hv), h3, q v rv⟩
  | _ => exact p2.elim⟩⟩
theorem Qeo {CX : CXT} {k n : Nat} {f : Addr} {fd : FuncData} {ps : List Str} {g : List D → M D} {x : Str} {p : Pos} (F : FnOk X.prog X.w X.K X.mg X.base CX k f fd ps (spOf X.K n g)) (hr : Room k X.A) (hg : Gl X x) (hm : X.mg x = some (.ref f))
  (hk : PySem.W.keepIn X.K (.ref f) = true) (hb : Binds X.K fd ps []) (hx : Passes CX X E0) (ha : SA X (e :: es) ca) (hn : ∀ l st ds st', ca l st = .ok ds st' → ds.length = n) (hdb : (x == ("__debug__" : Str)) = false := by decide)
  (he : starEach (e :: es) X.env = (false, eval e X.env) :: starEach es X.env := by rfl) (hpl : (backTo pos (starEach es X.env)).any (·.1) = false := by rfl) : SE X (.Call (.Name x p) (e :: es) [] pos) (cCall g ca) :=
 (QbO F hr hg hm hk hb .nil hx ha hdb he hpl).of fun σ H Q h_ => h_.el fun ρ l st lr sr p => ⟨ρ, l, st, lr, sr, by
  have q := Post.bnd p
  cases ec : ca l st with
  | bad => rw [ec] at q; exact q
  | exc _ _ => rw [ec] at q; exact q
  | ok ds st1 =>
   rw [ec] at q
   intro ρ1 H1 x1 s1 vs rvs
   refine ⟨by rw [List.append_nil, rvs.length]; exact hn l st ds st1 ec, ρ1, st1, ds, s1, by rw [List.append_nil]; exact rvs, q ρ1 H1 x1 s1⟩⟩
variable {ta tb : CT}
theorem Qep {d : D} {v : V} {R : Bool → Sto → List Addr → Hp → Prop} (p : Post K ρ H (truD d st) R) (sr : SR K ρ H st) (rv : Rep K ρ H v d) : ∃ k, TruV K v H k ∧ R k st ρ H := by
 cases rv with
 | non => exact ⟨false, rfl, p.ret sr⟩
 | bl b => exact ⟨b, rfl, p.ret sr⟩
 | int i => exact ⟨_, rfl, p.ret sr⟩
 | str x => exact ⟨_, ⟨(Post.chk p).1, rfl⟩, (Post.chk p).2.ret sr⟩
 | @tup a vs ds h r =>
  refine ⟨!vs.isEmpty, .inr (.inl ⟨vs, h, rfl⟩), ?_⟩
  have : vs.isEmpty = ds.isEmpty := by
   have := r.length
   cases vs <;> cases ds <;> simp_all
  rw [this]; exact p.ret sr
 | @lit a vs ds h r =>
  refine ⟨!vs.isEmpty, .inl ⟨vs, h.seq, rfl⟩, ?_⟩
  have : vs.isEmpty = ds.isEmpty := by
   have := r.length
   cases vs <;> cases ds <;> simp_all
  rw [this]; exact p.ret sr
 | ref _ h =>
  obtain ⟨ds, e, p1⟩ := Post.getL (Post.bnd p) sr
  obtain ⟨a, vs, ha, hv, r⟩ := sr.seq e
  rw [h] at ha; cases ha
  refine ⟨!vs.isEmpty, .inl ⟨vs, SqL.of hv, rfl⟩, ?_⟩
  have : vs.isEmpty = ds.isEmpty := by
   have := r.length
   cases vs <;> cases ds <;> simp_all
  rw [this]; exact p1.ret sr
 | dic _ _ => exact p.elim
theorem Qeq (ha : SE X a fa) (he : ∀ whole, isTrue a X.env whole = (do let v ← whole; standAt a.pos; holding [v] (truthy v)) := by intro _; rfl) : ST X a (tVal fa) :=
 (Qby ha he).of fun σ H Q h_ => h_.el fun ρ l st lr sr p => ⟨ρ, l, st, lr, sr, p.bnd.imp fun d st1 ρ1 H1 x1 s1 p1 v rv => Qep p1 s1 rv⟩
theorem Qer {op : CmpOp} {g : D → D → M D} (ho : OpR X (compareOp op) (rOf X.K g)) (ha : SE X a fa) (hb : SE X b fb) (hm : behindInMarks op b = false) : ST X (.Compare a [op] [b] pos) (tCmpB (c2 g fa fb)) :=
 (Qbt ho ha hb hm).of fun σ H Q h_ => h_.el fun ρ l st lr sr p => Qdm (X := X) (fun _ _ _ _ h => h) _ _ _ ⟨ρ, l, st, lr, sr, p.bnd.imp fun d st1 ρ1 H1 x1 s1 p1 v rv => by
  cases rv with
  | bl k => exact ⟨k, rfl, p1.ret s1⟩
  | _ => exact p1.elim⟩
theorem Qes (ha : ST X a ta) : PW X (.BoolOp .And [a] pos) (ttOf X.K ta) := QaD ha
theorem Qet (ha : ST X a ta) : PW X (.BoolOp .Or [a] pos) (ttOf X.K ta) := QaE ha
theorem _root_.L2.PW.of {e : Expr} {t t' : TT} (h : PW X e t) (f : ∀ σ H Q, t' σ H Q → t σ H Q) : PW X e t' := fun whole pins s σ H Q I q => h whole pins s σ H Q I (f σ H Q q)
theorem Qeu {rest : List Expr} (ha : ST X a ta) (hb : PW X (.BoolOp .And (b :: rest) pos) (ttOf X.K tb)) : PW X (.BoolOp .And (a :: b :: rest) pos) (ttOf X.K (tAndB ta tb)) :=
 (QaF ha hb).of fun σ H Q h_ => h_.el fun ρ l st lr sr p => ⟨ρ, l, st, lr, sr, p.bnd.imp fun c st1 ρ1 H1 x1 s1 p1 => by
  cases c with
  | true => exact ⟨ρ1, l, st1, lr.mono x1, s1, p1⟩
  | false => exact p1.ret s1⟩
theorem Qev {rest : List Expr} (ha : ST X a ta) (hb : PW X (.BoolOp .Or (b :: rest) pos) (ttOf X.K tb)) : PW X (.BoolOp .Or (a :: b :: rest) pos) (ttOf X.K (tOrB ta tb)) :=
 (QaG ha hb).of fun σ H Q h_ => h_.el fun ρ l st lr sr p => ⟨ρ, l, st, lr, sr, p.bnd.imp fun c st1 ρ1 H1 x1 s1 p1 => by
  cases c with
  | true => exact p1.ret s1
  | false => exact ⟨ρ1, l, st1, lr.mono x1, s1, p1⟩⟩
theorem Qew (ha : ST X a ta) : ST X (.UnaryOp .Not a pos) (tNotB ta) := (QaH ha).of fun σ H Q h_ => h_.el fun ρ l st lr sr p => ⟨ρ, l, st, lr, sr, p.bnd.imp fun c st1 ρ1 H1 x1 s1 p1 => p1.ret s1⟩
theorem Qex {op : BoolOp} (h : SE X a fa) : SE X (.BoolOp op [a] pos) fa := QaI h
theorem Qey {rest : List Expr} (ha : SE X a fa) (hb : SE X (.BoolOp .And (b :: rest) pos) fb) : SE X (.BoolOp .And (a :: b :: rest) pos) (cAnd fa fb) :=
 (QaJ ha hb).of fun σ H Q h_ => h_.el fun ρ l st lr sr p => ⟨ρ, l, st, lr, sr, p.bnd.imp fun d st1 ρ1 H1 x1 s1 p1 v rv => by
  cases rv with
  | bl c =>
   refine ⟨c, rfl, ?_⟩
   cases c with
   | true => exact ⟨ρ1, l, st1, lr.mono x1, s1, p1⟩
   | false => exact p1.ret s1 _ (.bl false)
  | _ => exact p1.elim⟩
theorem Qez {rest : List Expr} (ha : SE X a fa) (hb : SE X (.BoolOp .Or (b :: rest) pos) fb) : SE X (.BoolOp .Or (a :: b :: rest) pos) (cOr fa fb) :=
 (QaK ha hb).of fun σ H Q h_ => h_.el fun ρ l st lr sr p => ⟨ρ, l, st, lr, sr, p.bnd.imp fun d st1 ρ1 H1 x1 s1 p1 v rv => by
  cases rv with
  | bl c =>
   refine ⟨c, rfl, ?_⟩
   cases c with
   | true => exact p1.ret s1 _ (.bl true)
   | false => exact ⟨ρ1, l, st1, lr.mono x1, s1, p1⟩
  | _ => exact p1.elim⟩
theorem QeA (ha : SE X a fa) : SE X (.UnaryOp .Not a pos) (cNot fa) := (QaL ha).of fun σ H Q h_ => h_.el fun ρ l st lr sr p => ⟨ρ, l, st, lr, sr, p.bnd.imp fun d st1 ρ1 H1 x1 s1 p1 v rv => by
  cases rv with
  | bl c => exact ⟨c, rfl, p1.ret s1 _ (.bl _)⟩
  | _ => exact p1.elim⟩
theorem QeB (hc : ST X c ta) (ha : SE X a fa) (hb : SE X b fb) : SE X (.IfExp c a b pos) (cIfE ta fa fb) := (QaM hc ha hb).of fun σ H Q h_ => h_.el fun ρ l st lr sr p => ⟨ρ, l, st, lr, sr, p.bnd.imp fun k st1 ρ1 H1 x1 s1 p1 => by
  cases k with
  | true => exact ⟨ρ1, l, st1, lr.mono x1, s1, p1⟩
  | false => exact ⟨ρ1, l, st1, lr.mono x1, s1, p1⟩⟩
end
end MM
namespace MM
open PySem PySem.Spec PyProof.Rows L2
theorem LR.set {K : PySem.W.Frag} {ρ : List Addr} {H : Hp} {σ : St} {l : Loc} {v : V} {d : D} (h : LR K ρ H σ l) (i : Nat) (r : Rep K ρ H v d) : LR K ρ H (σ.set i (some v)) (l.set i (some d)) := by
 refine ⟨by simp [h.1], fun j e q => ?_⟩
 by_cases z : i = j
 ·subst z
  by_cases hl : i < l.length
  ·rw [List.getElem?_set_self hl] at q
   cases q
   exact ⟨v, by rw [List.getElem?_set_self (by rw [h.1]; exact hl)], r⟩
  ·rw [List.getElem?_eq_none (by simp; ac_nf)] at q; cases q
 ·rw [List.getElem?_set_ne z] at q
  obtain ⟨w, e1, r1⟩ := h.2 j e q
  exact ⟨w, by rw [List.getElem?_set_ne z]; exact e1, r1⟩
theorem LR.start {K : PySem.W.Frag} {ρ : List Addr} {H : Hp} {N : List Str} {vs : List V} {ds : List D} (r : Reps K ρ H vs ds) : LR K ρ H (L2.start N vs) (ds.map some ++ List.replicate (N.length - ds.length) none) := by
 have hl := r.length
 unfold L2.start
 refine ⟨by simp [hl], fun i d e => ?_⟩
 by_cases hi : i < ds.length
 ·rw [List.getElem?_append_left (by simpa using hi), List.getElem?_map] at e
  cases q : ds[i]? with
  | none => rw [q] at e; cases e
  | some d' =>
   rw [q] at e
   have e' : d' = d := Option.some.inj (Option.some.inj e)
   subst e'
   obtain ⟨v, hv, rv⟩ := r.get q
   refine ⟨v, ?_, rv⟩
   rw [List.getElem?_append_left (by simp; ac_nf), List.getElem?_map, hv]; rfl
 ·rw [List.getElem?_append_right (by simpa using hi), List.getElem?_replicate] at e
  split at e <;> cases e
section
variable {X : Cx} {a b c e tg : Expr} {es : List Expr} {s : Stmt} {ss : List Stmt} {pos : Pos} {fa fb fc : CE} {ca cb : CA} {ta tb : CT} {cs cr : CS} {K : PySem.W.Frag} {ρ : List Addr} {H : Hp} {st : Sto}
abbrev SG (X : Cx) (e : Expr) (g : CG) : Prop := PG X e (tgOf X.K g)
abbrev SGs (X : Cx) (e : List Expr) (g : List D → Loc → M Loc) : Prop := PGs X e (tgsOf X.K g)
theorem QeC {i : Nat} {x : Str} (h : PG X (.Name x pos) (gName i)) : SG X (.Name x pos) (gVar i) := h.of fun v σ H Q pq63 => by obtain ⟨ρ, l, st, d, lr, sr, rv, p⟩ := pq63; exact p.ret sr _ (lr.set i rv)
theorem QeD : SGs X [] gsNil := QaU.of fun vs σ H Q pq64 => by
 obtain ⟨ρ, l, st, ds, lr, sr, rvs, p⟩ := pq64
 cases rvs with
 | nil => exact ⟨rfl, p.ret sr σ lr⟩
 | cons _ _ => exact p.elim
theorem QeE {g : CG} {r : List D → Loc → M Loc} (h1 : SG X e g) (h2 : SGs X es r) (hs : (assignEach (e :: es) X.env).map (·.2) = assign e X.env :: (assignEach es X.env).map (·.2) := by rfl) : SGs X (e :: es) (gsCons g r) :=
 (QaV h1 h2 hs).of fun vs σ H Q pq65 => by
  obtain ⟨ρ, l, st, ds, lr, sr, rvs, p⟩ := pq65
  cases rvs with
  | nil => exact p.elim
  | cons rv rt => exact ⟨_, _, rfl, ρ, l, st, _, lr, sr, rv, (Post.bnd p).imp fun l1 st1 ρ1 H1 x1 s1 p1 σ1 lr1 => ⟨ρ1, l1, st1, _, lr1, s1, rt.mono x1, p1⟩⟩
theorem QeF {k n : Nat} {r : List D → Loc → M Loc} (hc : X.calm = true) (h : SGs X es r) (hn : (assignEach es X.env).length = n := by rfl) (hst : (assignEach es X.env).findIdx? (·.1) = none := by rfl) : SG X (.Tuple es k pos) (gTupD n r) :=
 (QaW hc h hn hst).of fun v σ H Q pq66 => by
  obtain ⟨ρ, l, st, d, lr, sr, rv, p⟩ := pq66
  cases rv with
  | tup h r => exact ⟨_, _, rfl, h, by rw [r.length]; exact (Post.chk p).1, ρ, l, st, _, lr, sr, r, (Post.chk p).2⟩
  | _ => exact p.elim
theorem QeG : SSs X [] sNext := QaN.of fun G σ H h_ => h_.el fun ρ l st lr sr p => p.ret sr σ lr
theorem QeH (h1 : SS X s cs) (h2 : SSs X ss cr) : SSs X (s :: ss) (sSeq cs cr) := (QaO h1 h2).of fun G σ H h_ => h_.el fun ρ l st lr sr p => ⟨ρ, l, st, lr, sr, p.bnd.imp fun f st1 ρ1 H1 x1 s1 p1 => by
 cases f with
 | next l' => exact fun σ' lr' => ⟨ρ1, l', st1, lr', s1, p1⟩
 | ret d => exact p1.ret s1
 | brk l' => exact p1.ret s1
 | cnt l' => exact p1.ret s1⟩
theorem QeI : SS X s sBad := QaS.of fun G σ H h_ => h_.el fun ρ l st lr sr p => p.elim
theorem QeJ (h : SE X e fa) : SS X (.Return (some e) pos) (sRet fa) := (QaQ h).of fun G σ H h_ => h_.el fun ρ l st lr sr p => ⟨ρ, l, st, lr, sr, p.bnd.imp fun d st1 ρ1 H1 x1 s1 p1 v rv => p1.ret s1 v rv⟩
theorem QeK (h : SE X e fa) (hs : swapsWith e none pos.line X.env = pure false := by rfl) : SS X (.Expr e pos) (sExp fa) := (QaP h hs).of fun G σ H h_ => h_.el fun ρ l st lr sr p =>
 ⟨ρ, l, st, lr, sr, p.bnd.imp fun d st1 ρ1 H1 x1 s1 p1 v rv => p1.ret s1 σ (lr.mono x1)⟩
theorem QeL (hc : ST X c ta) (ha : SSs X ss cs) {sr : List Stmt} (hb : SSs X sr cr) : SS X (.If c ss sr pos) (sIf ta cs cr) := (QaR hc ha hb).of fun G σ H h_ => h_.el fun ρ l st lr sr p =>
 ⟨ρ, l, st, lr, sr, p.bnd.imp fun k st1 ρ1 H1 x1 s1 p1 => by
  cases k with
  | true => exact ⟨ρ1, l, st1, lr.mono x1, s1, p1⟩
  | false => exact ⟨ρ1, l, st1, lr.mono x1, s1, p1⟩⟩
theorem QeM {g : CG} {te : TE} {tg : TG} (he : ∀ σ H Q, tOf X.K fa σ H Q → te σ H Q) (hg : ∀ v σ H Q, tgOf X.K g v σ H Q → tg v σ H Q) : ∀ G σ H, tsOf X.K (sAsg g fa) G σ H → tAsg te tg G σ H := fun G σ H h_ => h_.el fun ρ l st lr sr p =>
 he _ _ _ ⟨ρ, l, st, lr, sr, p.bnd.imp fun d st1 ρ1 H1 x1 s1 p1 v rv => hg _ _ _ _ ⟨ρ1, l, st1, d, lr.mono x1, s1, rv, p1.bnd.imp fun l2 st2 ρ2 H2 x2 s2 p2 σ2 lr2 => p2.ret s2 σ2 lr2⟩⟩
theorem QeN {i : Nat} : ∀ v σ H Q, tgOf X.K (gVar i) v σ H Q → gName i v σ H Q := fun v σ H Q pq67 => by obtain ⟨ρ, l, st, d, lr, sr, rv, p⟩ := pq67; exact p.ret sr _ (lr.set i rv)
theorem QeO {i : Nat} {x : Str} {pos' : Pos} (hN : X.N.Nodup) (hi : X.N[i]? = some x) (hx : L2.Loc X.env.scope x) (he : SE X e fa) (hs : swapsWith e (some (.Name x pos')) pos.line X.env = pure false := by rfl)
  (hf : X.fn x = true ∨ X.env.scope.names.lookup x = some .local := by first | exact .inl rfl | exact .inr rfl | assumption) : SS X (.Assign [.Name x pos'] e pos) (sAsg (gVar i) fa) :=
 (QaZ hN hi hx he hs hf).of (QeM (fun _ _ _ h => h) QeN)
theorem QeP {g : CG} (he : SE X e fa) (hg : SG X tg g) (hs : swapsWithSole [tg] e pos.line X.env = pure false := by rfl) (hw : swappedStores [tg] e X.env = pure none := by rfl)
  (h1 : (assignEach [tg] X.env).map (·.2) = [assign tg X.env] := by rfl) : SS X (.Assign [tg] e pos) (sAsg g fa) := (QaY he hg hs hw h1).of (QeM (fun _ _ _ h => h) fun _ _ _ _ h => h)
theorem Post.storeK {n : Nat} {k v : D} {R : Unit → Sto → List Addr → Hp → Prop} (h : Post K ρ H (MM.storeK n k v st) R) (s : SR K ρ H st) : ∃ b kvs, st[n]? = some (.dct b kvs) ∧ kOk b k = true ∧ kvs.length < lim ∧ Post K ρ H (.ok () (st.set n (.dct b (ptK kvs k v)))) R := by
 obtain ⟨b, kvs, e, p1⟩ := Post.getDc (Post.bnd h) s
 obtain ⟨⟨hk, hl⟩, p2⟩ := Post.chk p1
 refine ⟨b, kvs, e, hk, hl, ?_⟩
 unfold putDc at p2
 rw [e] at p2
 simpa using p2
noncomputable def rSetD (X : Cx) : V → V → V → Hp → (Hp → Prop) → Prop := fun o i v H Q => ∃ (ρ : List Addr) (st : Sto) (n : Nat) (a : Addr) (b : Bool) (kvs : List (D × D)) (k d : D), o = .ref a ∧ SR X.K ρ H st ∧ ρ[n]? = some a ∧ st[n]? = some (.dct b kvs) ∧ Rep X.K ρ H i k ∧ kOk b k = true ∧ kvs.length < sizeLine ∧ Rep X.K ρ H v d ∧
 ∀ H', SR X.K ρ H' (st.set n (.dct b (ptK kvs k d))) → Ex ρ H ρ H' → Q H'
theorem QeQ (hu : X.A.units + 60 < cLine) : PSet X (rSetD X) := by
 intro pins s σ H o i v ov iv u Q I ro ri rv pq123; obtain ⟨ρ, st, n, a, b, kvs, k, d, eo, sr, ha, hn, rk, hk, hl, rd, q⟩ := pq123
 subst eo
 cases ro
 exact QdJ (by ac_nf) I sr ha hn rk hk hl rd ri rv fun H' s' I' s3 x3 => ⟨H', I', q H' s3 x3⟩
theorem _root_.L2.PSet.or {t t' : TSet} (h : PSet X t) (h' : PSet X t') : PSet X (fun o i v H Q => t o i v H Q ∨ t' o i v H Q) := by
 intro pins s σ H o i v ov iv u Q I ro ri rv q
 rcases q with q | q
 ·exact h pins s σ H o i v ov iv u Q I ro ri rv q
 ·exact h' pins s σ H o i v ov iv u Q I ro ri rv q
theorem QeR {to ti : CE} {o i : Expr} (hu : X.A.units + 60 < cLine) (ho : SE X o to) (hi : SE X i ti)
  (ha : ∀ v, assign (.Subscript o i pos) X.env v = (do
   let ov ← holding [v] (eval o X.env)
   let iv ← holding [v, ov] (eval i X.env)
   standAt pos
   holding [v, ov, iv] (setItem ov iv v)
   release [v, ov, iv] []) := by intro _; rfl) : SG X (.Subscript o i pos) (gSubD to ti) :=
 (QaX ho hi (Qck.or (QeQ hu)) ha).of fun v σ H Q pq68 => by obtain ⟨ρ, l, st, d, lr, sr, rv, p⟩ := pq68; exact ⟨ρ, l, st, lr, sr, p.bnd.imp fun y st1 ρ1 H1 x1 s1 p1 u ru => ⟨ρ1, l, st1, lr.mono x1, s1, p1.bnd.imp fun z st2 ρ2 H2 x2 s2 p2 w rw' => by
  have ru2 := ru.mono x2
  have rd : Rep X.K ρ2 H2 v d := (rv.mono x1).mono x2
  cases ru2 with
  | ref _ h =>
   cases rw' with
   | int k =>
    obtain ⟨ds, e, p3⟩ := Post.getL (Post.bnd (Post.bnd p2)) s2
    obtain ⟨a, vs, ha, hv, r⟩ := s2.seq e
    rw [h] at ha; cases ha
    cases e2 : MM.ixN ds.length k with
    | none => rw [e2] at p3; exact p3.elim
    | some j =>
     rw [e2] at p3
     have hl := (List.getElem?_eq_some_iff.mp e).1
     obtain ⟨s3, x3⟩ := s2.put hl h hv (r.set j rd)
     refine .inl ⟨_, vs, k, j, rfl, rfl, hv, by rw [r.length]; exact e2, ?_⟩
     have p4 : Post X.K ρ2 H2 (putL _ (ds.set j d) st2) _ := p3
     unfold putL at p4
     rw [e] at p4
     exact (p4 ρ2 _ x3 s3).ret s3 σ (((lr.mono x1).mono x2).mono x3)
   | _ => exact (Post.bnd p2).elim
  | @dic a n _ h =>
   have p' : Post X.K ρ2 H2 (storeK n z d st2) fun a st' ρ' H' => Post X.K ρ' H' (MM.ret l st') fun l' _ ρ' H' => ∀ σ', LR X.K ρ' H' σ' l' → Q σ' H' := by cases rw' <;> exact Post.bnd p2
   obtain ⟨b, kvs, e1, hk, hl, q⟩ := Post.storeK p' s2
   exact .inr ⟨ρ2, st2, n, a, b, kvs, z, d, rfl, s2, h, e1, rw', hk, hl, rd, fun H3 s3 x3 => (q ρ2 H3 x3 s3).ret s3 σ (((lr.mono x1).mono x2).mono x3)⟩
  | _ => exact (Post.bnd p2).elim⟩⟩
theorem QeS {P : Program} {w : World} {K : PySem.W.Frag} {mg : Str → Option Value} {base : Heap} {x qual : Str} {sd : Stmt} {f : Addr} {fd : FuncData} {N ps : List Str} {k : Nat} {body : CS} (F : Fun K x qual sd f fd) (S : FnScope N ps (defScope sd))
  (hbody : ∀ (cdv : Value) (A : Around) (outer : List Env) (s : Shared) (H : Hp) (E : XK), Room k (A.deeper (envOfC qual (defScope sd) s.heap.objs.size f cdv)) → SSs (cxOf CX0 P w K mg base N qual (defScope sd) f cdv A outer s H E).nox (defBody sd) body) :
  FnOk P w K mg base CX0 (k + 1) f fd ps (spOf K ps.length (runDef N.length body)) := by
 refine F.ok S (fun vs H Q E h => h.1) (fun cdv A outer s H vs Q E hr h => ⟨_, hbody cdv A outer s H E hr, ?_⟩)
 obtain ⟨hl, ρ, st, ds, sr, rvs, p⟩ := h
 refine ⟨ρ, _, st, LR.start rvs, sr, ?_⟩
 unfold runDef at p
 exact p.bnd.imp fun f st1 ρ1 H1 x1 s1 p1 => by
  cases f with
  | next l => exact fun σ' _ => p1.ret s1 _ .non
  | ret d => exact fun v rv => p1.ret s1 v rv
  | brk l => exact p1.elim
  | cnt l => exact p1.elim
def ItR (K : PySem.W.Frag) (ρ0 : List Addr) (H0 : Hp) (w : Wk) (J : It) : Prop := ∀ ρ H st, Ex ρ0 H0 ρ H → SR K ρ H st → w.same st → J.stop w.ds.length H ∧ ∀ (i : Nat) (d : D), w.ds[i]? = some d → J.go i H ∧ ∀ x H', J.yld i H x H' → Ex ρ H ρ H' ∧ SR K ρ H' st ∧ Rep K ρ H' x d
noncomputable def tiOf (K : PySem.W.Frag) (f : CI) : TI := fun σ H R => ∃ ρ l st, LR K ρ H σ l ∧ SR K ρ H st ∧ Post K ρ H (f l st) fun w _ ρ' H' => ∀ J, ItR K ρ' H' w J → R J H'
abbrev SI (X : Cx) (tg e : Expr) (f : CI) : Prop := PI X tg e (tiOf X.K f)
theorem _root_.L2.PI.of {tg e : Expr} {t t' : TI} (h : PI X tg e t) (f : ∀ σ H R, t' σ H R → t σ H R) : PI X tg e t' := fun pins s σ H R I q => h pins s σ H R I (f σ H R q)
theorem QeT {ρ0 : List Addr} {H0 : Hp} {ds : List D} {p : Sto → Prop} {a : Addr} (h : ∀ ρ H st, Ex ρ0 H0 ρ H → SR K ρ H st → p st → ∃ vs, SqL K H a vs ∧ Reps K ρ H vs ds) : ItR K ρ0 H0 ⟨ds, p⟩ (Itl K a) := fun ρ H st x s q => by
 obtain ⟨vs, hv, r⟩ := h ρ H st x s q
 refine ⟨⟨vs, hv, by rw [r.length]; exact Nat.le_refl _⟩, fun i d e => ?_⟩
 obtain ⟨v, e1, rv⟩ := r.get e
 refine ⟨⟨vs, v, hv, e1⟩, fun y H' pq69 => ?_⟩
 obtain ⟨e2, e3⟩ := pq69
 subst e2
 have := e3 vs hv
 rw [e1] at this; cases this
 exact ⟨Ex.refl, s, rv⟩
theorem QeU {ρ0 : List Addr} {H0 : Hp} {ds : List D} {p : Sto → Prop} {a : Addr} (h : ∀ ρ H st, Ex ρ0 H0 ρ H → SR K ρ H st → p st → ∃ vs, SqT K H a vs ∧ Reps K ρ H vs ds) : ItR K ρ0 H0 ⟨ds, p⟩ (Itt K a) := fun ρ H st x s q => by
 obtain ⟨vs, hv, r⟩ := h ρ H st x s q
 refine ⟨⟨vs, hv, by rw [r.length]; exact Nat.le_refl _⟩, fun i d e => ?_⟩
 obtain ⟨v, e1, rv⟩ := r.get e
 refine ⟨⟨vs, v, hv, e1⟩, fun y H' pq70 => ?_⟩
 obtain ⟨e2, e3⟩ := pq70
 subst e2
 have := e3 vs hv
 rw [e1] at this; cases this
 exact ⟨Ex.refl, s, rv⟩
theorem QeV {ρ0 : List Addr} {H0 : Hp} {lo : Int} {n : Nat} : ItR K ρ0 H0 ⟨rngD lo n, anySt⟩ (Itr lo n) := fun ρ H st x s _ => by
 refine ⟨by show n ≤ (rngD lo n).length; unfold rngD; simp, fun i d e => ?_⟩
 have hi : i < n := by
  have := (List.getElem?_eq_some_iff.mp e).1
  simpa [rngD] using this
 refine ⟨hi, fun y H' pq71 => ?_⟩
 obtain ⟨e2, e3⟩ := pq71
 subst e2 e3
 have : d = .int (lo + (i : Nat)) := by
  unfold rngD at e
  rw [List.getElem?_map, List.getElem?_range hi] at e
  exact (Option.some.inj e).symm
 subst this
 exact ⟨Ex.refl, s, .int _⟩
theorem QeW {l : Expr} {tl : TE} (hl : PE X l tl) : PI X tg l (fun σ H R => tl σ H fun x H1 => ∃ a, x = .ref a ∧ ((∃ xs, SqL X.K H1 a xs) ∧ R (Itl X.K a) H1 ∨ (∃ xs, SqT X.K H1 a xs) ∧ R (Itt X.K a) H1)) := by
 intro pins s σ H R I h
 refine thn (hl pins s σ H _ I h) fun v s1 pq72 => ?_
 obtain ⟨x, H1, I1, r1, a, e, q⟩ := pq72
 subst e
 cases r1
 rcases q with ⟨⟨xs, hq⟩, q⟩ | ⟨⟨xs, hq⟩, q⟩
 ·obtain ⟨its, rv, p, hz⟩ := I1.list hq
  refine wpAny_pyIter_list p.isList ?_
  refine ⟨s1.heap.objs.size, [s1.heap.objs.size], _, _, H1, rfl, I1.kept (t' := s1.toks) fun b o e => Heap.get?_push_of_some _ e, Qa2 a _, ⟨_, Heap.get?_push_size _ rfl, rfl, rfl⟩, fun b hb => ?_, q⟩
  have e : b = s1.heap.objs.size := by simpa using hb
  subst e
  exact I1.fpOk (Nat.le_refl _) (I1.hok.fresh (Nat.le_refl _))
 ·obtain ⟨its, rv, p, hz⟩ := I1.tuple hq
  refine wpAny_pyIter_tuple (show s1.heap.IsTuple a its.toArray from p) ?_
  refine ⟨s1.heap.objs.size, [s1.heap.objs.size], _, _, H1, rfl, I1.kept (t' := s1.toks) fun b o e => Heap.get?_push_of_some _ e, Qa3 a _, ⟨_, Heap.get?_push_size _ rfl, rfl, rfl⟩, fun b hb => ?_, q⟩
  have e : b = s1.heap.objs.size := by simpa using hb
  subst e
  exact I1.fpOk (Nat.le_refl _) (I1.hok.fresh (Nat.le_refl _))
theorem QeX (h : SE X e fa) : SI X tg e (iSeq fa) := (QeW h).of fun σ H R h_ => h_.el fun ρ l st lr sr p => ⟨ρ, l, st, lr, sr, p.bnd.imp fun d st1 ρ1 H1 x1 s1 p1 v rv => by
 cases rv with
 | @tup a vs ds h r => exact ⟨a, rfl, .inr ⟨⟨vs, h⟩, p1.ret s1 _ (QeU fun ρ H st x s _ => ⟨vs, SqT.mono x.up h, r.mono x⟩)⟩⟩
 | @lit a vs ds h r => exact ⟨a, rfl, .inl ⟨⟨vs, h.seq⟩, p1.ret s1 _ (QeT fun ρ H st x s _ => ⟨vs, (FzL.mono x.up h).seq, r.mono x⟩)⟩⟩
 | @ref a n _ h =>
  obtain ⟨ds, e, p2⟩ := Post.getL (Post.bnd p1) s1
  obtain ⟨a', vs, ha, hv, r⟩ := s1.seq e
  rw [h] at ha; cases ha
  refine ⟨a, rfl, .inl ⟨⟨vs, SqL.of hv⟩, p2.ret s1 _ (QeT fun ρ H st x s q => ?_)⟩⟩
  obtain ⟨a2, ws, ha2, hw, rw'⟩ := s.seq q
  obtain ⟨τ, eτ, _⟩ := x.pre
  rw [eτ, Qde h] at ha2; cases ha2
  exact ⟨ws, SqL.of hw, rw'⟩
 | _ => exact p1.elim⟩
theorem QeY (h : SL X e ca) : SI X tg e (iTmp ca) := (Qa5 h).of fun σ H R h_ => h_.el fun ρ l st lr sr p => ⟨ρ, l, st, lr, sr, p.bnd.imp fun ds st1 ρ1 H1 x1 s1 p1 a vs ha na hv rvs =>
 ⟨a, rfl, ⟨vs, SqL.of hv⟩, p1.ret s1 _ (QeT fun ρ H st x s _ => ⟨vs, SqL.of (x.lst a vs na hv), rvs.mono x⟩)⟩⟩
theorem QeZ {p : Pos} (hg : Gl X "range") (hm : X.mg "range" = none) (h : SE X a fa) (hs : starEach [a] X.env = [(false, eval a X.env)] := by rfl) : SI X tg (.Call (.Name "range" p) [a] [] pos) (MM.iRng1 fa) :=
 (Qa7 (tg := tg) (p := p) (pos := pos) hg hm (Qef h Qee hs) hs).of fun σ H R h_ => h_.el fun ρ l st lr sr p => ⟨ρ, l, st, lr, sr, by
  have q := Post.bnd p
  unfold cCons
  show Post X.K ρ H (bnd (fa l) _ st) _
  unfold MM.bnd
  cases e : fa l st with
  | bad => rw [e] at q; exact q
  | exc _ _ => rw [e] at q; exact q
  | ok d st1 =>
   rw [e] at q
   show ∀ ρ' H', Ex ρ H ρ' H' → SR X.K ρ' H' st1 → _
   intro ρ1 H1 x1 s1 vs rvs
   have p1 := q ρ1 H1 x1 s1
   cases rvs with
   | cons rv rt =>
    cases rt
    cases rv with
    | int j =>
     obtain ⟨⟨h1, h2⟩, p2⟩ := Post.chk p1
     exact ⟨j, rfl, h1, h2, p2.ret s1 _ QeV⟩
    | _ => exact p1.elim⟩
theorem Post.chkS {p : Sto → Prop} {R : Unit → Sto → List Addr → Hp → Prop} (h : Post K ρ H (MM.chkS p st) R) (s : SR K ρ H st) : p st ∧ R () st ρ H := by
 unfold MM.chkS at h
 by_cases hp : p st
 ·rw [if_pos hp] at h; exact ⟨hp, h ρ H Ex.refl s⟩
 ·rw [if_neg hp] at h; exact h.elim
theorem Qe0 {iter : Expr} {body : List Stmt} {ci : CI} {g : CG} {cb : CS} (hp : PassesOwn (model X.prog X.w) X.A X.env X.xe) (hc : X.calm = true) (hi : SI X tg iter ci) (hg : SG X tg g) (hb : SSs X body cb)
  (hs : ∀ x, foldedSetIterable iter X.env x = pure x := by intro _; rfl) : SS X (.For tg iter body [] pos) (sFor ci g cb) := (Qbb hp hc hi hg hb hs).of fun G σ H h_ => h_.el fun ρ l st lr sr p =>
 ⟨ρ, l, st, lr, sr, p.bnd.imp fun w st1 ρ1 H1 x1 s1 p1 J hJ => by
  refine ⟨fun i m σ' H' => m = w.ds.length - i ∧ i ≤ w.ds.length ∧ ∃ ρ' l' st', Ex ρ1 H1 ρ' H' ∧ LR X.K ρ' H' σ' l' ∧ SR X.K ρ' H' st' ∧ Post X.K ρ' H' (forD g cb w.same (w.ds.drop i) l' st') fun f _ ρ' H' => match f with
   | .next l' => ∀ σ', LR X.K ρ' H' σ' l' → G.nx σ' H'
   | .ret d => ∀ v, Rep X.K ρ' H' v d → G.rt v H'
   | .brk l' => ∀ σ', LR X.K ρ' H' σ' l' → G.bk σ' H'
   | .cnt l' => ∀ σ', LR X.K ρ' H' σ' l' → G.ct σ' H', ⟨w.ds.length, by simp, Nat.zero_le _, ρ1, l, st1, Ex.refl, lr.mono x1, s1, p1⟩, ?_⟩
  rintro i m σ2 H2 ⟨rfl, hi, ρ2, l2, st2, x2, lr2, s2, p2⟩
  by_cases hlt : i < w.ds.length
  ·have ed : w.ds.drop i = w.ds[i] :: w.ds.drop (i + 1) := List.drop_eq_getElem_cons hlt
   rw [ed] at p2
   unfold forD at p2
   obtain ⟨sm, p3⟩ := Post.chkS (Post.bnd p2) s2
   obtain ⟨_, go⟩ := hJ ρ2 H2 st2 x2 s2 sm
   obtain ⟨g1, g2⟩ := go i w.ds[i] (List.getElem?_eq_getElem hlt)
   refine .inr ⟨g1, fun σ3 H3 => ∃ ρ3 l3 st3, Ex ρ1 H1 ρ3 H3 ∧ LR X.K ρ3 H3 σ3 l3 ∧ SR X.K ρ3 H3 st3 ∧ Post X.K ρ3 H3 (forD g cb w.same (w.ds.drop (i + 1)) l3 st3) fun f _ ρ' H' => match f with
    | .next l' => ∀ σ', LR X.K ρ' H' σ' l' → G.nx σ' H'
    | .ret d => ∀ v, Rep X.K ρ' H' v d → G.rt v H'
    | .brk l' => ∀ σ', LR X.K ρ' H' σ' l' → G.bk σ' H'
    | .cnt l' => ∀ σ', LR X.K ρ' H' σ' l' → G.ct σ' H', fun σ3 H3 q => ⟨_, by ac_nf, rfl, hlt, q⟩, fun y H3 hy => ?_⟩
   obtain ⟨x3, s3, rv⟩ := g2 y H3 hy
   refine ⟨ρ2, l2, st2, _, lr2.mono x3, s3, rv, (Post.left x3 (Post.bnd p3)).imp fun l4 st4 ρ4 H4 x4 s4 p4 σ4 lr4 => ⟨ρ4, l4, st4, lr4, s4, (Post.bnd p4).imp fun f st5 ρ5 H5 x5 s5 p5 => ?_⟩⟩
   have x5' : Ex ρ1 H1 ρ5 H5 := (x2.trans x3).trans (x4.trans x5)
   cases f with
   | next l5 => exact fun σ5 lr5 => ⟨ρ5, l5, st5, x5', lr5, s5, p5⟩
   | cnt l5 => exact fun σ5 lr5 => ⟨ρ5, l5, st5, x5', lr5, s5, p5⟩
   | brk l5 => exact fun σ5 lr5 => p5.ret s5 σ5 lr5
   | ret d => exact fun v rv => p5.ret s5 v rv
  ·have e : i = w.ds.length := by ac_nf
   subst e
   rw [List.drop_length] at p2
   unfold forD at p2
   obtain ⟨sm, p3⟩ := Post.chkS (Post.bnd p2) s2
   obtain ⟨g1, _⟩ := hJ ρ2 H2 st2 x2 s2 sm
   exact .inl ⟨g1, p3.ret s2 σ2 lr2⟩⟩
end
end MM
namespace MM
open PySem PySem.Spec PyProof.Rows L2
section
variable {X : Cx} {a b c e tg : Expr} {es : List Expr} {pos : Pos} {fa fb fc : CE} {ca cb : CA} {ta tb : CT} {K : PySem.W.Frag} {ρ : List Addr} {H : Hp} {st : Sto} {x : Str} {p : Pos} {id T : String}
theorem Qe1 {n : Nat} {ix : List Nat} {σ : St} {l : Loc} (h : LR K ρ H σ l) : LR K ρ H (capV n ix σ) (capt n ix l) := by
 unfold capV capt
 refine ⟨by simp, fun i d e => ?_⟩
 have hi : n ≤ i := Nat.le_of_not_lt fun z => by
  rw [List.getElem?_append_left (by simpa using z), List.getElem?_replicate] at e
  split at e <;> cases e
 rw [List.getElem?_append_right (by simpa using hi), List.length_replicate, List.getElem?_map] at e
 cases q : ix[i - n]? with
 | none => rw [q] at e; cases e
 | some k =>
  rw [q] at e
  have hj : (l[k]?).join = some d := Option.some.inj e
  have hk : l[k]? = some (some d) := by
   cases z : l[k]? with
   | none => rw [z] at hj; cases hj
   | some o => rw [z] at hj; exact congrArg some hj
  obtain ⟨v, hv, rv⟩ := h.2 k d hk
  refine ⟨v, ?_, rv⟩
  rw [List.getElem?_append_right (by simpa using hi), List.length_replicate, List.getElem?_map, q]
  show some ((σ[k]?).join) = some (some v)
  rw [hv]; rfl
abbrev SIfs (X : Cx) (ifs : List Expr) (t : CT) : Prop := PIfs X ifs (ttOf X.K t)
theorem Qe2 : SIfs X [] tTrue := fun pins s σ H Q I h_ => h_.el fun ρ l st lr sr p => Qd0 pins s σ H Q I (p.ret sr)
theorem Qe3 (h : ST X c ta) : SIfs X [c] ta := Qd1 h
theorem Ex.own {ρ' : List Addr} {H' : Hp} {q : Addr} {ws : List V} (x : Ex ρ H ρ' H') (h : H q = none) : Ex ρ H ρ' (upd H' q (.lst ws)) := by
 have ne : ∀ b o, H b = some o → b ≠ q := fun b o e z => by rw [z, h] at e; cases e
 exact ⟨x.pre, fun b o no e => by rw [Qaj (ne b o e)]; exact x.fix b o no e, fun b xs nb e => by rw [Qaj (ne b _ e)]; exact x.oth b xs nb e, fun b o e => by rw [Qaj (ne b o e)]; exact x.knd b o e⟩
theorem Up.own {ρ' : List Addr} {H' : Hp} {q : Addr} {vs ws : List V} (h : H' q = some (.lst vs)) : Up ρ' H' ρ' (upd H' q (.lst ws)) :=
 ⟨⟨[], by simp⟩, fun b o no e => by rw [Qaj fun z => by subst z; rw [h] at e; cases e; exact nomatch no]; exact e,
  fun b o e => by
   by_cases z : b = q
   ·subst z; rw [h] at e; cases e; exact ⟨_, Qai, rfl⟩
   ·exact ⟨o, by rw [Qaj z]; exact e, rfl⟩⟩
theorem LR.up {ρ' : List Addr} {H' : Hp} {σ : St} {l : Loc} (x : Up ρ H ρ' H') (h : LR K ρ H σ l) : LR K ρ' H' σ l := ⟨h.1, fun i d e => let ⟨v, e1, r⟩ := h.2 i d e; ⟨v, e1, r.up x⟩⟩
theorem SR.own {q : Addr} {vs ws : List V} (s : SR K ρ H st) (h : H q = some (.lst vs)) (nq : q ∉ ρ) : SR K ρ (upd H q (.lst ws)) st :=
 ⟨s.len, s.nd, fun n b o e1 e2 => ObR.mono (o := o) (Up.own h) (s.ob n b o e1 e2) fun us e => by rw [Qaj (fun (z : b = q) => nq (by rw [← z]; exact List.mem_of_getElem? e1))]; exact e⟩
theorem Qe4 {ci : CI} {g : CG} {n : Nat} {ix : List Nat} : ∀ σ H Q, tlOf K (aComp n ix ci g ta fa) σ H Q → tComp (tiOf K ci) n ix (tgOf K g) (ttOf K ta) (tOf K fa) σ H Q := fun σ H Q h_ => h_.el fun ρ l st lr sr p =>
 ⟨ρ, l, st, lr, sr, p.bnd0.imp fun w st1 ρ1 H1 x1 s1 p1 J hJ q hq => by
  obtain ⟨hz, p2⟩ := Post.chk p1
  have hn : H q = none := by
   cases z : H q with
   | none => rfl
   | some o => exact absurd hq (x1.trk q o z)
  refine ⟨fun i m σ' H' => m = w.ds.length - i ∧ i ≤ w.ds.length ∧ ∃ ρ' l' st' done vs, Ex ρ H ρ' H' ∧ Ex ρ1 H1 ρ' H' ∧ LR K ρ' H' σ' l' ∧ SR K ρ' H' st' ∧ q ∉ ρ' ∧ H' q = some (.lst vs) ∧ Reps K ρ' H' vs done ∧ done.length ≤ i ∧
   Post K ρ H (collect g ta fa w.same (w.ds.drop i) l' st') (fun rest st2 ρ2 H2 => ∀ a ws, H a = none → a ∉ ρ2 → H2 a = some (.lst ws) → Reps K ρ2 H2 ws (done ++ rest) → Q (.ref a) H2),
   ⟨w.ds.length, by simp, Nat.zero_le _, ρ1, capt n ix l, st1, [], [], x1.trans (Ex.new hq), Ex.new hq, Qe1 ((lr.mono x1).mono (Ex.new hq)), s1.new hq, s1.fresh hq, Qai, .nil, Nat.zero_le _, p2⟩, ?_⟩
  rintro i m σ2 H2 ⟨rfl, hi, ρ2, l2, st2, done, vs, x2, y2, lr2, s2, nq, hv, rvs, hd, p3⟩
  by_cases hlt : i < w.ds.length
  ·have ed : w.ds.drop i = w.ds[i] :: w.ds.drop (i + 1) := List.drop_eq_getElem_cons hlt
   rw [ed] at p3
   unfold collect at p3
   obtain ⟨sm, p4⟩ := Post.chkS (p3.bnd0.left x2) s2
   obtain ⟨_, go⟩ := hJ ρ2 H2 st2 y2 s2 sm
   obtain ⟨g1, g2⟩ := go i w.ds[i] (List.getElem?_eq_getElem hlt)
   refine .inr ⟨g1, fun y H3 hy => ?_⟩
   obtain ⟨x3, s3, rv⟩ := g2 y H3 hy
   refine ⟨ρ2, l2, st2, _, lr2.mono x3, s3, rv, (p4.bnd0.left (x2.trans x3)).imp fun l4 st4 ρ4 H4 x4 s4 p5 σ4 lr4 => ⟨ρ4, l4, st4, lr4, s4, (p5.bnd0.left (x2.trans (x3.trans x4))).imp fun b st5 ρ5 H5 x5 s5 p6 => ?_⟩⟩
   have y5 : Ex ρ2 H2 ρ5 H5 := x3.trans (x4.trans x5)
   have out : ∀ {ρ' : List Addr} {H' : Hp}, Ex ρ2 H2 ρ' H' → q ∉ ρ' := fun z hm => by
    obtain ⟨τ, e, f⟩ := z.pre
    rw [e] at hm
    rcases List.mem_append.mp hm with hm | hm
    ·exact nq hm
    ·rw [f q hm] at hv; cases hv
   cases b with
   | false => exact ⟨_, by ac_nf, rfl, hlt, ρ5, l4, st5, done, vs, x2.trans y5, y2.trans y5, lr4.mono x5, s5, out y5, y5.lst q vs nq hv, rvs.mono y5, Nat.le_succ_of_le hd, p6⟩
   | true =>
    refine ⟨ρ5, l4, st5, lr4.mono x5, s5, (p6.bnd0.left (x2.trans y5)).imp fun d st6 ρ6 H6 x6 s6 p7 v rv6 => ?_⟩
    have y6 : Ex ρ2 H2 ρ6 H6 := y5.trans x6
    have hv6 := y6.lst q vs nq hv
    have u6 : Up ρ6 H6 ρ6 (upd H6 q (.lst (vs ++ [v]))) := Up.own hv6
    refine ⟨vs, hv6, ?_, _, by ac_nf, rfl, hlt, ρ6, l4, st6, done ++ [d], vs ++ [v], (x2.trans y6).own hn, (y2.trans y6).own hq, LR.up u6 ((lr4.mono x5).mono x6), s6.own hv6 (out y6), out y6, Qai,
     Reps.app ((rvs.mono y6).up u6) (.cons (rv6.up u6) .nil), by simp; ac_nf, ?_⟩
    ·have e1 := rvs.length
     have e2 : w.ds.length ≤ sizeLine := hz
     ac_nf
    ·refine p7.bnd0.imp fun rest st8 ρ8 H8 x8 s8 p8 a ws ha na hw rws => ?_
     exact p8 ρ8 H8 x8 s8 a ws ha na hw (by rw [List.append_cons]; exact rws)
  ·have e : i = w.ds.length := by ac_nf
   subst e
   rw [List.drop_length] at p3
   unfold collect at p3
   obtain ⟨sm, p4⟩ := Post.chkS (p3.bnd0.left x2) s2
   obtain ⟨g1, _⟩ := hJ ρ2 H2 st2 y2 s2 sm
   refine .inl ⟨g1, p4 ρ2 H2 x2 s2 q vs hn nq hv (by rw [List.append_nil]; exact rvs)⟩⟩
theorem Qe5 {scope : Scope} {N : List Str} {ifs : List Expr} {n : Nat} {ix : List Nat} {ci : CI} {g : CG} (hc : X.calm = true) (S : CompScope X scope) (T : CompNames X scope N n ix) (hi : SI X tg b ci)
  (blk : ∀ (fp : List Addr) (s : Shared) (H : Hp), SG (cxC X N scope fp s H) tg g ∧ SIfs (cxC X N scope fp s H) ifs ta ∧ SE (cxC X N scope fp s H) e fa)
  (hs : ∀ x, foldedSetIterable b X.env x = pure x := by intro _; rfl) : SL X (.ListComp e [⟨tg, b, ifs, 0⟩] scope pos) (aComp n ix ci g ta fa) := (Qd3 hc S T hi blk hs).of Qe4
theorem Qe6 {scope : Scope} {N : List Str} {ifs : List Expr} {n i : Nat} {ix : List Nat} {ci : CI} {g : CG} {y : Str} {pos' spos : Pos}
  (hN : X.N.Nodup) (hi' : X.N[i]? = some y) (hy : L2.Loc X.env.scope y) (hf : X.fn y = true ∨ X.env.scope.names.lookup y = some .local)
  (hc : X.calm = true) (S : CompScope X scope) (T : CompNames X scope N n ix) (hi : SI X tg b ci)
  (blk : ∀ (fp : List Addr) (s : Shared) (H : Hp), SG (cxC X N scope fp s H) tg g ∧ SIfs (cxC X N scope fp s H) ifs ta ∧ SE (cxC X N scope fp s H) e fa)
  (hsw : swapsWith (.ListComp e [⟨tg, b, ifs, 0⟩] scope pos) (some (.Name y pos')) spos.line X.env = pure true)
  (hs : ∀ x, foldedSetIterable b X.env x = pure x := by intro _; rfl) : SS X (.Assign [.Name y pos'] (.ListComp e [⟨tg, b, ifs, 0⟩] scope pos) spos) (sAsg (gVar i) (cKeep (aComp n ix ci g ta fa))) :=
 (Qd4 hN hi' hy hf hc S T hi blk hsw hs).of (QeM (fun σ H Q h_ => h_.el fun ρ l st lr sr p => Qe4 _ _ _ ⟨ρ, l, st, lr, sr, p.bnd0.imp fun ds st1 ρ1 H1 x1 s1 p1 a vs ha na hv rvs => by
  have x : Ex ρ H (ρ1 ++ [a]) H1 := by
   obtain ⟨τ, e, f⟩ := x1.pre
   refine ⟨⟨τ ++ [a], by rw [e, List.append_assoc], fun b hb => ?_⟩, x1.fix, x1.oth, x1.knd⟩
   rcases List.mem_append.mp hb with hb | hb
   ·exact f b hb
   ·rw [List.mem_singleton] at hb; rw [hb]; exact ha
  refine p1 (ρ1 ++ [a]) H1 x (s1.keep hv na rvs) _ (.ref ⟨_, hv, rfl⟩ ?_)
  rw [← s1.len]; simp⟩) QeN)
theorem Qe7 {g : D → M D} (hc : CallR X (.builtin id) (fun xs H Q => ∃ v, xs = [v] ∧ uOf X.K g v H Q)) (hg : Gl X x) (hm : X.mg x = none) (hv : bootBuiltins x = some (.builtin id)) (ha : SE X e fa) (hn : x ≠ "__name__" := by decide) (hdb : (x == ("__debug__" : Str)) = false := by decide)
  (he : starEach [e] X.env = [(false, eval e X.env)] := by rfl) : SE X (.Call (.Name x p) [e] [] pos) (c1 g fa) :=
 (QbW hc hg hm hv (QbK ha QbJ he) hn hdb he rfl).of fun σ H Q h_ => h_.el fun ρ l st lr sr p => ⟨ρ, l, st, lr, sr, p.bnd.imp fun d st1 ρ1 H1 x1 s1 p1 v rv => ⟨v, rfl, ρ1, st1, d, s1, rv, p1⟩⟩
theorem Qe8 {g : D → M D} (hc : CallR X (.type T) (fun xs H Q => ∃ v, xs = [v] ∧ uOf X.K g v H Q)) (hg : Gl X x) (hm : X.mg x = none) (hv : bootBuiltins x = some (.type T)) (ha : SE X e fa) (hn : x ≠ "__name__" := by decide) (hdb : (x == ("__debug__" : Str)) = false := by decide)
  (he : starEach [e] X.env = [(false, eval e X.env)] := by rfl) : SE X (.Call (.Name x p) [e] [] pos) (c1 g fa) :=
 (QbX hc hg hm hv (QbK ha QbJ he) hn hdb he rfl).of fun σ H Q h_ => h_.el fun ρ l st lr sr p => ⟨ρ, l, st, lr, sr, p.bnd.imp fun d st1 ρ1 H1 x1 s1 p1 v rv => ⟨v, rfl, ρ1, st1, d, s1, rv, p1⟩⟩
noncomputable def lOf (K : PySem.W.Frag) (g : List D → M D) : List V → Hp → VK → Prop := fun xs H Q => ∃ a vs ρ st ds, xs = [.ref a] ∧ SqL K H a vs ∧ SR K ρ H st ∧ Reps K ρ H vs ds ∧ Post K ρ H (g ds st) fun r _ ρ' H' => ∀ v, Rep K ρ' H' v r → Q v H'
theorem Qe9 {g : List D → M D} (hc : CallR X (.builtin id) (lOf X.K g)) (hg : Gl X x) (hm : X.mg x = none) (hv : bootBuiltins x = some (.builtin id)) (ha : SL X e ca) (hn : x ≠ "__name__" := by decide) (hdb : (x == ("__debug__" : Str)) = false := by decide)
  (he : starEach [e] X.env = [(false, eval e X.env)] := by rfl) : SE X (.Call (.Name x p) [e] [] pos) (cTmp g ca) :=
 (QbW hc hg hm hv (QbK ha QbJ he) hn hdb he rfl).of fun σ H Q h_ => h_.el fun ρ l st lr sr p => ⟨ρ, l, st, lr, sr, p.bnd.imp fun ds st1 ρ1 H1 x1 s1 p1 a vs ha na hv rvs => ⟨a, vs, ρ1, st1, ds, rfl, SqL.of hv, s1, rvs, p1⟩⟩
theorem Qfa {g : List D → M D} (hc : CallR X (.type T) (lOf X.K g)) (hg : Gl X x) (hm : X.mg x = none) (hv : bootBuiltins x = some (.type T)) (ha : SL X e ca) (hn : x ≠ "__name__" := by decide) (hdb : (x == ("__debug__" : Str)) = false := by decide)
  (he : starEach [e] X.env = [(false, eval e X.env)] := by rfl) : SE X (.Call (.Name x p) [e] [] pos) (cTmp g ca) :=
 (QbX hc hg hm hv (QbK ha QbJ he) hn hdb he rfl).of fun σ H Q h_ => h_.el fun ρ l st lr sr p => ⟨ρ, l, st, lr, sr, p.bnd.imp fun ds st1 ρ1 H1 x1 s1 p1 a vs ha na hv rvs => ⟨a, vs, ρ1, st1, ds, rfl, SqL.of hv, s1, rvs, p1⟩⟩
theorem Qfb {prog : Program} {w : World} {A : Around} {E : Value → Shared → Prop} {s : Shared} {K : Type} [DecidableEq K] {knd : HeapKind prog w K} {d : Addr} {xs : List (K × Addr × Value)} {Q : Value → Shared → Prop} (hd : (d == sysModules) = false) (hm : s.heap.DictOfH knd d xs) (hfit : (xs.length : Int) < 2 ^ 63)
  (h : Q (.int xs.length (s.toks + 1)) { s with toks := s.toks + 1 + 1 }) : wpAny (model prog w) A (call (.builtin "len") [.ref d]) Q E s := by
 refine Calls.call_function_entry kind_len plain_len entry_len (args_len1 _) ?_
 unfold Builtin.«len»
 have meet : MeetsIn prog w (Builtin.«dict.__len__» ⟨[.ref d], []⟩) (fun _ R s => ∃ xs, s.heap.DictOfH knd d xs ∧ R (.ok (.ret (.int xs.length s.toks))) { s with toks := s.toks + 1 }) := .of_wp fun A R s pq73 => by
  obtain ⟨xs, hm, h⟩ := pq73
  obtain ⟨o, es, ep, ho, hc, hdat, he, _, hn⟩ := hm
  show wpAny _ _ (dictSize d >>= _) _ _ s
  unfold dictSize
  refine wpAny_bind (wpAny_bind (wpAny_dictEntries ho hdat (wpAny_pure ?_)))
  show wpAny _ _ (Builtin.Dict.pendingCount d >>= _) _ _ s
  refine wpAny_bind (wpAny_pendingCount_other hd ?_)
  refine wpAny_ret_mkInt ?_
  rw [Nat.add_zero, size_of_entries he]; exact h
 refine wpAny_bind (m := oneArg "len" _) (wpAny_pure ?_)
 refine wpAny_bind (m := callSpecial? (.ref d) (Str.ofString "__len__")) (wpAny_callSpecial?_slot (name := Str.ofString "__len__") hm.typeIs F.slot_dict_len
  (call_meetsIn F.slot_dict_len hm.typeIs F.entry_dict_len (F.args_dict_len_1 _) meet ⟨xs, hm, ?_⟩))
 show wpAny _ _ _ _ _ { s with toks := s.toks + 1 }
 refine wpAny_bind (wpAny_holding (wpAny_pure ?_))
 refine wpAny_bind (wpAny_letGo ?_)
 show wpAny _ _ (if ((xs.length : Nat) : Int) < 0 then _ else _) _ _ _
 rw [if_neg (by ac_nf)]
 show wpAny _ _ (if ((xs.length : Nat) : Int) ≥ 2 ^ 63 then _ else _) _ _ _
 rw [if_neg (by ac_nf)]
 exact wpAny_bind (wpAny_mkInt (wpAny_pure ⟨_, rfl, h⟩))
theorem Qfc : CallR X (.builtin "len") (fun xs H Q => ∃ (ρ : List Addr) (st : Sto) (n : Nat) (a : Addr) (b : Bool) (kvs : List (D × D)), xs = [.ref a] ∧ SR X.K ρ H st ∧ ρ[n]? = some a ∧ st[n]? = some (.dct b kvs) ∧ Q (.int kvs.length) H) := by
 intro pins s σ H xs us Q I r pq124; obtain ⟨ρ, st, n, a, b, kvs, e, sr, ha, hn, q⟩ := pq124
 subst e
 obtain ⟨u, rfl, ru⟩ := QbA r
 cases ru
 have g := sr.ob n a _ ha hn
 cases b with
 | false =>
  obtain ⟨es, e, r⟩ := g
  rw [← KR.length r] at q
  exact Qc7 I (.inl e) fun t s' I' => ⟨.int es.length, H, I', ⟨t, rfl⟩, q⟩
 | true =>
  obtain ⟨es, e, r⟩ := g
  obtain ⟨z, hd, xs, rx, dd⟩ := QdD I e r
  rw [← NR.length r, Paired.length rx] at q
  have hz : xs.length ≤ sizeLine := by rw [← Paired.length rx]; exact z
  exact Qfb hd dd (by rw [sizeLine_eq] at hz; ac_nf) ⟨.int xs.length, H, I.tok _, ⟨_, rfl⟩, q⟩
theorem Qfd : CallR X (.builtin "len") (fun xs H Q => ∃ v, xs = [v] ∧ uOf X.K lenD v H Q) := ((Qcu.or Qcv).or Qfc).of fun xs H Q pq74 => by
 obtain ⟨v, e, ρ, st, d, sr, rv, p⟩ := pq74
 cases rv with
 | @tup a vs ds h r => exact .inl (.inl ⟨a, vs, e, .inr h, by rw [r.length]; exact p.ret sr _ (.int _)⟩)
 | @lit a vs ds h r => exact .inl (.inl ⟨a, vs, e, .inl h.seq, by rw [r.length]; exact p.ret sr _ (.int _)⟩)
 | @ref a n _ h =>
  obtain ⟨ds, e2, p1⟩ := Post.getL (Post.bnd p) sr
  obtain ⟨a', vs, ha, hv, r⟩ := sr.seq e2
  rw [h] at ha; cases ha
  exact .inl (.inl ⟨a, vs, e, .inl (SqL.of hv), by rw [r.length]; exact p1.ret sr _ (.int _)⟩)
 | str z => exact .inl (.inr ⟨z, e, (Post.chk p).1, (Post.chk p).2.ret sr _ (.int _)⟩)
 | @dic a n _ h =>
  obtain ⟨b, kvs, e2, p1⟩ := Post.getDc (Post.bnd p) sr
  exact .inr ⟨ρ, st, n, a, b, kvs, e, sr, h, e2, p1.ret sr _ (.int _)⟩
 | _ => exact p.elim
theorem Qfe : CallR X (.type "int") (fun xs H Q => ∃ v, xs = [v] ∧ uOf X.K intD v H Q) := QbD.of fun xs H Q pq75 => by
 obtain ⟨v, e, ρ, st, d, sr, rv, p⟩ := pq75
 cases rv with
 | int i => exact .inl ⟨i, e, p.ret sr _ (.int _)⟩
 | bl k => exact .inr ⟨k, e, p.ret sr _ (.int _)⟩
 | _ => exact p.elim
theorem Qff : CallR X (.type "tuple") (fun xs H Q => ∃ v, xs = [v] ∧ uOf X.K tupleD v H Q) := Qcx.of fun xs H Q pq76 => by
 obtain ⟨v, e, ρ, st, d, sr, rv, p⟩ := pq76
 cases rv with
 | @tup a vs ds h r => exact ⟨a, vs, e, .inr ⟨h, p.ret sr _ (.tup h r)⟩⟩
 | @lit a vs ds h r => exact ⟨a, vs, e, .inl ⟨h.seq, fun l hl => p ρ _ (Ex.new hl) (sr.new hl) _ (.tup (SqT.of Qai) (r.mono (Ex.new hl)))⟩⟩
 | @ref a n _ h =>
  obtain ⟨ds, e2, p1⟩ := Post.getL (Post.bnd p) sr
  obtain ⟨a', vs, ha, hv, r⟩ := sr.seq e2
  rw [h] at ha; cases ha
  exact ⟨a, vs, e, .inl ⟨SqL.of hv, fun l hl => p1 ρ _ (Ex.new hl) (sr.new hl) _ (.tup (SqT.of Qai) (r.mono (Ex.new hl)))⟩⟩
 | _ => exact p.elim
theorem Qfg : CallR X (.type "tuple") (lOf X.K tupL) := Qcx.of fun xs H Q pq77 =>
 by obtain ⟨a, vs, ρ, st, ds, e, hv, sr, r, p⟩ := pq77; exact ⟨a, vs, e, .inl ⟨hv, fun l hl => p ρ _ (Ex.new hl) (sr.new hl) _ (.tup (SqT.of Qai) (r.mono (Ex.new hl)))⟩⟩
end
end MM
namespace MM
open PySem PySem.Spec PyProof.Rows L2
section
variable {X : Cx} {a b c e tg : Expr} {es : List Expr} {pos : Pos} {fa fb fc : CE} {ca cb : CA} {ta tb : CT} {K : PySem.W.Frag} {ρ : List Addr} {H : Hp} {st : Sto} {x : Str} {p : Pos} {T : String}
theorem Qfh {ds : List D} {ns : List Int} {vs : List V} (h : numsL ds = some ns) (g : Reps K ρ H vs ds) : vs = ns.map V.int := by
 induction ds generalizing ns vs with
 | nil => cases g; cases h; rfl
 | cons d ds ih =>
  cases g with
  | cons r t =>
   cases r with
   | int i =>
    unfold numsL at h
    cases q : numsL ds with
    | none => rw [q] at h; cases h
    | some ms =>
     rw [q] at h
     have h' : i :: ms = _ := Option.some.inj h
     subst h'
     rw [ih q t]; rfl
   | _ => cases h
theorem Qfi : ∀ (ns : List Int) (n : Int), ns.foldl max n ∈ n :: ns ∧ ∀ a ∈ n :: ns, a ≤ ns.foldl max n
 | [], n => ⟨by simp, by simp⟩
 | m :: ns, n => by
  obtain ⟨h1, h2⟩ := Qfi ns (max n m)
  rw [List.foldl_cons]
  refine ⟨?_, fun a ha => ?_⟩
  ·rcases List.mem_cons.mp h1 with e | e
   ·rw [e]
    by_cases hm : n ≤ m
    ·rw [Int.max_eq_right hm]; simp
    ·rw [Int.max_eq_left (by ac_nf)]; simp
   ·exact List.mem_cons_of_mem _ (List.mem_cons_of_mem _ e)
  ·have hx := h2 (max n m) List.mem_cons_self
   rcases List.mem_cons.mp ha with e | e
   ·subst e; exact Int.le_trans (Int.le_max_left ..) hx
   ·rcases List.mem_cons.mp e with e | e
    ·subst e; exact Int.le_trans (Int.le_max_right ..) hx
    ·exact h2 a (List.mem_cons_of_mem _ e)
theorem Qfj {vs : List Value} {ns : List Int} (hi : IntsAre vs ns) : ∃ xs, vs.toArray = intItems xs ∧ ns = xs.toList.map (·.1) := by
 obtain ⟨xs, e⟩ := hi.allInts.items
 exact ⟨xs, e, by rw [← hi.numsOf, ← nums_intItems, ← e]⟩
theorem Qfk (hc : X.calm = true) : CallR X (.builtin "max") (fun xs H Q => ∃ (l : Addr) (n : Int) (ns : List Int), xs = [.ref l] ∧ SqL X.K H l ((n :: ns).map V.int) ∧ Q (.int (ns.foldl max n)) H) := by
 intro pins s σ H xs us Q I r h
 obtain ⟨l, n, ns, rfl, hq, q⟩ := h
 obtain ⟨u, rfl, rx⟩ := QbA r
 cases rx
 obtain ⟨its, rv, pl, hz⟩ := I.list hq
 obtain ⟨ys, e, en⟩ := Qfj (Qb5 rv)
 have hl := pl.isList
 rw [e] at hl
 have hsz : ys.size = ns.length + 1 := by have := congrArg List.length en; simpa using this.symm
 refine max_intList (I.ok.hd hc) hl (by ac_nf) fun v h' tk hv hk => ?_
 obtain ⟨t, rfl⟩ := intItems_at hv
 obtain ⟨b1, b2⟩ := argBest_gt (numAt ys) (ys.size - 1)
 obtain ⟨f1, f2⟩ := Qfi ns n
 generalize argBest (fun i j => decide (numAt ys i > numAt ys j)) (ys.size - 1) = k at b1 b2 ⊢
 have hin : numAt ys k ∈ n :: ns := by
  rw [en, numAt_eq]
  exact getD_mem (by rw [← en]; simp; ac_nf)
 have hge : ns.foldl max n ≤ numAt ys k := by
  rw [en] at f1
  obtain ⟨j, hj, ej⟩ := mem_getD f1
  rw [← ej, ← numAt_eq]
  exact b2 j (by rw [← en] at hj; simp at hj; ac_nf)
 have hM : numAt ys k = ns.foldl max n := Int.le_antisymm (f2 _ hin) hge
 rw [hM]
 exact ⟨.int _, H, I.kept (t' := tk) hk, ⟨t, rfl⟩, q⟩
theorem Qfl (hc : X.calm = true) : CallR X (.builtin "max") (lOf X.K maxD) := (Qfk hc).of fun xs H Q pq78 => by
 obtain ⟨a, vs, ρ, st, ds, e, hv, sr, r, p⟩ := pq78
 unfold maxD at p
 cases q : numsL ds with
 | none => rw [q] at p; exact p.elim
 | some ns =>
  rw [q] at p
  have := Qfh q r
  subst this
  cases ns with
  | nil => exact p.elim
  | cons n ns => exact ⟨a, n, ns, e, hv, p.ret sr _ (.int _)⟩
structure TyTab (T : String) : Prop where
 non : ∀ K, PySem.W.kitOne K (.type "NoneType") (.type T) = some (["NoneType"].contains T)
 bl : ∀ K, PySem.W.kitOne K (.type "bool") (.type T) = some (["bool", "int"].contains T)
 int : ∀ K, PySem.W.kitOne K (.type "int") (.type T) = some (["int"].contains T)
 str : ∀ K, PySem.W.kitOne K (.type "str") (.type T) = some (["str"].contains T)
 tup : ∀ K, PySem.W.kitOne K (.type "tuple") (.type T) = some (["tuple"].contains T)
 lst : ∀ K, PySem.W.kitOne K (.type "list") (.type T) = some (["list"].contains T)
theorem Qfm : TyTab "int" := ⟨fun _ => rfl, fun _ => rfl, fun _ => rfl, fun _ => rfl, fun _ => rfl, fun _ => rfl⟩
theorem Qfn : TyTab "bool" := ⟨fun _ => rfl, fun _ => rfl, fun _ => rfl, fun _ => rfl, fun _ => rfl, fun _ => rfl⟩
theorem Qfo : TyTab "tuple" := ⟨fun _ => rfl, fun _ => rfl, fun _ => rfl, fun _ => rfl, fun _ => rfl, fun _ => rfl⟩
theorem Qfp : TyTab "list" := ⟨fun _ => rfl, fun _ => rfl, fun _ => rfl, fun _ => rfl, fun _ => rfl, fun _ => rfl⟩
theorem Qfq {pins : List (Addr × Obj)} {σ : St} {s : Shared} {Q : Value → Shared → Prop} {t : String} {u : Addr} {k : Bool} (I : Inv X pins σ H s) (ht : ∃ o, s.heap.get? u = some o ∧ o.cls = .type t) (hx : t = "tuple" ∨ t = "list") (e : PySem.W.kitOne X.K (.type t) (.type T) = some k)
  (h : ∀ tk, Q (.bool k) { s with toks := tk }) : wpAny (model X.prog X.w) X.A (call (.builtin "isinstance") [.ref u, .type T]) Q X.xe s := by
 rcases hx with rfl | rfl
 ·exact PySem.W.kia_one PySem.W.kitx_tuple I.kIn ht e (fun z => nomatch z) h
 ·exact PySem.W.kia_one PySem.W.kitx_list I.kIn ht e (fun z => nomatch z) h
theorem Qfr (B : TyTab T) : CallR X (.builtin "isinstance") (fun xs H Q => ∃ v, xs = [v, .ty T] ∧ uOf X.K (isInst [T]) v H Q) := by
 intro pins s σ H xs us Q I r pq125; obtain ⟨v, e, ρ, st, d, sr, rv, p⟩ := pq125
 subst e
 obtain ⟨u, w', rfl, ru, rw'⟩ := QbB r
 have ew : w' = Value.type T := rw'
 subst ew
 have fin : ∀ k : Bool, Q (.bl k) H → ∀ tk, EP X pins σ Q (.bool k) { s with toks := tk } := fun k q tk => ⟨.bl k, H, I.tok tk, rfl, q⟩
 cases rv with
 | non =>
  refine QbG I ru .non (B.non _) (fin _ ?_)
  simpa [isInst, isTy] using p.ret sr _ (.bl _)
 | bl k =>
  refine QbG I ru (.bl k) (B.bl _) (fin _ ?_)
  simpa [isInst, isTy] using p.ret sr _ (.bl _)
 | int k =>
  refine QbG I ru (.int k) (B.int _) (fin _ ?_)
  simpa [isInst, isTy] using p.ret sr _ (.bl _)
 | str k =>
  refine QbG I ru (.str k) (B.str _) (fin _ ?_)
  simpa [isInst, isTy] using p.ret sr _ (.bl _)
 | tup h r =>
  have eu : u = Value.ref _ := ru
  subst eu
  obtain ⟨its, _, ⟨o, h1, h2, _⟩, _⟩ := I.tuple h
  refine Qfq I ⟨o, h1, h2⟩ (.inl rfl) (B.tup _) (fin _ ?_)
  simpa [isInst, isTy] using p.ret sr _ (.bl _)
 | lit h r =>
  have eu : u = Value.ref _ := ru
  subst eu
  obtain ⟨its, _, pl, _⟩ := I.list h.seq
  obtain ⟨o, h1, h2, _⟩ := pl.isList
  refine Qfq I ⟨o, h1, h2⟩ (.inr rfl) (B.lst _) (fin _ ?_)
  simpa [isInst, isTy] using p.ret sr _ (.bl _)
 | @ref a n kk h =>
  have eu : u = Value.ref _ := ru
  subst eu
  obtain ⟨vs, hv⟩ := Qdg kk
  obtain ⟨its, _, pl, _⟩ := I.list (SqL.of hv)
  obtain ⟨o, h1, h2, _⟩ := pl.isList
  refine Qfq I ⟨o, h1, h2⟩ (.inr rfl) (B.lst _) (fin _ ?_)
  simpa [isInst, isTy] using p.ret sr _ (.bl _)
 | dic _ _ => exact p.elim
theorem Qfs {y : Str} {p1 : Pos} (B : TyTab T) (hg : Gl X "isinstance") (hm : X.mg "isinstance" = none) (hgT : Gl X y) (hmT : X.mg y = none) (hvT : bootBuiltins y = some (.type T)) (ha : SE X e fa) (hv : bootBuiltins "isinstance" = some (.builtin "isinstance"))
  (hnT : y ≠ "__name__" := by decide) (hdT : (y == ("__debug__" : Str)) = false := by decide)
  (he : starEach [e, .Name y p1] X.env = (false, eval e X.env) :: starEach [.Name y p1] X.env := by rfl) (he2 : starEach [.Name y p1] X.env = (false, eval (.Name y p1) X.env) :: starEach [] X.env := by rfl) (hpl : (backTo pos (starEach [.Name y p1] X.env)).any (·.1) = false := by rfl) :
  SE X (.Call (.Name "isinstance" p) [e, .Name y p1] [] pos) (c1 (isInst [T]) fa) :=
 (QbW (Qfr B) hg hm hv (QbK ha (QbK (QaC (v := .ty T) hgT hmT hvT rfl hnT hdT) QbJ he2) he) (by decide) (by decide) he hpl).of fun σ H Q h_ => h_.el fun ρ l st lr sr p => ⟨ρ, l, st, lr, sr, p.bnd.imp fun d st1 ρ1 H1 x1 s1 p1 v rv => ⟨v, rfl, ρ1, st1, d, s1, rv, p1⟩⟩
end
end MM
namespace MM
open PySem PySem.Spec PyProof.Rows L2
section
variable {X : Cx} {K : PySem.W.Frag} {ρ : List Addr} {H : Hp} {st : Sto} {pins : List (Addr × Obj)} {σ : St} {s : Shared}
theorem Qft {f : D → D → Option Bool} : ∀ {xs ys : List D} {r : Bool}, allF f xs ys = some r → ∀ (j : Nat) (x y : D), xs[j]? = some x → ys[j]? = some y → ∃ k, f x y = some k
 | [], _, _, _, j, x, y, h, _ => by cases j <;> cases h
 | _ :: _, [], _, _, j, x, y, _, h => by cases j <;> cases h
 | a :: xs, b :: ys, r, h, j, x, y, hx, hy => by
  unfold allF at h
  cases e : f a b with
  | none => rw [e] at h; cases h
  | some k =>
   cases j with
   | zero => cases hx; cases hy; exact ⟨k, e⟩
   | succ j =>
    rw [e] at h
    have hx' : xs[j]? = some x := hx
    have hy' : ys[j]? = some y := hy
    cases k with
    | true => exact Qft h j x y hx' hy'
    | false =>
     cases e2 : allF f xs ys with
     | none => rw [e2] at h; cases h
     | some r' => exact Qft e2 j x y hx' hy'
noncomputable def itE (f : D → D → Option Bool) (xs ys : List D) (j : Nat) : Bool := match xs[j]?, ys[j]? with
 | some x, some y => (f x y).getD false
 | _, _ => true
theorem Qfu {f : D → D → Option Bool} : ∀ {xs ys : List D} {r : Bool}, allF f xs ys = some r → r = ((List.range (min xs.length ys.length)).all (itE f xs ys) && xs.length == ys.length)
 | [], [], _, h => by cases h; rfl
 | _ :: _, [], _, h => by cases h; simp
 | [], _ :: _, _, h => by cases h; simp
 | a :: xs, b :: ys, r, h => by
  have step : (List.range (min (a :: xs).length (b :: ys).length)).all (itE f (a :: xs) (b :: ys)) = ((f a b).getD false && (List.range (min xs.length ys.length)).all (itE f xs ys)) := by
   have e : min (a :: xs).length (b :: ys).length = min xs.length ys.length + 1 := by simp only [List.length_cons]; ac_nf
   rw [e, List.range_succ_eq_map, List.all_cons, List.all_map]
   rfl
  rw [step]
  unfold allF at h
  cases e : f a b with
  | none => rw [e] at h; cases h
  | some k =>
   rw [e] at h
   cases k with
   | true =>
    have := Qfu h
    simp only [Option.getD_some, Bool.true_and, List.length_cons]
    rw [this]
    congr 1
    rw [Bool.eq_iff_iff]; simp
   | false =>
    simp only [Option.getD_some, Bool.false_and]
    cases e2 : allF f xs ys with
    | none => rw [e2] at h; cases h
    | some r' => rw [e2] at h; cases h; rfl
theorem Vals.at {vs : List V} {us : List Value} {j : Nat} {u : Value} (r : Vals vs us) (h : us[j]? = some u) : ∃ v, vs[j]? = some v ∧ RelV v u := by
 have hl := r.length
 have hj : j < vs.length := by rw [hl]; exact (List.getElem?_eq_some_iff.mp h).1
 obtain ⟨u', e, ru⟩ := r.get (List.getElem?_eq_getElem hj)
 rw [h] at e; cases e
 exact ⟨_, List.getElem?_eq_getElem hj, ru⟩
theorem Reps.at {vs : List V} {ds : List D} {j : Nat} {v : V} (r : Reps K ρ H vs ds) (h : vs[j]? = some v) : ∃ d, ds[j]? = some d ∧ Rep K ρ H v d := by
 have hl := r.length
 have hj : j < ds.length := by rw [← hl]; exact (List.getElem?_eq_some_iff.mp h).1
 obtain ⟨v', e, rv⟩ := r.get (List.getElem?_eq_getElem hj)
 rw [h] at e; cases e
 exact ⟨_, List.getElem?_eq_getElem hj, rv⟩
theorem Qfv {g : List D → List D → Option Bool} {v : V} {d e : D} {r : Bool} (I : Inv X pins σ H s) (hg : ∀ xs ys vs k, Reps X.K ρ H vs xs → Reps X.K ρ H vs ys → g xs ys = some k → k = true) (h : eqS g d e = some r) (r1 : Rep X.K ρ H v d) (r2 : Rep X.K ρ H v e) : r = true := by
 cases r1 with
 | non => cases r2; cases h; rfl
 | bl b => cases r2; cases h; simp
 | int b => cases r2; cases h; simp
 | str b => cases r2; cases h; simp
 | tup h1 q1 =>
  cases r2 with
  | tup h2 q2 =>
   have := I.tuple_inj h1 h2
   subst this
   exact hg _ _ _ _ q1 q2 h
  | _ => cases h
 | lit _ _ => cases r2 <;> cases h
 | ref _ _ => cases r2 <;> cases h
 | dic _ _ => cases r2 <;> cases h
theorem Qfw {f : D → D → Option Bool} (hf : ∀ v d e k, Rep K ρ H v d → Rep K ρ H v e → f d e = some k → k = true) {xs ys : List D} {vs : List V} {k : Bool} (h1 : Reps K ρ H vs xs) (h2 : Reps K ρ H vs ys) (h : allF f xs ys = some k) : k = true := by
 induction xs generalizing ys vs k with
 | nil => cases h1; cases h2; cases h; rfl
 | cons x xs ih =>
  cases h1 with
  | cons a b => cases h2 with
   | cons c d =>
    unfold allF at h
    cases e : f _ _ with
    | none => rw [e] at h; cases h
    | some k =>
     rw [e] at h
     have := hf _ _ _ _ a c e
     subst this
     exact ih b d h
theorem Qfx (I : Inv X pins σ H s) : ∀ (n : Nat) {v : V} {d e : D} {r : Bool}, eqF n d e = some r → Rep X.K ρ H v d → Rep X.K ρ H v e → r = true
 | 0, _, _, _, _, h, r1, r2 => Qfv I (fun _ _ _ _ _ _ z => by cases z) h r1 r2
 | n + 1, _, _, _, _, h, r1, r2 => Qfv I (fun xs ys vs k q1 q2 z => Qfw (fun v d e k a b c => Qfx I n c a b) q1 q2 z) h r1 r2
open SeqAt in
theorem Qfy {g : List D → List D → Option Bool} {A : Around} {v w : V} {u1 u2 : Value} {d e : D} {r : Bool} (I : Inv X pins σ H s) (hu : A.units < cLine)
  (hg : ∀ xs ys k, g xs ys = some k → ∀ vs ws its its2, Reps X.K ρ H vs xs → Reps X.K ρ H ws ys → Vals vs its → Vals ws its2 →
   ∃ e : Nat → Bool, k = ((List.range (min its.length its2.length)).all e && its.length == its2.length) ∧ ∀ (j : Nat) x y, its[j]? = some x → its2[j]? = some y → EqAt A.in1 s x y (e j))
  (hs : ∀ xs ys vs k, Reps X.K ρ H vs xs → Reps X.K ρ H vs ys → g xs ys = some k → k = true)
  (h : eqS g d e = some r) (r1 : Rep X.K ρ H v d) (r2 : Rep X.K ρ H w e) (v1 : RelV v u1) (v2 : RelV w u2) : RcAt A s u1 u2 r ∧ RcNeAt A s u1 u2 (!r) ∧ EqAt A s u1 u2 r := by
 cases r1 with
 | lit _ _ => cases r2 <;> cases h
 | ref _ _ => cases r2 <;> cases h
 | dic _ _ => cases r2 <;> cases h
 | non =>
  cases (show u1 = Value.none from v1)
  cases r2 with
  | non => cases (show u2 = Value.none from v2); cases h; exact ⟨.none_none, .none_none, .same _⟩
  | bl b => cases (show u2 = Value.bool b from v2); cases h; exact ⟨.none_bool b, .none_bool b, .none_bool b⟩
  | int b => obtain ⟨t, rfl⟩ := (show ∃ t, u2 = Value.int b t from v2); cases h; exact ⟨.none_int b t, .none_int b t, .none_int b t⟩
  | str b => obtain ⟨t, rfl⟩ := (show ∃ t, u2 = Value.str b t from v2); cases h; exact ⟨.none_str b t, .none_str b t, .none_str b t⟩
  | tup h2 q2 => cases (show u2 = Value.ref _ from v2); cases h; obtain ⟨_, _, p, _⟩ := I.tuple h2; exact ⟨.none_tuple p hu, .none_tuple p hu, .none_tuple p hu⟩
  | _ => cases h
 | bl a =>
  cases (show u1 = Value.bool a from v1)
  cases r2 with
  | non => cases (show u2 = Value.none from v2); cases h; exact ⟨.bool_none a, .bool_none a, .bool_none a⟩
  | bl b => cases (show u2 = Value.bool b from v2); cases h; exact ⟨.bool_bool a b, .bool_bool a b, .bool_bool a b⟩
  | int b => obtain ⟨t, rfl⟩ := (show ∃ t, u2 = Value.int b t from v2); cases h; exact ⟨.bool_int a b t, .bool_int a b t, .bool_int a b t⟩
  | str b => obtain ⟨t, rfl⟩ := (show ∃ t, u2 = Value.str b t from v2); cases h; exact ⟨.bool_str a b t, .bool_str a b t, .bool_str a b t⟩
  | tup h2 q2 => cases (show u2 = Value.ref _ from v2); cases h; obtain ⟨_, _, p, _⟩ := I.tuple h2; exact ⟨.bool_tuple a p hu, .bool_tuple a p hu, .bool_tuple a p hu⟩
  | _ => cases h
 | int a =>
  obtain ⟨t1, rfl⟩ := (show ∃ t, u1 = Value.int a t from v1)
  cases r2 with
  | non => cases (show u2 = Value.none from v2); cases h; exact ⟨.int_none a t1, .int_none a t1, .int_none a t1⟩
  | bl b => cases (show u2 = Value.bool b from v2); cases h; exact ⟨.int_bool a t1 b, .int_bool a t1 b, .int_bool a t1 b⟩
  | int b => obtain ⟨t, rfl⟩ := (show ∃ t, u2 = Value.int b t from v2); cases h; exact ⟨.int_int a t1 b t, .int_int a t1 b t, .int_int a t1 b t⟩
  | str b => obtain ⟨t, rfl⟩ := (show ∃ t, u2 = Value.str b t from v2); cases h; exact ⟨.int_str a t1 b t, .int_str a t1 b t, .int_str a t1 b t⟩
  | tup h2 q2 => cases (show u2 = Value.ref _ from v2); cases h; obtain ⟨_, _, p, _⟩ := I.tuple h2; exact ⟨.int_tuple a t1 p hu, .int_tuple a t1 p hu, .int_tuple a t1 p hu⟩
  | _ => cases h
 | str a =>
  obtain ⟨t1, rfl⟩ := (show ∃ t, u1 = Value.str a t from v1)
  cases r2 with
  | non => cases (show u2 = Value.none from v2); cases h; exact ⟨.str_none a t1, .str_none a t1, .str_none a t1⟩
  | bl b => cases (show u2 = Value.bool b from v2); cases h; exact ⟨.str_bool a t1 b, .str_bool a t1 b, .str_bool a t1 b⟩
  | int b => obtain ⟨t, rfl⟩ := (show ∃ t, u2 = Value.int b t from v2); cases h; exact ⟨.str_int a t1 b t, .str_int a t1 b t, .str_int a t1 b t⟩
  | str b => obtain ⟨t, rfl⟩ := (show ∃ t, u2 = Value.str b t from v2); cases h; exact ⟨.str_str a t1 b t, .str_str a t1 b t, .str_str a t1 b t⟩
  | tup h2 q2 => cases (show u2 = Value.ref _ from v2); cases h; obtain ⟨_, _, p, _⟩ := I.tuple h2; exact ⟨.str_tuple a t1 p hu, .str_tuple a t1 p hu, .str_tuple a t1 p hu⟩
  | _ => cases h
 | @tup l1 vs xs h1 q1 =>
  cases (show u1 = Value.ref _ from v1)
  obtain ⟨its, rv, p, _⟩ := I.tuple h1
  cases r2 with
  | non => cases (show u2 = Value.none from v2); cases h; exact ⟨.tuple_none p hu, .tuple_none p hu, .tuple_none p hu⟩
  | bl b => cases (show u2 = Value.bool b from v2); cases h; exact ⟨.tuple_bool b p hu, .tuple_bool b p hu, .tuple_bool b p hu⟩
  | int b => obtain ⟨t, rfl⟩ := (show ∃ t, u2 = Value.int b t from v2); cases h; exact ⟨.tuple_int b t p hu, .tuple_int b t p hu, .tuple_int b t p hu⟩
  | str b => obtain ⟨t, rfl⟩ := (show ∃ t, u2 = Value.str b t from v2); cases h; exact ⟨.tuple_str b t p hu, .tuple_str b t p hu, .tuple_str b t p hu⟩
  | @tup l2 ws ys h2 q2 =>
   cases (show u2 = Value.ref _ from v2)
   obtain ⟨its2, rw', p2, _⟩ := I.tuple h2
   obtain ⟨ef, ek, he⟩ := hg xs ys r h vs ws its its2 q1 q2 rv rw'
   have hit : ∀ j (a1 : j < its.toArray.size) (a2 : j < its2.toArray.size), EqAt A.in1 s its.toArray[j] its2.toArray[j] (ef j) := fun j a1 a2 =>
    he j _ _ (by rw [List.getElem_toArray]; exact List.getElem?_eq_getElem (by simpa using a1)) (by rw [List.getElem_toArray]; exact List.getElem?_eq_getElem (by simpa using a2))
   have k1 := RcAt.tuples (A := A) (s := s) p p2 hu hit
   have k2 := RcNeAt.tuples (A := A) (s := s) p p2 hu hit
   simp only [List.size_toArray] at k1 k2
   rw [← ek] at k1 k2
   refine ⟨k1, k2, ?_⟩
   by_cases hl : l1 = l2
   ·subst hl
    have := I.tuple_inj h1 h2
    subst this
    rw [hs xs ys vs r q1 q2 h]
    exact .same _
   ·exact .of_refs hl k1
  | _ => cases h
open SeqAt in
theorem Qfz {n : Nat} {A : Around} (I : Inv X pins σ H s)
  (ih : ∀ {v w : V} {u1 u2 : Value} {d e : D} {r : Bool}, eqF n d e = some r → Rep X.K ρ H v d → Rep X.K ρ H w e → RelV v u1 → RelV w u2 → EqAt A s u1 u2 r)
  {xs ys : List D} {k : Bool} (h : allF (eqF n) xs ys = some k) {vs ws : List V} {its its2 : List Value} (q1 : Reps X.K ρ H vs xs) (q2 : Reps X.K ρ H ws ys) (rv : Vals vs its) (rw' : Vals ws its2) :
  ∃ e : Nat → Bool, k = ((List.range (min its.length its2.length)).all e && its.length == its2.length) ∧ ∀ (j : Nat) x y, its[j]? = some x → its2[j]? = some y → EqAt A s x y (e j) := by
 refine ⟨itE (eqF n) xs ys, ?_, fun j x y hx hy => ?_⟩
 ·have l1 := rv.length
  have l2 := rw'.length
  have l3 := q1.length
  have l4 := q2.length
  rw [← l1, ← l2, l3, l4]
  exact Qfu h
 ·obtain ⟨v, hv, ru⟩ := Vals.at rv hx
  obtain ⟨w, hw, rw2⟩ := Vals.at rw' hy
  obtain ⟨d, hd, rd⟩ := Reps.at q1 hv
  obtain ⟨e, he, re⟩ := Reps.at q2 hw
  obtain ⟨r, hr⟩ := Qft h j d e hd he
  have : itE (eqF n) xs ys j = r := by unfold itE; rw [hd, he]; dsimp only; rw [hr]; rfl
  rw [this]
  exact ih hr rd re ru rw2
open SeqAt in
theorem QfA (I : Inv X pins σ H s) : ∀ (n : Nat) {A : Around} {v w : V} {u1 u2 : Value} {d e : D} {r : Bool}, A.units + n < cLine → eqF n d e = some r → Rep X.K ρ H v d → Rep X.K ρ H w e → RelV v u1 → RelV w u2 → RcAt A s u1 u2 r ∧ RcNeAt A s u1 u2 (!r) ∧ EqAt A s u1 u2 r
 | 0, _, _, _, _, _, _, _, _, hu, h, r1, r2, v1, v2 => Qfy I hu (fun _ _ _ z => by cases z) (fun _ _ _ _ _ _ z => by cases z) h r1 r2 v1 v2
 | n + 1, A, _, _, _, _, _, _, _, hu, h, r1, r2, v1, v2 => Qfy I (by ac_nf)
   (fun xs ys k z vs ws its its2 q1 q2 rv rw' => Qfz I (fun h r1 r2 v1 v2 => (QfA I n (A := A.in1) (by show A.units + 1 + n < cLine; ac_nf) h r1 r2 v1 v2).2.2) z q1 q2 rv rw')
   (fun xs ys vs k q1 q2 z => Qfw (fun v d e k a b c => Qfx I n c a b) q1 q2 z) h r1 r2 v1 v2
end
end MM
namespace MM
open PySem PySem.Spec PyProof.Rows L2
section
variable {X : Cx} {K : PySem.W.Frag} {ρ : List Addr} {H : Hp} {st : Sto} {pins : List (Addr × Obj)} {σ : St} {s : Shared}
open SeqAt in
theorem QfB (hu : X.A.units + 60 < cLine) (I : Inv X pins σ H s) (sr : SR X.K ρ H st) {d e : D} {x y : V} {v u : Value} {R : Bool → Sto → List Addr → Hp → Prop} (r1 : Rep X.K ρ H x d) (r2 : Rep X.K ρ H y e) (rx : RelV x v) (ry : RelV y u)
  (p : Post X.K ρ H (eqB d e st) R) : ∃ r, R r st ρ H ∧ RcAt X.A s v u r ∧ RcNeAt X.A s v u (!r) := by
 have hu' : X.A.units < cLine := by ac_nf
 have gen : Post X.K ρ H ((match eqF 50 d e with | some r => ret r | none => bad : M Bool) st) R → ∃ r, R r st ρ H ∧ RcAt X.A s v u r ∧ RcNeAt X.A s v u (!r) := fun q => by
  cases h : eqF 50 d e with
  | none => rw [h] at q; exact q.elim
  | some r =>
   rw [h] at q
   obtain ⟨k1, k2, _⟩ := QfA I 50 (A := X.A) (by ac_nf) h r1 r2 rx ry
   exact ⟨r, q.ret sr, k1, k2⟩
 cases r1 with
 | non =>
  cases r2 with
  | @ref a n _ h =>
   obtain ⟨ds, e2, p1⟩ := Post.getL (Post.bnd p) sr
   obtain ⟨a', vs, ha, hv, r⟩ := sr.seq e2
   rw [h] at ha; cases ha
   cases (show v = Value.none from rx)
   cases (show u = Value.ref a from ry)
   obtain ⟨_, _, pl, _⟩ := I.list (SqL.of hv)
   exact ⟨false, p1.ret sr, .none_list pl.isList hu', .none_list pl.isList hu'⟩
  | _ => exact gen p
 | @ref a n _ h =>
  cases r2 with
  | non =>
   obtain ⟨ds, e2, p1⟩ := Post.getL (Post.bnd p) sr
   obtain ⟨a', vs, ha, hv, r⟩ := sr.seq e2
   rw [h] at ha; cases ha
   cases (show u = Value.none from ry)
   cases (show v = Value.ref a from rx)
   obtain ⟨_, _, pl, _⟩ := I.list (SqL.of hv)
   exact ⟨false, p1.ret sr, .list_none pl.isList hu', .list_none pl.isList hu'⟩
  | @ref b m _ h' =>
   obtain ⟨xs, e2, p1⟩ := Post.getL (Post.bnd p) sr
   obtain ⟨ys, e3, p2⟩ := Post.getL (Post.bnd p1) sr
   obtain ⟨a', vs, ha, hv, q1⟩ := sr.seq e2
   obtain ⟨b', ws, hb, hw, q2⟩ := sr.seq e3
   rw [h] at ha; cases ha
   rw [h'] at hb; cases hb
   cases (show v = Value.ref a from rx)
   cases (show u = Value.ref b from ry)
   obtain ⟨its, rv, pl, _⟩ := I.list (SqL.of hv)
   obtain ⟨its2, rw', pl2, _⟩ := I.list (SqL.of hw)
   have l1 := rv.length
   have l2 := rw'.length
   have l3 := q1.length
   have l4 := q2.length
   by_cases hl : xs.length = ys.length
   ·rw [if_pos hl] at p2
    cases h2 : allF (eqF 50) xs ys with
    | none => rw [h2] at p2; exact p2.elim
    | some r =>
     rw [h2] at p2
     obtain ⟨ef, ek, he⟩ := Qfz (A := X.A.in1) I (fun h r1 r2 v1 v2 => (QfA I 50 (A := X.A.in1) (by show X.A.units + 1 + 50 < cLine; ac_nf) h r1 r2 v1 v2).2.2) h2 q1 q2 rv rw'
     have hsz : its.toArray.size = its2.toArray.size := by rw [List.size_toArray, List.size_toArray]; ac_nf
     have hit : ∀ j (a1 : j < its.toArray.size) (a2 : j < its2.toArray.size), EqAt X.A.in1 s its.toArray[j] its2.toArray[j] (ef j) := fun j a1 a2 =>
      he j _ _ (by rw [List.getElem_toArray]; exact List.getElem?_eq_getElem (by simpa using a1)) (by rw [List.getElem_toArray]; exact List.getElem?_eq_getElem (by simpa using a2))
     have ek2 : (List.range its.toArray.size).all ef = r := by
      rw [ek, List.size_toArray]
      have : its.length = its2.length := by ac_nf
      rw [this]; simp
     have k1 := RcAt.lists (A := X.A) (s := s) pl.isList pl2.isList hsz hu' hit
     have k2 := RcNeAt.lists (A := X.A) (s := s) pl.isList pl2.isList hsz hu' hit
     rw [ek2] at k1 k2
     exact ⟨r, p2.ret sr, k1, k2⟩
   ·rw [if_neg hl] at p2
    have hne : (its.toArray.size != its2.toArray.size) = true := by
     rw [List.size_toArray, List.size_toArray]
     simp
     ac_nf
    exact ⟨false, p2.ret sr, .lists_lengths pl.isList pl2.isList hne hu', .lists_lengths pl.isList pl2.isList hne hu'⟩
  | _ => exact gen p
 | _ => cases r2 <;> exact gen p
theorem QfC (hu : X.A.units + 60 < cLine) : OpR X (compareOp .Eq) (rOf X.K eqD) := by
 intro pins s σ H x y v u Q I rx ry pq126; obtain ⟨ρ, st, d, e, sr, r1, r2, p⟩ := pq126
 obtain ⟨r, q, k1, _⟩ := QfB hu I sr r1 r2 rx ry p.bnd
 exact k1 _ _ _ _ ⟨.bl r, H, I, rfl, q.ret sr _ (.bl _)⟩
theorem QfD (hu : X.A.units + 60 < cLine) : OpR X (compareOp .NotEq) (rOf X.K neD) := by
 intro pins s σ H x y v u Q I rx ry pq127; obtain ⟨ρ, st, d, e, sr, r1, r2, p⟩ := pq127
 obtain ⟨r, q, _, k2⟩ := QfB hu I sr r1 r2 rx ry p.bnd
 exact k2 _ _ _ _ ⟨.bl (!r), H, I, rfl, q.ret sr _ (.bl _)⟩
end
section
variable {X : Cx} {a b c e o tg : Expr} {es : List Expr} {pos apos cpos : Pos} {fa fb fc : CE} {ca cb : CA} {ta tb : CT} {K : PySem.W.Frag} {ρ : List Addr} {H : Hp} {st : Sto} {x : Str} {p : Pos} {T : String}
theorem QfE (ho : SE X o fa) (ha : SE X e fb) (hbase : attributeBase o "append" X.env (eval o X.env) = eval o X.env := by rfl)
  (hfew : ((backTo cpos (starEach [e] X.env)).all (fun x => !x.1) && (backToKw cpos (keywordEach [] X.env)).all (fun x => x.1.isSome)
   && decide ([e].length + ([] : List Keyword).length + (if ([] : List Keyword).isEmpty then 0 else 1) < 30)) = true := by rfl)
  (hline : (apos.endLine == cpos.line) = true := by rfl) (hs : starEach [e] X.env = (false, eval e X.env) :: starEach [] X.env := by rfl) (hplain : (backTo cpos (starEach [] X.env)).any (·.1) = false := by rfl) :
  SE X (.Call (.Attribute o "append" apos) [e] [] cpos) (cAppend fa fb) :=
 (QcA PySem.F.plainAttrs_list PySem.F.slot_list_append PySem.F.type_list_append QcD ho (QbK ha QbJ hs) hbase hfew hline hs hplain).of fun σ H Q h_ => h_.el fun ρ l st lr sr p => ⟨ρ, l, st, lr, sr, p.bnd.imp fun d st1 ρ1 H1 x1 s1 p1 v rv => by
  cases rv with
  | @ref a n kk h =>
   have hl : n < st1.length := by rw [← s1.len]; exact (List.getElem?_eq_some_iff.mp h).1
   obtain ⟨vs0, hv0⟩ := Qdg kk
   refine ⟨.inl ⟨rfl, vs0, SqL.of hv0⟩, ρ1, l, st1, lr.mono x1, s1, (Post.bnd p1).imp fun y st2 ρ2 H2 x2 s2 p2 w rw' => ?_⟩
   have h2 : ρ2[n]? = some a := by
    obtain ⟨τ, e, _⟩ := x2.pre
    rw [e]; exact Qde h
   obtain ⟨ds, e2, p3⟩ := Post.getL (Post.bnd p2) s2
   obtain ⟨a', vs, ha, hv, r⟩ := s2.seq e2
   rw [h2] at ha; cases ha
   obtain ⟨hz, p4⟩ := Post.chk p3
   obtain ⟨s3, x3⟩ := s2.put (List.getElem?_eq_some_iff.mp e2).1 h2 hv (Reps.app r (.cons rw' .nil))
   have p5 := Post.bnd p4
   unfold putL at p5
   rw [e2] at p5
   exact ⟨a, vs, w, rfl, rfl, hv, by rw [r.length]; exact hz, (p5 ρ2 _ x3 s3).ret s3 _ .non⟩
  | _ => exact p1.elim⟩
theorem QfF : OpR X (binaryOp .Add) (rOf X.K addD) := by
 intro pins s σ H x y v u Q I rx ry pq128; obtain ⟨ρ, st, d, e, sr, r1, r2, p⟩ := pq128
 cases r1 with
 | int i =>
  cases r2 with
  | int j => exact Qbe pins s σ H _ _ v u Q I rx ry ⟨i, j, rfl, rfl, p.ret sr _ (.int _)⟩
  | _ => exact p.elim
 | str i =>
  cases r2 with
  | str j => exact Qbz pins s σ H _ _ v u Q I rx ry ⟨i, j, rfl, rfl, (Post.chk p).1, (Post.chk p).2.ret sr _ (.str _)⟩
  | _ => exact p.elim
 | ref _ h =>
  cases r2 with
  | ref _ h' =>
   obtain ⟨xs, e2, p1⟩ := Post.getL (Post.bnd p) sr
   obtain ⟨ys, e3, p2⟩ := Post.getL (Post.bnd p1) sr
   obtain ⟨a', vs, ha, hv, q1⟩ := sr.seq e2
   obtain ⟨b', ws, hb, hw, q2⟩ := sr.seq e3
   rw [h] at ha; cases ha
   rw [h'] at hb; cases hb
   obtain ⟨hz, p3⟩ := Post.chk p2
   refine QcG pins s σ H _ _ v u Q I rx ry ⟨_, _, vs, ws, rfl, rfl, hv, hw, by rw [q1.length, q2.length]; exact hz, fun q hq => ?_⟩
   have nq := sr.fresh hq
   have x1 : Ex ρ H (ρ ++ [q]) (upd H q (.lst (vs ++ ws))) := Ex.newL hq
   refine p3 _ _ x1 ((sr.new hq).keep Qai nq ((Reps.app q1 q2).mono (Ex.new hq))) _ (.ref ⟨_, Qai, rfl⟩ ?_)
   rw [← sr.len]; simp
  | _ => exact p.elim
 | tup h1 q1 =>
  cases r2 with
  | tup h2 q2 =>
   obtain ⟨hz, p2⟩ := Post.chk p
   rename_i a1 vs xs b1 ws ys
   by_cases hx : vs = []
   ·subst hx
    cases q1
    obtain ⟨its, v1, ht, _⟩ := I.tuple h1
    obtain ⟨its2, v2, hb, _⟩ := I.tuple h2
    cases v1
    have ev : v = Value.ref a1 := rx
    have eu : u = Value.ref b1 := ry
    subst ev eu
    obtain ⟨⟨cls, dd, data, sl⟩, ho, hc, n, hd⟩ := ht
    obtain ⟨⟨cls2, dd2, data2, sl2⟩, ho2, hc2, n2, hd2⟩ := hb
    simp only at hc hd hc2 hd2
    subst hc hd hc2 hd2
    refine concat_meets (E := X.xe) ⟨_, ho, rfl⟩ ⟨_, ho2, rfl⟩ noFill_tuple_add seq_tuple_add PySem.F.slot_tuple_add PySem.F.entry_tuple_add (PySem.F.args_tuple_add_2 _ _) (tuple_addW0 a1 b1 _ _ n n2 dd dd2 sl sl2 (by simp)) ⟨ho, ho2, ?_⟩
    exact ⟨.ref b1, H, I, rfl, p2.ret sr _ (.tup h2 q2)⟩
   ·refine Qcb pins s σ H _ _ v u Q I rx ry ⟨_, _, vs, ws, rfl, rfl, h1, h2, hx, by rw [q1.length, q2.length]; exact hz, fun he => ?_, fun _ q hq => ?_⟩
    ·subst he
     cases q2
     rw [List.append_nil] at p2
     exact p2.ret sr _ (.tup h1 q1)
    ·exact p2 _ _ (Ex.new hq) (sr.new hq) _ (.tup (SqT.of Qai) ((Reps.app q1 q2).mono (Ex.new hq)))
  | _ => exact p.elim
 | _ => cases r2 <;> exact p.elim
theorem _root_.L2.SlR.of {r r' : V → Option Int → Option Int → Hp → VK → Prop} (h : SlR X r) (g : ∀ x lo hi H Q, r' x lo hi H Q → r x lo hi H Q) : SlR X r' := fun pins s σ H x v vl vu lo hi sl Q I rx hs pl pu q => h pins s σ H x v vl vu lo hi sl Q I rx hs pl pu (g x lo hi H Q q)
noncomputable def toOf (K : PySem.W.Frag) (f : CO) : TO := fun σ H Q => ∃ ρ l st, LR K ρ H σ l ∧ SR K ρ H st ∧ Post K ρ H (f l st) fun o _ _ H' => Q o H'
abbrev SO (X : Cx) (e : Option Expr) (f : CO) : Prop := PO X e (toOf X.K f)
theorem QfG : SO X none oNone := fun pins s σ H Q I h_ => h_.el fun ρ l st lr sr p => Qb6 pins s σ H Q I (p.ret sr)
theorem QfH (h : SE X e fa) : SO X (some e) (oSome fa) := fun pins s σ H Q I h_ => h_.el fun ρ l st lr sr p => Qb7 h pins s σ H Q I ⟨ρ, l, st, lr, sr, p.bnd.imp fun d st1 ρ1 H1 x1 s1 p1 v rv => by
 cases rv with
 | int i => exact ⟨i, rfl, p1.ret s1⟩
 | _ => exact p1.elim⟩
theorem Reps.cut {vs : List V} {ds : List D} (r : Reps K ρ H vs ds) (lo hi : Option Int) : Reps K ρ H (cutV vs lo hi) (cutD ds lo hi) := by
 unfold cutV cutD
 have e : ∀ n d o, HT.sIx n d o = MM.sIx n d o := fun n d o => by cases o <;> rfl
 rw [e, e, r.length]
 exact (r.drop _).take _
theorem QfI {lo hi : Option Expr} {fl fh : CO} {p2 : Pos} (h : SE X e fa) (hl : SO X lo fl) (hh : SO X hi fh) : SL X (.Subscript e (.Slice lo hi none p2) pos) (aSlice fa fl fh) :=
 (Qb8 Qcn h hl hh).of fun σ H Q h_ => h_.el fun ρ l st lr sr p => ⟨ρ, l, st, lr, sr, p.bnd0.imp fun d st1 ρ1 H1 x1 s1 p1 v rv => ⟨ρ1, l, st1, lr.mono x1, s1, (p1.bnd0.left x1).imp fun i st2 ρ2 H2 x2 s2 p2 => ⟨ρ2, l, st2, (lr.mono x1).mono x2, s2, (p2.bnd0.left (x1.trans x2)).imp fun j st3 ρ3 H3 x3 s3 p3 => by
  have rv3 := (rv.mono x2).mono x3
  have x03 := x1.trans (x2.trans x3)
  have fin : ∀ {a : Addr} {vs : List V} {ds : List D}, SqL X.K H3 a vs → Reps X.K ρ3 H3 vs ds → Post X.K ρ H (ret (cutD ds i j) st3) (fun ds _ ρ' H' => ∀ a vs, H a = none → a ∉ ρ' → H' a = some (.lst vs) → Reps X.K ρ' H' vs ds → Q (.ref a) H') → rSlL X.K (.ref a) i j H3 Q := fun {a vs ds} hs r q =>
   ⟨a, vs, rfl, hs, fun q1 hq1 => by
    have hn : H q1 = none := by
     cases z : H q1 with
     | none => rfl
     | some o => exact absurd hq1 (x03.trk q1 o z)
    exact q ρ3 _ (x03.trans (Ex.new hq1)) (s3.new hq1) q1 _ hn (s3.fresh hq1) Qai ((Reps.cut r i j).mono (Ex.new hq1))⟩
  cases rv3 with
  | lit h r => exact fin h.seq r p3
  | ref _ h =>
   obtain ⟨ds, e2, p4⟩ := Post.getL (p3.bnd0.left x03) s3
   obtain ⟨a', vs, ha, hv, r⟩ := s3.seq e2
   rw [h] at ha; cases ha
   exact fin (SqL.of hv) r p4
  | _ => exact p3.elim⟩⟩⟩
end
end MM
namespace MM
open PySem PySem.Spec PyProof.Rows L2
open PySem.AutoSeq1 (wpAny_loadPart')
theorem QfJ (l : Addr) (items : Array Value) (n : Nat) (dct : Option Addr) (sl : Array (Option Value)) :
  Meets (Builtin.«enumerate.__new__» ⟨[.type "enumerate", .ref l], []⟩) (fun _ R s => s.heap.get? l = some { cls := .type "tuple", dict := dct, data := .seq items n, slots := sl } ∧
   R (.ok (.ret (.ref (s.heap.push { cls := .type "tuple_iterator", data := .fields #[.ref l, .int 0 0] }).objs.size)))
    { s with heap := (s.heap.push { cls := .type "tuple_iterator", data := .fields #[.ref l, .int 0 0] }).push { cls := .type "enumerate", data := .fields #[.none, .bool false, .ref s.heap.objs.size, rawInt 0, .none, .none] } }) :=
 .of_wp fun prog w A R s h => by
  obtain ⟨hp, g, d, tk, os⟩ := s; obtain ⟨hl, h⟩ := h; have hsub := sub_enumerate
  have hT : Heap.IsTuple (Shared.heap ⟨hp, g, d, tk, os⟩) l items := ⟨_, hl, rfl, n, rfl⟩
  wp_walk using wpAny_loadPart' hl; refine wpAny_stack_any fun st => wpAny_pure ?_; split
  ·rename_i c _ _ _ _ _; cases (c == Value.type "enumerate") <;> (wp_walk using wpAny_loadPart' hl, wpAny_pyIter_tuple hT; exact ⟨_, rfl, h⟩)
  ·wp_walk using wpAny_loadPart' hl, wpAny_pyIter_tuple hT; exact ⟨_, rfl, h⟩
section
variable {prog : Program} {w : World} {A : Around} {E : Value → Shared → Prop} {s : Shared}
theorem QfK {l : Addr} {items : Array Value} {Q : Value → Shared → Prop} (hL : s.heap.IsTuple l items)
  (h : ∀ h', IsEnum h' (s.heap.objs.size + 1) s.heap.objs.size 0 .none → h'.IsTupleIter s.heap.objs.size l 0 → h'.objs.size = s.heap.objs.size + 2 → (∀ b o, s.heap.get? b = some o → h'.get? b = some o) → Q (.ref (s.heap.objs.size + 1)) { s with heap := h' }) :
  wpAny (model prog w) A (call (.type "enumerate") [.ref l]) Q E s := by
 obtain ⟨⟨c, dct, dt, sl⟩, hl, hc, n, hd⟩ := hL
 replace hc : c = .type "tuple" := hc
 replace hd : dt = .seq items n := hd
 subst hc hd
 refine callType_new F.called_enumerate (by decide) (F.typeCall_enumerate_1 _) (F.newCall_enumerate_1 _) (fun obj => F.args_object_init_2 obj _) F.entry_enumerate_new (QfJ l items n dct sl) ⟨hl, ?_⟩
 have hz : (s.heap.push { cls := .type "tuple_iterator", data := .fields #[.ref l, .int 0 0] }).objs.size = s.heap.objs.size + 1 := Heap.size_push ..
 show _ ∧ _; rw [hz]
 have he : IsEnum ((s.heap.push { cls := .type "tuple_iterator", data := .fields #[.ref l, .int 0 0] }).push { cls := .type "enumerate", data := .fields #[.none, .bool false, .ref s.heap.objs.size, rawInt 0, .none, .none] }) (s.heap.objs.size + 1) s.heap.objs.size 0 .none := by
  have q := Heap.get?_push_size (s.heap.push { cls := .type "tuple_iterator", data := .fields #[.ref l, .int 0 0] }) (o := { cls := .type "enumerate", data := .fields #[.none, .bool false, .ref s.heap.objs.size, rawInt 0, .none, .none] }) rfl
  rw [hz] at q; exact q
 exact ⟨⟨_, he, rfl⟩, h _ he ⟨_, Heap.get?_push_of_some _ (Heap.get?_push_size _ rfl), rfl, rfl⟩ (by rw [Heap.size_push, hz]) fun b o x => Heap.get?_push_of_some _ (Heap.get?_push_of_some _ x)⟩
theorem QfL {it l : Addr} {i : Nat} {items} {x : Value} {Q : Value → Shared → Prop} (hit : s.heap.IsTupleIter it l i) (hl : s.heap.IsTuple l items) (hx : items[i]? = some x)
  (hQ : ∀ h', h'.IsTupleIter it l (i + 1) → Heap.SameBut it s.heap h' → Q x { s with heap := h' }) : wpAny (model prog w) A (Builtin.SmallTypes.nextOf (.ref it)) Q E s := by
 obtain ⟨o, ho, hc, hd⟩ := id hit; obtain ⟨ol, hol, _, nl, hdl⟩ := hl
 unfold Builtin.SmallTypes.nextOf
 refine wpAny_bind (wpAny_callSpecial?_slot (name := Str.ofString "__next__") hit.typeIs F.slot_tuple_iterator_next (wpAny_call_entry F.slot_tuple_iterator_next hit.typeIs F.entry_tuple_iterator_next ?_ (F.args_tuple_iterator_next_1 _)))
 show wpAny _ _ (field (.ref it) 0 >>= _) _ _ s; refine wpAny_bind (wpAny_field ho hd (x := .ref l) rfl ?_)
 show wpAny _ _ (if (Value.ref l == Value.none) = true then _ else _) _ _ s; rw [if_neg (show ¬ ((Value.ref l == Value.none) = true) from Bool.false_ne_true)]
 show wpAny _ _ (field (.ref it) 1 >>= _) _ _ s; refine wpAny_bind (wpAny_field ho hd (x := .int i 0) rfl ?_)
 show wpAny _ _ (seqItems? (.ref l) >>= _) _ _ s; refine wpAny_bind (wpAny_seqItems hol hdl ?_); simp only [Int.toNat_natCast, hx]
 refine wpAny_bind (wpAny_setField ho hd (by simp) (wpAny_pure ⟨x, rfl, wpAny_pure (hQ _ ⟨_, Heap.get?_update_self _ ho (Obj.isFreed_of_fields (Obj.data_mapFields hd _)), (Obj.cls_mapFields ..).trans hc, ?_⟩ (Heap.SameBut.update ..))⟩))
 rw [Obj.data_mapFields hd]; simp [rawInt]
theorem QfM {it l : Addr} {i : Nat} {items} {Q : Value → Shared → Prop} (hh : A.handled = none) (hit : s.heap.IsTupleIter it l i) (hl : s.heap.IsTuple l items) (hx : items[i]? = none)
  (hE : ∀ h' e, Heap.ExtBut it s.heap h' → (∃ o, h'.get? e = some o ∧ o.cls = .type "StopIteration") → E (.ref e) { s with heap := h' }) : wpAny (model prog w) A (Builtin.SmallTypes.nextOf (.ref it)) Q E s := by
 obtain ⟨o, ho, hc, hd⟩ := id hit; obtain ⟨ol, hol, _, nl, hdl⟩ := hl
 unfold Builtin.SmallTypes.nextOf
 refine wpAny_bind (wpAny_callSpecial?_slot (name := Str.ofString "__next__") hit.typeIs F.slot_tuple_iterator_next (wpAny_call_entry F.slot_tuple_iterator_next hit.typeIs F.entry_tuple_iterator_next ?_ (F.args_tuple_iterator_next_1 _)))
 show wpAny _ _ (field (.ref it) 0 >>= _) _ _ s; refine wpAny_bind (wpAny_field ho hd (x := .ref l) rfl ?_)
 show wpAny _ _ (if (Value.ref l == Value.none) = true then _ else _) _ _ s; rw [if_neg (show ¬ ((Value.ref l == Value.none) = true) from Bool.false_ne_true)]
 show wpAny _ _ (field (.ref it) 1 >>= _) _ _ s; refine wpAny_bind (wpAny_field ho hd (x := .int i 0) rfl ?_)
 show wpAny _ _ (seqItems? (.ref l) >>= _) _ _ s; refine wpAny_bind (wpAny_seqItems hol hdl ?_); simp only [Int.toNat_natCast, hx]
 refine wpAny_bind (wpAny_rule (wpAny_bind (wpAny_setField ho hd (by simp) ?_))); show wpAny _ _ (newExc (.type "StopIteration") [] >>= _) _ _ _
 refine wpAny_bind ?_; simp only [newExc, newTuple]; refine wpAny_bind (wpAny_newObj_type ?_ (by size_fits))
 refine wpAny_bind (m := firstArgMember _ _) (wpAny_of_eq (a := Value.none) (by first | rfl | (simp only [firstArgMember]; rfl)) (wpAny_newObj_type ?_ (by size_fits)))
 simp only [raiseNew]; refine wpAny_bind (wpAny_handled ?_); first | rw [show A.in1.handled = none from hh] | rw [hh]
 exact wpAny_bind (wpAny_pure (wpAny_throw (hE _ _ (((Heap.SameBut.update ..).extBut.push _).push _) ⟨_, Heap.get?_push_size _ rfl, rfl⟩)))
end
theorem QfN {prog : Program} {w : World} {A : Around} (hh : A.handled = none) (it l : Addr) (hne : l ≠ it) (items : Array Value) :
  Draws prog w A it [it, l] items.size (fun i v => items[i]? = some v) (fun i h => h.IsTupleIter it l i ∧ h.IsTuple l items) where
 live := fun _ _ st => let ⟨o, ho, _⟩ := st.1; ⟨o, ho⟩
 frame := fun _ _ _ st hk => ⟨let ⟨o, e, r⟩ := st.1; ⟨o, hk it (by simp) o e, r⟩, let ⟨o, e, r⟩ := st.2; ⟨o, hk l (by simp) o e, r⟩⟩
 item := fun i s Q E hi st hQ => QfL st.1 st.2 (x := items[i]) (by simp [hi]) fun h' hit' hs' => hQ _ h' s.toks (by simp [hi]) ⟨hit', st.2.extBut hs'.extBut hne⟩ hs'
 done := fun s Q E st hE => QfM hh st.1 st.2 (by simp) hE
noncomputable def Ite (K : PySem.W.Frag) (a : Addr) : It :=
 ⟨fun i H => ∃ xs x, SqT K H a xs ∧ xs[i]? = some x, fun i H x H' => ∃ T v, x = .ref T ∧ H T = none ∧ (∀ xs, SqT K H a xs → xs[i]? = some v) ∧ H' = upd H T (.tup [.int i, v]), fun i H => ∃ xs, SqT K H a xs ∧ xs.length ≤ i⟩
section
variable {X : Cx} {tg : Expr} {es : List Expr} {pos : Pos} {fa : CE} {K : PySem.W.Frag} {ρ : List Addr} {H : Hp} {st : Sto}
theorem QfO {P : Program} {w : World} {k : Nat} (a e it : Addr) (hei : e ≠ it) : Turn P w K (.Tuple es k pos) (Ite K a) [e, it] e (fun i h => (∃ old, IsEnum h e it i old) ∧ h.IsTupleIter it a i) where
 mem := by simp
 obj := fun i h pq79 b hb => by
  obtain ⟨⟨old, he⟩, hit⟩ := pq79
  rcases List.mem_cons.mp hb with z | z
  ·subst z; exact ⟨_, he, fun v q => by cases q⟩
  ·have z' : b = it := by simpa using z
   subst z'
   obtain ⟨o, e, c, d⟩ := hit
   exact ⟨o, e, fun v q => by rw [d] at q; cases q⟩
 keep := fun i h h' pq80 kp => by obtain ⟨⟨old, he⟩, hit⟩ := pq80; exact ⟨⟨old, kp e (by simp) _ he⟩, let ⟨o, x, r⟩ := hit; ⟨o, kp it (by simp) o x, r⟩⟩
 item := by
  intro X hP hw hK hc i pins s σ H E I hf pq129 hg; obtain ⟨⟨old, he⟩, hit⟩ := pq129
  subst hP hw hK
  obtain ⟨xs, x, hq, hx⟩ := hg
  obtain ⟨its, rv, p, hz⟩ := I.tuple hq
  obtain ⟨u, hu, ru⟩ := rv.get hx
  have hlt : i < its.toArray.size := by rw [List.size_toArray]; exact (List.getElem?_eq_some_iff.mp hu).1
  obtain ⟨f0, f1, f2, f3, f4, f5⟩ := hf e (by simp)
  obtain ⟨g0, g1, g2, g3, g4, g5⟩ := hf it (by simp)
  have hai : a ≠ it := fun z => by
   obtain ⟨o, e1, c, _⟩ := hit
   obtain ⟨o', e2, c', _⟩ := p
   rw [z, e1] at e2; cases e2; rw [c] at c'; exact absurd (Value.type.inj c') (by decide)
  have hae : a ≠ e := fun z => by
   obtain ⟨o', e2, c', _⟩ := p
   rw [z, he] at e2; cases e2; exact absurd (Value.type.inj c') (by decide)
  have D := QfN (prog := X.prog) (w := X.w) (A := X.A.in1) (I.ok.hd hc) it a hai its.toArray
  refine wpAny_pyNext_enum_itemD D he ⟨hit, p⟩ hlt hei (by simp; exact ⟨hei, hae.symm⟩) fun y h' tk hP ho hst hT hsz hk => ?_
  have ey : y = u := by
   have : its.toArray[i]? = some u := by simpa using hu
   rw [this] at hP; cases hP; rfl
  subst ey
  refine ⟨_, rfl, wpAny_letOwnedTupleGo_enum ho fun h2 he2 hs2 => ?_⟩
  have helt : e < s.heap.objs.size := Heap.lt_size he
  have hTn : H s.heap.objs.size = none := I.hok.fresh (Nat.le_refl _)
  have keep : ∀ b o, b ≠ e → b ≠ it → s.heap.get? b = some o → h2.get? b = some o := fun b o hb1 hb2 e1 => (hs2.2 b hb1).trans (hk b o hb1 hb2 e1)
  have hT2 : h2.get? s.heap.objs.size = some { cls := .type "tuple", data := .seq #[.int i tk, y] } := (hs2.2 _ (Nat.ne_of_gt helt)).trans hT
  have I2 : Inv X pins σ (upd H s.heap.objs.size (.tup [.int i, x])) { s with heap := h2, toks := tk + 1 } := by
   have ne : ∀ b o, H b = some o → b ≠ e ∧ b ≠ it := fun b o q => ⟨fun z => (by rw [z, f0] at q; cases q), fun z => (by rw [z, g0] at q; cases q)⟩
   refine I.step (g' := s.gens) (d' := s.drawn) (ch := [e, it]) (fun b hb => ?_) (fun b o _ _ hc' e1 _ => keep b o (fun z => hc' (by simp [z])) (fun z => hc' (by simp [z])) e1)
    (fun b o _ _ hc' e1 _ => ⟨o.slots, keep b o (fun z => hc' (by simp [z])) (fun z => hc' (by simp [z])) e1⟩) (fun b o hc' e1 n1 => by rw [Qaj (Nat.ne_of_lt (Heap.lt_size e1))]; exact n1) (fun b o hc' e1 => ⟨o, keep b o (fun z => hc' (by simp [z])) (fun z => hc' (by simp [z])) e1⟩)
    (fun b ys q => by rw [Qaj (Qal q hTn)]; exact q) (fun b o ys q => by rw [Qaj (Qal q hTn)]; exact q) (fun b ps q => ⟨#[], by rw [Qaj (Qal q hTn), q]; simp⟩) (fun m hm => ?_) ?_ I.bare
   ·rcases List.mem_cons.mp hb with z | z
    ·subst z; exact ⟨f3, f1, f4, f5⟩
    ·have z' : b = it := by simpa using z
     subst z'; exact ⟨g3, g1, g4, g5⟩
   ·obtain ⟨o, es', ep, e1, r⟩ := hm
    exact ⟨o, es', ep, keep _ o f1.symm g1.symm e1, r⟩
   ·intro b o q
    by_cases hb : b = s.heap.objs.size
    ·subst hb
     rw [Qai] at q; cases q
     exact ⟨by show 2 ≤ sizeLine; decide, [.int i tk, y], .cons ⟨tk, rfl⟩ (.cons ru .nil), ⟨_, hT2, rfl, _, rfl⟩⟩
    ·rw [Qaj hb] at q
     have := ne b o q
     refine (I.hok b o q).stay (fun c v hc' r => keep c v ?_ ?_ r) (fun c q' => by rw [Qaj (Qal q' hTn)]; exact q') fun c ys q' => by rw [Qaj (Qal q' hTn)]; exact q'
     ·rcases hc' with z | z
      ·rw [z]; exact this.1
      ·exact (ne c _ z).1
     ·rcases hc' with z | z
      ·rw [z]; exact this.2
      ·exact (ne c _ z).2
  refine ⟨.ref s.heap.objs.size, _, I2, rfl, ⟨_, x, rfl, hTn, fun ys hy => by rw [I.tuple_inj hy hq]; exact hx, rfl⟩, ⟨⟨y, by simpa using he2⟩, let ⟨o, x1, r⟩ := hst.1; ⟨o, (hs2.2 it hei.symm).trans x1, r⟩⟩, fun b hb => ?_⟩
  rw [Qaj]
  ·exact (hf b hb).1
  ·intro z
   have : b < s.heap.objs.size := by
    rcases List.mem_cons.mp hb with q | q
    ·rw [q]; exact helt
    ·have q' : b = it := by simpa using q
     rw [q']; obtain ⟨o, x1, _⟩ := hit; exact Heap.lt_size x1
   exact absurd this (by rw [z]; exact Nat.lt_irrefl _)
 done := by
  intro X hP hw hK hc i pins s σ H E I hf pq130 hg; obtain ⟨⟨old, he⟩, hit⟩ := pq130
  subst hP hw hK
  obtain ⟨xs, hq, hx⟩ := hg
  obtain ⟨its, rv, p, hz⟩ := I.tuple hq
  obtain ⟨g0, g1, g2, g3, g4, g5⟩ := hf it (by simp)
  have hl := rv.length
  have hT : s.TypeIs (.ref e) "enumerate" := ⟨_, he, rfl⟩
  unfold pyNext
  refine wpAny_bind (wpAny_attempt (wpAny_callSpecial?_slot (name := Str.ofString "__next__") hT F.slot_enumerate_next (wpAny_call_entry F.slot_enumerate_next hT F.entry_enumerate_next ?_ (F.args_enumerate_next_1 _))))
  show wpAny _ _ (field (.ref e) 2 >>= _) _ _ _; refine wpAny_bind (wpAny_field he rfl (x := .ref it) rfl ?_)
  refine wpAny_bind (QfM (A := X.A.in1) (I.ok.hd hc) hit p (by simp; ac_nf) fun h' x he' pq81 => ?_)
  obtain ⟨o, ho, hc'⟩ := pq81
  exact wpAny_bind (wpAny_isInstance (T := "StopIteration") (b := true) ⟨o, ho, hc'⟩ isSubtype_stop (wpAny_pure ⟨rfl, I.turned (t' := s.toks) (fun b o hb e => he' b o hb e) g0 g1 g3 g4 g5⟩))
 self := fun _ _ _ _ _ pq82 h => by obtain ⟨⟨old, he⟩, _⟩ := pq82; exact wpAny_pyIter_enum he h
theorem QfP {b : Expr} {p tpos : Pos} {k : Nat} (hg : Gl X "enumerate") (hm : X.mg "enumerate" = none) (h : SE X b fa) (hs : starEach [b] X.env = [(false, eval b X.env)] := by rfl) :
  SI X (.Tuple es k tpos) (.Call (.Name "enumerate" p) [b] [] pos) (iEnum fa) := by
 intro pins s σ H R I pq131; obtain ⟨ρ, l, st, lr, sr, q⟩ := pq131
 refine Call_ (QaB I hg hm boot_enumerate (PyProof.Rows.callWith_type1 (thn (Qef h Qee hs pos pins s σ H (fun vs H1 => ∃ a xs, vs = [.ref a] ∧ SqT X.K H1 a xs ∧ R (Ite X.K a) H1) I ⟨ρ, l, st, lr, sr, ?_⟩) fun us s1 ⟨vs, H1, I1, r1, q1⟩ => ?_) hs rfl))
 ·have q' := Post.bnd q
  show Post X.K ρ H (MM.bnd (fa l) _ st) _
  unfold MM.bnd
  cases e : fa l st with
  | bad => rw [e] at q'; exact q'
  | exc _ _ => rw [e] at q'; exact q'
  | ok d st1 =>
   rw [e] at q'
   show ∀ ρ' H', Ex ρ H ρ' H' → SR X.K ρ' H' st1 → _
   intro ρ1 H1 x1 s1 vs rvs
   have p1 := q' ρ1 H1 x1 s1
   cases rvs with
   | cons rv rt =>
    cases rt
    cases rv with
    | @tup a ws ds ht r =>
     refine ⟨a, ws, rfl, ht, p1.ret s1 _ ?_⟩
     intro ρ2 H2 st2 x2 s2 _
     have hl := r.length
     have ht2 : SqT X.K H2 a ws := SqT.mono x2.up ht
     have len : ((rngD 0 ds.length).zipWith (fun i d => D.tup [i, d]) ds).length = ds.length := by simp [rngD]
     refine ⟨⟨ws, ht2, by rw [len, hl]; exact Nat.le_refl _⟩, fun i d e1 => ?_⟩
     have hi : i < ds.length := by rw [← len]; exact (List.getElem?_eq_some_iff.mp e1).1
     have ed : d = .tup [.int i, ds[i]] := by
      rw [List.getElem?_zipWith, rngD, List.getElem?_map, List.getElem?_range hi, List.getElem?_eq_getElem hi] at e1
      have := Option.some.inj e1
      rw [← this]; simp
     subst ed
     obtain ⟨v, hv, rv⟩ := (r.mono x2).get (List.getElem?_eq_getElem hi)
     refine ⟨⟨ws, v, ht2, hv⟩, fun y H3 pq84 => ?_⟩
     obtain ⟨T, w, ey, hn, hw, eH⟩ := pq84
     subst ey eH
     have ew := hw ws ht2
     rw [hv] at ew; cases ew
     have x3 : Ex ρ2 H2 ρ2 (upd H2 T (.tup [.int i, v])) := Ex.new hn
     exact ⟨x3, s2.new hn, .tup (SqT.of Qai) (.cons (.int _) (.cons (rv.mono x3) .nil))⟩
    | _ => exact p1.elim
 ·obtain ⟨a, xs, e, hq, hR⟩ := q1
  subst e
  obtain ⟨u, rfl, ru⟩ := QbA r1
  cases ru
  obtain ⟨its, rv, p1, hz⟩ := I1.tuple hq
  refine QfK p1 fun h' he hit hsz kp => wpAny_pyIter_enum he ?_
  have I2 : Inv X pins σ H1 { s1 with heap := h' } := I1.kept (t' := s1.toks) kp
  refine ⟨s1.heap.objs.size + 1, [s1.heap.objs.size + 1, s1.heap.objs.size], _, Ite X.K a, H1, rfl, I2, QfO a (s1.heap.objs.size + 1) s1.heap.objs.size (Nat.succ_ne_self _), ⟨⟨_, he⟩, hit⟩, fun b hb => ?_, hR⟩
  have hle : s1.heap.objs.size ≤ b := by
   rcases List.mem_cons.mp hb with z | z
   ·rw [z]; exact Nat.le_succ _
   ·have z' : b = s1.heap.objs.size := by simpa using z
    rw [z']; exact Nat.le_refl _
  exact I1.fpOk hle (I1.hok.fresh hle)
end
end MM
namespace MM
open PySem PySem.Spec PyProof.Rows L2
section
variable {X : Cx} {K : PySem.W.Frag} {ρ : List Addr} {H : Hp} {st : Sto}
theorem QfQ : OpR X (compareOp .Is) (rOf X.K isD) := by
 intro pins s σ H x y v u Q I rx ry pq132; obtain ⟨ρ, st, d, e, sr, r1, r2, p⟩ := pq132
 cases r2 with
 | non =>
  refine Qbp pins s σ H x .non v u Q I rx ry ⟨rfl, ?_⟩
  cases r1 with
  | non => exact p.ret sr _ (.bl true)
  | bl b => exact p.ret sr _ (.bl false)
  | int b => exact p.ret sr _ (.bl false)
  | str b => exact p.ret sr _ (.bl false)
  | tup h r => exact p.ret sr _ (.bl false)
  | lit h r => exact p.ret sr _ (.bl false)
  | ref _ h => exact p.ret sr _ (.bl false)
  | dic _ h => exact p.ret sr _ (.bl false)
 | bl b =>
  cases r1 with
  | bl a =>
   cases (show v = Value.bool a from rx)
   cases (show u = Value.bool b from ry)
   refine wpAny_is_plain rfl ⟨.bl (a == b), H, I, ?_, p.ret sr _ (.bl _)⟩
   cases a <;> cases b <;> rfl
  | _ => exact p.elim
 | _ => cases r1 <;> exact p.elim
theorem QfR : OpR X (compareOp .IsNot) (rOf X.K isntD) := by
 intro pins s σ H x y v u Q I rx ry pq133; obtain ⟨ρ, st, d, e, sr, r1, r2, p⟩ := pq133
 cases r2 with
 | non =>
  refine Qbq pins s σ H x .non v u Q I rx ry ⟨rfl, ?_⟩
  cases r1 with
  | non => exact p.ret sr _ (.bl false)
  | bl b => exact p.ret sr _ (.bl true)
  | int b => exact p.ret sr _ (.bl true)
  | str b => exact p.ret sr _ (.bl true)
  | tup h r => exact p.ret sr _ (.bl true)
  | lit h r => exact p.ret sr _ (.bl true)
  | ref _ h => exact p.ret sr _ (.bl true)
  | dic _ h => exact p.ret sr _ (.bl true)
 | bl b =>
  cases r1 with
  | bl a =>
   cases (show v = Value.bool a from rx)
   cases (show u = Value.bool b from ry)
   refine wpAny_isNot_plain rfl ⟨.bl (!(a == b)), H, I, ?_, p.ret sr _ (.bl _)⟩
   cases a <;> cases b <;> rfl
  | _ => exact p.elim
 | _ => cases r1 <;> exact p.elim
theorem QfS {v : V} {d : D} (r : Rep K ρ H v d) (h : flatD d = true) : flatV v = true := by
 cases r <;> first | rfl | cases h
theorem QfT : ∀ {vs : List V} {ds : List D}, Reps K ρ H vs ds → ds.all flatD = true → vs.all flatV = true
 | _, _, .nil, _ => rfl
 | _, _, .cons r t, h => by
  rw [List.all_cons, Bool.and_eq_true] at h
  rw [List.all_cons, Bool.and_eq_true]
  exact ⟨QfS r h.1, QfT t h.2⟩
theorem QfU {v w : V} {d e : D} (r : Rep K ρ H v d) (q : Rep K ρ H w e) (h : flatD d = true) (h' : flatD e = true) : eqV v w = eqFl d e := by
 cases r <;> first | (cases q <;> first | rfl | cases h') | cases h
theorem QfV {w : V} {e : D} (q : Rep K ρ H w e) (h' : flatD e = true) : ∀ {vs : List V} {ds : List D}, Reps K ρ H vs ds → ds.all flatD = true → inV w vs = ds.any fun d => eqFl d e
 | _, _, .nil, _ => rfl
 | _, _, .cons r t, h => by
  rw [List.all_cons, Bool.and_eq_true] at h
  have := QfV q h' t h.2
  unfold inV at this ⊢
  rw [List.any_cons, List.any_cons, this, QfU r q h.1 h']
theorem Post.hasK {n : Nat} {k : D} {R : Bool → Sto → List Addr → Hp → Prop} (h : Post K ρ H (MM.hasK n k st) R) (s : SR K ρ H st) : ∃ b kvs, st[n]? = some (.dct b kvs) ∧ kOk b k = true ∧ R (lkK kvs k).isSome st ρ H := by
 obtain ⟨b, kvs, e, p1⟩ := Post.getDc (Post.bnd h) s
 obtain ⟨hk, p2⟩ := Post.chk p1
 exact ⟨b, kvs, e, hk, p2.ret s⟩
theorem _root_.L2.OpR.orO {f : Value → Value → Sem Value} {r r' : R2} (h : OpR X f r) (h' : OpR X f r') : OpR X f (fun x y H Q => r x y H Q ∨ r' x y H Q) := by
 intro pins s σ H x y v u Q I rx ry q
 rcases q with q | q
 ·exact h pins s σ H x y v u Q I rx ry q
 ·exact h' pins s σ H x y v u Q I rx ry q
theorem QfW (hu : X.A.units + 60 < cLine) : OpR X (compareOp .NotIn) (fun x y H Q => ∃ (ρ : List Addr) (st : Sto) (n : Nat) (a : Addr) (b : Bool) (kvs : List (D × D)) (k : D), y = .ref a ∧ SR X.K ρ H st ∧ ρ[n]? = some a ∧ st[n]? = some (.dct b kvs) ∧ Rep X.K ρ H x k ∧ kOk b k = true ∧ Q (.bl (!(lkK kvs k).isSome)) H) := by
 intro pins s σ H x y v u Q I rx ry pq134; obtain ⟨ρ, st, n, a, b, kvs, k, e, sr, ha, hn, rk, hk, q⟩ := pq134
 subst e
 cases ry
 exact QdI (by ac_nf) I (sr.ob n a _ ha hn) rk hk rx fun s' I' => ⟨.bl _, H, I', rfl, q⟩
theorem QfX (hu : X.A.units + 60 < cLine) : OpR X (compareOp .NotIn) (rOf X.K ninD) := (Qct.orO (QfW hu)).of fun x y H Q pq85 => by
 obtain ⟨ρ, st, d, e, sr, r1, r2, p⟩ := pq85
 have fin : ∀ {a : Addr} {vs : List V} {ds : List D} (hq : SqL X.K H a vs ∨ SqT X.K H a vs) (r : Reps X.K ρ H vs ds) (p1 : Post X.K ρ H (ninL d ds st) fun r _ ρ' H' => ∀ v, Rep X.K ρ' H' v r → Q v H'), rIn X.K true x (.ref a) H Q := fun hq r p1 => by
  obtain ⟨⟨h1, h2⟩, p2⟩ := Post.chk p1
  refine ⟨_, _, rfl, hq, QfS r1 h1, QfT r h2, ?_⟩
  rw [if_pos rfl, QfV r1 h1 r h2]
  exact p2.ret sr _ (.bl _)
 cases r2 with
 | tup h r => exact .inl (fin (.inr h) r ((Post.bnd p).ret sr))
 | lit h r => exact .inl (fin (.inl h.seq) r ((Post.bnd p).ret sr))
 | ref _ h =>
  obtain ⟨ds, e2, p1⟩ := Post.getL (Post.bnd p) sr
  obtain ⟨a', vs, ha, hv, r⟩ := sr.seq e2
  rw [h] at ha; cases ha
  exact .inl (fin (.inl (SqL.of hv)) r p1)
 | @dic a n _ h =>
  obtain ⟨b, kvs, e1, hk, q⟩ := Post.hasK (Post.bnd p) sr
  exact .inr ⟨ρ, st, n, a, b, kvs, d, rfl, sr, h, e1, r1, hk, (q.ret sr) _ (.bl _)⟩
 | _ => exact (show False from p).elim
theorem QfY : UnR X (unaryOp .USub) (uOf X.K negD) := by
 intro pins s σ H x v Q I rx pq135; obtain ⟨ρ, st, d, sr, r1, p⟩ := pq135
 cases r1 with
 | int i => exact Qbk pins s σ H _ v Q I rx ⟨i, rfl, p.ret sr _ (.int _)⟩
 | _ => exact p.elim
end
section
variable {X : Cx} {a b c e o tg : Expr} {es : List Expr} {pos apos cpos : Pos} {fa fb fc : CE} {ca cb : CA} {ta tb : CT} {K : PySem.W.Frag} {ρ : List Addr} {H : Hp} {st : Sto} {x : Str} {p : Pos} {T id : String} {body : List Stmt} {cs : CS}
theorem QfZ {op : UnaryOp} {g : D → M D} (ho : UnR X (unaryOp op) (uOf X.K g)) (ha : SE X a fa) : SE X (.UnaryOp op a pos) (c1 g fa) :=
 (Qbd ho ha).of fun σ H Q h_ => h_.el fun ρ l st lr sr p => ⟨ρ, l, st, lr, sr, p.bnd.imp fun d st1 ρ1 H1 x1 s1 p1 v rv => ⟨ρ1, st1, d, s1, rv, p1⟩⟩
theorem Qf0 (ha : SE X a fa) (hb : SL X b cb) (hm : behindInMarks .In b = false) : ST X (.Compare a [.In] [b] pos) (tCmpB (cInTmp inL fa cb)) :=
 (Qbt Qcs ha hb hm).of fun σ H Q h_ => h_.el fun ρ l st lr sr p => ⟨ρ, l, st, lr, sr, p.bnd.bnd.imp fun d st1 ρ1 H1 x1 s1 p1 v rv => ⟨ρ1, l, st1, lr.mono x1, s1, p1.bnd.imp fun ds st2 ρ2 H2 x2 s2 p2 a vs ha na hv rvs => by
  obtain ⟨⟨h1, h2⟩, p3⟩ := Post.chk p2
  have r1 := rv.mono x2
  refine ⟨_, _, rfl, .inl (SqL.of hv), QfS r1 h1, QfT rvs h2, ?_⟩
  rw [if_neg (by simp), QfV r1 h1 rvs h2]
  exact ⟨_, rfl, (p3.ret s2).ret s2⟩⟩⟩
theorem Qf1 : CallR X (.type "list") (fun xs H Q => ∃ v, xs = [v] ∧ uOf X.K listD v H Q) := Qcw.of fun xs H Q pq86 => by
 obtain ⟨v, e, ρ, st, d, sr, rv, p⟩ := pq86
 have fin : ∀ {ds : List D} {vs : List V} {l : Addr} (r : Reps X.K ρ H vs ds) (hl : H l = none) (p1 : Post X.K ρ H (alloc (.lst ds) st) fun r _ ρ' H' => ∀ v, Rep X.K ρ' H' v r → Q v H'), Q (.ref l) (upd H l (.lst vs)) := fun {ds vs l} r hl p1 => by
  have nl := sr.fresh hl
  have s2 : SR X.K (ρ ++ [l]) (upd H l (.lst vs)) (st ++ [.lst ds]) := (sr.new hl).keep Qai nl (r.mono (Ex.new hl))
  refine p1 _ _ (Ex.newL hl) s2 _ (.ref ⟨_, Qai, rfl⟩ ?_)
  rw [← sr.len]; simp
 cases rv with
 | @tup a vs ds h r => exact ⟨a, vs, e, .inr h, fun l hl => fin r hl ((Post.bnd p).ret sr)⟩
 | @lit a vs ds h r => exact ⟨a, vs, e, .inl h.seq, fun l hl => fin r hl ((Post.bnd p).ret sr)⟩
 | @ref a n _ h =>
  obtain ⟨ds, e2, p1⟩ := Post.getL (Post.bnd p) sr
  obtain ⟨a', vs, ha, hv, r⟩ := sr.seq e2
  rw [h] at ha; cases ha
  exact ⟨a, vs, e, .inl (SqL.of hv), fun l hl => fin r hl p1⟩
 | _ => exact (Post.bnd p).elim
theorem Qf2 {g : D → D → M D} (hc : CallR X (.builtin id) (fun xs H Q => ∃ v w, xs = [v, w] ∧ rOf X.K g v w H Q)) (hg : Gl X x) (hm : X.mg x = none) (hv : bootBuiltins x = some (.builtin id)) (ha : SE X a fa) (hb : SE X b fb) (hn : x ≠ "__name__" := by decide) (hdb : (x == ("__debug__" : Str)) = false := by decide)
  (he1 : starEach [a, b] X.env = (false, eval a X.env) :: starEach [b] X.env := by rfl) (he2 : starEach [b] X.env = (false, eval b X.env) :: starEach [] X.env := by rfl) (hpl : (backTo pos (starEach [b] X.env)).any (fun x => x.fst) = false := by rfl) : SE X (.Call (.Name x p) [a, b] [] pos) (c2 g fa fb) :=
 (QbW hc hg hm hv (QbK ha (QbK hb QbJ he2) he1) hn hdb he1 hpl).of fun σ H Q h_ => h_.el fun ρ l st lr sr p => ⟨ρ, l, st, lr, sr, p.bnd.imp fun d st1 ρ1 H1 x1 s1 p1 v rv => ⟨ρ1, l, st1, lr.mono x1, s1, p1.bnd.imp fun e st2 ρ2 H2 x2 s2 p2 w rw' => ⟨v, w, rfl, ρ2, st2, d, e, s2, rv.mono x2, rw', p2⟩⟩⟩
theorem Qf3 (hc : X.calm = true) : CallR X (.builtin "min") (fun xs H Q => ∃ v w, xs = [v, w] ∧ rOf X.K min2D v w H Q) := (QbC hc).of fun xs H Q pq87 => by
 obtain ⟨v, w, e, ρ, st, d1, d2, sr, r1, r2, p⟩ := pq87
 cases r1 with
 | int i =>
  cases r2 with
  | int j =>
   refine ⟨i, j, e, ?_⟩
   have : (if j < i then j else i) = min i j := by ac_nf
   rw [this]; exact p.ret sr _ (.int _)
  | _ => exact p.elim
 | _ => exact p.elim
theorem Qf4 (ho : SE X o fa) (hbase : attributeBase o "pop" X.env (eval o X.env) = eval o X.env := by rfl) (hline : (apos.endLine == cpos.line) = true := by rfl) : SE X (.Call (.Attribute o "pop" apos) [] [] cpos) (cPop fa) :=
 (Qcz PySem.F.plainAttrs_list PySem.F.slot_list_pop PySem.F.type_list_pop QcE ho hbase hline).of fun σ H Q h_ => h_.el fun ρ l st lr sr p => ⟨ρ, l, st, lr, sr, p.bnd.imp fun d st1 ρ1 H1 x1 s1 p1 v rv => by
  cases rv with
  | @ref a n _ h =>
   obtain ⟨ds, e2, p2⟩ := Post.getL (Post.bnd p1) s1
   obtain ⟨a', vs, ha, hv, r⟩ := s1.seq e2
   rw [h] at ha; cases ha
   cases e3 : ds.getLast? with
   | none => rw [e3] at p2; exact p2.elim
   | some d =>
    rw [e3] at p2
    have hl := (List.getElem?_eq_some_iff.mp e2).1
    have e4 : ds[ds.length - 1]? = some d := by rw [← List.getLast?_eq_getElem?]; exact e3
    obtain ⟨y, hy, ry⟩ := r.get e4
    have rd : Reps X.K ρ1 H1 vs.dropLast ds.dropLast := by
     rw [List.dropLast_eq_take, List.dropLast_eq_take, r.length]; exact r.take _
    obtain ⟨s3, x3⟩ := s1.put hl h hv rd
    refine ⟨.inl ⟨rfl, vs, SqL.of hv⟩, a, vs, y, rfl, rfl, hv, by rw [r.length]; exact hy, ?_⟩
    have p5 := Post.bnd p2
    unfold putL at p5
    rw [e2] at p5
    exact (p5 ρ1 _ x3 s3).ret s3 _ (ry.mono x3)
  | _ => exact p1.elim⟩
theorem Reps.rev : ∀ {vs : List V} {ds : List D}, Reps K ρ H vs ds → Reps K ρ H vs.reverse ds.reverse
 | _, _, .nil => .nil
 | _, _, .cons r t => by
  rw [List.reverse_cons, List.reverse_cons]; exact Reps.app (Reps.rev t) (.cons r .nil)
theorem Qf5 (ho : SE X o fa) (hbase : attributeBase o "reverse" X.env (eval o X.env) = eval o X.env := by rfl) (hline : (apos.endLine == cpos.line) = true := by rfl) : SE X (.Call (.Attribute o "reverse" apos) [] [] cpos) (cReverse fa) :=
 (Qcz PySem.F.plainAttrs_list PySem.F.slot_list_reverse PySem.F.type_list_reverse QcF ho hbase hline).of fun σ H Q h_ => h_.el fun ρ l st lr sr p => ⟨ρ, l, st, lr, sr, p.bnd.imp fun d st1 ρ1 H1 x1 s1 p1 v rv => by
  cases rv with
  | @ref a n _ h =>
   obtain ⟨ds, e2, p2⟩ := Post.getL (Post.bnd p1) s1
   obtain ⟨a', vs, ha, hv, r⟩ := s1.seq e2
   rw [h] at ha; cases ha
   have hl := (List.getElem?_eq_some_iff.mp e2).1
   obtain ⟨s3, x3⟩ := s1.put hl h hv r.rev
   refine ⟨.inl ⟨rfl, vs, SqL.of hv⟩, a, vs, rfl, rfl, hv, ?_⟩
   have p5 := Post.bnd p2
   unfold putL at p5
   rw [e2] at p5
   exact (p5 ρ1 _ x3 s3).ret s3 _ .non
  | _ => exact p1.elim⟩
theorem Qf6 {p : Pos} (hg : Gl X "range") (hm : X.mg "range" = none) (h : SE X a fa) (h' : SE X b fb) (he1 : starEach [a, b] X.env = (false, eval a X.env) :: starEach [b] X.env := by rfl) (he2 : starEach [b] X.env = (false, eval b X.env) :: starEach [] X.env := by rfl)
  (hs : starEach [a, b] X.env = [(false, eval a X.env), (false, eval b X.env)] := by rfl) (hs2 : starEach [b] X.env = [(false, eval b X.env)] := by rfl) : SI X tg (.Call (.Name "range" p) [a, b] [] pos) (MM.iRng2 fa fb) :=
 (Qa8 (tg := tg) (p := p) (pos := pos) hg hm (QbK h (QbK h' QbJ he2) he1) hs hs2).of fun σ H R h_ => h_.el fun ρ l st lr sr p => ⟨ρ, l, st, lr, sr, p.bnd.imp fun d st1 ρ1 H1 x1 s1 p1 v rv => ⟨ρ1, l, st1, lr.mono x1, s1, p1.bnd.imp fun e st2 ρ2 H2 x2 s2 p2 w rw' => by
  have rv2 := rv.mono x2
  cases rv2 with
  | int i =>
   cases rw' with
   | int j =>
    obtain ⟨⟨⟨h1, h2⟩, h3, h4⟩, p3⟩ := Post.chk p2
    exact ⟨i, j, rfl, ⟨h1, h2, h3, h4⟩, p3.ret s2 _ QeV⟩
   | _ => exact p2.elim
  | _ => cases rw' <;> exact p2.elim⟩⟩
theorem Qf7 (hp : PassesOwn (model X.prog X.w) X.A X.env X.xe) (hc : ST X c ta) (hb : SSs X body cs) : SS X (.While c body [] pos) (sWhile ta cs) := (Qa0 hp hc hb).of fun G σ H h_ => h_.el fun ρ l st lr sr p => by
 unfold sWhile at p
 by_cases h : ∃ n, ∀ r, whileN ta cs n l st = r → r ≠ .bad
 ·rw [dif_pos h] at p
  generalize Classical.choose h = n at p
  refine ⟨fun m σ H => ∃ ρ l st, LR X.K ρ H σ l ∧ SR X.K ρ H st ∧ Post X.K ρ H (whileN ta cs m l st) fun f _ ρ' H' => match f with
   | .next l' => ∀ σ', LR X.K ρ' H' σ' l' → G.nx σ' H'
   | .ret d => ∀ v, Rep X.K ρ' H' v d → G.rt v H'
   | .brk l' => ∀ σ', LR X.K ρ' H' σ' l' → G.bk σ' H'
   | .cnt l' => ∀ σ', LR X.K ρ' H' σ' l' → G.ct σ' H', ⟨n, ρ, l, st, lr, sr, p⟩, ?_⟩
  intro m σ1 H1 pq136; obtain ⟨ρ1, l1, st1, lr1, sr1, p1⟩ := pq136
  cases m with
  | zero => exact p1.elim
  | succ m =>
   refine ⟨ρ1, l1, st1, lr1, sr1, (Post.bnd p1).imp fun k st2 ρ2 H2 x2 s2 p2 => ?_⟩
   cases k with
   | false => exact p2.ret s2 _ (lr1.mono x2)
   | true =>
    refine ⟨fun σ' H' => ∃ ρ l st, LR X.K ρ H' σ' l ∧ SR X.K ρ H' st ∧ Post X.K ρ H' (whileN ta cs m l st) _, fun σ' H' q => ⟨m, Nat.lt_succ_self m, q⟩, ρ2, l1, st2, lr1.mono x2, s2, (Post.bnd p2).imp fun f st3 ρ3 H3 x3 s3 p3 => ?_⟩
    cases f with
    | next l' => exact fun σ' lr' => ⟨ρ3, l', st3, lr', s3, p3⟩
    | ret d => exact p3.ret s3
    | brk l' => exact p3.ret s3
    | cnt l' => exact fun σ' lr' => ⟨ρ3, l', st3, lr', s3, p3⟩
 ·rw [dif_neg h] at p; exact p.elim
end
end MM
namespace MM
open PySem PySem.Spec PyProof.Rows L2
theorem Qf8 (its : List Value) : slicePick its.toArray none none (some (-1)) = its.reverse.toArray := by
 unfold slicePick
 have e : sliceRange (sliceBounds none none (some (-1)) its.toArray.size).1 (sliceBounds none none (some (-1)) its.toArray.size).2.1 (sliceBounds none none (some (-1)) its.toArray.size).2.2 = (List.range its.toArray.size).map fun k => its.toArray.size - 1 - k := picked_rev its.toArray.size
 rw [e]
 congr 1
 rw [List.size_toArray]
 have key : ∀ n, n ≤ its.length → ((List.range n).map fun k => its.length - 1 - k).filterMap (fun i => its.toArray[i]?) = (its.drop (its.length - n)).reverse := by
  intro n
  induction n with
  | zero => intro _; simp
  | succ n ih =>
   intro hn
   rw [List.range_succ, List.map_append, List.filterMap_append, ih (by ac_nf)]
   have hlt : its.length - 1 - n < its.length := by ac_nf
   have : its.drop (its.length - (n + 1)) = its[its.length - 1 - n] :: its.drop (its.length - n) := by
    have e1 : its.length - (n + 1) = its.length - 1 - n := by ac_nf
    have e2 : its.length - n = its.length - 1 - n + 1 := by ac_nf
    rw [e1, e2]; exact List.drop_eq_getElem_cons hlt
   rw [this, List.reverse_cons]
   congr 1
   simp [hlt]
 have := key its.length (Nat.le_refl _)
 rw [Nat.sub_self, List.drop_zero] at this
 exact this
section
variable {X : Cx} {e st : Expr} {pos p2 p3 p4 : Pos} {fa : CE} {te : TE} {j : Nat}
noncomputable def rBack (K : PySem.W.Frag) : V → Hp → VK → Prop := fun x H Q => ∃ a xs, x = .ref a ∧ SqL K H a xs ∧ ∀ p, H p = none → Q (.ref p) (upd H p (.lst xs.reverse))
theorem Qf9 (he : PE X e te) : PE X (.Subscript e (.Slice none none (some (.UnaryOp .USub (.Constant (.int 1) j p3) p4)) p2) pos) (fun σ H Q => te σ H fun x H1 => rBack X.K x H1 Q) := by
 intro pins s σ H Q I h
 refine Subscript_ (thn (he pins s σ H _ I h) fun v s1 pq88 => ?_)
 obtain ⟨x, H1, I1, r1, q1⟩ := pq88
 refine wpAny_Slice ?_
 rw [evalPart_none]
 refine wpAny_pure (wpAny_pure ?_)
 have hst : PE X (.UnaryOp .USub (.Constant (.int 1) j p3) p4) (tUn (rU fun i => .int (-i)) (tC (.int 1))) := Qbd Qbk Qaw
 refine thn (Qb7 hst pins s1 σ H1 (fun o H' => o = some (-1) ∧ H' = H1) I1 ⟨1, rfl, -1, rfl, rfl, rfl⟩) fun vs s2 pq89 => ?_
 obtain ⟨o, H2, I2, ps, eo, eH⟩ := pq89
 subst eo eH
 obtain ⟨a, xs, rfl, hx, q⟩ := q1
 cases r1
 have I4 : Inv X pins σ H2 { s2 with heap := s2.heap.push { cls := .type "slice", data := .fields #[.none, .none, vs] } } := I2.kept (t' := s2.toks) fun b ob q => Heap.get?_push_of_some _ q
 obtain ⟨its, r, ht, hz⟩ := I4.list hx
 have hlen := r.length
 show wpAny (model X.prog X.w) X.A (subscriptTail e _ (.ref a) (.ref s2.heap.objs.size)) (EP X pins σ Q) X.xe { s2 with heap := s2.heap.push { cls := .type "slice", data := .fields #[.none, .none, vs] } }
 refine tail_any (ops := [.ref a, .ref s2.heap.objs.size]) ht.isList.typeIs slot_list_getitem.lookup ?_ (by with_unfolding_all rfl)
 refine wpAny_getItem_list_slice ht.isList (Heap.IsSliceOf.new ..) .none .none ps (by simp) ?_ (by rw [List.size_toArray] <;> ac_nf)
 rw [Qf8]
 refine ⟨.ref _, _, I4.laid (t' := s2.toks) (o := .lst xs.reverse) (fun b ob q => Heap.get?_push_of_some _ q) (Nat.le_refl _) ?_, rfl, q _ (I4.hok.fresh (Nat.le_refl _))⟩
 exact ⟨by rw [List.length_reverse]; exact hz, _, 0, r.reverse, Heap.get?_push_size _ rfl⟩
theorem Qga (h : SE X e fa) : SL X (.Subscript e (.Slice none none (some (.UnaryOp .USub (.Constant (.int 1) j p3) p4)) p2) pos) (aBack fa) :=
 (Qf9 h).of fun σ H Q h_ => h_.el fun ρ l st lr sr p => ⟨ρ, l, st, lr, sr, p.bnd0.imp fun d st1 ρ1 H1 x1 s1 p1 v rv => by
  cases rv with
  | @ref a n _ h =>
   obtain ⟨ds, e2, p2⟩ := Post.getL (p1.bnd0.left x1) s1
   obtain ⟨a', vs, ha, hv, r⟩ := s1.seq e2
   rw [h] at ha; cases ha
   refine ⟨a, vs, rfl, SqL.of hv, fun q hq => ?_⟩
   have hn : H q = none := by
    cases z : H q with
    | none => rfl
    | some o => exact absurd hq (x1.trk q o z)
   exact p2 ρ1 _ (x1.trans (Ex.new hq)) (s1.new hq) q _ hn (s1.fresh hq) Qai ((Reps.rev r).mono (Ex.new hq))
  | _ => exact p1.elim⟩
theorem Qgb {lo hi : Option Expr} {fl fh : CO} {p2 : Pos} (h : SE X e fa) (hl : SO X lo fl) (hh : SO X hi fh) : SE X (.Subscript e (.Slice lo hi none p2) pos) (cSliceT fa fl fh) :=
 (Qb8 Qca h hl hh).of fun σ H Q h_ => h_.el fun ρ l st lr sr p => ⟨ρ, l, st, lr, sr, p.bnd.imp fun d st1 ρ1 H1 x1 s1 p1 v rv => ⟨ρ1, l, st1, lr.mono x1, s1, p1.bnd.imp fun i st2 ρ2 H2 x2 s2 p2 => ⟨ρ2, l, st2, (lr.mono x1).mono x2, s2, p2.bnd.imp fun j st3 ρ3 H3 x3 s3 p3 => by
  have rv3 := (rv.mono x2).mono x3
  have e : ∀ n d o, HT.sIx n d o = MM.sIx n d o := fun n d o => by cases o <;> rfl
  cases rv3 with
  | @tup a vs ds h r =>
   obtain ⟨hw, p4⟩ := Post.chk p3
   exact ⟨a, vs, rfl, h, by rw [e, e, r.length]; exact hw, fun q hq => p4 ρ3 _ (Ex.new hq) (s3.new hq) _ (.tup (SqT.of Qai) ((Reps.cut r i j).mono (Ex.new hq)))⟩
  | _ => exact p3.elim⟩⟩⟩
end
end MM
namespace MM
open PySem
noncomputable def kEval {α : Type} (n : Nat) (f : Nat → Nat → Bool) : PySem.W.KasT α → Option α
 | .ret a => some a
 | .ask i j k => if i < n ∧ j < n then kEval n f (k (f i j)) else none
noncomputable def rowsD : List D → Option (List (List Int))
 | [] => some []
 | .tup xs :: ds => match numsL xs, rowsD ds with
  | some ns, some rs => some (ns :: rs)
  | _, _ => none
 | _ => none
noncomputable def lexI : List Int → List Int → Bool
 | [], [] => false
 | [], _ :: _ => true
 | _ :: _, [] => false
 | a :: as, b :: bs => if (a == b) = true then lexI as bs else decide (a < b)
noncomputable def kSort (ds : List D) : Option (List D) := match rowsD ds with
 | some rows => if (rows.all fun r => decide (0 < r.length)) = true ∧ 2 ≤ ds.length ∧ ds.length < 64 then (match kEval ds.length (fun i j => lexI (rows.getD i []) (rows.getD j [])) (PySem.W.kas_sort ds.length) with
   | some p => if p.size ≤ 1000 then some (p.toList.map fun i => ds.getD i .non) else none
   | none => none) else none
 | none => none
noncomputable def sortedD : D → M D
 | .ref n => bnd (getL n) fun ds => match kSort ds with
  | some es => alloc (.lst es)
  | none => bad
 | _ => bad
end MM
namespace MM
open PySem PySem.Spec PyProof.Rows L2
theorem Qgc {α : Type} {n : Nat} {f : Nat → Nat → Bool} {cmp : Nat → Nat → (Bool → Shared → Prop) → Shared → Prop} {G : α → Shared → Prop} {s : Shared} (hc : ∀ i j C, i < n → j < n → C (f i j) s → cmp i j C s) :
  ∀ (t : PySem.W.KasT α) {a : α}, kEval n f t = some a → G a s → t.kasWp cmp G s
 | .ret b, a, h, g => by cases h; exact g
 | .ask i j k, a, h, g => by
  unfold kEval at h
  by_cases hij : i < n ∧ j < n
  ·rw [if_pos hij] at h
   exact hc i j _ hij.1 hij.2 (Qgc hc (k (f i j)) h g)
  ·rw [if_neg hij] at h; cases h
section
variable {prog : Program} {w : World} {A : Around} {s : Shared} {Q : Bool → Shared → Prop}
theorem Qgd {as bs : List Int} {us ws : List Value} (i : Nat) {fin : Bool} (h1 : IntsAre us as) (h2 : IntsAre ws bs) (hf : fin = decide (as.length < bs.length)) (h : Q (lexI as bs) s) : PySem.W.KatLex prog w A true fin Q (us.zip ws) i s := by
 induction as generalizing bs us ws i fin with
 | nil =>
  cases h1
  refine PySem.W.kat_nil ?_
  cases h2 with
  | nil => rw [hf]; exact h
  | @cons b u vs bs r' =>
   rw [hf]
   have : decide (([] : List Int).length < (b :: bs).length) = true := by simp
   rw [this]; exact h
 | cons a as ih =>
  cases h1 with
  | cons _ t r => cases h2 with
   | nil =>
    refine PySem.W.kat_nil ?_
    rw [hf]
    have : decide ((a :: as).length < ([] : List Int).length) = false := by simp
    rw [this]; exact h
   | @cons b u vs bs r' =>
    refine PySem.W.kat_cons (wpAny_eqBool_int ?_)
    unfold lexI at h
    by_cases e : (a == b) = true
    ·rw [e]
     rw [if_pos e] at h
     exact PySem.W.kat_yes (ih (i + 1) r r' (by rw [hf]; simp) h)
    ·have e' : (a == b) = false := by simpa using e
     rw [e']
     rw [if_neg e] at h
     refine PySem.W.kat_no ?_
     cases i with
     | zero => exact oneLt_int h
     | succ i => exact PySem.W.kat_one _ _ (lt_int h)
end
section
variable {X : Cx} {K : PySem.W.Frag} {ρ : List Addr} {H : Hp} {st : Sto}
theorem Qge {pins : List (Addr × Obj)} {σ : St} {s : Shared} (I : Inv X pins σ H s) : ∀ {vs : List V} {ds : List D} {its : List Value} {rows : List (List Int)}, Reps X.K ρ H vs ds → Vals vs its → rowsD ds = some rows →
  rows.length = ds.length ∧ ∀ (i : Nat) (h : i < ds.length), ∃ a xs, its[i]? = some (.ref a) ∧ IsTup s.heap a xs ∧ IntsAre xs.toList (rows.getD i [])
 | _, _, _, rows, .nil, .nil, e => by cases e; exact ⟨rfl, fun i h => by simp at h⟩
 | _, _, _, rows, .cons (d := d) (ds := ds) r t, .cons ru tu, e => by
  cases r with
  | @tup a vs' xs hq rr =>
   unfold rowsD at e
   cases e1 : numsL xs with
   | none => rw [e1] at e; cases e
   | some ns =>
    cases e2 : rowsD ds with
    | none => rw [e1, e2] at e; cases e
    | some rs =>
     rw [e1, e2] at e
     cases e
     obtain ⟨l1, h1⟩ := Qge I t tu e2
     refine ⟨by simp [l1], fun i hi => ?_⟩
     cases i with
     | succ i =>
      obtain ⟨a', xs', q1, q2, q3⟩ := h1 i (by simpa using hi)
      exact ⟨a', xs', by simpa using q1, q2, by simpa using q3⟩
     | zero =>
      obtain ⟨its', rv, p, _⟩ := I.tuple hq
      cases (show _ = Value.ref a from ru)
      have := Qfh e1 rr
      subst this
      exact ⟨a, _, rfl, p, by simpa using Qb5 rv⟩
  | _ => cases e
theorem Qgf {h : Heap} {a : Addr} {m m' : Str → Option Value} (x : h.Ns a m) (y : h.Ns a m') : m = m' := by
 obtain ⟨o, es, ep, e1, e2, _, e3⟩ := x
 obtain ⟨o', es', ep', f1, f2, _, f3⟩ := y
 rw [e1] at f1; cases f1
 rw [e2] at f2; cases f2
 funext n
 rw [← e3 n, f3 n]
theorem Reps.pick : ∀ {vs : List V} {ds : List D} (i : Nat), Reps K ρ H vs ds → Rep K ρ H (vs.getD i .non) (ds.getD i .non)
 | _, _, _, .nil => by simp; exact .non
 | _, _, 0, .cons r t => by simpa using r
 | _, _, i + 1, .cons r t => by simpa using Reps.pick i t
theorem Vals.pick : ∀ {vs : List V} {us : List Value} (i : Nat), Vals vs us → RelV (vs.getD i .non) (us.getD i .none)
 | _, _, _, .nil => by simp; rfl
 | _, _, 0, .cons r t => by simpa using r
 | _, _, i + 1, .cons r t => by simpa using Vals.pick i t
theorem Reps.picks {vs : List V} {ds : List D} (r : Reps K ρ H vs ds) : ∀ (p : List Nat), Reps K ρ H (p.map fun i => vs.getD i .non) (p.map fun i => ds.getD i .non)
 | [] => .nil
 | i :: p => .cons (Reps.pick i r) (Reps.picks r p)
theorem Vals.picks {vs : List V} {us : List Value} (r : Vals vs us) : ∀ (p : List Nat), Vals (p.map fun i => vs.getD i .non) (p.map fun i => us.getD i .none)
 | [] => .nil
 | i :: p => .cons (Vals.pick i r) (Vals.picks r p)
theorem Qgg {P : Program} {w : World} {H : Hp} {h : Heap} {a : Addr} {o : HO} (x : ObjOk P w H h a o) : ∃ ob, h.get? a = some ob := by
 cases o with
 | lst _ => obtain ⟨_, _, _, _, e⟩ := x; exact ⟨_, e⟩
 | tup _ => obtain ⟨_, _, _, ob, e, _⟩ := x; exact ⟨_, e⟩
 | dK _ => obtain ⟨_, _, _, _, ob, _, _, e, _⟩ := x; exact ⟨_, e⟩
 | dT _ => obtain ⟨_, _, _, _, ob, _, _, e, _⟩ := x; exact ⟨_, e⟩
 | set _ _ => obtain ⟨ob, _, _, _, e, _⟩ := x; exact ⟨_, e⟩
 | ins _ _ _ => obtain ⟨_, _, _, e, _⟩ := x; exact ⟨_, e⟩
 | own _ => obtain ⟨_, e⟩ := x; exact ⟨_, e⟩
 | xd _ => obtain ⟨_, ⟨_, _, _, e, _⟩, _⟩ := x; exact ⟨_, e⟩
 | rng _ _ => obtain ⟨_, _, _, e⟩ := x; exact ⟨_, e⟩
 | frz _ _ => obtain ⟨e, _⟩ := x; exact ⟨_, e⟩
 | tbl _ => exact ⟨_, (show h.get? a = some _ from x)⟩
 | met _ _ => exact ⟨_, (show h.get? a = some _ from x)⟩
 | ext _ => obtain ⟨_, ⟨_, e⟩, _⟩ := x; exact ⟨_, e⟩
theorem Qgh : CallR X (.builtin "sorted") (fun xs H Q => ∃ (l : Addr) (vs : List V) (ρ : List Addr) (ds : List D) (rows : List (List Int)) (p : Array Nat), xs = [.ref l] ∧ SqL X.K H l vs ∧ Reps X.K ρ H vs ds ∧ rowsD ds = some rows ∧ (rows.all fun r => decide (0 < r.length)) = true ∧ 2 ≤ ds.length ∧ ds.length < 64 ∧
  kEval ds.length (fun i j => lexI (rows.getD i []) (rows.getD j [])) (PySem.W.kas_sort ds.length) = some p ∧ p.size ≤ 1000 ∧ ∀ q, H q = none → Q (.ref q) (upd H q (.lst (p.toList.map fun i => vs.getD i .non)))) := by
 intro pins s σ H xs us Q I r h
 obtain ⟨l, vs, ρ, ds, rows, p, rfl, hq, rr, hrows, hall, h2, h64, hev, hps, q⟩ := h
 obtain ⟨u, rfl, rx⟩ := QbA r
 cases rx
 obtain ⟨its, rv, pl, hz⟩ := I.list hq
 have l1 := rv.length
 have l2 := rr.length
 have hil : its.length = ds.length := by ac_nf
 obtain ⟨hrl, hit⟩ := Qge I rr rv hrows
 obtain ⟨m, F⟩ := I.fr
 have N : News X.base X.env.locals s.heap (allNews X.base s.heap X.env.locals) := Qar
 have neL : ∀ a xs, IsTup s.heap a xs → a ≠ X.env.locals := fun a xs ht e => by
  obtain ⟨o, ho, hc, n, hd⟩ := ht
  obtain ⟨o', es, ep, ho', hd', _⟩ := F.ns
  rw [e, ho'] at ho; cases ho
  rw [hd'] at hd; cases hd
 have kept : ∀ h', Fr X.base X.env.locals h' m → News X.base X.env.locals h' (allNews X.base s.heap X.env.locals) → ∀ b o, b ≠ X.env.locals → s.heap.get? b = some o → h'.get? b = some o := fun h' F' N' b o hb e => by
  cases z : X.base.get? b with
  | some u =>
   have := F.keep b u z
   rw [e] at this; cases this
   exact F'.keep b _ z
  | none => exact (N' (b, o) (Qap hb z e)).1
 refine PySem.W.kat_sorted F N pl.isList (by ac_nf) (by ac_nf) fun D e1 h' F' N' hD => ?_
 have N'' : News X.base X.env.locals h' (allNews X.base s.heap X.env.locals) := fun z hz => N' z (List.mem_cons_of_mem _ hz)
 have hDL := (N' _ (List.mem_cons_self ..)).2.1
 have hDb := (N' _ (List.mem_cons_self ..)).2.2
 have hDs : s.heap.get? D = none := by
  cases z : s.heap.get? D with
  | none => rfl
  | some o => exact absurd (hD _ (Qap hDL hDb z)) (Nat.lt_irrefl _)
 have hDH : H D = none := by
  cases z : H D with
  | none => rfl
  | some o =>
   obtain ⟨ob, e⟩ := Qgg (I.hok D o z)
   rw [hDs] at e; cases e
 have hit' : ∀ (i : Nat), i < ds.length → ∃ a xs o n, its[i]? = some (.ref a) ∧ h'.get? a = some o ∧ o.cls = .type "tuple" ∧ o.data = .seq xs n ∧ IntsAre xs.toList (rows.getD i []) := fun i hi => by
  obtain ⟨a, xs, e, ht, hx⟩ := hit i hi
  have hn := neL a xs ht
  obtain ⟨o, ho, hc, n, hd⟩ := ht
  exact ⟨a, xs, o, n, e, kept h' F' N'' a o hn ho, hc, hd, hx⟩
 have tups : ∃ fs : List Value, PySem.W.KatTups h' its fs ∧ fs.length = its.length ∧ ∀ v ∈ fs, ∃ (k : Int) (t : Tok), v = .int k t := by
  have gen : ∀ (ys : List Value), (∀ v ∈ ys, ∃ a xs o n, v = .ref a ∧ h'.get? a = some o ∧ o.cls = .type "tuple" ∧ o.data = .seq xs n ∧ ∃ (k : Int) (t : Tok), xs[0]? = some (.int k t)) → ∃ fs : List Value, PySem.W.KatTups h' ys fs ∧ fs.length = ys.length ∧ ∀ v ∈ fs, ∃ (k : Int) (t : Tok), v = .int k t := by
   intro ys
   induction ys with
   | nil => exact fun _ => ⟨[], trivial, rfl, by simp⟩
   | cons y ys ih =>
    intro hy
    obtain ⟨fs, k1, k2, k3⟩ := ih fun v hv => hy v (by simp [hv])
    obtain ⟨a, xs, o, n, e, ho, hc, hd, k, t, hx⟩ := hy y (by simp)
    subst e
    exact ⟨.int k t :: fs, PySem.W.KatTups.cons ho hc hd hx k1, by simp [k2], fun v hv => by
     rcases List.mem_cons.mp hv with z | z
     ·exact ⟨k, t, z⟩
     ·exact k3 v z⟩
  refine gen its fun v hv => ?_
  obtain ⟨i, hi⟩ := List.getElem?_of_mem hv
  have hlt : i < ds.length := by rw [← hil]; exact (List.getElem?_eq_some_iff.mp hi).1
  obtain ⟨a, xs, o, n, e, ho, hc, hd, hx⟩ := hit' i hlt
  rw [hi] at e; cases e
  refine ⟨a, xs, o, n, rfl, ho, hc, hd, ?_⟩
  have hpos : 0 < (rows.getD i []).length := by
   have hr : i < rows.length := by ac_nf
   have : rows.getD i [] = rows[i] := by simp [hr]
   rw [this]
   have := List.all_eq_true.mp hall rows[i] (List.getElem_mem hr)
   simpa using this
  cases hrow : rows.getD i [] with
  | nil => rw [hrow] at hpos; simp at hpos
  | cons k ks =>
   rw [hrow] at hx
   cases hxs : xs.toList with
   | nil => rw [hxs] at hx; cases hx
   | cons y ys =>
    rw [hxs] at hx
    cases hx with
    | cons _ t r => exact ⟨k, t, by rw [← Array.getElem?_toList, hxs]; rfl⟩
 obtain ⟨fs, t1, t2, t3⟩ := tups
 refine PySem.W.kat_kind (T := .type "int") t1 (by ac_nf) (fun v hv => ?_) (by decide) ?_
 ·obtain ⟨k, t, e⟩ := t3 v hv
  subst e
  exact PySem.W.Looks.of_pure rfl
 refine Qgc (n := ds.length) (f := fun i j => lexI (rows.getD i []) (rows.getD j [])) (fun i j C hi hj hC => ?_) (PySem.W.kas_sort its.length) (a := p) (by rw [hil]; exact hev) ?_
 ·obtain ⟨a, xs, o, n, e, ho, hc, hd, hx⟩ := hit' i hi
  obtain ⟨b, ys, o', n', e', ho', hc', hd', hy⟩ := hit' j hj
  show wpAny _ _ (keyLt' _ (its.getD i Value.none) (its.getD j Value.none)) _ _ _
  have z1 : its.getD i Value.none = .ref a := by rw [List.getD_eq_getElem?_getD, e]; rfl
  have z2 : its.getD j Value.none = .ref b := by rw [List.getD_eq_getElem?_getD, e']; rfl
  rw [z1, z2]
  refine PySem.W.kat_lt ho hd ho' hd' (Qgd 0 hx hy ?_ hC)
  have y1 := IntsAre.length hx
  have y2 := IntsAre.length hy
  rw [← y1, ← y2, Array.length_toList, Array.length_toList]
 ·refine PySem.W.KasFin.intro F' N' (PySem.W.UpdF.head (fun z hz => Nat.ne_of_lt (hD z hz))) fun h3 c F3 N3 => ?_
  have N4 : News X.base X.env.locals h3 (allNews X.base s.heap X.env.locals) := fun z hz => N3 z (List.mem_cons_of_mem _ hz)
  have hD3 := (N3 _ (List.mem_cons_self ..)).1
  have kp := kept h3 F3 N4
  have hsz : (p.toList.map fun i => vs.getD i V.non).length ≤ sizeLine := by
   rw [List.length_map, Array.length_toList]
   have : 1000 ≤ sizeLine := by decide
   ac_nf
  have hfree := I.free
  suffices I3 : Inv X pins σ (upd H D (.lst (p.toList.map fun i => vs.getD i V.non))) { s with heap := h3, gens := s.gens, drawn := s.drawn, toks := s.toks } by
   exact ⟨.ref D, upd H D (.lst (p.toList.map fun i => vs.getD i V.non)), I3, rfl, q D hDH⟩
  refine I.step (g' := s.gens) (d' := s.drawn) (t' := s.toks) (ch := []) (fun b hb => by cases hb) (fun b o h1 _ _ e _ => kp b o h1 e) (fun b o h1 _ _ e _ => ⟨o.slots, kp b o h1 e⟩)
   (fun b o _ e n1 => by rw [Qaj (fun z => by rw [z, hDs] at e; cases e)]; exact n1)
   (fun b o _ e => by
    by_cases z : b = X.env.locals
    ·obtain ⟨o', _, _, ho', _⟩ := F3.ns
     exact ⟨o', by rw [z]; exact ho'⟩
    ·exact ⟨o, kp b o z e⟩)
   (fun b ys e => by rw [Qaj (Qal e hDH)]; exact e) (fun b o ys e => by rw [Qaj (Qal e hDH)]; exact e) (fun b ps e => ⟨#[], by rw [Qaj (Qal e hDH), e]; simp⟩)
   (fun m' hm => by rw [← Qgf F.ns hm]; exact F3.ns) ?_ I.bare
  intro a o e
  by_cases z : a = D
  ·subst z
   rw [Qai] at e; cases e
   exact ⟨hsz, _, c, Vals.picks rv p.toList, hD3⟩
  ·rw [Qaj z] at e
   refine (I.hok a o e).stay (fun b u hb e1 => kp b u (fun zz => ?_) e1) (fun b e1 => by rw [Qaj (Qal e1 hDH)]; exact e1) (fun b ys e1 => by rw [Qaj (Qal e1 hDH)]; exact e1)
   rcases hb with y | y
   ·rw [y] at zz; rw [zz, hfree] at e; cases e
   ·rw [zz, hfree] at y; cases y
theorem Qgi : CallR X (.builtin "sorted") (fun xs H Q => ∃ v, xs = [v] ∧ uOf X.K sortedD v H Q) := Qgh.of fun xs H Q pq90 => by
 obtain ⟨v, e, ρ, st, d, sr, rv, p⟩ := pq90
 cases rv with
 | @ref a n _ h =>
  obtain ⟨ds, e2, p1⟩ := Post.getL (Post.bnd p) sr
  obtain ⟨a', vs, ha, hv, r⟩ := sr.seq e2
  rw [h] at ha; cases ha
  unfold kSort at p1
  cases hr : rowsD ds with
  | none => rw [hr] at p1; exact p1.elim
  | some rows =>
   rw [hr] at p1
   by_cases hc : (rows.all fun r => decide (0 < r.length)) = true ∧ 2 ≤ ds.length ∧ ds.length < 64
   ·simp only [if_pos hc] at p1
    cases he : kEval ds.length (fun i j => lexI (rows.getD i []) (rows.getD j [])) (PySem.W.kas_sort ds.length) with
    | none => rw [he] at p1; exact p1.elim
    | some pp =>
     rw [he] at p1
     by_cases hz : pp.size ≤ 1000
     ·simp only [if_pos hz] at p1
      refine ⟨a, vs, ρ, ds, rows, pp, e, SqL.of hv, r, hr, hc.1, hc.2.1, hc.2.2, he, hz, fun q hq => ?_⟩
      have nl := sr.fresh hq
      have s2 : SR X.K (ρ ++ [q]) (upd H q (.lst (pp.toList.map fun i => vs.getD i V.non))) (st ++ [.lst (pp.toList.map fun i => ds.getD i D.non)]) := (sr.new hq).keep Qai nl ((Reps.picks r pp.toList).mono (Ex.new hq))
      refine p1 _ _ (Ex.newL hq) s2 _ (.ref ⟨_, Qai, rfl⟩ ?_)
      rw [← sr.len]; simp
     ·simp only [if_neg hz] at p1; exact p1.elim
   ·simp only [if_neg hc] at p1; exact p1.elim
 | _ => exact p.elim
end
end MM
namespace MM
open PySem PySem.Spec PyProof.Rows L2
section
variable {X : Cx} {pins : List (Addr × Obj)} {σ : St} {H : Hp} {s : Shared} {h' : Heap} {ch : List Addr}
theorem Qgj {t' : Nat} (I : Inv X pins σ H s) (hf : ∀ b ∈ ch, FpOk X pins H b) (keep : ∀ b o, b ∉ ch → s.heap.get? b = some o → h'.get? b = some o) : Inv X pins σ H { s with heap := h', toks := t' } := by
 have ne : ∀ b o, H b = some o → b ∉ ch := fun b o e z => by rw [(hf b z).1] at e; cases e
 have hL : X.env.locals ∉ ch := fun z => (hf _ z).2.1 rfl
 refine I.step (g' := s.gens) (d' := s.drawn) (ch := ch) (fun b hb => ?_) (fun b o _ _ hc e _ => keep b o hc e) (fun b o _ _ hc e _ => ⟨o.slots, keep b o hc e⟩) (fun b o _ _ e => e) (fun b o hc e => ⟨o, keep b o hc e⟩)
  (fun b ys e => e) (fun b o ys e => e) (fun b ps e => ⟨#[], by rw [e]; simp⟩) (fun m hm => ?_) ?_ I.bare
 ·obtain ⟨f0, f1, f2, f3, f4, f5⟩ := hf b hb
  exact ⟨f3, f1, f4, f5⟩
 ·obtain ⟨o, es, ep, e, r⟩ := hm
  exact ⟨o, es, ep, keep _ o hL e, r⟩
 ·intro a o e
  refine (I.hok a o e).stay (fun b u hb e1 => keep b u ?_ e1) (fun b e1 => e1) (fun b ys e1 => e1)
  rcases hb with y | y
  ·rw [y]; exact ne a o e
  ·exact ne b _ y
theorem Qgk {t' : Nat} {T : Addr} {vs : List V} {its : List Value} (I : Inv X pins σ H s) (hf : ∀ b ∈ ch, FpOk X pins H b) (keep : ∀ b o, b ∉ ch → s.heap.get? b = some o → h'.get? b = some o) (hT : s.heap.objs.size ≤ T)
  (hz : vs.length ≤ sizeLine) (hv : Vals vs its) (hp : IsTup h' T its.toArray) : Inv X pins σ (upd H T (.tup vs)) { s with heap := h', toks := t' } := by
 have hTn : H T = none := I.hok.fresh hT
 have ne : ∀ b o, H b = some o → b ∉ ch := fun b o e z => by rw [(hf b z).1] at e; cases e
 have hL : X.env.locals ∉ ch := fun z => (hf _ z).2.1 rfl
 refine I.step (g' := s.gens) (d' := s.drawn) (ch := ch) (fun b hb => ?_) (fun b o _ _ hc e _ => keep b o hc e) (fun b o _ _ hc e _ => ⟨o.slots, keep b o hc e⟩) (fun b o _ e n => by rw [Qaj (Nat.ne_of_lt (Nat.lt_of_lt_of_le (Heap.lt_size e) hT))]; exact n) (fun b o hc e => ⟨o, keep b o hc e⟩)
  (fun b ys e => by rw [Qaj (Qal e hTn)]; exact e) (fun b o ys e => by rw [Qaj (Qal e hTn)]; exact e) (fun b ps e => ⟨#[], by rw [Qaj (Qal e hTn), e]; simp⟩) (fun m hm => ?_) ?_ I.bare
 ·obtain ⟨f0, f1, f2, f3, f4, f5⟩ := hf b hb
  exact ⟨f3, f1, f4, f5⟩
 ·obtain ⟨o, es, ep, e, r⟩ := hm
  exact ⟨o, es, ep, keep _ o hL e, r⟩
 ·intro a o e
  by_cases z : a = T
  ·subst z
   rw [Qai] at e; cases e
   exact ⟨hz, its, hv, hp⟩
  ·rw [Qaj z] at e
   refine (I.hok a o e).stay (fun b u hb e1 => keep b u ?_ e1) (fun b e1 => by rw [Qaj (Qal e1 hTn)]; exact e1) (fun b ys e1 => by rw [Qaj (Qal e1 hTn)]; exact e1)
   rcases hb with y | y
   ·rw [y]; exact ne a o e
   ·exact ne b _ y
end
noncomputable def Itz (K : PySem.W.Frag) (a b : Addr) : It :=
 ⟨fun i H => ∃ xs ys x y, SqL K H a xs ∧ SqL K H b ys ∧ xs[i]? = some x ∧ ys[i]? = some y,
  fun i H r H' => ∃ T x y, r = .ref T ∧ H T = none ∧ (∀ xs, SqL K H a xs → xs[i]? = some x) ∧ (∀ ys, SqL K H b ys → ys[i]? = some y) ∧ H' = upd H T (.tup [x, y]),
  fun i H => ∃ xs ys, SqL K H a xs ∧ SqL K H b ys ∧ (xs.length ≤ i ∨ ys.length ≤ i)⟩
section
variable {X : Cx} {tg : Expr} {es : List Expr} {pos : Pos} {fa fb : CE} {K : PySem.W.Frag} {ρ : List Addr} {H : Hp} {st : Sto}
def zipSt (z tI tO i1 i2 a b : Addr) (i : Nat) (h : Heap) : Prop := IsZip h z tI tO .none ∧ IsPair h tI (.ref i1) (.ref i2) ∧ (∃ u v, IsPair h tO u v) ∧ h.IsListIter i1 a i ∧ h.IsListIter i2 b i
theorem Qgl {P : Program} {w : World} {k : Nat} {z tI tO i1 i2 a b : Addr} (D : ZipApart z tI tO i1 i2 a b) : Turn P w K (.Tuple es k pos) (Itz K a b) [z, tI, tO, i1, i2] z (zipSt z tI tO i1 i2 a b) where
 mem := by simp
 obj := fun i h pq91 c hc => by
  obtain ⟨h1, h2, ⟨u, v, h3⟩, ⟨o4, h4, c4, d4⟩, ⟨o5, h5, c5, d5⟩⟩ := pq91
  simp only [List.mem_cons, List.not_mem_nil, or_false] at hc
  rcases hc with e | e | e | e | e <;> subst e
  ·exact ⟨_, h1, fun v q => by cases q⟩
  ·exact ⟨_, h2, fun v q => by cases q⟩
  ·exact ⟨_, h3, fun v q => by cases q⟩
  ·exact ⟨_, h4, fun v q => by rw [d4] at q; cases q⟩
  ·exact ⟨_, h5, fun v q => by rw [d5] at q; cases q⟩
 keep := fun i h h' pq92 kp => by obtain ⟨h1, h2, ⟨u, v, h3⟩, h4, h5⟩ := pq92; exact ⟨kp z (by simp) _ h1, kp tI (by simp) _ h2, ⟨u, v, kp tO (by simp) _ h3⟩, h4.at fun o e => kp i1 (by simp) o e, h5.at fun o e => kp i2 (by simp) o e⟩
 item := by
  intro X hP hw hK hc i pins s σ H E I hf pq137 hg; obtain ⟨h1, h2, ⟨u, v, h3⟩, h4, h5⟩ := pq137
  subst hP hw hK
  obtain ⟨xs, ys, x, y, qa, qb, hx, hy⟩ := hg
  obtain ⟨its, rv, p, hz⟩ := I.list qa
  obtain ⟨its2, rv2, p2, hz2⟩ := I.list qb
  obtain ⟨ux, hux, rux⟩ := rv.get hx
  obtain ⟨uy, huy, ruy⟩ := rv2.get hy
  refine wpAny_pyNext_zip_item D h1 h2 h3 h4 h5 p.isList p2.isList (x := ux) (y := uy) (by simpa using hux) (by simpa using huy) fun h' g1 g2 g3 g4 g5 g6 g7 => ?_
  refine ⟨_, rfl, wpAny_letOwnedTupleGo_zip g1 fun h'' k1 k2 => ?_⟩
  have zlt : z < s.heap.objs.size := Heap.lt_size h1
  have keep : ∀ c o, c ∉ [z, tI, tO, i1, i2] → s.heap.get? c = some o → h''.get? c = some o := fun c o hc e => by
   simp only [List.mem_cons, List.not_mem_nil, or_false, not_or] at hc
   exact (k2.2 c hc.1).trans (g7 c o hc.1 hc.2.2.1 hc.2.2.2.1 hc.2.2.2.2 e)
  have hT : IsPair h'' s.heap.objs.size ux uy := (k2.2 _ (Nat.ne_of_gt zlt)).trans g5
  have I2 : Inv X pins σ (upd H s.heap.objs.size (.tup [x, y])) { s with heap := h'', toks := s.toks } :=
   Qgk (its := [ux, uy]) I hf keep (Nat.le_refl _) (by show 2 ≤ sizeLine; decide) (.cons rux (.cons ruy .nil)) ⟨_, hT, rfl, _, rfl⟩
  have hTn : H s.heap.objs.size = none := I.hok.fresh (Nat.le_refl _)
  have at' : ∀ {it l : Addr} {n : Nat}, it ≠ z → h'.IsListIter it l n → h''.IsListIter it l n := fun {it l n} hne hi => hi.at fun o e => (k2.2 it hne).trans e
  refine ⟨.ref s.heap.objs.size, _, I2, rfl, ⟨_, x, y, rfl, hTn, fun zs hzs => by rw [I.list_inj hzs qa]; exact hx, fun zs hzs => by rw [I.list_inj hzs qb]; exact hy, rfl⟩,
   ⟨k1, (k2.2 tI D.TIz).trans (g7 tI _ D.TIz D.TITO D.TIi1 D.TIi2 h2), ⟨_, _, (k2.2 tO D.TOz).trans g2⟩, at' D.i1z g3, at' D.i2z g4⟩, fun c hc => ?_⟩
  rw [Qaj]
  ·exact (hf c hc).1
  ·intro e
   have : ∃ o, s.heap.get? c = some o := by
    simp only [List.mem_cons, List.not_mem_nil, or_false] at hc
    rcases hc with q | q | q | q | q <;> subst q
    ·exact ⟨_, h1⟩
    ·exact ⟨_, h2⟩
    ·exact ⟨_, h3⟩
    ·obtain ⟨o, e, _⟩ := h4; exact ⟨o, e⟩
    ·obtain ⟨o, e, _⟩ := h5; exact ⟨o, e⟩
   obtain ⟨o, eo⟩ := this
   have := Heap.lt_size eo
   rw [e] at this
   exact absurd this (Nat.lt_irrefl _)
 done := by
  intro X hP hw hK hc i pins s σ H E I hf pq138 hg; obtain ⟨h1, h2, ⟨u, v, h3⟩, h4, h5⟩ := pq138
  subst hP hw hK
  obtain ⟨xs, ys, qa, qb, hl⟩ := hg
  obtain ⟨its, rv, p, hz⟩ := I.list qa
  obtain ⟨its2, rv2, p2, hz2⟩ := I.list qb
  have l1 := rv.length
  have l2 := rv2.length
  refine wpAny_pyNext_zip_end (I.ok.hd hc) D h1 h2 h3 h4 h5 p.isList p2.isList ?_ fun h' g => ⟨rfl, Qgj (t' := s.toks) I hf fun c o hc e => ?_⟩
  ·rcases hl with hl | hl
   ·exact .inl (by simp; ac_nf)
   ·exact .inr (by simp; ac_nf)
  ·simp only [List.mem_cons, List.not_mem_nil, or_false, not_or] at hc
   exact g c o hc.1 hc.2.2.1 hc.2.2.2.1 hc.2.2.2.2 e
 self := fun _ _ _ _ _ pq93 h => by obtain ⟨h1, _⟩ := pq93; exact wpAny_pyIter_zip h1 h
theorem Qgm {a b : Expr} {ta : TA} {p tpos : Pos} {k : Nat} (hg : Gl X "zip") (hm : X.mg "zip" = none) (ha : PA X [a, b] ta) (hs : starEach [a, b] X.env = [(false, eval a X.env), (false, eval b X.env)]) (hs2 : starEach [b] X.env = [(false, eval b X.env)]) :
  PI X (.Tuple es k tpos) (.Call (.Name "zip" p) [a, b] [] pos) (fun σ H R => ta σ H fun vs H1 => ∃ l1 l2 xs ys, vs = [.ref l1, .ref l2] ∧ SqL X.K H1 l1 xs ∧ SqL X.K H1 l2 ys ∧ R (Itz X.K l1 l2) H1) := by
 intro pins s σ H R I h
 refine Call_ (QaB I hg hm boot_zip (PyProof.Rows.callWith_type1 (thn (ha pos pins s σ H _ I h) fun us s1 ⟨vs, H1, I1, r1, q1⟩ => ?_) (by rw [hs, hs2]) (by rw [hs2]; rfl)))
 obtain ⟨l1, l2, xs, ys, e, hx, hy, q⟩ := q1
 subst e
 cases r1 with
 | cons r rr =>
  cases rr with
  | cons r' rr =>
   cases rr
   cases r
   cases r'
   obtain ⟨its, rv, p1, hz⟩ := I1.list hx
   obtain ⟨its2, rv2, p2, hz2⟩ := I1.list hy
   have lt1 : l1 < s1.heap.objs.size := by obtain ⟨o, e, _⟩ := p1.isList; exact Heap.lt_size e
   have lt2 : l2 < s1.heap.objs.size := by obtain ⟨o, e, _⟩ := p2.isList; exact Heap.lt_size e
   refine call_zip_2 p1.isList p2.isList fun h' g1 g2 g3 g4 g5 g6 g7 => wpAny_pyIter_zip g1 ?_
   have I2 : Inv X pins σ H1 { s1 with heap := h' } := I1.kept (t' := s1.toks) g7
   refine ⟨s1.heap.objs.size + 4, [s1.heap.objs.size + 4, s1.heap.objs.size + 2, s1.heap.objs.size + 3, s1.heap.objs.size, s1.heap.objs.size + 1], _, Itz X.K l1 l2, H1, rfl, I2, Qgl (zipApart_new lt1 lt2), ⟨g1, g2, ⟨_, _, g3⟩, g4, g5⟩, fun b hb => ?_, q⟩
   have hle : s1.heap.objs.size ≤ b := by
    simp only [List.mem_cons, List.not_mem_nil, or_false] at hb
    rcases hb with e | e | e | e | e <;> rw [e] <;> ac_nf
   exact I1.fpOk hle (I1.hok.fresh hle)
noncomputable def  iZipL (a b : CE) : CI := fun l => bnd (a l) fun x => bnd (b l) fun y => match x, y with
 | .ref m, .ref n => bnd (getL m) fun ds => bnd (getL n) fun es => ret ⟨ds.zipWith (fun p q => .tup [p, q]) es, fun s => sameL m ds s ∧ sameL n es s⟩
 | _, _ => bad
theorem Qgn {a b : Expr} {p tpos : Pos} {k : Nat} (hg : Gl X "zip") (hm : X.mg "zip" = none) (h : SE X a fa) (h' : SE X b fb) (he1 : starEach [a, b] X.env = (false, eval a X.env) :: starEach [b] X.env := by rfl) (he2 : starEach [b] X.env = (false, eval b X.env) :: starEach [] X.env := by rfl)
  (hs : starEach [a, b] X.env = [(false, eval a X.env), (false, eval b X.env)] := by rfl) (hs2 : starEach [b] X.env = [(false, eval b X.env)] := by rfl) : SI X (.Tuple es k tpos) (.Call (.Name "zip" p) [a, b] [] pos) (iZipL fa fb) :=
 (Qgm hg hm (QbK h (QbK h' QbJ he2) he1) hs hs2).of fun σ H R h_ => h_.el fun ρ l st lr sr p => ⟨ρ, l, st, lr, sr, p.bnd.imp fun d st1 ρ1 H1 x1 s1 p1 v rv => ⟨ρ1, l, st1, lr.mono x1, s1, p1.bnd.imp fun e st2 ρ2 H2 x2 s2 p2 w rw' => by
  have rv2 := rv.mono x2
  cases rv2 with
  | @ref a1 m _ ha =>
   cases rw' with
   | @ref a2 n _ hb =>
    obtain ⟨ds, e1, p3⟩ := Post.getL (Post.bnd p2) s2
    obtain ⟨es', e2, p4⟩ := Post.getL (Post.bnd p3) s2
    obtain ⟨a1', vs, ha', hv, r⟩ := s2.seq e1
    obtain ⟨a2', ws, hb', hw, r'⟩ := s2.seq e2
    rw [ha] at ha'; cases ha'
    rw [hb] at hb'; cases hb'
    refine ⟨a1, a2, vs, ws, rfl, SqL.of hv, SqL.of hw, p4.ret s2 _ ?_⟩
    intro ρ3 H3 st3 x3 s3 pq139; obtain ⟨sm1, sm2⟩ := pq139
    obtain ⟨τ, eτ, _⟩ := x3.pre
    obtain ⟨b1, vs3, hb1, hv3, r3⟩ := s3.seq sm1
    obtain ⟨b2, ws3, hb2, hw3, r3'⟩ := s3.seq sm2
    rw [eτ, Qde ha] at hb1; cases hb1
    rw [eτ, Qde hb] at hb2; cases hb2
    have l1 := r3.length
    have l2 := r3'.length
    refine ⟨⟨vs3, ws3, SqL.of hv3, SqL.of hw3, ?_⟩, fun i d hd => ?_⟩
    ·show vs3.length ≤ (ds.zipWith _ es').length ∨ ws3.length ≤ (ds.zipWith _ es').length
     rw [List.length_zipWith]; ac_nf
    ·rw [List.getElem?_zipWith] at hd
     cases f1 : ds[i]? with
     | none => rw [f1] at hd; cases hd
     | some d1 =>
      cases f2 : es'[i]? with
      | none => rw [f1, f2] at hd; cases hd
      | some d2 =>
       rw [f1, f2] at hd
       have ed : d = .tup [d1, d2] := (Option.some.inj hd).symm
       subst ed
       obtain ⟨v1, k1, rv1⟩ := r3.get f1
       obtain ⟨v2, k2, rv2⟩ := r3'.get f2
       refine ⟨⟨vs3, ws3, v1, v2, SqL.of hv3, SqL.of hw3, k1, k2⟩, fun y H4 pq95 => ?_⟩
       obtain ⟨T, x, y', ey, hn, hx, hy, eH⟩ := pq95
       subst ey eH
       have z1 := hx vs3 (SqL.of hv3)
       have z2 := hy ws3 (SqL.of hw3)
       rw [k1] at z1; cases z1
       rw [k2] at z2; cases z2
       have x4 : Ex ρ3 H3 ρ3 (upd H3 T (.tup [v1, v2])) := Ex.new hn
       exact ⟨x4, s3.new hn, .tup (SqT.of Qai) (.cons (rv1.mono x4) (.cons (rv2.mono x4) .nil))⟩
   | _ => exact p2.elim
  | _ => cases rw' <;> exact p2.elim⟩⟩
end
end MM
namespace MM
open PySem PySem.Spec PyProof.Rows L2
structure Src (prog : Program) (w : World) (A : Around) (it src : Addr) (val : Nat → Option Value) (P : Nat → Heap → Prop) : Prop where
 there : ∀ k h, P k h → ∃ o, h.get? it = some o
 keep : ∀ k h h', P k h → (∀ b, b = it ∨ b = src → ∀ o, h.get? b = some o → h'.get? b = some o) → P k h'
 item : ∀ k x (s : Shared) (Q : Value → Shared → Prop) (E : Value → Shared → Prop), P k s.heap → val k = some x → (∀ h', P (k + 1) h' → Heap.SameBut it s.heap h' → Q x { s with heap := h' }) → wpAny (model prog w) A (Builtin.SmallTypes.nextOf (.ref it)) Q E s
 done : ∀ k (s : Shared) (Q : Value → Shared → Prop) (E : Value → Shared → Prop), P k s.heap → val k = none → (∀ h' e, Heap.ExtBut it s.heap h' → (∃ o, h'.get? e = some o ∧ o.cls = .type "StopIteration") → E (.ref e) { s with heap := h' }) → wpAny (model prog w) A (Builtin.SmallTypes.nextOf (.ref it)) Q E s
section
variable {prog : Program} {w : World} {A : Around} {E : Value → Shared → Prop} {s : Shared} {z tI tO i1 i2 l1 l2 : Addr} {v1 v2 : Nat → Option Value} {P1 P2 : Nat → Heap → Prop} {k : Nat} {u v : Value}
theorem Qgo {it src b : Addr} {val : Nat → Option Value} {P : Nat → Heap → Prop} {h h' : Heap} (S : Src prog w A it src val P) (x : P k h) (e : Heap.ExtBut b h h') (h1 : it ≠ b) (h2 : src ≠ b) : P k h' :=
 S.keep k h h' x fun c hc o ho => e c o (by rcases hc with q | q <;> rw [q] <;> assumption) ho
theorem Qgp {a it : Addr} {items : Array Value} (hh : A.handled = none) (hne : a ≠ it) : Src prog w A it a (fun i => items[i]?) (fun i h => h.IsTupleIter it a i ∧ h.IsTuple a items) where
 there := fun k h pq96 => by obtain ⟨⟨o, e, _⟩, _⟩ := pq96; exact ⟨o, e⟩
 keep := fun k h h' pq97 kp => by obtain ⟨⟨o, e, r⟩, ⟨o', e', r'⟩⟩ := pq97; exact ⟨⟨o, kp it (.inl rfl) o e, r⟩, ⟨o', kp a (.inr rfl) o' e', r'⟩⟩
 item := fun k x s Q E pq98 hx hQ => by obtain ⟨p1, p2⟩ := pq98; exact QfL p1 p2 hx fun h' q hs => hQ h' ⟨q, p2.extBut hs.extBut hne⟩ hs
 done := fun k s Q E pq99 hx hE => by obtain ⟨p1, p2⟩ := pq99; exact QfM hh p1 p2 hx hE
theorem Qgq {Q : Value → Shared → Prop} (D : ZipApart z tI tO i1 i2 l1 l2) (S1 : Src prog w A i1 l1 v1 P1) (S2 : Src prog w A i2 l2 v2 P2) (hz : IsZip s.heap z tI tO .none) (hi : IsPair s.heap tI (.ref i1) (.ref i2)) (ho : IsPair s.heap tO u v)
  (p1 : P1 k s.heap) (p2 : P2 k s.heap) {x y : Value} (hx : v1 k = some x) (hy : v2 k = some y)
  (hQ : ∀ h', IsZip h' z tI tO (rawInt s.heap.objs.size) → IsPair h' tO x y → P1 (k + 1) h' → P2 (k + 1) h' → IsPair h' s.heap.objs.size x y →
   (∀ c o, c ≠ z → c ≠ tO → c ≠ i1 → c ≠ i2 → s.heap.get? c = some o → h'.get? c = some o) → Q (.ref s.heap.objs.size) { s with heap := h' }) :
  wpAny (model prog w) A (Builtin.«zip.__next__» ⟨[.ref z], []⟩) (fun f s' => ∃ r, f = .done (.ret r) ∧ Q r s') E s := by
 show wpAny _ _ (field (.ref z) 2 >>= _) _ _ _; refine wpAny_bind (wpAny_field hz rfl (x := .bool false) rfl ?_); show wpAny _ _ (field (.ref z) 3 >>= _) _ _ _
 refine wpAny_bind (wpAny_field hz rfl (x := .ref tI) rfl (wpAny_bind (wpAny_seqItems hi rfl ?_))); show wpAny _ _ (Builtin.SmallTypes.ownedTupleIsFree (.ref z) >>= _) _ _ _; refine wpAny_bind ?_
 unfold Builtin.SmallTypes.ownedTupleIsFree; refine wpAny_bind (wpAny_field hz rfl (x := .none) rfl (wpAny_pure ?_)); simp only [if_true]
 refine wpAny_bind (wpAny_rule (wpAny_bind (wpAny_field hz rfl (x := .ref tO) rfl (wpAny_bind (wpAny_setField_rec hz (by simp) fun ha za sa => ?_)))))
 have za' : IsZip ha z tI tO .ellipsis := za
 refine wpAny_bind ?_; simp only [List.zipIdx_cons, List.zipIdx_nil, List.forIn_cons, List.forIn_nil]; refine wpAny_bind (wpAny_bind (wpAny_onRaise ?_)); show wpAny _ _ (Builtin.SmallTypes.nextOf (.ref i1) >>= _) _ _ _
 refine wpAny_bind (S1.item k x _ _ _ (Qgo S1 p1 sa.extBut D.i1z D.l1z) hx fun hb q1 sb => wpAny_pure ?_)
 have ob : IsPair hb tO u v := sb.extBut _ _ D.TOi1 (sa.extBut _ _ D.TOz ho)
 refine wpAny_bind (wpAny_seqItems ob rfl (wpAny_bind (wpAny_updateSeq_pair ob fun hc oc sc => ?_)))
 have oc' : IsPair hc tO x v := oc
 refine wpAny_bind (wpAny_letGo (wpAny_pure ?_)); refine wpAny_bind (wpAny_bind (wpAny_onRaise ?_)); show wpAny _ _ (Builtin.SmallTypes.nextOf (.ref i2) >>= _) _ _ _
 have p2c : P2 k hc := Qgo S2 (Qgo S2 (Qgo S2 p2 sa.extBut D.i2z D.l2z) sb.extBut D.i12.symm D.l2i1) sc.extBut D.TOi2.symm D.l2TO
 refine wpAny_bind (S2.item k y _ _ _ p2c hy fun hd q2 sd => wpAny_pure ?_)
 have od : IsPair hd tO x v := sd.extBut _ _ D.TOi2 oc'
 refine wpAny_bind (wpAny_seqItems od rfl (wpAny_bind (wpAny_updateSeq_pair od fun he oe se => ?_)))
 have oe' : IsPair he tO x y := oe
 refine wpAny_bind (wpAny_letGo (wpAny_pure (wpAny_pure ?_))); refine wpAny_bind (wpAny_seqItems oe' rfl (wpAny_bind (wpAny_newTuple ?_)))
 have size : he.objs.size = s.heap.objs.size := by rw [se.1, sd.1, sc.1, sb.1, sa.1]
 have ze : IsZip he z tI tO .ellipsis := se.extBut _ _ D.TOz.symm (sd.extBut _ _ D.i2z.symm (sc.extBut _ _ D.TOz.symm (sb.extBut _ _ D.i1z.symm za')))
 have all : ∀ c o, c ≠ z → c ≠ tO → c ≠ i1 → c ≠ i2 → s.heap.get? c = some o → he.get? c = some o := fun c o n1 n2 n3 n4 e => se.extBut _ _ n2 (sd.extBut _ _ n4 (sc.extBut _ _ n2 (sb.extBut _ _ n3 (sa.extBut _ _ n1 e))))
 have q1e : P1 (k + 1) he := Qgo S1 (Qgo S1 (Qgo S1 q1 sc.extBut D.TOi1.symm D.l1TO) sd.extBut D.i12 D.l1i2) se.extBut D.TOi1.symm D.l1TO
 have q2e : P2 (k + 1) he := Qgo S2 q2 se.extBut D.TOi2.symm D.l2TO
 have zlt : z < he.objs.size := Heap.lt_size ze
 show wpAny _ _ (Builtin.SmallTypes.ownedTupleHandOut (.ref z) (.ref he.objs.size) >>= _) _ _ _; refine wpAny_bind ?_; unfold Builtin.SmallTypes.ownedTupleHandOut
 have zf : IsZip (he.push { cls := .type "tuple", data := .seq #[x, y] }) z tI tO .ellipsis := Heap.get?_push_of_some _ ze
 refine wpAny_bind (wpAny_setField_rec zf (by simp) fun hg zg sg => ?_)
 have zg' : IsZip hg z tI tO (rawInt he.objs.size) := zg
 refine wpAny_setField_rec zg' (by simp) fun hh zh sh => ?_
 have zh' : IsZip hh z tI tO (rawInt he.objs.size) := zh
 have up : ∀ c o, c ≠ z → he.get? c = some o → hh.get? c = some o := fun c o n1 e => sh.extBut _ _ n1 (sg.extBut _ _ n1 (Heap.get?_push_of_some _ e))
 have new : IsPair hh he.objs.size x y := sh.extBut _ _ (Nat.ne_of_gt zlt) (sg.extBut _ _ (Nat.ne_of_gt zlt) (Heap.get?_push_size _ rfl))
 rw [size] at zh' new
 refine wpAny_pure ⟨_, rfl, ?_⟩; show Q (.ref he.objs.size) _; rw [size]
 exact hQ hh zh' (up _ _ D.TOz oe') (S1.keep _ _ _ q1e fun c hc o e => up c o (hc.elim (fun q => by rw [q]; exact D.i1z) (fun q => by rw [q]; exact D.l1z)) e) (S2.keep _ _ _ q2e fun c hc o e => up c o (hc.elim (fun q => by rw [q]; exact D.i2z) (fun q => by rw [q]; exact D.l2z)) e) new fun c o n1 n2 n3 n4 e => up c o n1 (all c o n1 n2 n3 n4 e)
theorem Qgr {Q : PySem.Fin → Shared → Prop} (D : ZipApart z tI tO i1 i2 l1 l2) (S1 : Src prog w A i1 l1 v1 P1) (S2 : Src prog w A i2 l2 v2 P2) (hz : IsZip s.heap z tI tO .none) (hi : IsPair s.heap tI (.ref i1) (.ref i2)) (ho : IsPair s.heap tO u v)
  (p1 : P1 k s.heap) (p2 : P2 k s.heap) (hend : v1 k = none ∨ v2 k = none)
  (hE : ∀ h' e, (∀ c o, c ≠ z → c ≠ tO → c ≠ i1 → c ≠ i2 → s.heap.get? c = some o → h'.get? c = some o) → (∃ o, h'.get? e = some o ∧ o.cls = .type "StopIteration") → E (.ref e) { s with heap := h' }) :
  wpAny (model prog w) A (Builtin.«zip.__next__» ⟨[.ref z], []⟩) Q E s := by
 show wpAny _ _ (field (.ref z) 2 >>= _) _ _ _; refine wpAny_bind (wpAny_field hz rfl (x := .bool false) rfl ?_); show wpAny _ _ (field (.ref z) 3 >>= _) _ _ _
 refine wpAny_bind (wpAny_field hz rfl (x := .ref tI) rfl (wpAny_bind (wpAny_seqItems hi rfl ?_))); show wpAny _ _ (Builtin.SmallTypes.ownedTupleIsFree (.ref z) >>= _) _ _ _; refine wpAny_bind ?_
 unfold Builtin.SmallTypes.ownedTupleIsFree; refine wpAny_bind (wpAny_field hz rfl (x := .none) rfl (wpAny_pure ?_)); simp only [if_true]
 refine wpAny_bind (wpAny_rule (wpAny_bind (wpAny_field hz rfl (x := .ref tO) rfl (wpAny_bind (wpAny_setField_rec hz (by simp) fun ha za sa => ?_)))))
 have za' : IsZip ha z tI tO .ellipsis := za
 refine wpAny_bind ?_; simp only [List.zipIdx_cons, List.zipIdx_nil, List.forIn_cons, List.forIn_nil]; refine wpAny_bind (wpAny_bind (wpAny_onRaise ?_)); show wpAny _ _ (Builtin.SmallTypes.nextOf (.ref i1) >>= _) _ _ _
 have p1a : P1 k ha := Qgo S1 p1 sa.extBut D.i1z D.l1z
 cases hx : v1 k with
 | none =>
  refine wpAny_bind (S1.done k _ _ _ p1a hx fun hb e sb pq100 => ?_)
  obtain ⟨oe, e1, e2⟩ := pq100
  have zb : IsZip hb z tI tO .ellipsis := sb _ _ D.i1z.symm za'
  have ne : e ≠ z := fun q => by rw [q, zb] at e1; cases e1; simp at e2
  exact wpAny_setField_rec zb (by simp) fun hc _ sc => hE hc e (fun c o n1 _ n3 _ q => sc.extBut _ _ n1 (sb _ _ n3 (sa.extBut _ _ n1 q))) ⟨oe, sc.extBut _ _ ne e1, e2⟩
 | some x =>
  have hy : v2 k = none := hend.resolve_left (by rw [hx]; simp)
  refine wpAny_bind (S1.item k x _ _ _ p1a hx fun hb q1 sb => wpAny_pure ?_)
  have ob : IsPair hb tO u v := sb.extBut _ _ D.TOi1 (sa.extBut _ _ D.TOz ho)
  refine wpAny_bind (wpAny_seqItems ob rfl (wpAny_bind (wpAny_updateSeq_pair ob fun hc oc sc => ?_)))
  refine wpAny_bind (wpAny_letGo (wpAny_pure ?_)); refine wpAny_bind (wpAny_bind (wpAny_onRaise ?_)); show wpAny _ _ (Builtin.SmallTypes.nextOf (.ref i2) >>= _) _ _ _
  have p2c : P2 k hc := Qgo S2 (Qgo S2 (Qgo S2 p2 sa.extBut D.i2z D.l2z) sb.extBut D.i12.symm D.l2i1) sc.extBut D.TOi2.symm D.l2TO
  refine wpAny_bind (S2.done k _ _ _ p2c hy fun hd e sd pq101 => ?_)
  obtain ⟨oe, e1, e2⟩ := pq101
  have zd : IsZip hd z tI tO .ellipsis := sd _ _ D.i2z.symm (sc.extBut _ _ D.TOz.symm (sb.extBut _ _ D.i1z.symm za'))
  have ne : e ≠ z := fun q => by rw [q, zd] at e1; cases e1; simp at e2
  exact wpAny_setField_rec zd (by simp) fun he _ se => hE he e (fun c o n1 n2 n3 n4 q => se.extBut _ _ n1 (sd _ _ n4 (sc.extBut _ _ n2 (sb.extBut _ _ n3 (sa.extBut _ _ n1 q))))) ⟨oe, se.extBut _ _ ne e1, e2⟩
end
noncomputable abbrev itObj (a : Addr) : Obj := { cls := .type "tuple_iterator", data := .fields #[.ref a, .int 0 0] }
noncomputable abbrev zz1 (h : Heap) (a : Addr) : Heap := h.push (itObj a)
noncomputable abbrev zz2 (h : Heap) (a b : Addr) : Heap := (zz1 h a).push (itObj b)
noncomputable abbrev zz3 (h : Heap) (a b : Addr) : Heap := (zz2 h a b).push { cls := .type "tuple", data := .seq #[.ref h.objs.size, .ref (zz1 h a).objs.size] }
noncomputable abbrev zz4 (h : Heap) (a b : Addr) : Heap := (zz3 h a b).push { cls := .type "tuple", data := .seq #[.none, .none] }
noncomputable abbrev zz5 (h : Heap) (a b : Addr) : Heap := (zz4 h a b).push { cls := .type "zip", data := .fields #[.none, .bool false, .bool false, .ref (zz2 h a b).objs.size, .ref (zz3 h a b).objs.size] }
theorem Qgs (a b : Addr) (xs ys : Array Value) :
  Meets (Builtin.«zip.__new__» ⟨[.type "zip", .ref a, .ref b], []⟩) (fun _ R s => s.heap.IsTuple a xs ∧ s.heap.IsTuple b ys ∧ R (.ok (.ret (.ref (zz4 s.heap a b).objs.size))) { s with heap := zz5 s.heap a b }) :=
 .of_wp fun prog w A R s h => by
  obtain ⟨hp, g, d, tk, os⟩ := s; obtain ⟨ha, hb, h⟩ := h; have hsub := sub_zip
  have t1 : Heap.IsTuple (Shared.heap ⟨hp, g, d, tk, os⟩) a xs := ha
  have t2 : Heap.IsTuple (Shared.heap ⟨hp.push (itObj a), g, d, tk, os⟩) b ys := let ⟨o, e, r⟩ := hb; ⟨o, Heap.get?_push_of_some _ e, r⟩
  wp_walk using wpAny_pyIter_tuple t1, wpAny_pyIter_tuple t2
  exact ⟨_, rfl, h⟩
section
variable {prog : Program} {w : World} {A : Around} {E : Value → Shared → Prop} {s : Shared}
theorem Qgt {a b : Addr} {xs ys : Array Value} {Q : Value → Shared → Prop} (ha : s.heap.IsTuple a xs) (hb : s.heap.IsTuple b ys)
  (h : ∀ h', IsZip h' (s.heap.objs.size + 4) (s.heap.objs.size + 2) (s.heap.objs.size + 3) .none → IsPair h' (s.heap.objs.size + 2) (.ref s.heap.objs.size) (.ref (s.heap.objs.size + 1)) → IsPair h' (s.heap.objs.size + 3) .none .none →
   h'.IsTupleIter s.heap.objs.size a 0 → h'.IsTupleIter (s.heap.objs.size + 1) b 0 → (∀ c o, s.heap.get? c = some o → h'.get? c = some o) → Q (.ref (s.heap.objs.size + 4)) { s with heap := h' }) :
  wpAny (model prog w) A (call (.type "zip") [.ref a, .ref b]) Q E s := by
 refine callType_new F.called_zip (by decide) (F.typeCall_zip_2 _ _) (F.newCall_zip_2 _ _) (fun obj => F.args_object_init_3 obj _ _) F.entry_zip_new (Qgs a b xs ys) ⟨ha, hb, ?_⟩
 have n1 : (zz1 s.heap a).objs.size = s.heap.objs.size + 1 := Heap.size_push ..
 have n2 : (zz2 s.heap a b).objs.size = s.heap.objs.size + 2 := by rw [Heap.size_push, n1]
 have n3 : (zz3 s.heap a b).objs.size = s.heap.objs.size + 3 := by rw [Heap.size_push, n2]
 have n4 : (zz4 s.heap a b).objs.size = s.heap.objs.size + 4 := by rw [Heap.size_push, n3]
 have up4 : ∀ c o, (zz4 s.heap a b).get? c = some o → (zz5 s.heap a b).get? c = some o := fun c o e => Heap.get?_push_of_some _ e
 have up3 : ∀ c o, (zz3 s.heap a b).get? c = some o → (zz5 s.heap a b).get? c = some o := fun c o e => up4 c o (Heap.get?_push_of_some _ e)
 have up2 : ∀ c o, (zz2 s.heap a b).get? c = some o → (zz5 s.heap a b).get? c = some o := fun c o e => up3 c o (Heap.get?_push_of_some _ e)
 have up1 : ∀ c o, (zz1 s.heap a).get? c = some o → (zz5 s.heap a b).get? c = some o := fun c o e => up2 c o (Heap.get?_push_of_some _ e)
 have z5 : IsZip (zz5 s.heap a b) (zz4 s.heap a b).objs.size (zz2 s.heap a b).objs.size (zz3 s.heap a b).objs.size .none := Heap.get?_push_size _ rfl
 have z4 : IsPair (zz5 s.heap a b) (zz3 s.heap a b).objs.size .none .none := up4 _ _ (Heap.get?_push_size _ rfl)
 have z3 : IsPair (zz5 s.heap a b) (zz2 s.heap a b).objs.size (.ref s.heap.objs.size) (.ref (zz1 s.heap a).objs.size) := up3 _ _ (Heap.get?_push_size _ rfl)
 have z2 : (zz5 s.heap a b).get? (zz1 s.heap a).objs.size = some (itObj b) := up2 _ _ (Heap.get?_push_size _ rfl)
 have z1 : (zz5 s.heap a b).get? s.heap.objs.size = some (itObj a) := up1 _ _ (Heap.get?_push_size _ rfl)
 show _ ∧ _
 rw [n2, n3, n4] at z5
 rw [n3] at z4
 rw [n1, n2] at z3
 rw [n1] at z2
 rw [n4]
 exact ⟨⟨_, z5, rfl⟩, h _ z5 z3 z4 ⟨_, z1, rfl, rfl⟩ ⟨_, z2, rfl, rfl⟩ fun c o e => up1 c o (Heap.get?_push_of_some _ e)⟩
end
noncomputable def Itzt (K : PySem.W.Frag) (a b : Addr) : It :=
 ⟨fun i H => ∃ xs ys x y, SqT K H a xs ∧ SqT K H b ys ∧ xs[i]? = some x ∧ ys[i]? = some y,
  fun i H r H' => ∃ T x y, r = .ref T ∧ H T = none ∧ (∀ xs, SqT K H a xs → xs[i]? = some x) ∧ (∀ ys, SqT K H b ys → ys[i]? = some y) ∧ H' = upd H T (.tup [x, y]),
  fun i H => ∃ xs ys, SqT K H a xs ∧ SqT K H b ys ∧ (xs.length ≤ i ∨ ys.length ≤ i)⟩
section
variable {X : Cx} {tg : Expr} {es : List Expr} {pos : Pos} {fa fb : CE} {K : PySem.W.Frag} {ρ : List Addr} {H : Hp} {st : Sto}
def ztSt (z tI tO i1 i2 a b : Addr) (i : Nat) (h : Heap) : Prop := IsZip h z tI tO .none ∧ IsPair h tI (.ref i1) (.ref i2) ∧ (∃ u v, IsPair h tO u v) ∧ h.IsTupleIter i1 a i ∧ h.IsTupleIter i2 b i
theorem atI {h h' : Heap} {it l : Addr} {k : Nat} (x : h.IsTupleIter it l k) (e : ∀ o, h.get? it = some o → h'.get? it = some o) : h'.IsTupleIter it l k := let ⟨o, e1, r⟩ := x; ⟨o, e o e1, r⟩
theorem Qgu {P : Program} {w : World} {k : Nat} {z tI tO i1 i2 a b : Addr} (D : ZipApart z tI tO i1 i2 a b) : Turn P w K (.Tuple es k pos) (Itzt K a b) [z, tI, tO, i1, i2] z (ztSt z tI tO i1 i2 a b) where
 mem := by simp
 obj := fun i h pq102 c hc => by
  obtain ⟨h1, h2, ⟨u, v, h3⟩, ⟨o4, h4, c4, d4⟩, ⟨o5, h5, c5, d5⟩⟩ := pq102
  simp only [List.mem_cons, List.not_mem_nil, or_false] at hc
  rcases hc with e | e | e | e | e <;> subst e
  ·exact ⟨_, h1, fun v q => by cases q⟩
  ·exact ⟨_, h2, fun v q => by cases q⟩
  ·exact ⟨_, h3, fun v q => by cases q⟩
  ·exact ⟨_, h4, fun v q => by rw [d4] at q; cases q⟩
  ·exact ⟨_, h5, fun v q => by rw [d5] at q; cases q⟩
 keep := fun i h h' pq103 kp => by obtain ⟨h1, h2, ⟨u, v, h3⟩, h4, h5⟩ := pq103; exact ⟨kp z (by simp) _ h1, kp tI (by simp) _ h2, ⟨u, v, kp tO (by simp) _ h3⟩, atI h4 fun o e => kp i1 (by simp) o e, atI h5 fun o e => kp i2 (by simp) o e⟩
 item := by
  intro X hP hw hK hc i pins s σ H E I hf pq140 hg; obtain ⟨h1, h2, ⟨u, v, h3⟩, h4, h5⟩ := pq140
  subst hP hw hK
  obtain ⟨xs, ys, x, y, qa, qb, hx, hy⟩ := hg
  obtain ⟨its, rv, p, hz⟩ := I.tuple qa
  obtain ⟨its2, rv2, p2, hz2⟩ := I.tuple qb
  obtain ⟨ux, hux, rux⟩ := rv.get hx
  obtain ⟨uy, huy, ruy⟩ := rv2.get hy
  have hT : s.TypeIs (.ref z) "zip" := ⟨_, h1, rfl⟩
  have S1 := Qgp (prog := X.prog) (w := X.w) (A := X.A.in1) (items := its.toArray) (I.ok.hd hc) D.l1i1
  have S2 := Qgp (prog := X.prog) (w := X.w) (A := X.A.in1) (items := its2.toArray) (I.ok.hd hc) D.l2i2
  unfold pyNext
  refine wpAny_bind (wpAny_attempt (wpAny_callSpecial?_slot (name := Str.ofString "__next__") hT F.slot_zip_next (wpAny_call_entry F.slot_zip_next hT F.entry_zip_next (Qgq D S1 S2 h1 h2 h3 ⟨h4, p⟩ ⟨h5, p2⟩ (x := ux) (y := uy) (by simpa using hux) (by simpa using huy) fun h' g1 g2 g3 g4 g5 g7 => wpAny_pure ?_) (F.args_zip_next_1 _))))
  refine ⟨_, rfl, wpAny_letOwnedTupleGo_zip g1 fun h'' k1 k2 => ?_⟩
  have zlt : z < s.heap.objs.size := Heap.lt_size h1
  have keep : ∀ c o, c ∉ [z, tI, tO, i1, i2] → s.heap.get? c = some o → h''.get? c = some o := fun c o hc e => by
   simp only [List.mem_cons, List.not_mem_nil, or_false, not_or] at hc
   exact (k2.2 c hc.1).trans (g7 c o hc.1 hc.2.2.1 hc.2.2.2.1 hc.2.2.2.2 e)
  have hT : IsPair h'' s.heap.objs.size ux uy := (k2.2 _ (Nat.ne_of_gt zlt)).trans g5
  have I2 : Inv X pins σ (upd H s.heap.objs.size (.tup [x, y])) { s with heap := h'', toks := s.toks } :=
   Qgk (its := [ux, uy]) I hf keep (Nat.le_refl _) (by show 2 ≤ sizeLine; decide) (.cons rux (.cons ruy .nil)) ⟨_, hT, rfl, _, rfl⟩
  have hTn : H s.heap.objs.size = none := I.hok.fresh (Nat.le_refl _)
  refine ⟨.ref s.heap.objs.size, _, I2, rfl, ⟨_, x, y, rfl, hTn, fun zs hzs => by rw [I.tuple_inj hzs qa]; exact hx, fun zs hzs => by rw [I.tuple_inj hzs qb]; exact hy, rfl⟩,
   ⟨k1, (k2.2 tI D.TIz).trans (g7 tI _ D.TIz D.TITO D.TIi1 D.TIi2 h2), ⟨_, _, (k2.2 tO D.TOz).trans g2⟩, atI g3.1 fun o e => (k2.2 i1 D.i1z).trans e, atI g4.1 fun o e => (k2.2 i2 D.i2z).trans e⟩, fun c hc => ?_⟩
  rw [Qaj]
  ·exact (hf c hc).1
  ·intro e
   have : ∃ o, s.heap.get? c = some o := by
    simp only [List.mem_cons, List.not_mem_nil, or_false] at hc
    rcases hc with q | q | q | q | q <;> subst q
    ·exact ⟨_, h1⟩
    ·exact ⟨_, h2⟩
    ·exact ⟨_, h3⟩
    ·obtain ⟨o, e, _⟩ := h4; exact ⟨o, e⟩
    ·obtain ⟨o, e, _⟩ := h5; exact ⟨o, e⟩
   obtain ⟨o, eo⟩ := this
   have := Heap.lt_size eo
   rw [e] at this
   exact absurd this (Nat.lt_irrefl _)
 done := by
  intro X hP hw hK hc i pins s σ H E I hf pq141 hg; obtain ⟨h1, h2, ⟨u, v, h3⟩, h4, h5⟩ := pq141
  subst hP hw hK
  obtain ⟨xs, ys, qa, qb, hl⟩ := hg
  obtain ⟨its, rv, p, hz⟩ := I.tuple qa
  obtain ⟨its2, rv2, p2, hz2⟩ := I.tuple qb
  have l1 := rv.length
  have l2 := rv2.length
  have hT : s.TypeIs (.ref z) "zip" := ⟨_, h1, rfl⟩
  have S1 := Qgp (prog := X.prog) (w := X.w) (A := X.A.in1) (items := its.toArray) (I.ok.hd hc) D.l1i1
  have S2 := Qgp (prog := X.prog) (w := X.w) (A := X.A.in1) (items := its2.toArray) (I.ok.hd hc) D.l2i2
  unfold pyNext
  refine wpAny_bind (wpAny_attempt (wpAny_callSpecial?_slot (name := Str.ofString "__next__") hT F.slot_zip_next (wpAny_call_entry F.slot_zip_next hT F.entry_zip_next (Qgr D S1 S2 h1 h2 h3 ⟨h4, p⟩ ⟨h5, p2⟩ ?_ fun h' e g ⟨o, q1, q2⟩ => ?_) (F.args_zip_next_1 _))))
  ·rcases hl with hl | hl
   ·exact .inl (by simp; ac_nf)
   ·exact .inr (by simp; ac_nf)
  ·refine wpAny_bind (wpAny_isInstance (T := "StopIteration") (b := true) ⟨o, q1, q2⟩ isSubtype_stop (wpAny_pure ⟨rfl, Qgj (t' := s.toks) I hf fun c o hc e => ?_⟩))
   simp only [List.mem_cons, List.not_mem_nil, or_false, not_or] at hc
   exact g c o hc.1 hc.2.2.1 hc.2.2.2.1 hc.2.2.2.2 e
 self := fun _ _ _ _ _ pq105 h => by obtain ⟨h1, _⟩ := pq105; exact wpAny_pyIter_zip h1 h
theorem Qgv {a b : Expr} {ta : TA} {p tpos : Pos} {k : Nat} (hg : Gl X "zip") (hm : X.mg "zip" = none) (ha : PA X [a, b] ta) (hs : starEach [a, b] X.env = [(false, eval a X.env), (false, eval b X.env)]) (hs2 : starEach [b] X.env = [(false, eval b X.env)]) :
  PI X (.Tuple es k tpos) (.Call (.Name "zip" p) [a, b] [] pos) (fun σ H R => ta σ H fun vs H1 => ∃ l1 l2 xs ys, vs = [.ref l1, .ref l2] ∧ SqT X.K H1 l1 xs ∧ SqT X.K H1 l2 ys ∧ R (Itzt X.K l1 l2) H1) := by
 intro pins s σ H R I h
 refine Call_ (QaB I hg hm boot_zip (PyProof.Rows.callWith_type1 (thn (ha pos pins s σ H _ I h) fun us s1 ⟨vs, H1, I1, r1, q1⟩ => ?_) (by rw [hs, hs2]) (by rw [hs2]; rfl)))
 obtain ⟨l1, l2, xs, ys, e, hx, hy, q⟩ := q1
 subst e
 cases r1 with
 | cons r rr =>
  cases rr with
  | cons r' rr =>
   cases rr
   cases r
   cases r'
   obtain ⟨its, rv, p1, hz⟩ := I1.tuple hx
   obtain ⟨its2, rv2, p2, hz2⟩ := I1.tuple hy
   have lt1 : l1 < s1.heap.objs.size := by obtain ⟨o, e, _⟩ := id p1; exact Heap.lt_size e
   have lt2 : l2 < s1.heap.objs.size := by obtain ⟨o, e, _⟩ := id p2; exact Heap.lt_size e
   refine Qgt p1 p2 fun h' g1 g2 g3 g4 g5 g7 => wpAny_pyIter_zip g1 ?_
   have I2 : Inv X pins σ H1 { s1 with heap := h' } := I1.kept (t' := s1.toks) g7
   refine ⟨s1.heap.objs.size + 4, [s1.heap.objs.size + 4, s1.heap.objs.size + 2, s1.heap.objs.size + 3, s1.heap.objs.size, s1.heap.objs.size + 1], _, Itzt X.K l1 l2, H1, rfl, I2, Qgu (zipApart_new lt1 lt2), ⟨g1, g2, ⟨_, _, g3⟩, g4, g5⟩, fun b hb => ?_, q⟩
   have hle : s1.heap.objs.size ≤ b := by
    simp only [List.mem_cons, List.not_mem_nil, or_false] at hb
    rcases hb with e | e | e | e | e <;> rw [e] <;> ac_nf
   exact I1.fpOk hle (I1.hok.fresh hle)
noncomputable def iZipT (a b : CE) : CI := fun l => bnd (a l) fun x => bnd (b l) fun y => match x, y with
 | .tup ds, .tup es => ret ⟨ds.zipWith (fun p q => .tup [p, q]) es, anySt⟩
 | _, _ => bad
theorem Qgw {a b : Expr} {p tpos : Pos} {k : Nat} (hg : Gl X "zip") (hm : X.mg "zip" = none) (h : SE X a fa) (h' : SE X b fb) (he1 : starEach [a, b] X.env = (false, eval a X.env) :: starEach [b] X.env := by rfl) (he2 : starEach [b] X.env = (false, eval b X.env) :: starEach [] X.env := by rfl)
  (hs : starEach [a, b] X.env = [(false, eval a X.env), (false, eval b X.env)] := by rfl) (hs2 : starEach [b] X.env = [(false, eval b X.env)] := by rfl) : SI X (.Tuple es k tpos) (.Call (.Name "zip" p) [a, b] [] pos) (iZipT fa fb) :=
 (Qgv hg hm (QbK h (QbK h' QbJ he2) he1) hs hs2).of fun σ H R h_ => h_.el fun ρ l st lr sr p => ⟨ρ, l, st, lr, sr, p.bnd.imp fun d st1 ρ1 H1 x1 s1 p1 v rv => ⟨ρ1, l, st1, lr.mono x1, s1, p1.bnd.imp fun e st2 ρ2 H2 x2 s2 p2 w rw' => by
  have rv2 := rv.mono x2
  cases rv2 with
  | @tup a1 vs ds ha r =>
   cases rw' with
   | @tup a2 ws es' hb r' =>
    refine ⟨a1, a2, vs, ws, rfl, ha, hb, p2.ret s2 _ ?_⟩
    intro ρ3 H3 st3 x3 s3 _
    have ha3 : SqT X.K H3 a1 vs := SqT.mono x3.up ha
    have hb3 : SqT X.K H3 a2 ws := SqT.mono x3.up hb
    have r3 := r.mono x3
    have r3' := r'.mono x3
    have l1 := r3.length
    have l2 := r3'.length
    refine ⟨⟨vs, ws, ha3, hb3, ?_⟩, fun i d hd => ?_⟩
    ·show vs.length ≤ (ds.zipWith _ es').length ∨ ws.length ≤ (ds.zipWith _ es').length
     rw [List.length_zipWith]; ac_nf
    ·rw [List.getElem?_zipWith] at hd
     cases f1 : ds[i]? with
     | none => rw [f1] at hd; cases hd
     | some d1 =>
      cases f2 : es'[i]? with
      | none => rw [f1, f2] at hd; cases hd
      | some d2 =>
       rw [f1, f2] at hd
       have ed : d = .tup [d1, d2] := (Option.some.inj hd).symm
       subst ed
       obtain ⟨v1, k1, rv1⟩ := r3.get f1
       obtain ⟨v2, k2, rv2⟩ := r3'.get f2
       refine ⟨⟨vs, ws, v1, v2, ha3, hb3, k1, k2⟩, fun y H4 pq107 => ?_⟩
       obtain ⟨T, x, y', ey, hn, hx, hy, eH⟩ := pq107
       subst ey eH
       have z1 := hx vs ha3
       have z2 := hy ws hb3
       rw [k1] at z1; cases z1
       rw [k2] at z2; cases z2
       have x4 : Ex ρ3 H3 ρ3 (upd H3 T (.tup [v1, v2])) := Ex.new hn
       exact ⟨x4, s3.new hn, .tup (SqT.of Qai) (.cons (rv1.mono x4) (.cons (rv2.mono x4) .nil))⟩
   | _ => exact p2.elim
  | _ => cases rw' <;> exact p2.elim⟩⟩
end
end MM
namespace PySem.F
end PySem.F
namespace MM
open PySem PySem.Spec PyProof.Rows L2
section
variable {prog : Program} {w : World} {A : Around} {E : Value → Shared → Prop} {s : Shared} {r : Addr}
end
theorem Vals.reverse : ∀ {xs : List V} {us : List Value}, Vals xs us → Vals xs.reverse us.reverse
 | _, _, .nil => .nil
 | _, _, .cons r t => by
  rw [List.reverse_cons, List.reverse_cons]; exact L2.Vals.append (Vals.reverse t) (.cons r .nil)
section
variable {X : Cx} {a b c e o tg : Expr} {es : List Expr} {pos pos' apos cpos p p' : Pos} {fa fb fc : CE} {ca cb : CA} {K : PySem.W.Frag} {ρ : List Addr} {H : Hp} {st : Sto} {te : TE}
theorem Reps.rep {vs : List V} {ds : List D} (h : Reps K ρ H vs ds) : ∀ k : Nat, Reps K ρ H (List.replicate k vs).flatten (List.replicate k ds).flatten
 | 0 => .nil
 | k + 1 => by
  rw [List.replicate_succ, List.replicate_succ, List.flatten_cons, List.flatten_cons]
  exact Reps.app h (Reps.rep h k)
noncomputable def tDNewN (X : Cx) : TE := fun _ H Q => ∀ p, H p = none → Q (.ref p) (upd H p (nstO p []))
theorem Qgx : PE X (.Dict [] [] pos) (tDNewN X) := fun pins s σ H Q I h =>
 wpAny_Dict_empty ⟨.ref s.heap.objs.size, _, I.laid (a := s.heap.objs.size) (o := nstO s.heap.objs.size []) (t' := s.toks) (fun _ _ q => Heap.get?_push_of_some _ q) (Nat.le_refl _)
  (QdE (P := X.prog) (w := X.w) (xs := []) (Nat.zero_le _) (beq_eq_false_iff_ne.mpr (Ne.symm (Nat.ne_of_lt I.big))) .nil (Heap.DictOfH.new s.heap)), rfl, h _ (I.hok.fresh (Nat.le_refl _))⟩
theorem Qgy : SE X (.Dict [] [] pos) (cDNew true) := Qgx.of fun σ H Q pq108 q hq => by
 obtain ⟨ρ, l, st, lr, sr, p⟩ := pq108
 have p' : ∀ ρ' H', Ex ρ H ρ' H' → SR X.K ρ' H' (st ++ [.dct true []]) → ∀ v, Rep X.K ρ' H' v (.dic st.length) → Q v H' := p
 refine p' (ρ ++ [q]) _ (Ex.newO hq) ((sr.new hq).keepO (sr.fresh hq) ⟨[], Qai, .nil⟩) _ (.dic ⟨_, Qai, .inr rfl⟩ ?_)
 rw [← sr.len]; simp
theorem KR.zip : ∀ {ks : List Key} {vs : List V} {ds : List D}, Reps K ρ H vs ds → KR K ρ H (ks.zip vs) ((ks.map keyD).zip ds)
 | [], _, _, _ => .nil
 | k :: ks, _, _, .nil => .nil
 | k :: ks, _, _, .cons r t => .cons ⟨rfl, r⟩ (KR.zip t)
theorem KR.merge : ∀ {more : List (Key × V)} {rs : List (D × D)} {es : List (Key × V)} {kvs : List (D × D)}, KR K ρ H more rs → KR K ρ H es kvs → KR K ρ H (mergeK es more) (mgK kvs rs)
 | _, _, _, _, .nil, q => q
 | _, _, es, kvs, .cons (a := p) (b := q) (l₁ := ps) (l₂ := qs) h t, r => by
  have z := KR.put r p.1 h.2
  rw [h.1] at z
  show KR K ρ H (mergeK (L2.putK es p.1 p.2) ps) (mgK (ptK kvs q.1 q.2) qs)
  exact KR.merge (more := ps) (rs := qs) t z
end
end MM
namespace MM
end MM
namespace MM
open PySem PySem.Spec PyProof.Rows L2
mutual
theorem Qgz : ∀ {a b c : D}, eqK a b = true → eqK b c = true → eqK a c = true
 | .int i, b, c, h1, h2 => by
  obtain ⟨j, rfl⟩ : ∃ j, b = .int j := by cases b <;> simp [eqK] at h1 ⊢
  obtain ⟨k, rfl⟩ : ∃ j, c = .int j := by cases c <;> simp [eqK] at h2 ⊢
  simp [eqK] at h1 h2 ⊢; ac_nf
 | .str i, b, c, h1, h2 => by
  obtain ⟨j, rfl⟩ : ∃ j, b = .str j := by cases b <;> simp [eqK] at h1 ⊢
  obtain ⟨k, rfl⟩ : ∃ j, c = .str j := by cases c <;> simp [eqK] at h2 ⊢
  simp [eqK] at h1 h2 ⊢; rw [h1, h2]
 | .tup xs, b, c, h1, h2 => by
  obtain ⟨ys, rfl⟩ : ∃ j, b = .tup j := by cases b <;> simp [eqK] at h1 ⊢
  obtain ⟨zs, rfl⟩ : ∃ j, c = .tup j := by cases c <;> simp [eqK] at h2 ⊢
  rw [eqK] at h1 h2 ⊢
  exact eqKs_trans h1 h2
 | .non, _, _, h1, _ => by simp [eqK] at h1
 | .bl _, _, _, h1, _ => by simp [eqK] at h1
 | .lit _, _, _, h1, _ => by simp [eqK] at h1
 | .ref _, _, _, h1, _ => by simp [eqK] at h1
 | .dic _, _, _, h1, _ => by simp [eqK] at h1
theorem eqKs_trans : ∀ {a b c : List D}, eqKs a b = true → eqKs b c = true → eqKs a c = true
 | [], b, c, h1, h2 => by
  cases b with
  | nil => exact h2
  | cons _ _ => simp [eqKs] at h1
 | x :: xs, b, c, h1, h2 => by
  cases b with
  | nil => simp [eqKs] at h1
  | cons y ys =>
   cases c with
   | nil => simp [eqKs] at h2
   | cons z zs =>
    rw [eqKs, Bool.and_eq_true] at h1 h2 ⊢
    exact ⟨Qgz h1.1 h2.1, eqKs_trans h1.2 h2.2⟩
end
section
variable {X : Cx} {pins : List (Addr × Obj)} {σ : St} {H : Hp} {s : Shared} {ρ : List Addr}
end
end MM
namespace MM
open PySem PyProof.Rows L2
section
variable {prog : Program} {w : World} {K : Type} [DecidableEq K] {knd : HeapKind prog w K} {A : Around} {E : Value → Shared → Prop} {s : Shared} {d a : Addr} {k : K} {xs : List (K × Addr × Value)}
theorem QgA {dflt : Value} {Q : Value → Shared → Prop} (hu : knd.room A)
  (hkey : knd.is s.heap k a) (hm : s.heap.DictOfH knd d xs) (hsz : xs.length ≤ sizeLine)
  (h1 : ∀ p, atKey xs k = some p → Q p.2 { s with toks := s.toks + knd.draws k })
  (h2 : atKey xs k = none → ∀ h', h'.DictOfH knd d (storedH xs k a dflt) → Heap.SameBut d s.heap h' → Q dflt { s with heap := h', toks := s.toks + knd.draws k }) :
  wpAny (model prog w) A (dictSetDefault d (.ref a) dflt) Q E s := by
 obtain ⟨o, es, ep, ho, hc, hd, he, his, hn⟩ := hm
 unfold dictSetDefault
 refine wpAny_holding ?_
 refine wpAny_bind (knd.pyHash hu hkey ?_)
 refine wpAny_bind (wpAny_dictFind_heap (s := { s with toks := s.toks + knd.draws k }) hu hkey ho hd he his hn (fun hno => ?_) fun j p hj => ?_)
 ·have hnot : k ∉ xs.map (·.1) := not_mem_keys_of_get hno
  have e0 := atKey_none_of_get hno
  have e1 := storedH_new (a := a) (v := dflt) e0
  have e2 := size_of_entries he
  refine wpAny_bind (wpAny_rule (wpAny_bind (wpAny_updateDictKeys (hz := by ac_nf) (s := { s with toks := s.toks + knd.draws k }) ho hd (wpAny_pure
   (h2 e0 _ ⟨_, _, ep + 1, Heap.get?_update_self _ ho (Obj.isFreed_of_dict (Obj.data_mapDictKeys hd _)), hc.mapDictKeys _, Obj.data_mapDictKeys hd _, ?_, ?_, ?_⟩ (Heap.SameBut.update ..))))))
  ·rw [e1]; simp [he, entryOfKey]
  ·rw [e1]
   intro x hx
   rcases List.mem_append.mp hx with hx | hx
   ·exact knd.keeps (his x hx) ho hd (Heap.SameBut.update ..)
   ·cases List.mem_singleton.mp hx
    exact knd.keeps hkey ho hd (Heap.SameBut.update ..)
  ·rw [e1, List.map_append, List.nodup_append]
   refine ⟨hn, by simp, fun x hx y hy => ?_⟩
   cases List.mem_singleton.mp hy
   exact fun e => hnot ((show x = k from e) ▸ hx)
 ·refine wpAny_bind (wpAny_dictEntries (s := { s with toks := s.toks + knd.draws k }) ho hd ?_)
  rw [entry_at he j, hj]
  exact wpAny_bind (wpAny_rule (wpAny_pure (h1 p (atKey_of_get hn hj))))
theorem QgB (hd : (d == sysModules) = false) (dflt : Value) :
  MeetsIn prog w (Builtin.«dict.setdefault» ⟨[.ref d, .ref a, dflt], []⟩) (fun A R s => knd.room A.in1 ∧ ∃ k xs, knd.is s.heap k a ∧ s.heap.DictOfH knd d xs ∧ xs.length ≤ sizeLine ∧
   (∀ p, atKey xs k = some p → R (.ok (.ret p.2)) { s with toks := s.toks + knd.draws k }) ∧
   (atKey xs k = none → ∀ h', h'.DictOfH knd d (storedH xs k a dflt) → Heap.SameBut d s.heap h' → R (.ok (.ret dflt)) { s with heap := h', toks := s.toks + knd.draws k })) :=
 .of_wp fun A R s z => by
  obtain ⟨hu, k, xs, hkey, hm, hz, h1, h2⟩ := z
  unfold Builtin.«dict.setdefault»
  refine wpAny_bind ?_
  unfold Builtin.Dict.keyAndDefault
  refine wpAny_bind (wpAny_notOrdered_dict hm.typeIs ?_)
  show wpAny _ _ (pure (d, Value.ref a, some dflt)) _ _ s
  refine wpAny_pure ?_
  show wpAny _ _ (if (d == sysModules) = true then _ else (dictSetDefault d (.ref a) dflt >>= _)) _ _ s
  rw [if_neg (by rw [hd]; exact Bool.false_ne_true)]
  exact wpAny_bind (QgA hu hkey hm hz (fun p hp => wpAny_pure ⟨p.2, rfl, h1 p hp⟩) fun hn h' hm' hs' => wpAny_pure ⟨dflt, rfl, h2 hn h' hm' hs'⟩)
end
section
variable {X : Cx} {pins : List (Addr × Obj)} {σ : St} {H : Hp} {s : Shared} {ρ : List Addr} {st : Sto} {a : Addr}
theorem QgC {n : Nat} {kvs : List (D × D)} {k d : D} {y v : V} {u r' : Value} {Q : Value → Shared → Prop} {E : Value → Shared → Prop} {A : Around} (hu : A.units + 2 < cLine) (I : Inv X pins σ H s) (sr : SR X.K ρ H st) (ha : ρ[n]? = some a) (hn : st[n]? = some (.dct true kvs))
  (rk : Rep X.K ρ H y k) (hk : kOk true k = true) (hl : kvs.length < sizeLine) (rv : Rep X.K ρ H v d) (ry : RelV y u) (rr : RelV v r')
  (h1 : ∀ d', lkK kvs k = some d' → ∀ v' w' s', Inv X pins σ H s' → Rep X.K ρ H v' d' → RelV v' w' → Q w' s')
  (h2 : lkK kvs k = none → ∀ H' s', Inv X pins σ H' s' → SR X.K ρ H' (st.set n (.dct true (ptK kvs k d))) → Ex ρ H ρ H' → Q r' s') :
  wpAny (model X.prog X.w) A (call (.builtin "dict.setdefault") [.ref a, u, r']) Q E s := by
 have hlt := (List.getElem?_eq_some_iff.mp hn).1
 obtain ⟨es, e, r⟩ := sr.ob n a _ ha hn
 obtain ⟨k, rfl⟩ := Qdw hk
 obtain ⟨_, hd, xs, rx, dd⟩ := QdD I e r
 obtain ⟨c, e2, e3, hc⟩ := QdC I rk ry
 subst e2 e3
 have w := sr.putO (o' := .dct true (ptK kvs (stD k) d)) (u' := nstO a (putN es k c v)) hlt ha e (by show (2 : Nat) ≠ 3; decide) rfl ⟨_, Qai, (NR.put r k c rk rv).up ?_⟩
 ·have hz : xs.length ≤ sizeLine := by
    rw [← Paired.length rx, NR.length r]; ac_nf
  have qa := NR.val r k
  have qb := NX.val rx k
  refine call_meetsIn F.slot_dict_setdefault dd.typeIs F.entry_dict_setdefault (F.args_dict_setdefault_3 _ _ _) (QgB (knd := nkd X) hd r') ⟨show A.in1.units + 1 < cLine from hu, k, xs, hc, dd, hz, fun p hp => ?_, fun hp h' dd' hs => ?_⟩
  ·rw [hp] at qb
   cases ev : valN es k with
   | none => rw [ev] at qb; exact qb.elim
   | some v' =>
    rw [ev] at qa qb
    cases el : lkK kvs (stD k) with
    | none => rw [el] at qa; exact qa.elim
    | some d' =>
     rw [el] at qa
     exact h1 d' el v' p.2 _ (I.tok _) qa qb
  ·rw [hp] at qb
   cases ev : valN es k with
   | some v' => rw [ev] at qb; exact qb.elim
   | none =>
    rw [ev] at qa
    cases el : lkK kvs (stD k) with
    | some d' => rw [el] at qa; exact qa.elim
    | none =>
     refine h2 el _ _ ?_ w.1 w.2
     have he : ∃ q, h'.get? a = some q := let ⟨q, _, _, hq, _⟩ := dd'; ⟨q, hq⟩
     refine Qc4 I (by rw [e]; exact True.intro) hs he (QdE ?_ hd (NX.put rx k c rr) dd')
     have := QdF es k c v
     rw [NR.length r] at this
     ac_nf
 ·refine ⟨⟨[], by simp⟩, fun c o no q => ?_, fun c o q => ?_⟩
  ·rw [Qaj fun z => by subst z; rw [e] at q; cases q; exact nomatch no]; exact q
  ·by_cases z : c = a
   ·subst z; rw [e] at q; cases q; exact ⟨_, Qai, rfl⟩
   ·exact ⟨o, by rw [Qaj z]; exact q, rfl⟩
end
end MM
namespace MM
open PySem PySem.W PyProof.Rows L2
section
variable {prog : Program} {w : World} {A : Around} {E : Value → Shared → Prop} {s : Shared} {d it : Addr} {es : Array DictEntry} {ep i : Nat}
def EnAt (h : Heap) (d : Addr) (es : Array DictEntry) (ep : Nat) : Prop := ∃ o, h.get? d = some o ∧ o.ExactDict ∧ o.data = .dict es ep
theorem EnAt.typeIs (x : EnAt s.heap d es ep) : s.TypeIs (.ref d) "dict" := by
 obtain ⟨o, g, c, _⟩ := x
 exact ⟨o, g, c.1⟩
theorem EnAt.keep {h h' : Heap} (x : EnAt h d es ep) (k : ∀ o, h.get? d = some o → h'.get? d = some o) : EnAt h' d es ep := by
 obtain ⟨o, g, r⟩ := x
 exact ⟨o, k o g, r⟩
theorem EnAt.lt {h : Heap} (x : EnAt h d es ep) : d < h.objs.size := by
 obtain ⟨o, g, _⟩ := x
 exact Heap.lt_size g
theorem QgD {Q : Value → Shared → Prop} (hd : (d == sysModules) = false) (x : EnAt s.heap d es ep)
  (q : Q (.ref s.heap.objs.size) { s with heap := s.heap.push { cls := .type "dict_keyiterator", data := .fields #[.ref d, .int 0 0, .int es.size 0, .int ep 0] } }) :
  wpAny (model prog w) A (pyIter (.ref d)) Q E s := by
 have T := x.typeIs
 obtain ⟨o, g, c, gd⟩ := x
 refine wpAny_pyIter_slot T F.slot_dict_iter (wpAny_call_entry F.slot_dict_iter T F.entry_dict_iter ?_ (F.args_dict_iter_1 _))
 unfold Builtin.«dict.__iter__» Builtin.Dict.dictSlotNone
 refine wpAny_bind (wpAny_bind (wpAny_notOrdered_dict T ?_))
 show wpAny _ _ (pure (Value.ref d)) _ _ s
 refine wpAny_pure ?_
 show wpAny _ _ (Builtin.Dict.showsAll d >>= _) _ _ s
 unfold Builtin.Dict.showsAll
 rw [if_neg (by rw [hd]; exact Bool.false_ne_true)]
 refine wpAny_bind (wpAny_pure (wpAny_bind (wpAny_dictEntries g gd (wpAny_bind (wpAny_dictEpoch g gd ?_)))))
 refine wpAny_bind (wpAny_newObj_type (wpAny_pure ⟨_, rfl, "dict_keyiterator", _, ⟨_, Heap.get?_push_size _ rfl, rfl⟩, F.slot_dict_keyiterator_next.lookup, ?_⟩))
 simpa [rawInt] using q
theorem QgE {e : DictEntry} {Q : Option Value → Shared → Prop} (z : s.heap.IsKeyIter it d i es.size ep) (x : EnAt s.heap d es ep) (hx : es[i]? = some e)
  (q : ∀ h', h'.IsKeyIter it d (i + 1) es.size ep → Heap.SameBut it s.heap h' → Q (some e.key) { s with heap := h' }) : wpAny (model prog w) A (pyNext (.ref it)) Q E s := by
 have T := z.typeIs
 obtain ⟨o, g, c, gd⟩ := id z
 obtain ⟨od, gx, cx, dx⟩ := x
 unfold pyNext
 refine wpAny_bind (wpAny_attempt (wpAny_callSpecial?_slot (name := Str.ofString "__next__") T F.slot_dict_keyiterator_next (wpAny_call_entry F.slot_dict_keyiterator_next T F.entry_dict_keyiterator_next ?_ (F.args_dict_keyiterator_next_1 _))))
 refine wpAny_bind (wpAny_pure (wpAny_bind (wpAny_bind ?_)))
 first | refine wpAny_bind (wpAny_typeNameOfWhole_keyiter T (wpAny_pure ?_)) | refine wpAny_bind (wpAny_typeNameOf_keyiter T (wpAny_pure ?_))
 refine wpAny_bind (wpAny_fieldsOf g gd ?_)
 have ow : Builtin.Dict_items.ownsTuple "dict_keyiterator" = false := by decide
 simp only [ow, Bool.false_eq_true, if_false]
 show wpAny _ _ (if (Value.ref d == Value.none) = true then _ else _) _ _ s
 rw [if_neg (show ¬ ((Value.ref d == Value.none) = true) from Bool.false_ne_true)]
 refine wpAny_bind (wpAny_pure (wpAny_bind (wpAny_dictEntries gx dx ?_)))
 rw [if_neg (by simp)]
 refine wpAny_bind (wpAny_pure (wpAny_bind (wpAny_dictEpoch gx dx ?_)))
 rw [if_neg (by simp)]
 refine wpAny_pure ?_
 simp only [show ¬ ((i : Int) < 0) from by ac_nf, if_false, Int.toNat_natCast, hx]
 refine wpAny_bind ?_
 first | refine wpAny_bind (wpAny_typeNameOfWhole_keyiter T (wpAny_pure ?_)) | refine wpAny_bind (wpAny_typeNameOf_keyiter T (wpAny_pure ?_))
 refine wpAny_bind (wpAny_isOneOf_keyiter T ?_)
 show wpAny _ _ (setField (.ref it) 1 (rawInt ((i : Int) + 1)) >>= _) _ _ s
 refine wpAny_bind (wpAny_setField g gd (by simp) ?_)
 have z' : (s.heap.update it (Obj.mapFields (·.setIfInBounds 1 (rawInt ((i : Int) + 1))))).IsKeyIter it d (i + 1) es.size ep :=
  ⟨_, Heap.get?_update_self _ g (Obj.isFreed_of_fields (Obj.data_mapFields gd _)), (Obj.cls_mapFields ..).trans c, by rw [Obj.data_mapFields gd]; simp [rawInt]⟩
 refine wpAny_bind (wpAny_holding (wpAny_bind (wpAny_isOneOf_keyiter (s := { s with heap := s.heap.update it (Obj.mapFields (·.setIfInBounds 1 (rawInt ((i : Int) + 1)))) }) z'.typeIs ?_)))
 show wpAny _ _ (pure e.key) _ _ _
 exact wpAny_pure (wpAny_pure ⟨_, rfl, wpAny_pure (q _ z' (Heap.SameBut.update ..))⟩)
theorem QgF {Q : Option Value → Shared → Prop} (hh : A.handled = none) (z : s.heap.IsKeyIter it d i es.size ep) (x : EnAt s.heap d es ep) (hx : es[i]? = none)
  (q : ∀ h', Heap.ExtBut it s.heap h' → Q none { s with heap := h' }) : wpAny (model prog w) A (pyNext (.ref it)) Q E s := by
 have T := z.typeIs
 obtain ⟨o, g, c, gd⟩ := id z
 obtain ⟨od, gx, cx, dx⟩ := x
 unfold pyNext
 refine wpAny_bind (wpAny_attempt (wpAny_callSpecial?_slot (name := Str.ofString "__next__") T F.slot_dict_keyiterator_next (wpAny_call_entry F.slot_dict_keyiterator_next T F.entry_dict_keyiterator_next ?_ (F.args_dict_keyiterator_next_1 _))))
 refine wpAny_bind (wpAny_pure (wpAny_bind (wpAny_bind ?_)))
 first | refine wpAny_bind (wpAny_typeNameOfWhole_keyiter T (wpAny_pure ?_)) | refine wpAny_bind (wpAny_typeNameOf_keyiter T (wpAny_pure ?_))
 refine wpAny_bind (wpAny_fieldsOf g gd ?_)
 have ow : Builtin.Dict_items.ownsTuple "dict_keyiterator" = false := by decide
 simp only [ow, Bool.false_eq_true, if_false]
 show wpAny _ _ (if (Value.ref d == Value.none) = true then _ else _) _ _ s
 rw [if_neg (show ¬ ((Value.ref d == Value.none) = true) from Bool.false_ne_true)]
 refine wpAny_bind (wpAny_pure (wpAny_bind (wpAny_dictEntries gx dx ?_)))
 rw [if_neg (by simp)]
 refine wpAny_bind (wpAny_pure (wpAny_bind (wpAny_dictEpoch gx dx ?_)))
 rw [if_neg (by simp)]
 refine wpAny_pure ?_
 simp only [show ¬ ((i : Int) < 0) from by ac_nf, if_false, Int.toNat_natCast, hx]
 refine wpAny_bind ?_
 first | refine wpAny_bind (wpAny_typeNameOfWhole_keyiter T (wpAny_pure ?_)) | refine wpAny_bind (wpAny_typeNameOf_keyiter T (wpAny_pure ?_))
 show wpAny _ _ (setField (.ref it) 0 .none >>= _) _ _ s
 refine wpAny_bind (wpAny_setField g gd (by simp) ?_)
 show wpAny _ _ (newExc (.type "StopIteration") [] >>= _) _ _ _
 refine wpAny_bind ?_
 simp only [newExc, newTuple]
 refine wpAny_bind (wpAny_newObj_type ?_ (by size_fits))
 refine wpAny_bind (m := firstArgMember _ _) (wpAny_of_eq (a := Value.none) (by first | rfl | (simp only [firstArgMember]; rfl)) (wpAny_newObj_type ?_ (by size_fits)))
 simp only [raiseNew]
 refine wpAny_bind (wpAny_handled ?_)
 rw [show A.in1.handled = none from hh]
 refine wpAny_bind (wpAny_pure (wpAny_throw ?_)); refine wpAny_bind (wpAny_isInstance (T := "StopIteration") (b := true) ⟨_, Heap.get?_push_size _ rfl, rfl⟩ isSubtype_stop ?_)
 exact wpAny_pure (q _ (((Heap.SameBut.update ..).extBut.push _).push _))
theorem QgG (hh : A.handled = none) (I d : Addr) (ne : d ≠ I) (es : Array DictEntry) (ep : Nat) :
  Walks prog w A I [I, d] [I] es.size (fun i v => ∃ e, es[i]? = some e ∧ v = e.key) (fun i h => h.IsKeyIter I d i es.size ep ∧ EnAt h d es ep) where
 sub := fun b hb => by simp at hb; simp [hb]
 frame := fun _ _ _ z k => ⟨z.1.at fun o e => k I (by simp) o e, z.2.keep fun o e => k d (by simp) o e⟩
 item := fun i s Q E hi z q => by
  have hx : es[i]? = some es[i] := by simp [hi]
  refine QgE z.1 z.2 hx fun h' z' hs => ?_
  exact q _ h' s.toks ⟨_, hx, rfl⟩ ⟨z', z.2.keep fun o e => hs.extBut d o ne e⟩ fun b o hb e => hs.extBut b o (fun h => hb (by simp [h])) e
 done := fun s Q E z q => QgF hh z.1 z.2 (by simp) fun h' he => q h' s.toks fun b o hb e => he b o (fun h => hb (by simp [h])) e
 self := fun _ _ _ _ z q => wpAny_pyIter_keyiter z.1 q
theorem QgH (lo : (d == sysModules) = false) : KdlSrc prog w "dict" d d es.size (fun i v => ∃ e, es[i]? = some e ∧ v = e.key) (fun h => EnAt h d es ep) where
 type := fun _ x => x.typeIs
 there := fun _ x => ⟨x.lt, x.lt⟩
 keep := fun _ _ x k => x.keep fun o e => k d (.inl rfl) o e
 notList := by decide
 notTuple := by decide
 hint := fun _ _ _ _ x q => kdl_hint_dict x.typeIs q
 iter := fun _ _ hh x => ⟨_, _, (fun _ _ q => QgD lo x q), QgG hh _ d (Nat.ne_of_lt x.lt) es ep, ⟨⟨_, Heap.get?_push_size _ rfl, rfl, rfl⟩, x.keep fun o e => Heap.get?_push_of_some _ e⟩⟩
end
end MM
namespace MM
open PySem
noncomputable def  listKD : D → M D
 | .dic n => bnd (getDc n) fun p => chk (p.1 = true) (alloc (.lst (p.2.map (·.1))))
 | _ => bad
noncomputable def  setDefK (n : Nat) (k v : D) : M D := bnd (getDc n) fun p => chk (p.1 = true ∧ kOk true k = true ∧ p.2.length < lim) (match lkK p.2 k with
 | some d => ret d
 | none => bnd (putDc n true (ptK p.2 k v)) fun _ => ret v)
noncomputable def  cSetDef (a b c : CE) : CE := fun l => bnd (a l) fun x => match x with
 | .dic n => bnd (getDc n) fun p => chk (p.1 = true) (bnd (b l) fun y => bnd (c l) fun z => setDefK n y z)
 | _ => bad
noncomputable def  cCallD (g : List D → M D) (a : CA) (d : D) : CE := fun l => bnd (a l) fun ds => g (ds ++ [d])
end MM
namespace MM
open PySem PySem.W PyProof.Rows L2
section
variable {X : Cx}
theorem NX.refs {es : List (NK × Addr × V)} {xs : List (NK × Addr × Value)} (r : NX es xs) : L2.Vals (es.map fun p => V.ref p.2.1) (xs.map fun x => Value.ref x.2.1) := by
 induction r with
 | nil => exact .nil
 | cons h t ih => exact .cons (by dsimp only; rw [h.2.1]; rfl) ih
theorem QgI (hc : X.calm = true) : CallR X (.type "list") (fun vs H Q => ∃ a es ρ kvs, vs = [.ref a] ∧ H a = some (nstO a es) ∧ NR X.K ρ H es kvs ∧ ∀ l, H l = none → Q (.ref l) (upd H l (.lst (es.map fun p => V.ref p.2.1)))) := by
 intro pins s σ H vs us Q I r h
 obtain ⟨a, es, ρ, kvs, rfl, e, nr, q⟩ := h
 obtain ⟨u, rfl, rx⟩ := QbA r
 cases rx
 obtain ⟨hz, hd, xs, rx, dd⟩ := QdD I e nr
 obtain ⟨o, es', ep, g, c, gd, he, _⟩ := id dd
 have hn : es'.size = xs.length := size_of_entries he
 have hl : es.length = xs.length := Paired.length rx
 refine kdl_call (QgH (ep := ep) hd) (I.ok.hd hc) ⟨o, g, c, gd⟩ (by ac_nf) fun h' tk acc c' kp hS hacc => ?_
 have ea : acc = (xs.map fun x => Value.ref x.2.1).toArray := by
  apply Array.ext'
  apply List.ext_getElem?
  intro i
  rw [Array.getElem?_toList, List.getElem?_map]
  cases hx : xs[i]? with
  | none =>
   have := List.getElem?_eq_none_iff.mp hx
   rw [Array.getElem?_eq_none (by rw [hacc.1]; ac_nf)]; rfl
  | some x =>
   have hi := (List.getElem?_eq_some_iff.mp hx).1
   have hi' : i < acc.size := by rw [hacc.1]; ac_nf
   rw [Array.getElem?_eq_getElem hi']
   obtain ⟨en, e1, e2⟩ := hacc.2 i acc[i] (Array.getElem?_eq_getElem hi')
   rw [entry_at he i, hx] at e1
   cases e1
   rw [e2]; rfl
 rw [ea] at hS
 exact ⟨.ref s.heap.objs.size, _, I.laid (t' := tk) kp (Nat.le_refl _) (show ObjOk X.prog X.w _ h' _ (.lst (es.map fun p => V.ref p.2.1)) from ⟨by rw [List.length_map]; exact hz, _, c', rx.refs, hS⟩), rfl, q _ (I.hok.fresh (Nat.le_refl _))⟩
theorem NR.keys {K : PySem.W.Frag} {ρ : List Addr} {H : Hp} {es : List (NK × Addr × V)} {kvs : List (D × D)} (r : NR K ρ H es kvs) : Reps K ρ H (es.map fun p => V.ref p.2.1) (kvs.map (·.1)) := by
 induction r with
 | nil => exact .nil
 | cons h t ih => exact .cons h.2.1 ih
theorem QgJ (hc : X.calm = true) : CallR X (.type "list") (fun xs H Q => ∃ v, xs = [v] ∧ uOf X.K listKD v H Q) := (QgI hc).of fun xs H Q z => by
 obtain ⟨v, e, ρ, st, d, sr, rv, p⟩ := z
 cases rv with
 | @dic a n _ h =>
  obtain ⟨b, kvs, e2, p1⟩ := Post.getDc (Post.bnd p) sr
  obtain ⟨hb, p2⟩ := Post.chk p1
  cases (show b = true from hb)
  obtain ⟨es, e3, r⟩ := sr.ob n a _ h e2
  refine ⟨a, es, ρ, kvs, e, e3, r, fun l hl => ?_⟩
  have nl := sr.fresh hl
  have s2 : SR X.K (ρ ++ [l]) (upd H l (.lst (es.map fun p => V.ref p.2.1))) (st ++ [.lst (kvs.map (·.1))]) := (sr.new hl).keep Qai nl ((NR.keys r).mono (Ex.new hl))
  refine p2 _ _ (Ex.newL hl) s2 _ (.ref ⟨_, Qai, rfl⟩ ?_)
  rw [← sr.len]; simp
 | _ => exact p.elim
theorem QgK {o e : Expr} {es : List Expr} {to : TE} {t : TA} {name : Str} {apos cpos : Pos} {id : String} {r : V → List V → Hp → VK → Prop} (slot : Slot "dict" name id) (hty : typeOf (.builtin id) = pure (.type "method_descriptor")) (hm : MtR X id r) (ho : PE X o to) (ha : PA X (e :: es) t)
  (hbase : attributeBase o name X.env (eval o X.env) = eval o X.env)
  (hfew : ((backTo cpos (starEach (e :: es) X.env)).all (fun x => !x.1) && (backToKw cpos (keywordEach [] X.env)).all (fun x => x.1.isSome) && decide ((e :: es).length + ([] : List Keyword).length + (if ([] : List Keyword).isEmpty then 0 else 1) < 30)) = true)
  (hline : (apos.endLine == cpos.line) = true) (hs : starEach (e :: es) X.env = (false, eval e X.env) :: starEach es X.env) (hplain : (backTo cpos (starEach es X.env)).any (·.1) = false) :
  PE X (.Call (.Attribute o name apos) (e :: es) [] cpos) (fun σ H Q => to σ H fun x H1 => (∃ a es ρ kvs, x = .ref a ∧ H1 a = some (nstO a es) ∧ NR X.K ρ H1 es kvs) ∧ t σ H1 fun xs H2 => r x xs H2 Q) := by
 intro pins s σ H Q I h
 refine wpAny_Call_method_late hbase hfew hline rfl (thn (ho pins s σ H _ I h) fun v s1 z => ?_)
 obtain ⟨x, H1, I1, r1, ⟨a, es', ρ, kvs, rfl, e1, nr⟩, q1⟩ := z
 cases r1
 obtain ⟨_, _, _, _, dd⟩ := QdD I1 e1 nr
 have dd' := dd
 obtain ⟨ob, _, _, g, c, _⟩ := dd'
 refine ⟨"dict", id, F.plainAttrs_dict, slot, hty, dd.typeIs, fun b eb => by injection eb with eb; subst eb; exact ⟨ob, g, c.2.1⟩, ?_⟩
 have hA := ha cpos pins s1 σ H1 _ I1 q1
 rw [hs] at hA ⊢
 refine Calls.callWith_builtin (by show (false || (backTo cpos (starEach es X.env)).any (·.1)) = false; rw [hplain] <;> rfl) (Calls.evalArgs_plain (thn hA fun us s2 z => ?_))
 obtain ⟨vs, H2, I2, r2, q2⟩ := z
 exact hm pins s2 σ H2 (.ref a) vs _ us Q I2 rfl r2 q2
noncomputable def rSetDef (X : Cx) : V → List V → Hp → VK → Prop := fun x vs H Q => ∃ (a : Addr) (ρ : List Addr) (st : Sto) (n : Nat) (kvs : List (D × D)) (k d : D) (y v : V), x = .ref a ∧ vs = [y, v] ∧ SR X.K ρ H st ∧ ρ[n]? = some a ∧ st[n]? = some (.dct true kvs) ∧ Rep X.K ρ H y k ∧ kOk true k = true ∧ kvs.length < sizeLine ∧ Rep X.K ρ H v d ∧
 (∀ d', lkK kvs k = some d' → ∀ v', Rep X.K ρ H v' d' → Q v' H) ∧ (lkK kvs k = none → ∀ H', SR X.K ρ H' (st.set n (.dct true (ptK kvs k d))) → Ex ρ H ρ H' → Q v H')
theorem QgL (hu : X.A.units + 60 < cLine) : MtR X "dict.setdefault" (rSetDef X) := by
 intro pins s σ H x vs u us Q I rx rv h
 obtain ⟨a, ρ, st, n, kvs, k, d, y, v, rfl, rfl, sr, ha, hn, rk, hk, hl, rd, h1, h2⟩ := h
 cases rx
 obtain ⟨u1, u2, rfl, r1, r2⟩ := rv.two
 exact QgC (by ac_nf) I sr ha hn rk hk hl rd r1 r2 (fun d' e v' w' s' I' r' rw' => ⟨v', H, I', rw', h1 d' e v' r'⟩) fun e H' s' I' s3 x3 => ⟨v, H', I', r2, h2 e H' s3 x3⟩
theorem QgM {o e1 e2 : Expr} {fa fb fc : CE} {apos cpos : Pos} (hu : X.A.units + 60 < cLine) (ho : SE X o fa) (ha : SE X e1 fb) (hb : SE X e2 fc) (hbase : attributeBase o "setdefault" X.env (eval o X.env) = eval o X.env := by rfl)
  (hfew : ((backTo cpos (starEach [e1, e2] X.env)).all (fun x => !x.1) && (backToKw cpos (keywordEach [] X.env)).all (fun x => x.1.isSome) && decide ([e1, e2].length + ([] : List Keyword).length + (if ([] : List Keyword).isEmpty then 0 else 1) < 30)) = true := by rfl)
  (hline : (apos.endLine == cpos.line) = true := by rfl) (hs : starEach [e1, e2] X.env = (false, eval e1 X.env) :: starEach [e2] X.env := by rfl) (hs2 : starEach [e2] X.env = (false, eval e2 X.env) :: starEach [] X.env := by rfl) (hplain : (backTo cpos (starEach [e2] X.env)).any (·.1) = false := by rfl) :
  SE X (.Call (.Attribute o "setdefault" apos) [e1, e2] [] cpos) (cSetDef fa fb fc) :=
 (QgK F.slot_dict_setdefault F.type_dict_setdefault (QgL hu) ho (QbK ha (QbK hb QbJ hs2) hs) hbase hfew hline hs hplain).of fun σ H Q h_ => h_.el fun ρ l st lr sr p => ⟨ρ, l, st, lr, sr, p.bnd.imp fun d st1 ρ1 H1 x1 s1 p1 v rv => by
  cases rv with
  | @dic a n kk h =>
   obtain ⟨b, kvs0, e0, p2⟩ := Post.getDc (Post.bnd p1) s1
   obtain ⟨hb0, p3⟩ := Post.chk p2
   cases (show b = true from hb0)
   obtain ⟨es0, e3, r0⟩ := s1.ob n a _ h e0
   refine ⟨⟨a, es0, ρ1, kvs0, rfl, e3, r0⟩, ?_⟩
   refine ⟨ρ1, l, st1, lr.mono x1, s1, (Post.bnd p3).imp fun dy st2 ρ2 H2 x2 s2 p4 y ry => ⟨ρ2, l, st2, (lr.mono x1).mono x2, s2, (Post.bnd p4).imp fun dz st3 ρ3 H3 x3 s3 p5 z rz => ?_⟩⟩
   show rSetDef X (.ref a) [y, z] H3 Q
   obtain ⟨b, kvs, e5, p6⟩ := Post.getDc (Post.bnd p5) s3
   obtain ⟨⟨hb5, hk, hl⟩, p7⟩ := Post.chk p6
   cases (show b = true from hb5)
   have h3 : ρ3[n]? = some a := by
    obtain ⟨τ, e, _⟩ := (x2.trans x3).pre
    rw [e]; exact Qde h
   refine ⟨a, ρ3, st3, n, kvs, dy, dz, y, z, rfl, rfl, s3, h3, e5, ry.mono x3, hk, hl, rz, fun d' e v' rv' => ?_, fun e H' s4 x4 => ?_⟩
   ·dsimp only at p7
    rw [e] at p7
    exact p7.ret s3 v' rv'
   ·dsimp only at p7
    rw [e] at p7
    have p8 := Post.bnd p7
    unfold putDc at p8
    rw [e5] at p8
    exact (p8 ρ3 _ x4 s4).ret s4 _ (rz.mono x4)
  | _ => exact p1.elim⟩
end
end MM
namespace MM
open PySem PySem.Spec PyProof.Rows L2
structure NameOk (x : Str) : Prop where
 d : (x == ("__debug__" : Str)) = false
 c : (x == ("__classdict__" : Str)) = false
 n : x ≠ "__name__"
theorem nok {x : Str} (h : ((x == ("__debug__" : Str)) || (x == ("__classdict__" : Str)) || decide (x = ("__name__" : Str))) = false) : NameOk x := by
 rw [Bool.or_eq_false_iff, Bool.or_eq_false_iff] at h
 exact ⟨h.1.1, h.1.2, of_decide_eq_false h.2⟩
structure Sc (X : Cx) (sc : Scope) : Prop where
 vis : ∀ x k, sc.names.lookup x = some k → (k = .local ∨ k = .cell ∨ k = .free) → Vis X.env.scope x
 cel : ∀ x, (sc.names.lookup x = some .cell ∨ sc.names.lookup x = some .free) → (X.env.kindOf x = some .cell ∨ X.env.kindOf x = some .free)
 glo : ∀ x, sc.names.lookup x = some .globalImplicit → Gl X x
 loc : ∀ x k, sc.names.lookup x = some k → (k = .local ∨ k = .cell) → L2.Loc X.env.scope x ∧ (X.fn x = true ∨ X.env.scope.names.lookup x = some .local)
 calm : X.calm = true
theorem QgN {P : Program} {w : World} {K : PySem.W.Frag} {mg : Str → Option Value} {base : Heap} {N : List Str} {qual : Str} {sc : Scope} {f : Addr} {cdv : Value} {A : Around} {outer : List Env} {s : Shared} {H : Hp} {E : XK} :
  Sc (cxOf CX0 P w K mg base N qual sc f cdv A outer s H E).nox sc where
 vis := fun x k h hk => by
  rcases hk with z | z | z <;> subst z
  ·exact .inl h
  ·exact .inr (.inl h)
  ·exact .inr (.inr h)
 cel := fun x h => h
 glo := fun x h => h
 loc := fun x k h hk => ⟨by rcases hk with z | z <;> subst z; exact .inl h; exact .inr h, .inl rfl⟩
 calm := rfl
theorem QgO {X : Cx} {N : List Str} {scope : Scope} {fp : List Addr} {s : Shared} {H : Hp} (hc : X.calm = true) : Sc (cxC X N scope fp s H) scope where
 vis := fun x k h hk => by
  show (relabel scope X.env).names.lookup x = _ ∨ (relabel scope X.env).names.lookup x = _ ∨ (relabel scope X.env).names.lookup x = _
  rw [QdT, h, Option.map_some]
  rcases hk with z | z | z <;> subst z
  ·exact .inl rfl
  ·exact .inr (.inl rfl)
  ·by_cases hq : (NameKind.free == NameKind.free && X.env.scope.kind == .function && X.env.kindOf x == some .cell) = true
   ·rw [if_pos hq]; exact .inr (.inl rfl)
   ·rw [if_neg hq]; exact .inr (.inr rfl)
 cel := fun x h => by
  show (relabel scope X.env).names.lookup x = _ ∨ (relabel scope X.env).names.lookup x = _
  rcases h with h | h <;> rw [QdT, h, Option.map_some]
  ·exact .inl rfl
  ·by_cases hq : (NameKind.free == NameKind.free && X.env.scope.kind == .function && X.env.kindOf x == some .cell) = true
   ·rw [if_pos hq]; exact .inl rfl
   ·rw [if_neg hq]; exact .inr rfl
 glo := fun x h => by
  show (relabel scope X.env).names.lookup x = _
  rw [QdT, h, Option.map_some]; rfl
 loc := fun x k h hk => by
  refine ⟨?_, .inl ?_⟩
  ·show (relabel scope X.env).names.lookup x = _ ∨ (relabel scope X.env).names.lookup x = _
   rw [QdT, h, Option.map_some]
   rcases hk with z | z <;> subst z
   ·exact .inl rfl
   ·exact .inr rfl
  ·show decide (scope.names.lookup x = some .local ∨ scope.names.lookup x = some .cell) = true
   rw [h]
   rcases hk with z | z <;> subst z <;> decide
 calm := hc
noncomputable def compChk (sc scope : Scope) : Bool :=
 (scope.kind == .function) && scope.names.all (fun p => p.2 != .local || scope.names.lookup p.1 == some .local) &&
 scope.names.all (fun p => p.2 != .free || ((sc.names.lookup p.1 == some .cell || sc.names.lookup p.1 == some .free) && !scope.names.contains (p.1, .cell) && scope.names.lookup p.1 != some .local))
theorem QgP {X : Cx} {sc scope : Scope} (S : Sc X sc) (h : compChk sc scope = true) : CompScope X scope := by
 unfold compChk at h
 rw [Bool.and_eq_true, Bool.and_eq_true] at h
 obtain ⟨⟨h1, h2⟩, h3⟩ := h
 rw [List.all_eq_true] at h2 h3
 have fr : ∀ x, (x, NameKind.free) ∈ scope.names → (sc.names.lookup x = some .cell ∨ sc.names.lookup x = some .free) ∧ (x, NameKind.cell) ∉ scope.names ∧ scope.names.lookup x ≠ some .local := fun x hx => by
  have q := h3 _ hx
  simp only [bne_self_eq_false, Bool.false_or, Bool.and_eq_true, Bool.or_eq_true, beq_iff_eq, Bool.not_eq_true', bne_iff_ne, ne_eq] at q
  obtain ⟨⟨q1, q2⟩, q3⟩ := q
  refine ⟨q1, fun z => ?_, q3⟩
  have : scope.names.contains (x, NameKind.cell) = true := List.contains_iff_mem.mpr z
  rw [this] at q2; cases q2
 refine ⟨by simpa using h1, fun p hp hl => ?_, fun x hx => S.cel x (fr x hx).1, fun x hx => (fr x hx).2.1, fun x hx => (fr x hx).2.2⟩
 have q := h2 p hp
 rw [hl] at q
 simpa using q
noncomputable def namesChk (N0 : List Str) (scope : Scope) (N : List Str) (n : Nat) (ix : List Nat) : Bool :=
 N.length == n + ix.length && (List.range ix.length).all fun j => match ix[j]?, N[n + j]? with
  | some i, some x => N0[i]? == some x && scope.names.lookup x == some .free
  | _, _ => false
theorem QgQ {X : Cx} {N0 : List Str} {scope : Scope} {N : List Str} {n : Nat} {ix : List Nat} (hX : X.N = N0) (h : namesChk N0 scope N n ix = true) : CompNames X scope N n ix := by
 unfold namesChk at h
 rw [Bool.and_eq_true, List.all_eq_true] at h
 refine ⟨by simpa using h.1, fun j i x hj hx => ?_⟩
 have q := h.2 j (List.mem_range.mpr (List.getElem?_eq_some_iff.mp hj).1)
 rw [hj, hx] at q
 simp only [Bool.and_eq_true, beq_iff_eq] at q
 rw [hX]
 exact q
section
variable {X : Cx} {sc : Scope} {a b c e o tg : Expr} {es : List Expr} {pos p : Pos} {fa fb fc : CE} {ca cb : CA} {x : Str} {T id : String}
theorem QgR (S : Sc X sc) (i : Nat) (hN : X.N[i]? = some x) {k : NameKind} (h : sc.names.lookup x = some k) (n : NameOk x) (hk : k = .local ∨ k = .cell ∨ k = .free := by decide) : SE X (.Name x pos) (cVar i) := Qdh i (Qav hN (S.vis x k h hk) n.d n.c)
theorem QgS (S : Sc X sc) (i : Nat) (nd : X.N.Nodup) (hN : X.N[i]? = some x) {k : NameKind} (h : sc.names.lookup x = some k) (hk : k = .local ∨ k = .cell := by decide) : SG X (.Name x pos) (gVar i) :=
 QeC (QaT nd hN (S.loc x k h hk).1 (S.loc x k h hk).2)
theorem QgT (S : Sc X sc) (i : Nat) (nd : X.N.Nodup) (hN : X.N[i]? = some x) {k : NameKind} (h : sc.names.lookup x = some k) {pos' : Pos} (he : SE X e fa) (hk : k = .local ∨ k = .cell := by decide) (hs : swapsWith e (some (.Name x pos')) pos.line X.env = pure false := by rfl) :
  SS X (.Assign [.Name x pos'] e pos) (sAsg (gVar i) fa) := QeO nd hN (S.loc x k h hk).1 he hs (S.loc x k h hk).2
theorem QgU {n : Nat} (h : ∀ l st ds st', ca l st = .ok ds st' → ds.length = n) : ∀ l st ds st', cCons fa ca l st = .ok ds st' → ds.length = n + 1 := fun l st ds st' e => by
 unfold cCons bnd at e
 cases q : fa l st with
 | ok d s1 =>
  rw [q] at e
  dsimp only at e
  cases q2 : ca l s1 with
  | ok es s2 =>
   rw [q2] at e
   have := h l s1 es s2 q2
   cases e
   simp [this]
  | exc _ _ => rw [q2] at e; cases e
  | bad => rw [q2] at e; cases e
 | exc _ _ => rw [q] at e; cases e
 | bad => rw [q] at e; cases e
theorem QgV : ∀ l st ds st', cNil l st = .ok ds st' → ds.length = 0 := fun l st ds st' e => by cases e; rfl
theorem QgW {k n : Nat} {f : Addr} {fd : FuncData} {ps : List Str} {g : List D → M D} (S : Sc X sc) (h : sc.names.lookup x = some .globalImplicit) (F : FnOk X.prog X.w X.K X.mg X.base CX0 k f fd ps (spOf X.K n g)) (hr : Room k X.A) (hm : X.mg x = some (.ref f))
  (hk : PySem.W.keepIn X.K (.ref f) = true) (hb : Binds X.K fd ps []) (nk : NameOk x) (ha : SA X (e :: es) ca) (hn : ∀ l st ds st', ca l st = .ok ds st' → ds.length = n)
  (he : starEach (e :: es) X.env = (false, eval e X.env) :: starEach es X.env := by rfl) (hpl : (backTo pos (starEach es X.env)).any (·.1) = false := by rfl) : SE X (.Call (.Name x p) (e :: es) [] pos) (cCall g ca) :=
 Qeo F hr (S.glo x h) hm hk hb QcO ha hn nk.d he hpl
end
theorem QgX {k : Nat} {X : Cx} (h : Room k X.A) : X.A.units + 60 < cLine := by have := h.units; ac_nf
end MM
namespace MM
open PySem PySem.Spec PyProof.Rows L2
theorem QgY {P : Program} {w : World} {K : PySem.W.Frag} {mg : Str → Option Value} {base : Heap} {x qual : Str} {sd : Stmt} {f : Addr} {fd : FuncData} {N ps : List Str} {k n m : Nat} {body : CS} (F : Fun K x qual sd f fd) (S : FnScope N ps (defScope sd)) (hn : ps.length = n) (hm : N.length = m)
  (hbody : ∀ (cdv : Value) (A : Around) (outer : List Env) (s : Shared) (H : Hp) (E : XK), Room k (A.deeper (envOfC qual (defScope sd) s.heap.objs.size f cdv)) → SSs (cxOf CX0 P w K mg base N qual (defScope sd) f cdv A outer s H E).nox (defBody sd) body) :
  FnOk P w K mg base CX0 (k + 1) f fd ps (spOf K n (runDef m body)) := by
 subst hn hm
 exact QeS F S hbody
end MM
namespace MM
open PySem PySem.Spec PyProof.Rows L2
theorem QgZ {K : PySem.W.Frag} {ρ : List Addr} {H : Hp} : ∀ (ns : List Int), Reps K ρ H (ns.map V.int) (ns.map D.int)
 | [] => .nil
 | n :: ns => .cons (.int n) (QgZ ns)
theorem Qg0 {K : PySem.W.Frag} {H : Hp} {a : Addr} {ns : List Int} {g : List D → M D} (hO : Only H) (hS : SqL K H a (ns.map V.int)) (h : ∃ st', g [.lit (ns.map D.int)] [] = .ok (.bl true) st') :
  spOf K 1 g [.ref a] H (fun v _ => v = .bl true) fun _ _ _ => False := by
 obtain ⟨st', e⟩ := h
 have fz : FzL K H a (ns.map V.int) := by
  rcases hS with (h | ⟨o, h⟩) | h
  ·rcases hO a with z | ⟨ob, xs, z⟩ <;> (rw [z] at h; cases h)
  ·exact .inl ⟨o, h⟩
  ·exact .inr h
 refine ⟨rfl, [], [], _, ⟨rfl, List.nodup_nil, fun n b o z => by cases z⟩, .cons (.lit fz (QgZ ns)) .nil, ?_⟩
 rw [e]
 intro ρ' H' _ _ v rv
 cases rv
 rfl
abbrev LK (st : Stmt) (x : Str) (k : NameKind) : Prop := (defScope st).names.lookup x = some k
@[elab_as_elim] theorem le1 {A : Type} {P : List A → Prop} (h : ∀ a, P [a]) (us : List A) (hl : us.length = 1) : P us := by
 cases us with
 | nil => cases hl
 | cons a t => cases t with
  | nil => exact h a
  | cons b u => simp at hl
@[elab_as_elim] theorem le2 {A : Type} {P : List A → Prop} (h : ∀ a0 a1, P [a0, a1]) (us : List A) (hl : us.length = 2) : P us := by
 cases us with
 | nil => cases hl
 | cons a t => exact le1 (P := fun t => P (a :: t)) (h a) t (Nat.succ.inj hl)
@[elab_as_elim] theorem le3 {A : Type} {P : List A → Prop} (h : ∀ a0 a1 a2, P [a0, a1, a2]) (us : List A) (hl : us.length = 3) : P us := by
 cases us with
 | nil => cases hl
 | cons a t => exact le2 (P := fun t => P (a :: t)) (h a) t (Nat.succ.inj hl)
@[elab_as_elim] theorem le4 {A : Type} {P : List A → Prop} (h : ∀ a0 a1 a2 a3, P [a0, a1, a2, a3]) (us : List A) (hl : us.length = 4) : P us := by
 cases us with
 | nil => cases hl
 | cons a t => exact le3 (P := fun t => P (a :: t)) (h a) t (Nat.succ.inj hl)
@[elab_as_elim] theorem le5 {A : Type} {P : List A → Prop} (h : ∀ a0 a1 a2 a3 a4, P [a0, a1, a2, a3, a4]) (us : List A) (hl : us.length = 5) : P us := by
 cases us with
 | nil => cases hl
 | cons a t => exact le4 (P := fun t => P (a :: t)) (h a) t (Nat.succ.inj hl)
end MM
namespace MM
open PySem PySem.Spec PyProof.Rows L2
structure FunD (K : PySem.W.Frag) (x qual : Str) (st : Stmt) (f : Addr) (fd : FuncData) (u : Value) : Prop where
 ex : ∃ (oc : Value) (od : Option Addr) (kV doc pm : Value) (an : Option Addr) (cdv ct : Value) (osl : Array (Option Value)) (T : Addr) (o : Obj) (n : Nat),
  fd = PySem.W.fnOf x qual (defArgs st) (defBody st) (defScope st) (.ref T) kV doc pm an cdv ct ∧ K.lookup f = some ⟨oc, od, .func fd, osl⟩ ∧ PySem.W.codeIn K cdv qual = true ∧ K.lookup T = some o ∧ o.data = .seq #[u] n
 kp : PySem.W.keepIn K (.ref f) = true
section
variable {P : Program} {w : World} {K : PySem.W.Frag} {mg : Str → Option Value} {base : Heap} {x qual : Str} {st : Stmt} {f : Addr} {fd : FuncData} {u : Value} {ps : List Str}
theorem FunD.binds {ds : List Value} (F : FunD K x qual st f fd u)
  (h : ∀ (T : Addr) (kV doc pm : Value) (an : Option Addr) (cdv ct : Value) (us : List Value), (us ++ ds).length = ps.length → ∃ k : Option (Array Value) → Sem (List (Str × Value)), bindArgs (PySem.W.fnOf x qual (defArgs st) (defBody st) (defScope st) (.ref T) kV doc pm an cdv ct) ⟨us, []⟩ = seqItems? (.ref T) >>= k ∧ k (some #[u]) = pure (ps.zip (us ++ ds))) : Binds K fd ps ds := by
 obtain ⟨oc, od, kV, doc, pm, an, cdv, ct, osl, T, o, n, rfl, lk, hcd, lt, ht⟩ := F.ex
 intro s us KX hl
 obtain ⟨k, h1, h2⟩ := h T kV doc pm an cdv ct us hl
 exact BindsTo.of_defaults (T := T) rfl (KX T o lt) ht h1 h2
theorem Qg1 {oc : Value} {od an : Option Addr} {osl : Array (Option Value)} {kV doc pm cdv ct : Value} {T : Addr} {o : Obj} {n : Nat} (l : K.lookup f = some ⟨oc, od, .func (PySem.W.fnOf x qual (defArgs st) (defBody st) (defScope st) (.ref T) kV doc pm an cdv ct), osl⟩)
  (c : PySem.W.codeIn K cdv qual = true) (k : PySem.W.keepIn K (.ref f) = true) (lt : K.lookup T = some o) (ht : o.data = .seq #[u] n) : FunD K x qual st f (PySem.W.fnOf x qual (defArgs st) (defBody st) (defScope st) (.ref T) kV doc pm an cdv ct) u :=
 ⟨⟨oc, od, kV, doc, pm, an, cdv, ct, osl, T, o, n, rfl, l, c, lt, ht⟩, k⟩
theorem Qg2 {N : List Str} {k n m : Nat} {body : CS} (F : FunD K x qual st f fd u) (S : FnScope N ps (defScope st)) (hn : ps.length = n) (hm : N.length = m)
  (hbody : ∀ (cdv : Value) (A : Around) (outer : List Env) (s : Shared) (H : Hp) (E : XK), Room k (A.deeper (envOfC qual (defScope st) s.heap.objs.size f cdv)) → SSs (cxOf CX0 P w K mg base N qual (defScope st) f cdv A outer s H E).nox (defBody st) body) :
  FnOk P w K mg base CX0 (k + 1) f fd ps (spOf K n (runDef m body)) := by
 subst hn hm
 obtain ⟨oc, od, kV, doc, pm, an, cdv, ct, osl, T, o, n, rfl, lk, hcd, lt, ht⟩ := F.ex
 refine QbV lk hcd S (fun vs H Q E h => h.1) fun A outer s H vs Q E hr h => ⟨_, (hbody cdv A outer s H E hr).nox, ?_⟩
 obtain ⟨hl, ρ, st, ds, sr, rvs, p⟩ := h
 refine ⟨ρ, _, st, LR.start rvs, sr, ?_⟩
 unfold runDef at p
 exact p.bnd.imp fun f st1 ρ1 H1 x1 s1 p1 => by
  cases f with
  | next l => exact fun σ' _ => p1.ret s1 _ .non
  | ret d => exact fun v rv => p1.ret s1 v rv
  | brk l => exact p1.elim
  | cnt l => exact p1.elim
end
section
variable {X : Cx} {sc : Scope} {e : Expr} {es : List Expr} {pos p : Pos} {ca : CA} {x : Str}
theorem Qg3 {k n : Nat} {i : Int} {u : Value} {f : Addr} {fd : FuncData} {ps : List Str} {g : List D → M D} (S : Sc X sc) (h : sc.names.lookup x = some .globalImplicit) (F : FnOk X.prog X.w X.K X.mg X.base CX0 k f fd ps (spOf X.K n g)) (hr : Room k X.A) (hm : X.mg x = some (.ref f))
  (hk : PySem.W.keepIn X.K (.ref f) = true) (hb : Binds X.K fd ps [u]) (hu : RelV (.int i) u) (nk : NameOk x) (ha : SA X (e :: es) ca) (hn : ∀ l st ds st', ca l st = .ok ds st' → ds.length + 1 = n)
  (he : starEach (e :: es) X.env = (false, eval e X.env) :: starEach es X.env := by rfl) (hpl : (backTo pos (starEach es X.env)).any (·.1) = false := by rfl) : SE X (.Call (.Name x p) (e :: es) [] pos) (cCallD g ca (.int i)) :=
 (QbO F hr (S.glo x h) hm hk hb (.cons hu .nil) QcO ha nk.d he hpl).of fun σ H Q h_ => h_.el fun ρ l st lr sr p => ⟨ρ, l, st, lr, sr, by
  have q := Post.bnd p
  cases ec : ca l st with
  | bad => rw [ec] at q; exact q
  | exc _ _ => rw [ec] at q; exact q
  | ok ds st1 =>
   rw [ec] at q
   intro ρ1 H1 x1 s1 vs rvs
   have hl := hn l st ds st1 ec
   exact ⟨by rw [List.length_append, rvs.length]; exact hl, ρ1, st1, ds ++ [.int i], s1, Reps.app rvs (.cons (.int i) .nil), q ρ1 H1 x1 s1⟩⟩
end
end MM
namespace MM
open PySem
noncomputable abbrev At {α : Type} (_ : α → Sto → Prop) : Type := Sto
inductive wp {α : Type} (m : M α) (Q : α → Sto → Prop) (s : At Q) : Prop
 | intro (a : α) (s' : Sto) (h : m s = .ok a s') (q : Q a s') : wp m Q s
theorem Qg4 {α : Type} {m : M α} {Q : α → Sto → Prop} {s : Sto} : wp m Q s = (match m s with
 | .ok a s' => Q a s'
 | _ => False) := by
 apply propext
 constructor
 ·rintro ⟨a, s', h, q⟩; rw [h]; exact q
 ·intro h
  cases e : m s with
  | ok a s' => rw [e] at h; exact ⟨a, s', e, h⟩
  | exc _ _ => rw [e] at h; exact h.elim
  | bad => rw [e] at h; exact h.elim
section
variable {α β : Type} {Q : α → Sto → Prop} {s : Sto}
theorem wp_eq {m : M α} {a : α} {s' : Sto} (h : m s = .ok a s') : wp m Q s = Q a s' := by rw [Qg4, h]
theorem wp_no {m : M α} (h : m s = .bad) : wp m Q s = False := by rw [Qg4, h]
theorem wp_cg {m : M β} {Q Q' : β → Sto → Prop} {s : Sto} (h : ∀ a s', Q a s' = Q' a s') : wp m Q s = wp m Q' s := by
 rw [show Q = Q' from funext fun a => funext fun t => h a t]
theorem wp_ret {a : α} : wp (ret a) Q s = Q a s := wp_eq rfl
theorem wp_bad : wp (bad : M α) Q s = False := wp_no rfl
theorem Qg5 {m : M β} {f : β → M α} : wp (bnd m f) Q s = wp m (fun a s' => wp (f a) Q s') s := by
 simp only [Qg4]
 unfold bnd
 cases m s <;> rfl
theorem wp_chk {c : Prop} [Decidable c] {m : M α} : wp (chk c m) Q s = (c ∧ wp m Q s) := by
 unfold chk
 by_cases h : c
 ·simp [h]
 ·simp [h, wp_bad]
theorem wp_alloc {o : MO} {Q : D → Sto → Prop} : wp (alloc o) Q s = Q (.ref s.length) (s ++ [o]) := wp_eq rfl
theorem Qg6 {n : Nat} {ds : List D} {Q : List D → Sto → Prop} (h : s[n]? = some (.lst ds)) : wp (getL n) Q s = Q ds s := by
 rw [Qg4]; unfold getL; rw [h]
theorem Qg7 {n : Nat} {ds es : List D} {Q : Unit → Sto → Prop} (h : s[n]? = some (.lst ds)) : wp (putL n es) Q s = Q () (s.set n (.lst es)) := by
 rw [Qg4]; unfold putL; rw [h]
theorem Qg8 {m : M α} {Q' : α → Sto → Prop} (h : wp m Q s) (f : ∀ a s', Q a s' → Q' a s') : wp m Q' s := by
 simp only [Qg4] at *
 cases e : m s with
 | ok a s' => rw [e] at h; exact f a s' h
 | exc _ _ => rw [e] at h; exact h
 | bad => rw [e] at h; exact h
theorem Qg9 {c : Prop} [Decidable c] {m n : M α} : wp (if c then m else n) Q s = if c then wp m Q s else wp n Q s := by split <;> rfl
end
theorem Qha {ds : List D} {i : Int} {d : D} (h0 : 0 ≤ i) (h : ds[i.toNat]? = some d) : itemD ds i = ret d := by
 have hl : i.toNat < ds.length := (List.getElem?_eq_some_iff.mp h).1
 unfold itemD MM.ixN
 rw [if_pos h0, if_pos (by ac_nf)]
 dsimp only
 rw [h]
theorem wp_run {n : Nat} {b : CS} {ds : List D} {Q : D → Sto → Prop} {s : Sto} : wp (runDef n b ds) Q s = wp (b (ds.map some ++ List.replicate (n - ds.length) none)) (fun f s' => wp (flwD f) Q s') s := by
 unfold runDef; rw [Qg5]
theorem Qhb {g : CG} {b : CS} {same : Sto → Prop} {Q : Flw → Sto → Prop} (W : List D → Loc → Sto → Prop)
  (hend : ∀ l s, W [] l s → wp (chkS same) (fun _ s' => Q (.next l) s') s)
  (hstep : ∀ d ds l s, W (d :: ds) l s → wp (chkS same) (fun _ s1 => wp (g d l) (fun l1 s2 => wp (b l1) (fun f s3 => match f with
   | .next l2 => W ds l2 s3
   | .cnt l2 => W ds l2 s3
   | .brk l2 => Q (.next l2) s3
   | .ret d => Q (.ret d) s3) s2) s1) s) : ∀ ds l s, W ds l s → wp (forD g b same ds l) Q s := by
 intro ds
 induction ds with
 | nil =>
  intro l s h
  unfold forD
  rw [Qg5]
  exact Qg8 (hend l s h) fun _ s' q => by rw [wp_ret]; exact q
 | cons d ds ih =>
  intro l s h
  unfold forD
  rw [Qg5]
  refine Qg8 (hstep d ds l s h) fun _ s1 q => ?_
  rw [Qg5]
  refine Qg8 q fun l1 s2 q => ?_
  rw [Qg5]
  refine Qg8 q fun f s3 q => ?_
  cases f with
  | next l2 => exact ih l2 s3 q
  | cnt l2 => exact ih l2 s3 q
  | brk l2 => show wp (ret _) _ _; rw [wp_ret]; exact q
  | ret d => show wp (ret _) _ _; rw [wp_ret]; exact q
theorem Qhc {g : CG} {t : CT} {e : CE} {same : Sto → Prop} {Q : List D → Sto → Prop} (W : List D → List D → Loc → Sto → Prop)
  (hend : ∀ out l s, W out [] l s → wp (chkS same) (fun _ s' => Q out s') s)
  (hstep : ∀ out d ds l s, W out (d :: ds) l s → wp (chkS same) (fun _ s1 => wp (g d l) (fun l1 s2 => wp (t l1) (fun b s3 => if b = true then wp (e l1) (fun x s4 => W (out ++ [x]) ds l1 s4) s3 else W out ds l1 s3) s2) s1) s) :
  ∀ ds out l s, W out ds l s → wp (collect g t e same ds l) (fun xs s' => Q (out ++ xs) s') s := by
 intro ds
 induction ds with
 | nil =>
  intro out l s h
  unfold collect
  rw [Qg5]
  exact Qg8 (hend out l s h) fun _ s' q => by rw [wp_ret, List.append_nil]; exact q
 | cons d ds ih =>
  intro out l s h
  unfold collect
  rw [Qg5]
  refine Qg8 (hstep out d ds l s h) fun _ s1 q => ?_
  rw [Qg5]
  refine Qg8 q fun l1 s2 q => ?_
  rw [Qg5]
  refine Qg8 q fun b s3 q => ?_
  cases b with
  | false => exact ih out l1 s3 q
  | true =>
   show wp (bnd (e l1) _) _ s3
   rw [Qg5]
   refine Qg8 q fun x s4 q => ?_
   rw [Qg5]
   refine Qg8 (ih (out ++ [x]) l1 s4 q) fun xs s5 q => ?_
   rw [wp_ret]
   rw [List.append_assoc] at q
   exact q
theorem Qhd {e : CE} {xs : List D} {same : Sto → Prop} {caps : Loc} {s : Sto} {Q : List D → Sto → Prop} (W : Nat → List D → Sto → Prop) (hs : ∀ i out s, W i out s → same s) (h0 : W 0 [] s)
  (hstep : ∀ (i : Nat) d out s, xs[i]? = some d → W i out s → wp (e (some d :: caps)) (fun x s' => W (i + 1) (out ++ [x]) s') s) (hend : ∀ out s, W xs.length out s → Q out s) :
  wp (collect (gVar 0) tTrue e same xs (none :: caps)) Q s := by
 have chk : ∀ {s : Sto} {R : Unit → Sto → Prop}, same s → R () s → wp (chkS same) R s := fun h r => by rw [Qg4]; unfold chkS; rw [if_pos h]; exact r
 refine Qhc (Q := Q) (fun out ds l s => ∃ i x0, ds = xs.drop i ∧ i ≤ xs.length ∧ l = x0 :: caps ∧ W i out s) (fun out l s ⟨i, x0, e1, hi, _, w⟩ => ?_) (fun out d ds l s ⟨i, x0, e1, hi, el, w⟩ => ?_) xs [] _ s ⟨0, none, by simp, Nat.zero_le _, rfl, h0⟩
 ·have : i = xs.length := by
    have := congrArg List.length e1
    simp at this; ac_nf
  subst this
  exact chk (hs _ _ _ w) (hend out s w)
 ·subst el
  have hlt : i < xs.length := by
   have := congrArg List.length e1
   simp at this; ac_nf
  rw [List.drop_eq_getElem_cons hlt] at e1
  obtain ⟨e2, e3⟩ := List.cons.inj e1
  refine chk (hs _ _ _ w) ?_
  show wp (ret _) _ s
  rw [wp_ret]
  show wp (ret true) _ s
  rw [wp_ret]
  show wp (e (some d :: caps)) _ s
  exact Qg8 (hstep i d out s (by rw [e2]; exact List.getElem?_eq_getElem hlt) w) fun x s' q => ⟨i + 1, some d, e3, hlt, rfl, q⟩
theorem Qhe {n i : Nat} (h : i < n) : (rngD 0 n)[i]? = some (.int i) := by
 unfold rngD
 rw [List.getElem?_map, List.getElem?_range h]; simp
theorem Qhf {n : Nat} (h : n ≤ 1000) : n ≤ lim := Nat.le_trans h (by decide)
theorem Qhg {n : Nat} (h : n ≤ 1000) : n < lim := Nat.lt_of_le_of_lt h (by decide)
theorem Qhh {g : CG} {b : CS} {same : Sto → Prop} {xs : List D} {l : Loc} {s : Sto} {Q : Flw → Sto → Prop} (W : Nat → Loc → Sto → Prop) (hs : ∀ i l s, W i l s → same s) (h0 : W 0 l s)
  (hstep : ∀ (i : Nat) d l s, xs[i]? = some d → W i l s → wp (g d l) (fun l1 s2 => wp (b l1) (fun f s3 => match f with
   | .next l2 => W (i + 1) l2 s3
   | .cnt l2 => W (i + 1) l2 s3
   | .brk l2 => Q (.next l2) s3
   | .ret d => Q (.ret d) s3) s2) s) (hend : ∀ l s, W xs.length l s → Q (.next l) s) : wp (forD g b same xs l) Q s := by
 have chk : ∀ {s : Sto} {R : Unit → Sto → Prop}, same s → R () s → wp (chkS same) R s := fun h r => by rw [Qg4]; unfold chkS; rw [if_pos h]; exact r
 refine Qhb (fun ds l s => ∃ i, ds = xs.drop i ∧ i ≤ xs.length ∧ W i l s) (fun l s ⟨i, e1, hi, w⟩ => ?_) (fun d ds l s ⟨i, e1, hi, w⟩ => ?_) xs l s ⟨0, by simp, Nat.zero_le _, h0⟩
 ·have : i = xs.length := by
    have := congrArg List.length e1
    simp at this; ac_nf
  subst this
  exact chk (hs _ _ _ w) (hend l s w)
 ·have hlt : i < xs.length := by
    have := congrArg List.length e1
    simp at this; ac_nf
  rw [List.drop_eq_getElem_cons hlt] at e1
  obtain ⟨e2, e3⟩ := List.cons.inj e1
  refine chk (hs _ _ _ w) ?_
  refine Qg8 (hstep i d l s (by rw [e2]; exact List.getElem?_eq_getElem hlt) w) fun l1 s2 q => Qg8 q fun f s3 q => ?_
  cases f with
  | next l2 => exact ⟨i + 1, e3, hlt, q⟩
  | cnt l2 => exact ⟨i + 1, e3, hlt, q⟩
  | brk l2 => exact q
  | ret d => exact q
end MM
local macro_rules | `(tactic| bv_omega) => `(tactic| first | rfl | exact MM.wp_eq rfl | exact MM.wp_no rfl)
local macro_rules | `(tactic| ac_rfl) => `(tactic| first | rfl | simp only [MM.wp_ret, MM.wp_alloc, MM.wp_bad] | (refine MM.wp_cg fun _ _ => ?_; simp only [MM.wp_ret, MM.wp_alloc, MM.wp_bad]))
namespace MM
open PySem
theorem nr {α : Sort u} {a b : α} (h : a = b) : a = b := h
section
variable {Q : D → Sto → Prop} {R : Flw → Sto → Prop} {T : Bool → Sto → Prop} {A : List D → Sto → Prop} {G : Loc → Sto → Prop} {I : Wk → Sto → Prop} {s : Sto} {l : Loc}
theorem x_seq {a b : CS} : wp (sSeq a b l) R s = wp (a l) (fun f s' => match f with
  | .next l' => wp (b l') R s'
  | .ret d => R (.ret d) s'
  | .brk l' => R (.brk l') s'
  | .cnt l' => R (.cnt l') s') s := by
 unfold sSeq; rw [Qg5]; congr 1; funext f s'; cases f <;> first | bv_omega
theorem x_next : wp (sNext l) R s = R (.next l) s := wp_eq rfl
theorem x_asg {g : CG} {a : CE} : wp (sAsg g a l) R s = wp (a l) (fun d s' => wp (g d l) (fun l' s'' => R (.next l') s'') s') s := by
 unfold sAsg; rw [Qg5]; congr 1; funext d s'; rw [Qg5]; ac_rfl
theorem x_ret {a : CE} : wp (sRet a l) R s = wp (a l) (fun d s' => R (.ret d) s') s := by
 unfold sRet; rw [Qg5]; ac_rfl
theorem x_exp {a : CE} : wp (sExp a l) R s = wp (a l) (fun d s' => R (.next l) s') s := by
 unfold sExp; rw [Qg5]; ac_rfl
theorem x_if {t : CT} {a b : CS} : wp (sIf t a b l) R s = wp (t l) (fun c s' => if c = true then wp (a l) R s' else wp (b l) R s') s := by
 unfold sIf; rw [Qg5]; congr 1; funext c s'; rw [Qg9]
theorem x_cmp {a : CE} : wp (tCmpB a l) T s = wp (a l) (fun x s' => match x with
  | .bl b => T b s'
  | _ => False) s := by
 unfold tCmpB; rw [Qg5]; congr 1; funext x s'; cases x <;> first | bv_omega
theorem x_val {a : CE} : wp (tVal a l) T s = wp (a l) (fun x s' => wp (truD x) T s') s := by unfold tVal; rw [Qg5]
theorem x_not {a : CT} : wp (tNotB a l) T s = wp (a l) (fun x s' => T (!x) s') s := by unfold tNotB; rw [Qg5]; ac_rfl
theorem x_and {a b : CT} : wp (tAndB a b l) T s = wp (a l) (fun c s' => if c = true then wp (b l) T s' else T false s') s := by
 unfold tAndB; rw [Qg5]; congr 1; funext c s'; rw [Qg9]; ac_rfl
theorem x_or {a b : CT} : wp (tOrB a b l) T s = wp (a l) (fun c s' => if c = true then T true s' else wp (b l) T s') s := by
 unfold tOrB; rw [Qg5]; congr 1; funext c s'; rw [Qg9]; ac_rfl
theorem x_gvar {i : Nat} {d : D} : wp (gVar i d l) G s = G (l.set i (some d)) s := wp_eq rfl
theorem x_g0 {d : D} {b : Option D} {r : Loc} {Q : Loc → Sto → Prop} : wp (gVar 0 d (b :: r)) Q s = Q (some d :: r) s := x_gvar
theorem x_g1 {a0 : Option D} {d : D} {b : Option D} {r : Loc} {Q : Loc → Sto → Prop} : wp (gVar 1 d (a0 :: b :: r)) Q s = Q (a0 :: some d :: r) s := x_gvar
theorem x_g2 {a0 a1 : Option D} {d : D} {b : Option D} {r : Loc} {Q : Loc → Sto → Prop} : wp (gVar 2 d (a0 :: a1 :: b :: r)) Q s = Q (a0 :: a1 :: some d :: r) s := x_gvar
theorem x_g3 {a0 a1 a2 : Option D} {d : D} {b : Option D} {r : Loc} {Q : Loc → Sto → Prop} : wp (gVar 3 d (a0 :: a1 :: a2 :: b :: r)) Q s = Q (a0 :: a1 :: a2 :: some d :: r) s := x_gvar
theorem x_g4 {a0 a1 a2 a3 : Option D} {d : D} {b : Option D} {r : Loc} {Q : Loc → Sto → Prop} : wp (gVar 4 d (a0 :: a1 :: a2 :: a3 :: b :: r)) Q s = Q (a0 :: a1 :: a2 :: a3 :: some d :: r) s := x_gvar
theorem x_g5 {a0 a1 a2 a3 a4 : Option D} {d : D} {b : Option D} {r : Loc} {Q : Loc → Sto → Prop} : wp (gVar 5 d (a0 :: a1 :: a2 :: a3 :: a4 :: b :: r)) Q s = Q (a0 :: a1 :: a2 :: a3 :: a4 :: some d :: r) s := x_gvar
theorem x_g6 {a0 a1 a2 a3 a4 a5 : Option D} {d : D} {b : Option D} {r : Loc} {Q : Loc → Sto → Prop} : wp (gVar 6 d (a0 :: a1 :: a2 :: a3 :: a4 :: a5 :: b :: r)) Q s = Q (a0 :: a1 :: a2 :: a3 :: a4 :: a5 :: some d :: r) s := x_gvar
theorem x_g7 {a0 a1 a2 a3 a4 a5 a6 : Option D} {d : D} {b : Option D} {r : Loc} {Q : Loc → Sto → Prop} : wp (gVar 7 d (a0 :: a1 :: a2 :: a3 :: a4 :: a5 :: a6 :: b :: r)) Q s = Q (a0 :: a1 :: a2 :: a3 :: a4 :: a5 :: a6 :: some d :: r) s := x_gvar
theorem x_g8 {a0 a1 a2 a3 a4 a5 a6 a7 : Option D} {d : D} {b : Option D} {r : Loc} {Q : Loc → Sto → Prop} : wp (gVar 8 d (a0 :: a1 :: a2 :: a3 :: a4 :: a5 :: a6 :: a7 :: b :: r)) Q s = Q (a0 :: a1 :: a2 :: a3 :: a4 :: a5 :: a6 :: a7 :: some d :: r) s := x_gvar
theorem x_g9 {a0 a1 a2 a3 a4 a5 a6 a7 a8 : Option D} {d : D} {b : Option D} {r : Loc} {Q : Loc → Sto → Prop} : wp (gVar 9 d (a0 :: a1 :: a2 :: a3 :: a4 :: a5 :: a6 :: a7 :: a8 :: b :: r)) Q s = Q (a0 :: a1 :: a2 :: a3 :: a4 :: a5 :: a6 :: a7 :: a8 :: some d :: r) s := x_gvar
theorem x_g10 {a0 a1 a2 a3 a4 a5 a6 a7 a8 a9 : Option D} {d : D} {b : Option D} {r : Loc} {Q : Loc → Sto → Prop} : wp (gVar 10 d (a0 :: a1 :: a2 :: a3 :: a4 :: a5 :: a6 :: a7 :: a8 :: a9 :: b :: r)) Q s = Q (a0 :: a1 :: a2 :: a3 :: a4 :: a5 :: a6 :: a7 :: a8 :: a9 :: some d :: r) s := x_gvar
theorem x_g11 {a0 a1 a2 a3 a4 a5 a6 a7 a8 a9 a10 : Option D} {d : D} {b : Option D} {r : Loc} {Q : Loc → Sto → Prop} : wp (gVar 11 d (a0 :: a1 :: a2 :: a3 :: a4 :: a5 :: a6 :: a7 :: a8 :: a9 :: a10 :: b :: r)) Q s = Q (a0 :: a1 :: a2 :: a3 :: a4 :: a5 :: a6 :: a7 :: a8 :: a9 :: a10 :: some d :: r) s := x_gvar
theorem x_g12 {a0 a1 a2 a3 a4 a5 a6 a7 a8 a9 a10 a11 : Option D} {d : D} {b : Option D} {r : Loc} {Q : Loc → Sto → Prop} : wp (gVar 12 d (a0 :: a1 :: a2 :: a3 :: a4 :: a5 :: a6 :: a7 :: a8 :: a9 :: a10 :: a11 :: b :: r)) Q s = Q (a0 :: a1 :: a2 :: a3 :: a4 :: a5 :: a6 :: a7 :: a8 :: a9 :: a10 :: a11 :: some d :: r) s := x_gvar
theorem x_g13 {a0 a1 a2 a3 a4 a5 a6 a7 a8 a9 a10 a11 a12 : Option D} {d : D} {b : Option D} {r : Loc} {Q : Loc → Sto → Prop} : wp (gVar 13 d (a0 :: a1 :: a2 :: a3 :: a4 :: a5 :: a6 :: a7 :: a8 :: a9 :: a10 :: a11 :: a12 :: b :: r)) Q s = Q (a0 :: a1 :: a2 :: a3 :: a4 :: a5 :: a6 :: a7 :: a8 :: a9 :: a10 :: a11 :: a12 :: some d :: r) s := x_gvar
theorem x_g14 {a0 a1 a2 a3 a4 a5 a6 a7 a8 a9 a10 a11 a12 a13 : Option D} {d : D} {b : Option D} {r : Loc} {Q : Loc → Sto → Prop} : wp (gVar 14 d (a0 :: a1 :: a2 :: a3 :: a4 :: a5 :: a6 :: a7 :: a8 :: a9 :: a10 :: a11 :: a12 :: a13 :: b :: r)) Q s = Q (a0 :: a1 :: a2 :: a3 :: a4 :: a5 :: a6 :: a7 :: a8 :: a9 :: a10 :: a11 :: a12 :: a13 :: some d :: r) s := x_gvar
theorem x_gsub {o i : CE} {d : D} : wp (gSubD o i d l) G s = wp (o l) (fun y s1 => wp (i l) (fun z s2 => wp (setItemD y z d) (fun _ s3 => G l s3) s2) s1) s := by
 unfold gSubD; rw [Qg5]; congr 1; funext y s1; rw [Qg5]; congr 1; funext z s2; rw [Qg5]; ac_rfl
theorem x_var {i : Nat} : wp (cVar i l) Q s = match l[i]? with
  | some (some d) => Q d s
  | _ => False := by
 unfold cVar; rcases l[i]? with _ | _ | d <;> first | bv_omega
theorem x_v0 {d : D} {r : Loc} : wp (cVar 0 (some d :: r)) Q s = Q d s := x_var
theorem x_v1 {a0 : Option D} {d : D} {r : Loc} : wp (cVar 1 (a0 :: some d :: r)) Q s = Q d s := x_var
theorem x_v2 {a0 a1 : Option D} {d : D} {r : Loc} : wp (cVar 2 (a0 :: a1 :: some d :: r)) Q s = Q d s := x_var
theorem x_v3 {a0 a1 a2 : Option D} {d : D} {r : Loc} : wp (cVar 3 (a0 :: a1 :: a2 :: some d :: r)) Q s = Q d s := x_var
theorem x_v4 {a0 a1 a2 a3 : Option D} {d : D} {r : Loc} : wp (cVar 4 (a0 :: a1 :: a2 :: a3 :: some d :: r)) Q s = Q d s := x_var
theorem x_v5 {a0 a1 a2 a3 a4 : Option D} {d : D} {r : Loc} : wp (cVar 5 (a0 :: a1 :: a2 :: a3 :: a4 :: some d :: r)) Q s = Q d s := x_var
theorem x_v6 {a0 a1 a2 a3 a4 a5 : Option D} {d : D} {r : Loc} : wp (cVar 6 (a0 :: a1 :: a2 :: a3 :: a4 :: a5 :: some d :: r)) Q s = Q d s := x_var
theorem x_v7 {a0 a1 a2 a3 a4 a5 a6 : Option D} {d : D} {r : Loc} : wp (cVar 7 (a0 :: a1 :: a2 :: a3 :: a4 :: a5 :: a6 :: some d :: r)) Q s = Q d s := x_var
theorem x_v8 {a0 a1 a2 a3 a4 a5 a6 a7 : Option D} {d : D} {r : Loc} : wp (cVar 8 (a0 :: a1 :: a2 :: a3 :: a4 :: a5 :: a6 :: a7 :: some d :: r)) Q s = Q d s := x_var
theorem x_v9 {a0 a1 a2 a3 a4 a5 a6 a7 a8 : Option D} {d : D} {r : Loc} : wp (cVar 9 (a0 :: a1 :: a2 :: a3 :: a4 :: a5 :: a6 :: a7 :: a8 :: some d :: r)) Q s = Q d s := x_var
theorem x_v10 {a0 a1 a2 a3 a4 a5 a6 a7 a8 a9 : Option D} {d : D} {r : Loc} : wp (cVar 10 (a0 :: a1 :: a2 :: a3 :: a4 :: a5 :: a6 :: a7 :: a8 :: a9 :: some d :: r)) Q s = Q d s := x_var
theorem x_v11 {a0 a1 a2 a3 a4 a5 a6 a7 a8 a9 a10 : Option D} {d : D} {r : Loc} : wp (cVar 11 (a0 :: a1 :: a2 :: a3 :: a4 :: a5 :: a6 :: a7 :: a8 :: a9 :: a10 :: some d :: r)) Q s = Q d s := x_var
theorem x_v12 {a0 a1 a2 a3 a4 a5 a6 a7 a8 a9 a10 a11 : Option D} {d : D} {r : Loc} : wp (cVar 12 (a0 :: a1 :: a2 :: a3 :: a4 :: a5 :: a6 :: a7 :: a8 :: a9 :: a10 :: a11 :: some d :: r)) Q s = Q d s := x_var
theorem x_v13 {a0 a1 a2 a3 a4 a5 a6 a7 a8 a9 a10 a11 a12 : Option D} {d : D} {r : Loc} : wp (cVar 13 (a0 :: a1 :: a2 :: a3 :: a4 :: a5 :: a6 :: a7 :: a8 :: a9 :: a10 :: a11 :: a12 :: some d :: r)) Q s = Q d s := x_var
theorem x_v14 {a0 a1 a2 a3 a4 a5 a6 a7 a8 a9 a10 a11 a12 a13 : Option D} {d : D} {r : Loc} : wp (cVar 14 (a0 :: a1 :: a2 :: a3 :: a4 :: a5 :: a6 :: a7 :: a8 :: a9 :: a10 :: a11 :: a12 :: a13 :: some d :: r)) Q s = Q d s := x_var
theorem x_con {d : D} : wp (cCon d l) Q s = Q d s := wp_eq rfl
theorem x_c1 {g : D → M D} {a : CE} : wp (c1 g a l) Q s = wp (a l) (fun x s' => wp (g x) Q s') s := by unfold c1; rw [Qg5]
theorem x_c2 {g : D → D → M D} {a b : CE} : wp (c2 g a b l) Q s = wp (a l) (fun x s' => wp (b l) (fun y s'' => wp (g x y) Q s'') s') s := by
 unfold c2; rw [Qg5]; congr 1; funext x s'; rw [Qg5]
theorem x_call {g : List D → M D} {a : CA} : wp (cCall g a l) Q s = wp (a l) (fun x s' => wp (g x) Q s') s := by unfold cCall; rw [Qg5]
theorem x_nil : wp (cNil l) A s = A [] s := wp_eq rfl
theorem x_cons {a : CE} {r : CA} : wp (cCons a r l) A s = wp (a l) (fun x s' => wp (r l) (fun xs s'' => A (x :: xs) s'') s') s := by
 unfold cCons; rw [Qg5]; congr 1; funext x s'; rw [Qg5]; ac_rfl
theorem x_tup {a : CA} : wp (cTup a l) Q s = wp (a l) (fun xs s' => xs.length ≤ lim ∧ Q (.tup xs) s') s := by
 unfold cTup; rw [Qg5]; congr 1; funext x s'; rw [wp_chk]; ac_rfl
theorem x_disp {a : CA} : wp (aDisp a l) A s = wp (a l) (fun xs s' => xs.length ≤ lim ∧ A xs s') s := by
 unfold aDisp; rw [Qg5]; congr 1; funext x s'; rw [wp_chk]; ac_rfl
theorem x_keep {a : CA} : wp (cKeep a l) Q s = wp (a l) (fun xs s' => Q (.ref s'.length) (s' ++ [.lst xs])) s := by
 unfold cKeep; rw [Qg5]; ac_rfl
theorem x_tmp {g : List D → M D} {a : CA} : wp (cTmp g a l) Q s = wp (a l) (fun x s' => wp (g x) Q s') s := by unfold cTmp; rw [Qg5]
theorem x_comp {n : Nat} {caps : List Nat} {i : CI} {g : CG} {t : CT} {e : CE} : wp (aComp n caps i g t e l) A s = wp (i l) (fun w s' => w.ds.length ≤ lim ∧ wp (collect g t e w.same w.ds (capt n caps l)) A s') s := by
 unfold aComp; rw [Qg5]; congr 1; funext x s'; rw [wp_chk]
theorem x_for {i : CI} {g : CG} {b : CS} : wp (sFor i g b l) R s = wp (i l) (fun w s' => wp (forD g b w.same w.ds l) R s') s := by
 unfold sFor; rw [Qg5]
theorem x_rng {a : CE} : wp (MM.iRng1 a l) I s = wp (a l) (fun x s' => match x with
  | .int j => (-(2 ^ 62) ≤ j ∧ j < 2 ^ 62) ∧ I ⟨rngD 0 j.toNat, anySt⟩ s'
  | _ => False) s := by
 unfold MM.iRng1; rw [Qg5]; congr 1; funext x s'; cases x <;> first | bv_omega | (dsimp only; rw [wp_chk]; ac_rfl)
theorem x_iseq {a : CE} : wp (iSeq a l) I s = wp (a l) (fun x s' => match x with
  | .tup ds => I ⟨ds, anySt⟩ s'
  | .lit ds => I ⟨ds, anySt⟩ s'
  | .ref n => wp (getL n) (fun ds s'' => I ⟨ds, sameL n ds⟩ s'') s'
  | _ => False) s := by
 unfold iSeq; rw [Qg5]; congr 1; funext x s'; cases x <;> first | bv_omega | (dsimp only; rw [Qg5]; ac_rfl)
theorem x_add {i j : Int} : wp (addD (.int i) (.int j)) Q s = Q (.int (i + j)) s := wp_eq rfl
theorem x_sub {i j : Int} : wp (subD (.int i) (.int j)) Q s = Q (.int (i - j)) s := wp_eq rfl
theorem x_mul {i j : Int} : wp (mulD (.int i) (.int j)) Q s = (mulOk i j ∧ Q (.int (i * j)) s) := by unfold mulD; rw [wp_chk]; ac_rfl
theorem x_div {i j : Int} : wp (fdivD (.int i) (.int j)) Q s = ((0 < j ∧ j < 1073741824) ∧ Q (.int (i / j)) s) := by unfold fdivD; rw [wp_chk]; ac_rfl
theorem x_mod {i j : Int} : wp (modD (.int i) (.int j)) Q s = (0 < j ∧ Q (.int (i % j)) s) := by unfold modD; rw [wp_chk]; ac_rfl
theorem x_lt {i j : Int} : wp (ltD (.int i) (.int j)) Q s = Q (.bl (decide (i < j))) s := wp_eq rfl
theorem x_le {i j : Int} : wp (leD (.int i) (.int j)) Q s = Q (.bl (decide (i ≤ j))) s := wp_eq rfl
theorem x_gt {i j : Int} : wp (gtD (.int i) (.int j)) Q s = Q (.bl (decide (j < i))) s := wp_eq rfl
theorem x_ge {i j : Int} : wp (geD (.int i) (.int j)) Q s = Q (.bl (decide (j ≤ i))) s := wp_eq rfl
theorem x_eq {i j : Int} : wp (eqD (.int i) (.int j)) Q s = Q (.bl (i == j)) s := wp_eq rfl
theorem x_ne {i j : Int} : wp (neD (.int i) (.int j)) Q s = Q (.bl !(i == j)) s := wp_eq rfl
theorem x_subsT {ds : List D} {i : Int} : wp (subsD (.tup ds) (.int i)) Q s = wp (itemD ds i) Q s := nr rfl
theorem x_subsL {ds : List D} {i : Int} : wp (subsD (.lit ds) (.int i)) Q s = wp (itemD ds i) Q s := nr rfl
theorem x_subsR {n : Nat} {i : Int} : wp (subsD (.ref n) (.int i)) Q s = wp (getL n) (fun ds s' => wp (itemD ds i) Q s') s := by
 unfold subsD; rw [Qg5]
theorem x_lenT {ds : List D} : wp (lenD (.tup ds)) Q s = Q (.int ds.length) s := wp_eq rfl
theorem x_lenL {ds : List D} : wp (lenD (.lit ds)) Q s = Q (.int ds.length) s := wp_eq rfl
theorem x_lenR {n : Nat} : wp (lenD (.ref n)) Q s = wp (getL n) (fun ds s' => Q (.int ds.length) s') s := by unfold lenD; rw [Qg5]; ac_rfl
theorem x_intB {b : Bool} : wp (intD (.bl b)) Q s = Q (.int (if b then 1 else 0)) s := wp_eq rfl
theorem x_intI {i : Int} : wp (intD (.int i)) Q s = Q (.int i) s := wp_eq rfl
theorem x_setR {n : Nat} {i : Int} {v : D} {U : Unit → Sto → Prop} : wp (setItemD (.ref n) (.int i) v) U s = wp (getL n) (fun ds s' => wp (match MM.ixN ds.length i with
  | some j => putL n (ds.set j v)
  | none => bad) U s') s := by
 unfold setItemD; rw [Qg5] <;> congr 1
theorem x_retF {d : D} : wp (flwD (.ret d)) Q s = Q d s := wp_eq rfl
theorem x_nextF : wp (flwD (.next l)) Q s = Q .non s := wp_eq rfl
end
end MM
namespace MM
open PySem
theorem x_slice {a : CE} {lo hi : CO} {A : List D → Sto → Prop} {s : Sto} {l : Loc} : wp (aSlice a lo hi l) A s = wp (a l) (fun x s1 => wp (lo l) (fun i s2 => wp (hi l) (fun j s3 => match x with
  | .lit ds => A (cutD ds i j) s3
  | .ref n => wp (getL n) (fun ds s4 => A (cutD ds i j) s4) s3
  | _ => False) s2) s1) s := by
 unfold aSlice; rw [Qg5]; congr 1; funext x s1; rw [Qg5]; congr 1; funext i s2; rw [Qg5]; congr 1; funext j s3; cases x <;> first | bv_omega | (dsimp only; rw [Qg5]; ac_rfl)
theorem x_none {A : Option Int → Sto → Prop} {s : Sto} {l : Loc} : wp (oNone l) A s = A none s := wp_eq rfl
theorem x_some {a : CE} {A : Option Int → Sto → Prop} {s : Sto} {l : Loc} : wp (oSome a l) A s = wp (a l) (fun x s1 => match x with
  | .int i => A (some i) s1
  | _ => False) s := by
 unfold oSome; rw [Qg5]; congr 1; funext x s1; cases x <;> first | bv_omega
theorem x_enum {a : CE} {I : Wk → Sto → Prop} {s : Sto} {l : Loc} : wp (iEnum a l) I s = wp (a l) (fun x s' => match x with
  | .tup ds => I ⟨(rngD 0 ds.length).zipWith (fun i d => .tup [i, d]) ds, anySt⟩ s'
  | _ => False) s := by
 unfold iEnum; rw [Qg5]; congr 1; funext x s'; cases x <;> first | bv_omega
theorem x_gtup {n : Nat} {r : List D → Loc → M Loc} {ds : List D} {G : Loc → Sto → Prop} {s : Sto} {l : Loc} : wp (gTupD n r (.tup ds) l) G s = (ds.length = n ∧ wp (r ds l) G s) := by
 unfold gTupD; rw [wp_chk]
theorem x_gcons {g : CG} {r : List D → Loc → M Loc} {d : D} {ds : List D} {G : Loc → Sto → Prop} {s : Sto} {l : Loc} : wp (gsCons g r (d :: ds) l) G s = wp (g d l) (fun l' s' => wp (r ds l') G s') s := by
 unfold gsCons; rw [Qg5]
theorem x_gnil {G : Loc → Sto → Prop} {s : Sto} {l : Loc} : wp (gsNil [] l) G s = G l s := wp_eq rfl
def Ext (s s' : Sto) : Prop := ∃ t, s' = s ++ t
theorem Ext.refl (s : Sto) : Ext s s := ⟨[], by simp⟩
theorem Ext.snoc {s s' : Sto} (h : Ext s s') (o : MO) : Ext s (s' ++ [o]) := by obtain ⟨t, e⟩ := h; exact ⟨t ++ [o], by rw [e]; simp⟩
theorem Ext.trans {s s' s2 : Sto} (h : Ext s s') (k : Ext s' s2) : Ext s s2 := by obtain ⟨t, e⟩ := h; obtain ⟨u, f⟩ := k; exact ⟨t ++ u, by rw [f, e]; simp⟩
theorem Ext.at_ {s s' : Sto} {n : Nat} {o : MO} (h : Ext s s') (k : s[n]? = some o) : s'[n]? = some o := by
 obtain ⟨t, e⟩ := h
 rw [e, List.getElem?_append_left (List.getElem?_eq_some_iff.mp k).1]; exact k
theorem Qhi {α : Type} (f : α → Int) (xs : List α) : numsL (xs.map fun x => .int (f x)) = some (xs.map f) := by
 induction xs with
 | nil => rfl
 | cons x xs ih => simp only [List.map_cons, numsL, ih]; ac_rfl
theorem Qhj {α : Type} {m : M α} {v : α} {s : Sto} {Q : α → Sto → Prop} (h : wp m (fun a s' => a = v ∧ s' = s) s) : wp m Q s = Q v s := by
 simp only [Qg4] at *
 cases e : m s with
 | ok a s' => rw [e] at h; obtain ⟨h1, h2⟩ := h; subst h1; subst h2; ac_rfl
 | exc _ _ => rw [e] at h; exact h.elim
 | bad => rw [e] at h; exact h.elim
theorem Qhk {a b : Nat} {x y : List D} {Q : D → Sto → Prop} {s : Sto} (h1 : s[a]? = some (.lst x)) (h2 : s[b]? = some (.lst y)) : wp (addD (.ref a) (.ref b)) Q s = (x.length + y.length ≤ lim ∧ Q (.ref s.length) (s ++ [.lst (x ++ y)])) := by
 unfold addD; rw [Qg5, Qg6 h1, Qg5, Qg6 h2, wp_chk]; ac_rfl
def andB (x : D) (p q : Prop) : Prop := match x with
 | .bl true => p
 | .bl false => q
 | _ => False
theorem andB_t {p q : Prop} : andB (.bl true) p q = p := nr rfl
theorem andB_f {p q : Prop} : andB (.bl false) p q = q := nr rfl
section
variable {Q : D → Sto → Prop} {T : Bool → Sto → Prop} {R : Flw → Sto → Prop} {s : Sto} {l : Loc}
theorem x_andE {a b : CE} : wp (cAnd a b l) Q s = wp (a l) (fun x s' => andB x (wp (b l) Q s') (Q (.bl false) s')) s := by
 unfold cAnd; rw [Qg5]; congr 1; funext x s'; rcases x with _ | b | _ | _ | _ | _ | _ | _ <;> first | bv_omega | (cases b <;> first | bv_omega)
theorem x_orE {a b : CE} : wp (cOr a b l) Q s = wp (a l) (fun x s' => andB x (Q (.bl true) s') (wp (b l) Q s')) s := by
 unfold cOr; rw [Qg5]; congr 1; funext x s'; rcases x with _ | b | _ | _ | _ | _ | _ | _ <;> first | bv_omega | (cases b <;> first | bv_omega)
theorem x_notE {a : CE} : wp (cNot a l) Q s = wp (a l) (fun x s' => match x with
  | .bl b => Q (.bl !b) s'
  | _ => False) s := by
 unfold cNot; rw [Qg5]; congr 1; funext x s'; cases x <;> first | bv_omega
theorem x_ifE {t : CT} {a b : CE} : wp (cIfE t a b l) Q s = wp (t l) (fun c s' => if c = true then wp (a l) Q s' else wp (b l) Q s') s := by
 unfold cIfE; rw [Qg5]; congr 1; funext c s'; rw [Qg9]
theorem x_truB {b : Bool} : wp (truD (.bl b)) T s = T b s := wp_eq rfl
theorem x_isB {b : Bool} : wp (isInst ["bool"] (.bl b)) Q s = Q (.bl true) s := wp_eq rfl
theorem x_eqB {a b : Bool} : wp (eqD (.bl a) (.bl b)) Q s = Q (.bl (a == b)) s := wp_eq rfl
theorem x_neB {a b : Bool} : wp (neD (.bl a) (.bl b)) Q s = Q (.bl !(a == b)) s := wp_eq rfl
theorem x_tupL {ds : List D} : wp (tupL ds) Q s = Q (.tup ds) s := wp_eq rfl
theorem x_lenLL {ds : List D} : wp (lenL ds) Q s = Q (.int ds.length) s := wp_eq rfl
theorem x_item0 {d : D} {ds : List D} : wp (itemD (d :: ds) 0) Q s = Q d s := by
 rw [Qha (d := d) (by ac_nf) rfl, wp_ret]
theorem x_item1 {d e : D} {ds : List D} : wp (itemD (d :: e :: ds) 1) Q s = Q e s := by
 rw [Qha (d := e) (by ac_nf) rfl, wp_ret]
theorem x_item2 {d e f : D} {ds : List D} : wp (itemD (d :: e :: f :: ds) 2) Q s = Q f s := by
 rw [Qha (d := f) (by ac_nf) rfl, wp_ret]
theorem x_item3 {d e f g : D} {ds : List D} : wp (itemD (d :: e :: f :: g :: ds) 3) Q s = Q g s := by
 rw [Qha (d := g) (by ac_nf) rfl, wp_ret]
theorem Qhl {ds : List D} {i : Nat} {d : D} (h : ds[i]? = some d) : wp (itemD ds i) Q s = Q d s := by
 rw [Qha (d := d) (by ac_nf) (by simpa using h), wp_ret]
theorem x_tTrue : wp (tTrue l) T s = T true s := wp_eq rfl
theorem x_iTmp {a : CA} {I : Wk → Sto → Prop} : wp (iTmp a l) I s = wp (a l) (fun ds s' => I ⟨ds, anySt⟩ s') s := by unfold iTmp; rw [Qg5]; ac_rfl
end
noncomputable def  bP (p : Prop) : Bool := @decide p (Classical.propDecidable p)
theorem Qhm {p : Prop} : bP p = true ↔ p := by unfold bP; exact @decide_eq_true_iff p (Classical.propDecidable p)
theorem Qhn {p : Prop} (h : p) : bP p = true := Qhm.mpr h
theorem Qho {p : Prop} (h : ¬p) : bP p = false := by
 cases e : bP p with
 | false => rfl
 | true => exact (h (Qhm.mp e)).elim
theorem Qhp {b : Bool} {p : Prop} (h : b = true ↔ p) : b = bP p := by
 cases b with
 | true => exact (Qhn (h.mp rfl)).symm
 | false => exact (Qho fun k => by cases h.mpr k).symm
theorem Qhq {p q : Prop} : (bP p || bP q) = bP (p ∨ q) := Qhp (by rw [Bool.or_eq_true, Qhm, Qhm])
theorem Qhr {p q : Prop} : (bP p && bP q) = bP (p ∧ q) := Qhp (by rw [Bool.and_eq_true, Qhm, Qhm])
theorem andB_or {p q : Prop} {Q : D → Sto → Prop} {s : Sto} : andB (.bl (bP p)) (Q (.bl true) s) (Q (.bl (bP q)) s) = Q (.bl (bP (p ∨ q))) s := by
 rw [← Qhq]
 cases bP p <;> simp [andB]
theorem andB_and {p q : Prop} {Q : D → Sto → Prop} {s : Sto} : andB (.bl (bP p)) (Q (.bl (bP q)) s) (Q (.bl false) s) = Q (.bl (bP (p ∧ q))) s := by
 rw [← Qhr]
 cases bP p <;> simp [andB]
noncomputable def upto {α : Type} (n : Nat) (f : Nat → α) : List α := (List.range n).map f
theorem Qhs {α : Type} {n i : Nat} {f : Nat → α} (h : i < n) : (upto n f)[i]? = some (f i) := by unfold upto; rw [List.getElem?_map, List.getElem?_range h]; ac_rfl
theorem Qht {α : Type} {n i : Nat} {f : Nat → α} {x : α} (h : (upto n f)[i]? = some x) : i < n ∧ x = f i := by
 have hi : i < n := by
  have := (List.getElem?_eq_some_iff.mp h).1
  simpa [upto] using this
 rw [Qhs hi] at h; cases h; exact ⟨hi, rfl⟩
theorem Qhu {α : Type} {n : Nat} {f : Nat → α} : (upto n f).length = n := by simp [upto]
theorem Qhv {α : Type} {n : Nat} {f : Nat → α} : upto (n + 1) f = upto n f ++ [f n] := by unfold upto; rw [List.range_succ, List.map_append]; ac_rfl
theorem Qhw {α : Type} {n : Nat} {xs : List α} {f : Nat → α} (hl : xs.length = n) (h : ∀ i, i < n → xs[i]? = some (f i)) : xs = upto n f := by
 apply List.ext_getElem?
 intro i
 by_cases hi : i < n
 ·rw [h i hi, Qhs hi]
 ·rw [List.getElem?_eq_none (by ac_nf), List.getElem?_eq_none (by rw [Qhu]; ac_nf)]
theorem Qhx {α : Type} {n : Nat} {f g : Nat → α} (h : ∀ i, i < n → f i = g i) : upto n f = upto n g :=
 Qhw Qhu fun i hi => by rw [Qhs hi, h i hi]
theorem Qhy {α β : Type} {n : Nat} {f : Nat → α} {g : α → β} : (upto n f).map g = upto n fun i => g (f i) := by unfold upto; rw [List.map_map]; ac_rfl
theorem Qhz {n : Nat} : rngD 0 n = upto n fun i => .int i := by unfold rngD upto; congr 1; funext k; simp
theorem QhA {g : CG} {e : CE} {same : Sto → Prop} {ds : List D} {l0 : Loc} {f : Nat → D} {Q : List D → Sto → Prop} {s : Sto} (I : Loc → Prop) (hs : same s) (h0 : I l0)
  (h : ∀ i d l, ds[i]? = some d → I l → ∃ l', (∀ G, wp (g d l) G s = G l' s) ∧ I l' ∧ ∀ Q, wp (e l') Q s = Q (f i) s) :
  wp (collect g tTrue e same ds l0) Q s = Q (upto ds.length f) s := by
 have chk : ∀ {R : Unit → Sto → Prop}, R () s → wp (chkS same) R s := fun r => by rw [Qg4]; unfold chkS; rw [if_pos hs]; exact r
 apply Qhj
 refine Qhc (Q := fun out s' => out = upto ds.length f ∧ s' = s) (fun out xs l s' => ∃ i, xs = ds.drop i ∧ i ≤ ds.length ∧ I l ∧ out = upto i f ∧ s' = s) (fun out l s' ⟨i, e1, hi, _, e2, es⟩ => ?_) (fun out d xs l s' ⟨i, e1, hi, hI, e2, es⟩ => ?_) ds [] _ s ⟨0, by simp, Nat.zero_le _, h0, rfl, rfl⟩
 ·have : i = ds.length := by
    have := congrArg List.length e1
    simp at this; ac_nf
  subst this
  subst es
  exact chk ⟨e2, rfl⟩
 ·have hlt : i < ds.length := by
    have := congrArg List.length e1
    simp at this; ac_nf
  rw [List.drop_eq_getElem_cons hlt] at e1
  obtain ⟨e3, e4⟩ := List.cons.inj e1
  obtain ⟨l', q1, q2, q3⟩ := h i d l (by rw [e3]; exact List.getElem?_eq_getElem hlt) hI
  subst es
  refine chk ?_
  rw [q1]
  show wp (ret true) _ s'
  rw [wp_ret]
  show wp (e l') _ s'
  rw [q3]
  exact ⟨i + 1, e4, hlt, q2, by rw [e2, Qhv], rfl⟩
theorem QhB {e : CE} {same : Sto → Prop} {ds : List D} {caps : Loc} {f : Nat → D} {Q : List D → Sto → Prop} {s : Sto} (hs : same s) (h : ∀ i d, ds[i]? = some d → ∀ Q, wp (e (some d :: caps)) Q s = Q (f i) s) :
  wp (collect (gVar 0) tTrue e same ds (none :: caps)) Q s = Q (upto ds.length f) s :=
 QhA (fun l => ∃ x, l = x :: caps) hs ⟨none, rfl⟩ fun i d l hd pq115 => by obtain ⟨x, el⟩ := pq115; exact ⟨some d :: caps, fun G => by rw [el, x_gvar]; rfl, ⟨_, rfl⟩, h i d hd⟩
theorem QhC {e : CE} {same : Sto → Prop} {ds : List D} {caps : Loc} {f : Nat → D} {Q : List D → Sto → Prop} {s : Sto} (hs : same s) (h : ∀ i d, ds[i]? = some d → ∃ a b, d = .tup [a, b] ∧ ∀ Q, wp (e (some a :: some b :: caps)) Q s = Q (f i) s) :
  wp (collect (gTupD 2 (gsCons (gVar 0) (gsCons (gVar 1) gsNil))) tTrue e same ds (none :: none :: caps)) Q s = Q (upto ds.length f) s :=
 QhA (fun l => ∃ x y, l = x :: y :: caps) hs ⟨none, none, rfl⟩ fun i d l hd pq116 => by
  obtain ⟨x, y, el⟩ := pq116
  obtain ⟨a, b, ed, q⟩ := h i d hd
  refine ⟨some a :: some b :: caps, fun G => ?_, ⟨_, _, rfl⟩, q⟩
  rw [ed, el, x_gtup, x_gcons, x_gvar, x_gcons, x_gvar, x_gnil]
  exact propext ⟨fun h => h.2, fun h => ⟨rfl, h⟩⟩
section
variable {n : Nat} {f : Nat → D} {Q : D → Sto → Prop} {s : Sto}
theorem QhD {i : Nat} (h : i < n) : wp (itemD (upto n f) (i : Int)) Q s = Q (f i) s := Qhl (Qhs h)
theorem QhE (h : 0 < n) : wp (itemD (upto n f) 0) Q s = Q (f 0) s := by
 have := @Qhl Q s (upto n f) 0 (f 0) (Qhs h); simpa using this
end
theorem QhF {g : CG} {b : CS} {same : Sto → Prop} {l : Loc} {R : Flw → Sto → Prop} {s : Sto} (h : same s) : wp (forD g b same [] l) R s = R (.next l) s := by
 unfold forD; rw [Qg5]; rw [Qg4]; unfold chkS; rw [if_pos h]; ac_rfl
theorem QhG {g : CG} {b : CS} {same : Sto → Prop} {d : D} {ds : List D} {l : Loc} {R : Flw → Sto → Prop} {s : Sto} (h : same s) : wp (forD g b same (d :: ds) l) R s = wp (g d l) (fun l1 s2 => wp (b l1) (fun f s3 => match f with
   | .next l2 => wp (forD g b same ds l2) R s3
   | .cnt l2 => wp (forD g b same ds l2) R s3
   | .brk l2 => R (.next l2) s3
   | .ret d => R (.ret d) s3) s2) s := by
 have e : wp (forD g b same (d :: ds) l) R s = wp (bnd (g d l) fun l' => bnd (b l') fun f => match f with
  | .next l2 => forD g b same ds l2
  | .cnt l2 => forD g b same ds l2
  | .brk l2 => ret (.next l2)
  | .ret d => ret (.ret d)) R s := by
  rw [show forD g b same (d :: ds) l = bnd (chkS same) fun _ => bnd (g d l) fun l' => bnd (b l') fun f => match f with
  | .next l2 => forD g b same ds l2
  | .cnt l2 => forD g b same ds l2
  | .brk l2 => ret (.next l2)
  | .ret d => ret (.ret d) from rfl, Qg5]
  rw [Qg4]; unfold chkS; rw [if_pos h]
 rw [e, Qg5]; congr 1; funext l1 s2; rw [Qg5]; congr 1; funext f s3; cases f <;> first | bv_omega
theorem QhH {s : Sto} : anySt s := trivial
theorem QhI {g : CG} {b : CS} {same : Sto → Prop} {n : Nat} {f : Nat → D} {l : Loc} {s : Sto} {Q : Flw → Sto → Prop} (W : Nat → Loc → Sto → Prop) (hs : ∀ i l s, W i l s → same s) (h0 : W 0 l s)
  (hstep : ∀ (i : Nat) l s, i < n → W i l s → wp (g (f i) l) (fun l1 s2 => wp (b l1) (fun f s3 => match f with
   | .next l2 => W (i + 1) l2 s3
   | .cnt l2 => W (i + 1) l2 s3
   | .brk l2 => Q (.next l2) s3
   | .ret d => Q (.ret d) s3) s2) s) (hend : ∀ l s, W n l s → Q (.next l) s) : wp (forD g b same (upto n f) l) Q s :=
 Qhh W hs h0 (fun i d l s hd w => by obtain ⟨hi, e⟩ := Qht hd; subst e; exact hstep i l s hi w) (fun l s w => hend l s (by rw [Qhu] at w; exact w))
theorem QhJ {e : CE} {n : Nat} {f : Nat → D} {same : Sto → Prop} {caps : Loc} {s : Sto} {Q : List D → Sto → Prop} (W : Nat → List D → Sto → Prop) (hs : ∀ i out s, W i out s → same s) (h0 : W 0 [] s)
  (hstep : ∀ (i : Nat) out s, i < n → W i out s → wp (e (some (f i) :: caps)) (fun x s' => W (i + 1) (out ++ [x]) s') s) (hend : ∀ out s, W n out s → Q out s) :
  wp (collect (gVar 0) tTrue e same (upto n f) (none :: caps)) Q s :=
 Qhd W hs h0 (fun i d out s hd w => by obtain ⟨hi, e⟩ := Qht hd; subst e; exact hstep i out s hi w) (fun out s w => hend out s (by rw [Qhu] at w; exact w))
theorem QhK {e : CE} {same : Sto → Prop} {n : Nat} {g : Nat → D} {caps : Loc} {f : Nat → D} {Q : List D → Sto → Prop} {s : Sto} (hs : same s) (h : ∀ i, i < n → ∀ Q, wp (e (some (g i) :: caps)) Q s = Q (f i) s) :
  wp (collect (gVar 0) tTrue e same (upto n g) (none :: caps)) Q s = Q (upto n f) s := by
 rw [QhB (f := f) hs (fun i d hd => by obtain ⟨hi, e⟩ := Qht hd; subst e; exact h i hi), Qhu]
theorem QhL {n : Nat} {f : Nat → D} : (rngD 0 n).zipWith (fun i d => D.tup [i, d]) (upto n f) = upto n fun i => .tup [.int i, f i] := by
 apply Qhw
 ·simp [rngD, upto]
 ·intro i hi
  rw [List.getElem?_zipWith, Qhe hi, Qhs hi]
end MM
namespace MM
open PySem
section
variable {Q : D → Sto → Prop} {T : Bool → Sto → Prop} {R : Flw → Sto → Prop} {A : List D → Sto → Prop} {s : Sto} {l : Loc}
theorem x_chain {f g : D → D → M D} {a b c : CE} : wp (cChain f g a b c l) Q s = wp (a l) (fun x s1 => wp (b l) (fun y s2 => wp (f x y) (fun z s3 => andB z (wp (c l) (fun w s4 => wp (g y w) Q s4) s3) (Q (.bl false) s3)) s2) s1) s := by
 unfold cChain; rw [Qg5]; congr 1; funext x s1; rw [Qg5]; congr 1; funext y s2; rw [Qg5]; congr 1; funext z s3
 rcases z with _ | b | _ | _ | _ | _ | _ | _ <;> first | bv_omega | (cases b <;> first | bv_omega | (dsimp only; rw [Qg5]; first | ac_rfl | (refine congrArg _ ?_; refine wp_cg fun _ _ => ?_; simp only [wp_ret, wp_alloc, wp_bad])))
theorem x_append {a b : CE} : wp (cAppend a b l) Q s = wp (a l) (fun x s1 => match x with
  | .ref n => wp (b l) (fun v s2 => wp (getL n) (fun ds s3 => ds.length < lim ∧ wp (putL n (ds ++ [v])) (fun _ s4 => Q .non s4) s3) s2) s1
  | _ => False) s := by
 unfold cAppend; rw [Qg5]; congr 1; funext x s1
 cases x <;> first | bv_omega | (dsimp only; rw [Qg5]; congr 1; funext v s2; unfold appendL; rw [Qg5]; congr 1; funext ds s3; rw [wp_chk, Qg5]; first | ac_rfl | (refine congrArg _ ?_; refine wp_cg fun _ _ => ?_; simp only [wp_ret, wp_alloc, wp_bad]))
theorem x_clear {a : CE} : wp (cClear a l) Q s = wp (a l) (fun x s1 => match x with
  | .ref n => wp (putL n []) (fun _ s4 => Q .non s4) s1
  | _ => False) s := by
 unfold cClear; rw [Qg5]; congr 1; funext x s1
 cases x <;> first | bv_omega | (dsimp only; rw [Qg5]; first | ac_rfl | (refine congrArg _ ?_; refine wp_cg fun _ _ => ?_; simp only [wp_ret, wp_alloc, wp_bad]))
theorem x_pop {a : CE} : wp (cPop a l) Q s = wp (a l) (fun x s1 => match x with
  | .ref n => wp (getL n) (fun ds s2 => match ds.getLast? with
   | some d => wp (putL n ds.dropLast) (fun _ s4 => Q d s4) s2
   | none => False) s1
  | _ => False) s := by
 unfold cPop; rw [Qg5]; congr 1; funext x s1
 cases x <;> first | bv_omega | (dsimp only; rw [Qg5]; congr 1; funext ds s2; cases ds.getLast? <;> first | bv_omega | (dsimp only; rw [Qg5]; first | ac_rfl | (refine congrArg _ ?_; refine wp_cg fun _ _ => ?_; simp only [wp_ret, wp_alloc, wp_bad])))
theorem x_reverse {a : CE} : wp (cReverse a l) Q s = wp (a l) (fun x s1 => match x with
  | .ref n => wp (getL n) (fun ds s2 => wp (putL n ds.reverse) (fun _ s4 => Q .non s4) s2) s1
  | _ => False) s := by
 unfold cReverse; rw [Qg5]; congr 1; funext x s1
 cases x <;> first | bv_omega | (dsimp only; rw [Qg5]; congr 1; funext ds s2; rw [Qg5]; first | ac_rfl | (refine congrArg _ ?_; refine wp_cg fun _ _ => ?_; simp only [wp_ret, wp_alloc, wp_bad]))
theorem x_back {a : CE} : wp (aBack a l) A s = wp (a l) (fun x s1 => match x with
  | .ref n => wp (getL n) (fun ds s2 => A ds.reverse s2) s1
  | _ => False) s := by
 unfold aBack; rw [Qg5]; congr 1; funext x s1
 cases x <;> first | bv_omega | (dsimp only; rw [Qg5]; first | ac_rfl | (refine congrArg _ ?_; refine wp_cg fun _ _ => ?_; simp only [wp_ret, wp_alloc, wp_bad]))
theorem x_listT {ds : List D} : wp (listD (.tup ds)) Q s = Q (.ref s.length) (s ++ [.lst ds]) := wp_eq rfl
theorem x_listR {n : Nat} : wp (listD (.ref n)) Q s = wp (getL n) (fun ds s1 => Q (.ref s1.length) (s1 ++ [.lst ds])) s := by unfold listD seqOf; rw [Qg5]; (try dsimp only); (try rw [Qg5]); refine wp_cg fun _ _ => ?_; simp only [wp_ret, wp_alloc, wp_bad]
theorem x_tupleT {ds : List D} : wp (tupleD (.tup ds)) Q s = Q (.tup ds) s := wp_eq rfl
theorem x_tupleR {n : Nat} : wp (tupleD (.ref n)) Q s = wp (getL n) (fun ds s1 => Q (.tup ds) s1) s := by unfold tupleD; rw [Qg5]; (try dsimp only); (try rw [Qg5]); refine wp_cg fun _ _ => ?_; simp only [wp_ret, wp_alloc, wp_bad]
theorem x_isntB {a b : Bool} : wp (isntD (.bl a) (.bl b)) Q s = Q (.bl !(a == b)) s := wp_eq rfl
theorem x_isB2 {a b : Bool} : wp (isD (.bl a) (.bl b)) Q s = Q (.bl (a == b)) s := wp_eq rfl
theorem x_inTu {x : D} {ds : List D} : wp (inD x (.tup ds)) Q s = wp (inL x ds) Q s := nr rfl
theorem x_eqStr {a b : Str} : wp (eqD (.str a) (.str b)) Q s = Q (.bl (a == b)) s := wp_eq rfl
theorem x_neStr {a b : Str} : wp (neD (.str a) (.str b)) Q s = Q (.bl !(a == b)) s := wp_eq rfl
theorem x_isiL {n : Nat} : wp (isInst ["list"] (.ref n)) Q s = Q (.bl true) s := wp_eq rfl
theorem x_isiT {ds : List D} : wp (isInst ["tuple"] (.tup ds)) Q s = Q (.bl true) s := wp_eq rfl
theorem x_isiI {i : Int} : wp (isInst ["int"] (.int i)) Q s = Q (.bl true) s := wp_eq rfl
theorem x_isiB {i : Int} : wp (isInst ["bool"] (.int i)) Q s = Q (.bl false) s := wp_eq rfl
theorem x_isiBN : wp (isInst ["bool"] .non) Q s = Q (.bl false) s := wp_eq rfl
theorem x_neg {i : Int} : wp (negD (.int i)) Q s = Q (.int (-i)) s := wp_eq rfl
theorem x_min2 {i j : Int} : wp (min2D (.int i) (.int j)) Q s = Q (.int (min i j)) s := wp_eq rfl
theorem x_max2 {i j : Int} : wp (max2D (.int i) (.int j)) Q s = Q (.int (max i j)) s := wp_eq rfl
theorem x_rng2 {a b : CE} {I : Wk → Sto → Prop} : wp (MM.iRng2 a b l) I s = wp (a l) (fun x s1 => wp (b l) (fun y s2 => match x, y with
  | .int i, .int j => ((-(2 ^ 62) ≤ i ∧ i < 2 ^ 62) ∧ (-(2 ^ 62) ≤ j ∧ j < 2 ^ 62)) ∧ I ⟨rngD i (j - i).toNat, anySt⟩ s2
  | _, _ => False) s1) s := by
 unfold MM.iRng2; rw [Qg5]; congr 1; funext x s1; rw [Qg5]; congr 1; funext y s2
 cases x <;> cases y <;> first | bv_omega | (dsimp only; rw [wp_chk]; first | ac_rfl | (refine congrArg _ ?_; refine wp_cg fun _ _ => ?_; simp only [wp_ret, wp_alloc, wp_bad]))
theorem x_shl {i j : Int} : wp (shlD (.int i) (.int j)) Q s = ((0 ≤ j ∧ j ≤ 1000000 ∧ i.natAbs < 2 ^ 64) ∧ Q (.int (i * 2 ^ j.toNat)) s) := by unfold shlD; rw [wp_chk]; first | ac_rfl | (refine congrArg _ ?_; refine wp_cg fun _ _ => ?_; simp only [wp_ret, wp_alloc, wp_bad])
theorem x_addT {x y : List D} : wp (addD (.tup x) (.tup y)) Q s = (x.length + y.length ≤ lim ∧ Q (.tup (x ++ y)) s) := by unfold addD; rw [wp_chk]; first | ac_rfl | (refine congrArg _ ?_; refine wp_cg fun _ _ => ?_; simp only [wp_ret, wp_alloc, wp_bad])
theorem x_tmpSub {a : CA} {b : CE} : wp (cTmpSub a b l) Q s = wp (a l) (fun ds s1 => wp (b l) (fun i s2 => match i with
  | .int k => wp (itemD ds k) Q s2
  | _ => False) s1) s := by
 unfold cTmpSub; rw [Qg5]; congr 1; funext ds s1; rw [Qg5]; congr 1; funext i s2; cases i <;> first | bv_omega
theorem x_inTmp {g : D → List D → M D} {a : CE} {b : CA} : wp (cInTmp g a b l) Q s = wp (a l) (fun x s1 => wp (b l) (fun ds s2 => wp (g x ds) Q s2) s1) s := by
 unfold cInTmp; rw [Qg5]; congr 1; funext x s1; rw [Qg5]
theorem QhM {x : D} {ds : List D} : wp (inL x ds) Q s = ((flatD x = true ∧ ds.all flatD = true) ∧ Q (.bl (ds.any fun d => eqFl d x)) s) := by unfold inL; rw [wp_chk]; first | ac_rfl | (refine congrArg _ ?_; refine wp_cg fun _ _ => ?_; simp only [wp_ret, wp_alloc, wp_bad])
end
theorem ite_t {p q : Prop} : (if true = true then p else q) = p := if_pos rfl
theorem ite_f {p q : Prop} : (if false = true then p else q) = q := if_neg (by simp)
noncomputable def mx (f : Nat → Nat) : Nat → Nat
 | 0 => 0
 | n + 1 => max (mx f n) (f n)
theorem QhN {f : Nat → Nat} {n m : Nat} (h : ∀ i, i < n → f i ≤ m) : mx f n ≤ m := by
 induction n with
 | zero => exact Nat.zero_le _
 | succ n ih => unfold mx; exact Nat.max_le.mpr ⟨ih fun i hi => h i (by ac_nf), h n (by ac_nf)⟩
theorem QhO {f : Nat → Nat} {n i : Nat} (h : i < n) : f i ≤ mx f n := by
 induction n with
 | zero => ac_nf
 | succ n ih =>
  unfold mx
  by_cases e : i = n
  ·subst e; exact Nat.le_max_right _ _
  ·exact Nat.le_trans (ih (by ac_nf)) (Nat.le_max_left _ _)
theorem QhP {f : Nat → Nat} {n : Nat} {Q : D → Sto → Prop} {s : Sto} (hn : 0 < n) : wp (maxD (upto n fun i => .int (f i : Nat))) Q s = Q (.int (mx f n : Nat)) s := by
 obtain ⟨k, rfl⟩ : ∃ k, n = k + 1 := ⟨n - 1, by ac_nf⟩
 have hm : ∀ (k : Nat), (((List.range k).map (· + 1)).map fun (i : Nat) => ((f i : Nat) : Int)).foldl max ((f 0 : Nat) : Int) = ((mx f (k + 1) : Nat) : Int) := by
  intro k
  induction k with
  | zero => show ((f 0 : Nat) : Int) = ((max 0 (f 0) : Nat) : Int); ac_nf
  | succ k ih =>
   rw [List.range_succ, List.map_append, List.map_append, List.foldl_append, ih]
   show max ((mx f (k + 1) : Nat) : Int) ((f (k + 1) : Nat) : Int) = ((max (mx f (k + 1)) (f (k + 1)) : Nat) : Int)
   ac_nf
 unfold maxD upto
 rw [Qhi (fun i => ((f i : Nat) : Int)), List.range_succ_eq_map, List.map_cons]
 dsimp only
 rw [wp_ret, ← hm k]
theorem Ext.put {s s' : Sto} {n : Nat} {o : MO} (h : Ext s s') (hn : s.length ≤ n) : Ext s (s'.set n o) := by
 obtain ⟨t, e⟩ := h
 exact ⟨t.set (n - s.length) o, by rw [e, List.set_append_right _ _ hn]⟩
theorem Ext.le {s s' : Sto} (h : Ext s s') : s.length ≤ s'.length := by obtain ⟨t, e⟩ := h; rw [e]; simp
end MM
namespace MM
open PySem
theorem QhQ {t : CT} {b : CS} : ∀ (n : Nat) (l : Loc) (s : Sto), whileN t b n l s ≠ .bad → whileN t b (n + 1) l s = whileN t b n l s
 | 0, l, s, h => (h rfl).elim
 | n + 1, l, s, h => by
  have e1 : ∀ k, whileN t b (k + 1) l s = (match t l s with
   | .ok true s1 => (match b l s1 with
    | .ok (.next l2) s2 => whileN t b k l2 s2
    | .ok (.cnt l2) s2 => whileN t b k l2 s2
    | .ok (.brk l2) s2 => .ok (.next l2) s2
    | .ok (.ret d) s2 => .ok (.ret d) s2
    | .exc x s2 => .exc x s2
    | .bad => .bad)
   | .ok false s1 => .ok (.next l) s1
   | .exc x s1 => .exc x s1
   | .bad => .bad) := fun k => by
   show bnd (t l) _ s = _
   unfold bnd
   cases t l s with
   | exc x s1 => rfl
   | bad => rfl
   | ok c s1 =>
    cases c with
    | false => rfl
    | true =>
     show (bnd (b l) _) s1 = _
     unfold bnd
     dsimp only
     cases b l s1 with
     | exc x s2 => rfl
     | bad => rfl
     | ok f s2 => cases f <;> first | bv_omega
  rw [e1 (n + 1), e1 n]
  rw [e1 n] at h
  cases et : t l s with
  | exc x s1 => rfl
  | bad => rfl
  | ok c s1 =>
   rw [et] at h
   cases c with
   | false => rfl
   | true =>
    dsimp only at h ⊢
    cases eb : b l s1 with
    | exc x s2 => rfl
    | bad => rfl
    | ok f s2 =>
     rw [eb] at h
     cases f with
     | next l2 => exact QhQ n l2 s2 h
     | cnt l2 => exact QhQ n l2 s2 h
     | brk l2 => rfl
     | ret d => rfl
theorem QhR {t : CT} {b : CS} {n m : Nat} {l : Loc} {s : Sto} (h : whileN t b n l s ≠ .bad) (hm : n ≤ m) : whileN t b m l s = whileN t b n l s := by
 induction m with
 | zero => have : n = 0 := by ac_nf
           subst this; ac_rfl
 | succ m ih =>
  by_cases e : n = m + 1
  ·subst e; ac_rfl
  ·have := ih (by ac_nf)
   rw [QhQ m l s (by rw [this]; exact h), this]
theorem QhS {t : CT} {b : CS} {Q : Flw → Sto → Prop} {l : Loc} {s : Sto} (W : Loc → Sto → Prop) (μ : Loc → Sto → Nat) (h0 : W l s)
  (hs : ∀ l s, W l s → wp (t l) (fun c s1 => if c = true then wp (b l) (fun f s2 => match f with
   | .next l2 => W l2 s2 ∧ μ l2 s2 < μ l s
   | .cnt l2 => W l2 s2 ∧ μ l2 s2 < μ l s
   | .brk l2 => Q (.next l2) s2
   | .ret d => Q (.ret d) s2) s1 else Q (.next l) s1) s) : wp (sWhile t b l) Q s := by
 have key : ∀ (k : Nat) (l : Loc) (s : Sto), μ l s < k → W l s → ∃ n, wp (whileN t b n l) Q s := by
  intro k
  induction k with
  | zero => intro l s h; ac_nf
  | succ k ih =>
   intro l s hk w
   have h1 := hs l s w
   rw [Qg4] at h1
   cases et : t l s with
   | exc x s1 => rw [et] at h1; exact h1.elim
   | bad => rw [et] at h1; exact h1.elim
   | ok c s1 =>
    rw [et] at h1
    cases c with
    | false =>
     refine ⟨1, ?_⟩
     show wp (bnd (t l) _) Q s
     rw [Qg5, wp_eq et]
     show wp (ret _) _ _
     rw [wp_ret]
     exact h1
    | true =>
     have h2 : wp (b l) _ s1 := h1
     rw [Qg4] at h2
     cases eb : b l s1 with
     | exc x s2 => rw [eb] at h2; exact h2.elim
     | bad => rw [eb] at h2; exact h2.elim
     | ok f s2 =>
      rw [eb] at h2
      have go : ∀ (n : Nat), wp (match f with
       | .next l2 => whileN t b n l2
       | .cnt l2 => whileN t b n l2
       | .brk l2 => ret (.next l2)
       | .ret d => ret (.ret d)) Q s2 → wp (whileN t b (n + 1) l) Q s := fun n q => by
       show wp (bnd (t l) _) Q s
       rw [Qg5, wp_eq et, if_pos rfl, Qg5, wp_eq eb]
       exact q
      cases f with
      | next l2 => obtain ⟨n, hn⟩ := ih l2 s2 (by have := h2.2; ac_nf) h2.1; exact ⟨n + 1, go n hn⟩
      | cnt l2 => obtain ⟨n, hn⟩ := ih l2 s2 (by have := h2.2; ac_nf) h2.1; exact ⟨n + 1, go n hn⟩
      | brk l2 => exact ⟨1, go 0 (by show wp (ret _) _ _; rw [wp_ret]; exact h2)⟩
      | ret d => exact ⟨1, go 0 (by show wp (ret _) _ _; rw [wp_ret]; exact h2)⟩
 obtain ⟨n, hn⟩ := key (μ l s + 1) l s (Nat.lt_succ_self _) h0
 have nb : whileN t b n l s ≠ .bad := fun e => by rw [Qg4] at hn; rw [e] at hn; exact hn
 have ex : ∃ n, ∀ r, whileN t b n l s = r → r ≠ .bad := ⟨n, fun r e => e ▸ nb⟩
 rw [Qg4]; unfold sWhile
 rw [dif_pos ex]
 have hc : whileN t b (Classical.choose ex) l s ≠ .bad := Classical.choose_spec ex _ rfl
 have e : whileN t b (Classical.choose ex) l s = whileN t b n l s := by
  rw [← QhR hc (Nat.le_max_left (Classical.choose ex) n), ← QhR nb (Nat.le_max_right (Classical.choose ex) n)]
 rw [e]
 rw [Qg4] at hn
 exact hn
section
variable {Q : D → Sto → Prop} {s : Sto} {l : Loc}
theorem x_sliceT {a : CE} {lo hi : CO} : wp (cSliceT a lo hi l) Q s = wp (a l) (fun x s1 => wp (lo l) (fun i s2 => wp (hi l) (fun j s3 => match x with
  | .tup ds => ¬(sIx ds.length 0 i = 0 ∧ sIx ds.length ds.length j = ds.length) ∧ Q (.tup (cutD ds i j)) s3
  | _ => False) s2) s1) s := by
 unfold cSliceT; rw [Qg5]; congr 1; funext x s1; rw [Qg5]; congr 1; funext i s2; rw [Qg5]; congr 1; funext j s3; cases x <;> first | bv_omega | (dsimp only; rw [wp_chk]; ac_rfl)
inductive Pd : Nat → D → Prop
 | non {n} : Pd n .non
 | bl {n} (b) : Pd n (.bl b)
 | int {n} (i) : Pd n (.int i)
 | str {n} (x) : Pd n (.str x)
 | tup {n} {ds : List D} (h : ∀ d ∈ ds, Pd n d) : Pd (n + 1) (.tup ds)
theorem Pd.up {n : Nat} {d : D} (h : Pd n d) : Pd (n + 1) d := by
 induction h with
 | non => exact .non
 | bl b => exact .bl b
 | int i => exact .int i
 | str x => exact .str x
 | tup h ih => exact .tup ih
theorem QhT {f : D → D → Option Bool} : ∀ {ds : List D}, (∀ d ∈ ds, f d d = some true) → allF f ds ds = some true
 | [], _ => rfl
 | d :: ds, h => by
  unfold allF
  rw [h d (by simp)]
  exact QhT fun x hx => h x (by simp [hx])
theorem Pd.eq {n : Nat} {d : D} (h : Pd n d) : eqF n d d = some true := by
 induction h with
 | @non n => cases n <;> first | bv_omega
 | @bl n b => cases n <;> exact congrArg some (beq_self_eq_true b)
 | @int n i => cases n <;> exact congrArg some (beq_self_eq_true i)
 | @str n x => cases n <;> exact congrArg some (beq_self_eq_true x)
 | @tup n ds h ih => exact QhT ih
theorem Pd.le {n m : Nat} {d : D} (h : Pd n d) (hm : n ≤ m) : Pd m d := by
 induction m with
 | zero => have : n = 0 := by ac_nf
           subst this; exact h
 | succ m ih =>
  by_cases e : n = m + 1
  ·subst e; exact h
  ·exact (ih (by ac_nf)).up
theorem QhU {n : Nat} {ds : List D} (h : Pd n (.tup ds)) (hn : n ≤ 50) : wp (neD (.tup ds) (.tup ds)) Q s = Q (.bl false) s := by
 have := (h.le hn).eq
 unfold neD eqB
 rw [Qg5]
 dsimp only
 rw [this]
 first | rfl | exact wp_eq rfl | exact (wp_eq rfl).trans wp_ret | (simp only [wp_ret, wp_bad]; done)
theorem QhV {n a b : Nat} {ds : List D} (h1 : s[a]? = some (.lst ds)) (h2 : s[b]? = some (.lst ds)) (h : ∀ d ∈ ds, Pd n d) (hn : n ≤ 50) : wp (neD (.ref a) (.ref b)) Q s = Q (.bl false) s := by
 unfold neD eqB
 rw [Qg5, Qg5, Qg6 h1, Qg5, Qg6 h2, if_pos rfl, QhT fun d hd => ((h d hd).le hn).eq]
 first | rfl | exact wp_eq rfl | exact (wp_eq rfl).trans wp_ret | (simp only [wp_ret, wp_bad]; done)
theorem QhW {n a b : Nat} {ds : List D} (h1 : s[a]? = some (.lst ds)) (h2 : s[b]? = some (.lst ds)) (h : ∀ d ∈ ds, Pd n d) (hn : n ≤ 50) : wp (eqD (.ref a) (.ref b)) Q s = Q (.bl true) s := by
 unfold eqD eqB
 rw [Qg5, Qg5, Qg6 h1, Qg5, Qg6 h2, if_pos rfl, QhT fun d hd => ((h d hd).le hn).eq]
 first | rfl | exact wp_eq rfl | exact (wp_eq rfl).trans wp_ret | (simp only [wp_ret, wp_bad]; done)
end
theorem QhX {α : Type} {n : Nat} {x : α} {f : Nat → α} : x :: upto n f = upto (n + 1) fun d => match d with
  | 0 => x
  | d + 1 => f d := by
 unfold upto
 rw [List.range_succ_eq_map, List.map_cons, List.map_map]; ac_rfl
theorem QhY {lo : Int} {n : Nat} : rngD lo n = upto n fun i => .int (lo + i) := rfl
end MM
namespace MM
open PySem
section
variable {α β : Type} {γ : Sort _}
theorem y_dec {p : Prop} [Decidable p] : (decide p = true) = p := _root_.decide_eq_true_eq
theorem y_rs {n : Nat} {a : α} : List.replicate (n + 1) a = a :: List.replicate n a := nr rfl
theorem y_rz {a : α} : List.replicate 0 a = [] := nr rfl
theorem y_js {x : Option α} : (some x).join = x := nr rfl
theorem y_mc {f : α → β} {a : α} {l : List α} : List.map f (a :: l) = f a :: List.map f l := nr rfl
theorem y_mn {f : α → β} : List.map f [] = [] := nr rfl
theorem y_ca {a : α} {l k : List α} : (a :: l) ++ k = a :: (l ++ k) := nr rfl
theorem y_na {l : List α} : [] ++ l = l := nr rfl
theorem y_g0 {a : α} {l : List α} : (a :: l)[0]? = some a := nr rfl
theorem y_gs {a : α} {l : List α} {i : Nat} : (a :: l)[i + 1]? = l[i]? := by simp
theorem y_s0 {a b : α} {l : List α} : (a :: l).set 0 b = b :: l := nr rfl
theorem y_ss {a b : α} {l : List α} {i : Nat} : (a :: l).set (i + 1) b = a :: l.set i b := nr rfl
theorem y_lc {a : α} {l : List α} : (a :: l).length = l.length + 1 := nr rfl
theorem y_ln : ([] : List α).length = 0 := nr rfl
theorem y_ge {a b : Int} : (a ≥ b) = (b ≤ a) := nr rfl
theorem y_it {c d : γ} : (if True then c else d) = c := if_pos trivial
theorem y_if {c d : γ} : (if False then c else d) = d := if_neg (fun h => h)
theorem y_at {p : Prop} : (p ∧ True) = p := and_true p
theorem y_ta {p : Prop} : (True ∧ p) = p := true_and p
theorem y_nt : (!true) = false := nr rfl
theorem y_nf : (!false) = true := nr rfl
end
section
variable {Q : D → Sto → Prop} {U : Unit → Sto → Prop} {A : List D → Sto → Prop} {s : Sto} {l : Loc}
theorem QhZ {n : Nat} {b : Bool} {kvs : List (D × D)} {Q : Bool × List (D × D) → Sto → Prop} (h : s[n]? = some (.dct b kvs)) : wp (getDc n) Q s = Q (b, kvs) s := by
 rw [Qg4]; unfold getDc; rw [h]
theorem Qh0 {n : Nat} {b : Bool} {kvs kvs' : List (D × D)} {Q : Unit → Sto → Prop} (h : s[n]? = some (.dct b kvs)) : wp (putDc n b kvs') Q s = Q () (s.set n (.dct b kvs')) := by
 rw [Qg4]; unfold putDc; rw [h]; simp
theorem Qh1 {n : Nat} {b : Bool} {kvs : List (D × D)} {k d : D} (h : s[n]? = some (.dct b kvs)) (hk : kOk b k = true) (hl : lkK kvs k = some d) : wp (itemK n k) Q s = Q d s := by
 unfold itemK; rw [Qg5, QhZ h, wp_chk]; dsimp only; rw [hl, wp_ret]; exact propext ⟨fun h => h.2, fun h => ⟨hk, h⟩⟩
theorem Qh2 {n : Nat} {b : Bool} {kvs : List (D × D)} {k v : D} (h : s[n]? = some (.dct b kvs)) (hk : kOk b k = true) (hl : kvs.length < lim) : wp (storeK n k v) U s = U () (s.set n (.dct b (ptK kvs k v))) := by
 unfold storeK; rw [Qg5, QhZ h, wp_chk]; dsimp only; rw [Qh0 h]; exact propext ⟨fun h => h.2, fun h => ⟨⟨hk, hl⟩, h⟩⟩
theorem Qh3 {n : Nat} {b : Bool} {kvs : List (D × D)} {k : D} {Q : Bool → Sto → Prop} (h : s[n]? = some (.dct b kvs)) (hk : kOk b k = true) : wp (hasK n k) Q s = Q (lkK kvs k).isSome s := by
 unfold hasK; rw [Qg5, QhZ h, wp_chk, wp_ret]; exact propext ⟨fun h => h.2, fun h => ⟨hk, h⟩⟩
theorem x_subsD {n : Nat} {k : D} : wp (subsD (.dic n) k) Q s = wp (itemK n k) Q s := by cases k <;> first | bv_omega
theorem x_setD {n : Nat} {k v : D} : wp (setItemD (.dic n) k v) U s = wp (storeK n k v) U s := by cases k <;> first | bv_omega
theorem x_inDc {n : Nat} {k : D} : wp (inD k (.dic n)) Q s = wp (hasK n k) (fun b s' => Q (.bl b) s') s := by unfold inD; rw [Qg5]; ac_rfl
theorem x_ninDc {n : Nat} {k : D} : wp (ninD k (.dic n)) Q s = wp (hasK n k) (fun b s' => Q (.bl !b) s') s := by unfold ninD; rw [Qg5]; ac_rfl
theorem Qh4 {n : Nat} {b : Bool} {kvs : List (D × D)} (h : s[n]? = some (.dct b kvs)) : wp (lenD (.dic n)) Q s = Q (.int kvs.length) s := by unfold lenD; rw [Qg5, QhZ h]; ac_rfl
theorem x_dnew {b : Bool} : wp (cDNew b l) Q s = Q (.dic s.length) (s ++ [.dct b []]) := wp_eq rfl
theorem x_cdisp {ks : List D} {vs : CA} : wp (cDisp ks vs l) Q s = wp (vs l) (fun xs s' => ks.length = xs.length ∧ Q (.dic s'.length) (s' ++ [.dct false (mgK [] (ks.zip xs))])) s := by
 unfold cDisp; rw [Qg5]; congr 1; funext xs s'; rw [wp_chk]; rw [show ∀ kvs, wp (allocK false kvs) Q s' = Q (.dic s'.length) (s' ++ [.dct false kvs]) from fun _ => wp_eq rfl]
theorem x_arev {a : CA} : wp (aRev a l) A s = wp (a l) (fun ds s' => A ds.reverse s') s := by unfold aRev; rw [Qg5]; ac_rfl
end
theorem x_times {a : CA} {b : CE} {A : List D → Sto → Prop} {s : Sto} {l : Loc} : wp (aTimes a b l) A s = wp (a l) (fun xs s1 => wp (b l) (fun k s2 => match k with
  | .int k => ((-(2 ^ 63) ≤ k ∧ k < 2 ^ 63) ∧ xs.length * k.toNat ≤ lim) ∧ A (List.replicate k.toNat xs).flatten s2
  | _ => False) s1) s := by
 unfold aTimes; rw [Qg5]; congr 1; funext xs s1; rw [Qg5]; congr 1; funext k s2; cases k <;> first | bv_omega | (dsimp only; rw [wp_chk]; ac_rfl)
theorem Qh5 {α : Type} {l : List α} {a : α} : (l ++ [a])[l.length]? = some a := by rw [List.getElem?_append_right (Nat.le_refl _), Nat.sub_self]; ac_rfl
theorem Qh6 {α : Type} {l : List α} {a b : α} {n : Nat} (h : l[n]? = some a) : (l ++ [b])[n]? = some a := by rw [List.getElem?_append_left (List.getElem?_eq_some_iff.mp h).1]; exact h
section
variable {Q : D → Sto → Prop} {A : List D → Sto → Prop} {s : Sto}
end
end MM
local macro_rules
 | `(tactic| simp_arith [$a,*]) => `(tactic| simp only [↓MM.x_seq, ↓MM.x_next, ↓MM.x_asg, ↓MM.x_ret, ↓MM.x_exp, ↓MM.x_if, ↓MM.x_cmp, ↓MM.x_andE, ↓MM.x_orE, ↓MM.x_notE, ↓MM.x_ifE, ↓MM.x_truB, ↓MM.x_isB, ↓MM.x_eqB, ↓MM.x_neB, ↓MM.x_tupL, ↓MM.x_lenLL, ↓MM.x_item0, ↓MM.x_item1, ↓MM.x_item2, ↓MM.x_item3, ↓MM.x_tTrue, ↓MM.x_iTmp, ↓MM.x_enum, ↓MM.x_gtup, ↓MM.x_gcons, ↓MM.x_gnil, ↓MM.x_slice, ↓MM.x_none, ↓MM.x_some, ↓MM.x_val, ↓MM.x_not, ↓MM.x_and, ↓MM.x_or, ↓MM.x_g0, ↓MM.x_g1, ↓MM.x_g2, ↓MM.x_g3, ↓MM.x_g4, ↓MM.x_g5, ↓MM.x_g6, ↓MM.x_g7, ↓MM.x_g8, ↓MM.x_g9, ↓MM.x_g10, ↓MM.x_g11, ↓MM.x_g12, ↓MM.x_g13, ↓MM.x_g14, MM.x_gvar, ↓MM.x_gsub, ↓MM.x_v0, ↓MM.x_v1, ↓MM.x_v2, ↓MM.x_v3, ↓MM.x_v4, ↓MM.x_v5, ↓MM.x_v6, ↓MM.x_v7, ↓MM.x_v8, ↓MM.x_v9, ↓MM.x_v10, ↓MM.x_v11, ↓MM.x_v12, ↓MM.x_v13, ↓MM.x_v14, MM.x_var, ↓MM.x_con, ↓MM.x_c1, ↓MM.x_c2, ↓MM.x_call, ↓MM.x_nil, ↓MM.x_cons, ↓MM.x_tup, ↓MM.x_disp, ↓MM.x_keep, ↓MM.x_tmp, ↓MM.x_comp, ↓MM.x_for, ↓MM.x_rng, ↓MM.x_iseq, ↓MM.x_add, ↓MM.x_sub, ↓MM.x_mul, ↓MM.x_div, ↓MM.x_mod, ↓MM.x_lt, ↓MM.x_le, ↓MM.x_gt, ↓MM.x_ge, ↓MM.x_eq, ↓MM.x_ne, ↓MM.x_subsT, ↓MM.x_subsL, ↓MM.x_subsR, ↓MM.x_lenT, ↓MM.x_lenL, ↓MM.x_lenR, ↓MM.x_intB, ↓MM.x_intI, ↓MM.x_setR, ↓MM.x_retF, ↓MM.x_nextF, ↓MM.wp_run, ↓MM.wp_ret, ↓MM.wp_chk, ↓MM.wp_alloc, MM.andB_t, MM.andB_f, MM.andB_or, MM.andB_and, MM.y_dec, MM.y_rs, MM.y_rz, MM.y_js, MM.y_mc, MM.y_mn, MM.y_ca, MM.y_na, MM.y_g0, MM.y_gs, MM.y_s0, MM.y_ss, MM.y_lc, MM.y_ln, Nat.reduceAdd, Nat.reduceSub, MM.y_ge, Int.reduceLE, Int.reduceLT, MM.y_it, MM.y_if, MM.y_at, MM.y_ta, beq_iff_eq, ↓MM.x_chain, ↓MM.x_append, ↓MM.x_clear, ↓MM.x_pop, ↓MM.x_reverse, ↓MM.x_back, ↓MM.x_listT, ↓MM.x_listR, ↓MM.x_tupleT, ↓MM.x_tupleR, ↓MM.x_isntB, ↓MM.x_isB2, ↓MM.x_inTu, ↓MM.x_eqStr, ↓MM.x_neStr, ↓MM.x_isiL, ↓MM.x_isiT, ↓MM.x_isiI, ↓MM.x_isiB, ↓MM.x_isiBN, ↓MM.x_neg, ↓MM.x_min2, ↓MM.x_max2, ↓MM.x_rng2, ↓MM.x_shl, ↓MM.x_addT, ↓MM.x_tmpSub, ↓MM.x_inTmp, MM.ite_t, MM.ite_f, MM.y_nt, MM.y_nf, ↓MM.x_sliceT, ↓MM.x_subsD, ↓MM.x_setD, ↓MM.x_inDc, ↓MM.x_ninDc, ↓MM.x_dnew, ↓MM.x_cdisp, ↓MM.x_arev, ↓MM.x_times, Nat.reduceLT, Nat.reduceLeDiff, $a,*])
local macro_rules
 | `(tactic| simp_all_arith [$a,*]) => `(tactic| simp only [↓MM.x_seq, ↓MM.x_next, ↓MM.x_asg, ↓MM.x_ret, ↓MM.x_exp, ↓MM.x_if, ↓MM.x_cmp, ↓MM.x_notE, ↓MM.x_ifE, ↓MM.x_truB, ↓MM.x_isB, ↓MM.x_eqB, ↓MM.x_neB, ↓MM.x_tupL, ↓MM.x_lenLL, ↓MM.x_item0, ↓MM.x_item1, ↓MM.x_item2, ↓MM.x_item3, ↓MM.x_tTrue, ↓MM.x_iTmp, ↓MM.x_enum, ↓MM.x_gtup, ↓MM.x_gcons, ↓MM.x_gnil, ↓MM.x_slice, ↓MM.x_none, ↓MM.x_some, ↓MM.x_val, ↓MM.x_not, ↓MM.x_and, ↓MM.x_or, ↓MM.x_g0, ↓MM.x_g1, ↓MM.x_g2, ↓MM.x_g3, ↓MM.x_g4, ↓MM.x_g5, ↓MM.x_g6, ↓MM.x_g7, ↓MM.x_g8, ↓MM.x_g9, ↓MM.x_g10, ↓MM.x_g11, ↓MM.x_g12, ↓MM.x_g13, ↓MM.x_g14, MM.x_gvar, ↓MM.x_gsub, ↓MM.x_v0, ↓MM.x_v1, ↓MM.x_v2, ↓MM.x_v3, ↓MM.x_v4, ↓MM.x_v5, ↓MM.x_v6, ↓MM.x_v7, ↓MM.x_v8, ↓MM.x_v9, ↓MM.x_v10, ↓MM.x_v11, ↓MM.x_v12, ↓MM.x_v13, ↓MM.x_v14, MM.x_var, ↓MM.x_con, ↓MM.x_c1, ↓MM.x_c2, ↓MM.x_call, ↓MM.x_nil, ↓MM.x_cons, ↓MM.x_tup, ↓MM.x_disp, ↓MM.x_keep, ↓MM.x_tmp, ↓MM.x_comp, ↓MM.x_for, ↓MM.x_rng, ↓MM.x_iseq, ↓MM.x_add, ↓MM.x_sub, ↓MM.x_mul, ↓MM.x_div, ↓MM.x_mod, ↓MM.x_lt, ↓MM.x_le, ↓MM.x_gt, ↓MM.x_ge, ↓MM.x_eq, ↓MM.x_ne, ↓MM.x_subsT, ↓MM.x_subsL, ↓MM.x_subsR, ↓MM.x_lenT, ↓MM.x_lenL, ↓MM.x_lenR, ↓MM.x_intB, ↓MM.x_intI, ↓MM.x_setR, ↓MM.x_retF, ↓MM.x_nextF, ↓MM.wp_run, ↓MM.wp_ret, ↓MM.wp_chk, ↓MM.wp_alloc, MM.andB_t, MM.andB_f, MM.andB_or, MM.andB_and, MM.y_dec, MM.y_rs, MM.y_rz, MM.y_js, MM.y_mc, MM.y_mn, MM.y_ca, MM.y_na, MM.y_g0, MM.y_gs, MM.y_s0, MM.y_ss, MM.y_lc, MM.y_ln, Nat.reduceAdd, Nat.reduceSub, MM.y_ge, Int.reduceLE, Int.reduceLT, MM.y_it, MM.y_if, MM.y_at, MM.y_ta, beq_iff_eq, ↓MM.x_chain, ↓MM.x_append, ↓MM.x_clear, ↓MM.x_pop, ↓MM.x_reverse, ↓MM.x_back, ↓MM.x_listT, ↓MM.x_listR, ↓MM.x_tupleT, ↓MM.x_tupleR, ↓MM.x_isntB, ↓MM.x_isB2, ↓MM.x_inTu, ↓MM.x_eqStr, ↓MM.x_neStr, ↓MM.x_isiL, ↓MM.x_isiT, ↓MM.x_isiI, ↓MM.x_isiB, ↓MM.x_isiBN, ↓MM.x_neg, ↓MM.x_min2, ↓MM.x_max2, ↓MM.x_rng2, ↓MM.x_shl, ↓MM.x_addT, ↓MM.x_tmpSub, ↓MM.x_inTmp, MM.ite_t, MM.ite_f, MM.y_nt, MM.y_nf, ↓MM.x_sliceT, ↓MM.x_subsD, ↓MM.x_setD, ↓MM.x_inDc, ↓MM.x_ninDc, ↓MM.x_dnew, ↓MM.x_cdisp, ↓MM.x_arev, ↓MM.x_times, Nat.reduceLT, Nat.reduceLeDiff, $a,*])
namespace MM
open PySem
theorem Qh7 : ∀ (N : Nat) (l : List Nat), l.Nodup → (∀ x ∈ l, x < N) → l.length ≤ N
 | 0, l, _, h => by
  cases l with
  | nil => exact Nat.le_refl _
  | cons x xs => exact absurd (h x (by simp)) (Nat.not_lt_zero _)
 | N + 1, l, hn, h => by
  by_cases hm : N ∈ l
  ·have h1 := Qh7 N (l.erase N) (hn.erase N) (fun x hx => by
     have hx' := (hn.mem_erase_iff).mp hx
     have := h x hx'.2
     have := hx'.1
     ac_nf)
   rw [List.length_erase_of_mem hm] at h1
   ac_nf
  ·have h1 := Qh7 N l hn (fun x hx => by
     have := h x hx
     have : x ≠ N := fun e => hm (e ▸ hx)
     ac_nf)
   ac_nf
noncomputable def enc (B : Nat) : List Nat → Nat
 | [] => 0
 | x :: xs => x * B ^ xs.length + enc B xs
theorem Qh8 {B : Nat} : ∀ {xs : List Nat}, (∀ x ∈ xs, x < B) → enc B xs < B ^ xs.length
 | [], _ => by simp [enc]
 | x :: xs, h => by
  have h1 := Qh8 (B := B) (xs := xs) fun y hy => h y (by simp [hy])
  have h2 := h x (by simp)
  show x * B ^ xs.length + enc B xs < B ^ (xs.length + 1)
  rw [Nat.pow_succ, Nat.mul_comm (B ^ xs.length) B]
  have : (x + 1) * B ^ xs.length ≤ B * B ^ xs.length := Nat.mul_le_mul_right _ h2
  rw [Nat.succ_mul] at this
  ac_nf
theorem Qh9 {B : Nat} : ∀ {xs ys : List Nat}, xs.length = ys.length → (∀ x ∈ xs, x < B) → (∀ x ∈ ys, x < B) → enc B xs = enc B ys → xs = ys
 | [], [], _, _, _, _ => rfl
 | x :: xs, y :: ys, hl, hx, hy, e => by
  have hl' : xs.length = ys.length := by simpa using hl
  have h1 := Qh8 (B := B) (xs := xs) fun z hz => hx z (by simp [hz])
  have h2 := Qh8 (B := B) (xs := ys) fun z hz => hy z (by simp [hz])
  have e' : x * B ^ xs.length + enc B xs = y * B ^ ys.length + enc B ys := e
  rw [← hl'] at e' h2
  have q : x = y ∧ enc B xs = enc B ys := by
   generalize B ^ xs.length = p at e' h1 h2
   have hp : 0 < p := by ac_nf
   have a1 : (x * p + enc B xs) / p = x := by rw [Nat.mul_comm, Nat.mul_add_div hp, Nat.div_eq_of_lt h1]; simp
   have a2 : (y * p + enc B ys) / p = y := by rw [Nat.mul_comm, Nat.mul_add_div hp, Nat.div_eq_of_lt h2]; simp
   have exy : x = y := by rw [← a1, ← a2, e']
   subst exy
   exact ⟨rfl, by ac_nf⟩
  rw [q.1, Qh9 hl' (fun z hz => hx z (by simp [hz])) (fun z hz => hy z (by simp [hz])) q.2]
noncomputable def pr : List Nat → Nat
 | [] => 1
 | b :: bs => b * pr bs
noncomputable def encS : List Nat → List Nat → Nat
 | b :: bs, x :: xs => x * pr bs + encS bs xs
 | _, _ => 0
theorem Qia : ∀ {bs xs : List Nat}, xs.length = bs.length → (∀ (i b x : Nat), bs[i]? = some b → xs[i]? = some x → x < b) → encS bs xs < pr bs
 | [], [], _, _ => by simp [encS, pr]
 | b :: bs, x :: xs, hl, h => by
  have h1 := Qia (bs := bs) (xs := xs) (by simpa using hl) fun i b x hb hx => h (i + 1) b x (by simpa using hb) (by simpa using hx)
  have h2 := h 0 b x rfl rfl
  show x * pr bs + encS bs xs < b * pr bs
  have : (x + 1) * pr bs ≤ b * pr bs := Nat.mul_le_mul_right _ h2
  rw [Nat.succ_mul] at this
  ac_nf
theorem Qib : ∀ {bs xs ys : List Nat}, xs.length = bs.length → ys.length = bs.length → (∀ (i b x : Nat), bs[i]? = some b → xs[i]? = some x → x < b) → (∀ (i b x : Nat), bs[i]? = some b → ys[i]? = some x → x < b) → encS bs xs = encS bs ys → xs = ys
 | [], [], [], _, _, _, _, _ => rfl
 | b :: bs, x :: xs, y :: ys, hl, hl2, hx, hy, e => by
  have hx' : ∀ (i b x : Nat), bs[i]? = some b → xs[i]? = some x → x < b := fun i b x hb h => hx (i + 1) b x (by simpa using hb) (by simpa using h)
  have hy' : ∀ (i b x : Nat), bs[i]? = some b → ys[i]? = some x → x < b := fun i b x hb h => hy (i + 1) b x (by simpa using hb) (by simpa using h)
  have h1 := Qia (bs := bs) (xs := xs) (by simpa using hl) hx'
  have h2 := Qia (bs := bs) (xs := ys) (by simpa using hl2) hy'
  have e' : x * pr bs + encS bs xs = y * pr bs + encS bs ys := e
  have q : x = y ∧ encS bs xs = encS bs ys := by
   generalize pr bs = p at e' h1 h2
   have hp : 0 < p := by ac_nf
   have a1 : (x * p + encS bs xs) / p = x := by rw [Nat.mul_comm, Nat.mul_add_div hp, Nat.div_eq_of_lt h1]; simp
   have a2 : (y * p + encS bs ys) / p = y := by rw [Nat.mul_comm, Nat.mul_add_div hp, Nat.div_eq_of_lt h2]; simp
   have exy : x = y := by rw [← a1, ← a2, e']
   subst exy
   exact ⟨rfl, by ac_nf⟩
  rw [q.1, Qib (by simpa using hl) (by simpa using hl2) hx' hy' q.2]
theorem Qic : ∀ (a b : List Nat), eqKs (a.map fun n : Nat => .int n) (b.map fun n : Nat => .int n) = decide (a = b)
 | [], [] => by simp [eqKs]
 | [], _ :: _ => by simp [eqKs]
 | _ :: _, [] => by simp [eqKs]
 | x :: xs, y :: ys => by
  rw [List.map_cons, List.map_cons]
  show (eqK (.int x) (.int y) && eqKs _ _) = _
  rw [Qic xs ys]
  show (decide ((x : Int) = y) && _) = _
  have : decide ((x : Int) = y) = decide (x = y) := decide_eq_decide.mpr (by ac_nf)
  rw [this]
  simp [Bool.decide_and]
theorem Qid : ∀ (a : List Nat), intsK (a.map fun n : Nat => .int n) = some (a.map fun n : Nat => (n : Int))
 | [] => rfl
 | x :: xs => by rw [List.map_cons, List.map_cons]; unfold intsK; rw [Qid xs]; rfl
theorem Qie (a b : List Nat) : kOk true (.tup [.tup (a.map fun n : Nat => .int n), .tup (b.map fun n : Nat => .int n)]) = true := by
 show (rowsK [.tup (a.map fun n : Nat => .int n), .tup (b.map fun n : Nat => .int n)]).isSome = true
 have h1 : rowsK [.tup (b.map fun n : Nat => .int n)] = some [b.map fun n : Nat => (n : Int)] := by
  show (match intsK (b.map fun n : Nat => .int n), rowsK [] with
   | some r, some rs => some (r :: rs)
   | _, _ => none) = _
  rw [Qid]; rfl
 show (match intsK (a.map fun n : Nat => .int n), rowsK [.tup (b.map fun n : Nat => .int n)] with
   | some r, some rs => some (r :: rs)
   | _, _ => none).isSome = true
 rw [Qid, h1]
 rfl
theorem Qif (a b c d : List Nat) : eqK (.tup [.tup (a.map fun n : Nat => .int n), .tup (b.map fun n : Nat => .int n)]) (.tup [.tup (c.map fun n : Nat => .int n), .tup (d.map fun n : Nat => .int n)]) = (decide (a = c) && decide (b = d)) := by
 show (eqKs (a.map _) (c.map _) && (eqKs (b.map _) (d.map _) && true)) = _
 rw [Qic, Qic, Bool.and_true]
section
variable {Q : List D → Sto → Prop} {s : Sto}
end
end MM
namespace My
open PySem MM
noncomputable def  vF : CS :=
  (sSeq (sRet (c2 subsD (c2 subsD (c2 subsD (cVar 0) (cVar 1)) (cVar 2)) (cCon (.int 0))))
  sNext)
@[irreducible] noncomputable def  ya : List D → M D := runDef 3 vF
noncomputable def  ZI : CS :=
  (sSeq (sRet (c2 subsD (c2 subsD (c2 subsD (cVar 0) (cVar 1)) (cVar 2)) (cCon (.int 1))))
  sNext)
@[irreducible] noncomputable def  zD : List D → M D := runDef 3 ZI
noncomputable def  Jd : CS :=
  (sSeq (sAsg (gVar 1) (cKeep (aDisp (cCons (cTup cNil) cNil))))
  (sSeq (sFor (iSeq (c2 subsD (cVar 0) (cCon (.int 1)))) (gVar 2)
   (sSeq (sAsg (gVar 3) (cKeep (aDisp cNil)))
   (sSeq (sFor (iSeq (cVar 1)) (gVar 4)
    (sSeq (sExp (cAppend (cVar 3) (c2 addD (cVar 4) (cTup (cCons (cCon (.int 0)) cNil)))))
    (sSeq (sExp (cAppend (cVar 3) (c2 addD (cVar 4) (cTup (cCons (cCon (.int 1)) cNil)))))
    sNext)))
   (sSeq (sAsg (gVar 1) (cVar 3))
   sNext))))
  (sSeq (sRet (cVar 1))
  sNext)))
@[irreducible] noncomputable def  yG : List D → M D := runDef 5 Jd
noncomputable def  Wd : CS :=
  (sSeq (sAsg (gVar 2) (cTmp tupL (aComp 2 [] (iZipT (c2 subsD (cVar 0) (cCon (.int 1))) (cVar 1)) (gTupD 2 (gsCons (gVar 0) (gsCons (gVar 1) gsNil))) tTrue (c2 subsD (c2 subsD (cVar 0) (cCon (.int 0))) (cVar 1)))))
  (sSeq (sRet (cTup (cCons (cVar 2) (cCons (cTmp tupL (aComp 2 [] (iSeq (c2 subsD (cVar 0) (cCon (.int 0)))) (gTupD 2 (gsCons (gVar 0) (gsCons (gVar 1) gsNil))) tTrue (cVar 1))) cNil))))
  sNext))
@[irreducible] noncomputable def  zU : List D → M D := runDef 3 Wd
noncomputable def  Zb : CS :=
  (sSeq (sRet (c2 subsD (c2 subsD (c2 subsD (c2 subsD (cVar 0) (cCon (.int 1))) (cVar 2)) (cCon (.int 1))) (c2 subsD (c2 subsD (cVar 1) (cCon (.int 0))) (cVar 2))))
  sNext)
@[irreducible] noncomputable def  j0 : List D → M D := runDef 3 Zb
noncomputable def  JF : CS :=
  (sSeq (sRet (c2 addD (c2 addD (cSliceT (cVar 0) oNone (oSome (cVar 1))) (cTup (cCons (cVar 2) cNil))) (cSliceT (cVar 0) (oSome (c2 addD (cVar 1) (cCon (.int 1)))) oNone)))
  sNext)
@[irreducible] noncomputable def  jV : List D → M D := runDef 3 JF
noncomputable def  vj : CS :=
  (sSeq (sRet (cIfE (tCmpB (c2 eqD (c2 subsD (cVar 0) (cCon (.int 0))) (cCon (.str "settle")))) (c2 subsD (cVar 0) (cCon (.int 1))) (cCon .non)))
  sNext)
@[irreducible] noncomputable def  j7 : List D → M D := runDef 1 vj
noncomputable def  Zd : CS :=
  (sSeq (sAsg (gVar 2) (c2 addD (c2 mulD (cCon (.int 7919)) (cVar 1)) (cCon (.int 104729))))
  (sSeq (sAsg (gVar 3) (cKeep (aDisp cNil)))
  (sSeq (sFor (iTmp (aSlice (cVar 0) (oSome (cVar 1)) (oSome (cCon (.int 63))))) (gVar 4)
   (sSeq (sAsg (gVar 2) (c2 modD (c2 addD (c2 addD (c2 mulD (cVar 2) (cCon (.int 48271))) (c2 modD (cVar 4) (cCon (.int 2147483629)))) (cCon (.int 1))) (cCon (.int 2147483647))))
   (sSeq (sIf (tCmpB (c2 geD (cVar 4) (c2 powD (cCon (.int 10)) (cCon (.int 18)))))
    (sSeq (sExp (cAppend (cVar 3) (cVar 4)))
    sNext)
    sNext)
   sNext)))
  (sSeq (sRet (cKeep (aDisp (cCons (cVar 2) (cCons (cCon (.int 0)) (cCons (cKeep (aBack (cVar 3))) cNil))))))
  sNext))))
@[irreducible] noncomputable def  zy : List D → M D := runDef 5 Zd
noncomputable def  JC : CS :=
  (sSeq (sWhile (tAndB (tCmpB (c2 eqD (c2 subsD (cVar 0) (cCon (.int 1))) (cCon (.int 0)))) (tCmpB (c2 gtD (c1 lenD (c2 subsD (cVar 0) (cCon (.int 2)))) (cCon (.int 0)))))
   (sSeq (sAsg (gSubD (cVar 0) (cCon (.int 1))) (cPop (c2 subsD (cVar 0) (cCon (.int 2)))))
   sNext))
  (sSeq (sIf (tCmpB (c2 gtD (c2 subsD (cVar 0) (cCon (.int 1))) (cCon (.int 0))))
   (sSeq (sAsg (gVar 2) (c2 modD (c2 subsD (cVar 0) (cCon (.int 1))) (cVar 1)))
   (sSeq (sAsg (gSubD (cVar 0) (cCon (.int 1))) (c2 fdivD (c2 subsD (cVar 0) (cCon (.int 1))) (cVar 1)))
   (sSeq (sRet (cVar 2))
   sNext)))
   sNext)
  (sSeq (sAsg (gVar 3) (c2 modD (c2 addD (c2 mulD (c2 subsD (cVar 0) (cCon (.int 0))) (cCon (.int 48271))) (cCon (.int 7919))) (cCon (.int 2147483647))))
  (sSeq (sAsg (gSubD (cVar 0) (cCon (.int 0))) (c2 addD (c2 modD (c2 addD (c2 mulD (cVar 3) (cCon (.int 40692))) (cCon (.int 12345))) (cCon (.int 2147483399))) (cCon (.int 1))))
  (sSeq (sRet (c2 modD (c2 fdivD (c2 addD (c2 mulD (c2 modD (c2 mulD (cVar 3) (cVar 3)) (cCon (.int 2147483629))) (cCon (.int 31))) (c2 subsD (cVar 0) (cCon (.int 0)))) (cCon (.int 64))) (cVar 1)))
  sNext)))))
@[irreducible] noncomputable def  ja : List D → M D := runDef 4 JC
noncomputable def  vZ : CS :=
  (sSeq (sAsg (gVar 2) (cCall ja (cCons (cVar 0) (cCons (cCon (.int 6)) cNil))))
  (sSeq (sAsg (gVar 3) (c2 addD (cCon (.int 1)) (cCall ja (cCons (cVar 0) (cCons (cVar 1) cNil)))))
  (sSeq (sIf (tCmpB (c2 eqD (cVar 2) (cCon (.int 0))))
   (sSeq (sAsg (gVar 3) (c2 min2D (cVar 3) (cCon (.int 3))))
   (sSeq (sRet (cTmp tupL (aComp 1 [3] (MM.iRng1 (cVar 3)) (gVar 0) tTrue (c2 addD (cTup (cCons (cTup (cCons (cVar 0) (cCons (cVar 0) cNil))) cNil)) (cTmp tupL (aComp 1 [] (MM.iRng1 (cVar 1)) (gVar 0) tTrue (cTup (cCons (cVar 0) (cCons (cCon (.int 0)) cNil)))))))))
   sNext))
   sNext)
  (sSeq (sIf (tCmpB (c2 eqD (cVar 2) (cCon (.int 1))))
   (sSeq (sRet (cTmp tupL (aComp 1 [3] (MM.iRng1 (cVar 3)) (gVar 0) tTrue (cTmp tupL (aComp 1 [0] (MM.iRng1 (cVar 1)) (gVar 0) tTrue (cTup (cCons (cVar 0) (cCons (cVar 1) cNil))))))))
   sNext)
   sNext)
  (sSeq (sIf (tCmpB (c2 eqD (cVar 2) (cCon (.int 2))))
   (sSeq (sRet (cTmp tupL (aComp 1 [3] (MM.iRng1 (cVar 3)) (gVar 0) tTrue (cTup (cCons (cTup (cCons (c2 modD (c2 addD (cVar 0) (cCon (.int 1))) (cVar 1)) (cCons (cVar 0) cNil))) cNil)))))
   sNext)
   sNext)
  (sSeq (sIf (tAndB (tCmpB (c2 eqD (cVar 2) (cCon (.int 3)))) (tCmpB (c2 gtD (cVar 3) (cCon (.int 1)))))
   (sSeq (sAsg (gVar 4) (cKeep (aComp 1 [3] (MM.iRng2 (cCon (.int 1)) (cVar 3)) (gVar 0) tTrue (cTmp tupL (aComp 1 [0] (MM.iRng2 (cCon (.int 1)) (cVar 1)) (gVar 0) tTrue (cTup (cCons (cVar 1) (cCons (cVar 1) cNil))))))))
   (sSeq (sRet (c2 addD (cTup (cCons (cTmp tupL (aComp 1 [] (MM.iRng2 (cCon (.int 1)) (cVar 3)) (gVar 0) tTrue (cTup (cCons (cVar 0) (cCons (cVar 0) cNil))))) cNil)) (c1 tupleD (cVar 4))))
   sNext))
   sNext)
  (sSeq (sAsg (gVar 5) (c2 addD (cCon (.int 1)) (cCall ja (cCons (cVar 0) (cCons (cCon (.int 4)) cNil)))))
  (sSeq (sRet (cTmp tupL (aComp 1 [0, 3, 5] (MM.iRng1 (cVar 3)) (gVar 0) tTrue (cTmp tupL (aComp 1 [1, 2] (MM.iRng1 (cVar 3)) (gVar 0) tTrue (cTup (cCons (cCall ja (cCons (cVar 1) (cCons (cVar 2) cNil))) (cCons (cCall ja (cCons (cVar 1) (cCons (cCon (.int 4)) cNil))) cNil))))))))
  sNext))))))))
@[irreducible] noncomputable def  yD : List D → M D := runDef 6 vZ
noncomputable def  JH : CS :=
  (sSeq (sIf (tOrB (tCmpB (c2 eqD (c1 lenD (cVar 1)) (cCon (.int 0)))) (tOrB (tAndB (tVal (cVar 4)) (tCmpB (c2 eqD (cVar 3) (c2 subD (cVar 2) (cCon (.int 1)))))) (tCmpB (c2 eqD (cCall ja (cCons (cVar 0) (cCons (cCon (.int 5)) cNil))) (cCon (.int 0))))))
   (sSeq (sRet (cTup (cCons (cCon (.str "settle")) (cCons (cCall ja (cCons (cVar 0) (cCons (cCon (.int 2)) cNil))) cNil))))
   sNext)
   sNext)
  (sSeq (sAsg (gVar 5) (cCall ja (cCons (cVar 0) (cCons (c1 lenD (cVar 1)) cNil))))
  (sSeq (sAsg (gVar 6) (c2 subsD (c2 subsD (cVar 1) (cVar 5)) (cCon (.int 0))))
  (sSeq (sAsg (gVar 7) (cCall ja (cCons (cVar 0) (cCons (c1 lenD (c2 subsD (cVar 6) (cCon (.int 0)))) cNil))))
  (sSeq (sAsg (gVar 8) (cKeep (aDisp cNil)))
  (sSeq (sFor (MM.iRng1 (c2 addD (cCon (.int 1)) (cTmp maxD (aComp 1 [7] (iSeq (cVar 6)) (gVar 0) tTrue (c2 subsD (c2 subsD (cVar 0) (cVar 1)) (cCon (.int 1))))))) (gVar 9)
   (sSeq (sIf (tVal (cVar 4))
    (sSeq (sExp (cAppend (cVar 8) (c2 addD (c2 addD (cVar 3) (cCon (.int 1))) (cCall ja (cCons (cVar 0) (cCons (c2 subD (c2 subD (cVar 2) (cVar 3)) (cCon (.int 1))) cNil))))))
    sNext)
    (sSeq (sExp (cAppend (cVar 8) (cCall ja (cCons (cVar 0) (cCons (cVar 2) cNil)))))
    sNext))
   sNext))
  (sSeq (sRet (cTup (cCons (cCon (.str "do")) (cCons (cVar 5) (cCons (cVar 7) (cCons (c1 tupleD (cVar 8)) cNil))))))
  sNext)))))))
@[irreducible] noncomputable def  yz : List D → M D := runDef 10 JH
noncomputable def  v6 : CS :=
  (sSeq (sAsg (gVar 1) (cKeep (aDisp cNil)))
  (sSeq (sAsg (gVar 2) (cTmpSub (aDisp (cCons (cCon (.int 0)) (cCons (cCon (.int 1)) (cCons (cCon (.int 1)) (cCons (cCon (.int 2)) (cCons (cCon (.int 2)) (cCons (cCon (.int 3)) (cCons (cCon (.int 1)) (cCons (cCon (.int 4)) cNil))))))))) (cCall ja (cCons (cVar 0) (cCons (cCon (.int 8)) cNil)))))
  (sSeq (sFor (MM.iRng1 (cVar 2)) (gVar 3)
   (sSeq (sAsg (gVar 4) (cCall yD (cCons (cVar 0) (cCons (cTmpSub (aDisp (cCons (cCon (.int 4)) (cCons (cCon (.int 4)) (cCons (cCon (.int 3)) (cCons (cCon (.int 2)) (cCons (cCon (.int 2)) cNil)))))) (cVar 2)) cNil))))
   (sSeq (sExp (cAppend (cVar 1) (cTup (cCons (cVar 4) (cCons (cCall ja (cCons (cVar 0) (cCons (c1 lenD (cVar 4)) cNil))) cNil)))))
   sNext)))
  (sSeq (sAsg (gVar 5) (cKeep (aDisp cNil)))
  (sSeq (sAsg (gVar 6) (c2 addD (cCon (.int 2)) (c1 intD (c2 eqD (cCall ja (cCons (cVar 0) (cCons (cCon (.int 3)) cNil))) (cCon (.int 0))))))
  (sSeq (sAsg (gVar 7) (c2 subsD (cTmpSub (aDisp (cCons (cKeep (aDisp (cCons (cCon (.int 8)) (cCons (cCon (.int 8)) (cCons (cCon (.int 6)) (cCons (cCon (.int 6)) (cCons (cCon (.int 4)) cNil))))))) (cCons (cKeep (aDisp (cCons (cCon (.int 4)) (cCons (cCon (.int 4)) (cCons (cCon (.int 3)) (cCons (cCon (.int 3)) (cCons (cCon (.int 2)) cNil))))))) cNil))) (c2 subD (cVar 6) (cCon (.int 2)))) (cVar 2)))
  (sSeq (sAsg (gVar 8) (cCall ja (cCons (cVar 0) (cCons (cCon (.int 4)) cNil))))
  (sSeq (sFor (MM.iRng1 (cVar 6)) (gVar 3)
   (sSeq (sAsg (gVar 9) (c2 addD (cCon (.int 1)) (cCall ja (cCons (cVar 0) (cCons (cVar 7) cNil)))))
   (sSeq (sAsg (gVar 10) (cOr (c2 ltD (cVar 8) (cCon (.int 2))) (cAnd (c2 eqD (cVar 8) (cCon (.int 2))) (c2 gtD (cVar 3) (cCon (.int 0))))))
   (sSeq (sAsg (gVar 11) (cTmp tupL (aComp 1 [0, 1, 9, 10] (MM.iRng1 (cVar 9)) (gVar 0) tTrue (cCall yz (cCons (cVar 1) (cCons (cVar 2) (cCons (cVar 3) (cCons (cVar 0) (cCons (cVar 4) cNil)))))))))
   (sSeq (sAsg (gVar 12) (cTup (cCons (cCon (.int 0)) (cCons (cCall ja (cCons (cVar 0) (cCons (cVar 9) cNil))) cNil))))
   (sSeq (sIf (tCmpB (c2 eqD (cCall ja (cCons (cVar 0) (cCons (cCon (.int 2)) cNil))) (cCon (.int 1))))
    (sSeq (sAsg (gVar 12) (cTup (cCons (cCall ja (cCons (cVar 0) (cCons (cVar 9) cNil))) (cCons (cCall ja (cCons (cVar 0) (cCons (cVar 9) cNil))) cNil))))
    sNext)
    sNext)
   (sSeq (sExp (cAppend (cVar 5) (cTup (cCons (cVar 12) (cCons (cVar 11) cNil)))))
   sNext)))))))
  (sSeq (sIf (tCmpB (c2 eqD (cCall ja (cCons (cVar 0) (cCons (cCon (.int 4)) cNil))) (cCon (.int 0))))
   (sSeq (sAsg (gSubD (cVar 5) (c1 negD (cCon (.int 1)))) (c2 subsD (cVar 5) (cCon (.int 0))))
   sNext)
   sNext)
  (sSeq (sRet (cTup (cCons (c1 tupleD (cVar 1)) (cCons (c1 tupleD (cVar 5)) cNil))))
  sNext))))))))))
@[irreducible] noncomputable def  yF : List D → M D := runDef 13 v6
noncomputable def  vg : CS :=
  (sSeq (sAsg (gVar 1) (cKeep (aDisp (cCons (cTup cNil) cNil))))
  (sSeq (sFor (iSeq (c2 subsD (cVar 0) (cCon (.int 1)))) (gVar 2)
   (sSeq (sAsg (gVar 1) (c2 addD (cKeep (aComp 1 [] (iSeq (cVar 1)) (gVar 0) tTrue (c2 addD (cVar 0) (cTup (cCons (cCon (.int 0)) cNil))))) (cKeep (aComp 1 [] (iSeq (cVar 1)) (gVar 0) tTrue (c2 addD (cVar 0) (cTup (cCons (cCon (.int 1)) cNil)))))))
   sNext))
  (sSeq (sRet (c1 sortedD (cVar 1)))
  sNext)))
@[irreducible] noncomputable def  yp : List D → M D := runDef 3 vg
noncomputable def  Je : CS :=
  (sSeq (sAsg (gVar 2) (cKeep (aComp 1 [0, 1] (MM.iRng1 (c1 lenD (cVar 1))) (gVar 0) tTrue (c2 subsD (c2 subsD (c2 subsD (c2 subsD (cVar 1) (cCon (.int 1))) (cVar 0)) (cCon (.int 0))) (c2 subsD (cVar 2) (cVar 0))))))
  (sSeq (sRet (cTup (cCons (c1 tupleD (cVar 2)) (cCons (cTmp tupL (aComp 1 [] (iSeq (c2 subsD (cVar 0) (cCon (.int 0)))) (gVar 0) tTrue (c2 subsD (cVar 0) (cCon (.int 1))))) cNil))))
  sNext))
@[irreducible] noncomputable def  yE : List D → M D := runDef 3 Je
noncomputable def  ZP : CS :=
  (sSeq (sRet (c2 subsD (c2 subsD (c2 subsD (c2 subsD (cVar 0) (cCon (.int 1))) (cVar 2)) (cCon (.int 1))) (c2 subsD (c2 subsD (cVar 1) (cCon (.int 0))) (cVar 2))))
  sNext)
@[irreducible] noncomputable def  yu : List D → M D := runDef 3 ZP
noncomputable def  wa : CS :=
  (sSeq (sAsg (gVar 3) (cCall yu (cCons (cVar 0) (cCons (cVar 1) (cCons (cVar 2) cNil)))))
  (sSeq (sIf (tCmpB (c2 eqD (c2 subsD (cVar 3) (cCon (.int 0))) (cCon (.str "settle"))))
   (sSeq (sRet (cVar 1))
   sNext)
   sNext)
  (sSeq (sAsg (gVar 4) (c1 listD (c2 subsD (cVar 1) (cCon (.int 0)))))
  (sSeq (sAsg (gVar 5) (c1 listD (c2 subsD (cVar 1) (cCon (.int 1)))))
  (sSeq (sAsg (gVar 6) (c2 subsD (cVar 3) (cCon (.int 1))))
  (sSeq (sAsg (gTupD 2 (gsCons (gVar 7) (gsCons (gVar 8) gsNil))) (c2 subsD (c2 subsD (c2 subsD (c2 subsD (c2 subsD (cVar 0) (cCon (.int 0))) (cVar 6)) (cCon (.int 0))) (c2 subsD (cVar 5) (cVar 6))) (c2 subsD (cVar 3) (cCon (.int 2)))))
  (sSeq (sAsg (gSubD (cVar 4) (cVar 2)) (c2 subsD (c2 subsD (cVar 3) (cCon (.int 3))) (cVar 8)))
  (sSeq (sAsg (gSubD (cVar 5) (cVar 6)) (cVar 7))
  (sSeq (sRet (cTup (cCons (c1 tupleD (cVar 4)) (cCons (c1 tupleD (cVar 5)) cNil))))
  sNext)))))))))
@[irreducible] noncomputable def  j9 : List D → M D := runDef 9 wa
noncomputable def  JD : CS :=
  (sSeq (sAsg (gVar 2) (cKeep (aDisp cNil)))
  (sSeq (sFor (MM.iRng1 (c1 lenD (c2 subsD (cVar 0) (cCon (.int 1))))) (gVar 3)
   (sSeq (sIf (tCmpB (c2 eqD (c2 subsD (cCall yu (cCons (cVar 0) (cCons (cVar 1) (cCons (cVar 3) cNil)))) (cCon (.int 0))) (cCon (.str "do"))))
    (sSeq (sExp (cAppend (cVar 2) (cVar 3)))
    sNext)
    sNext)
   sNext))
  (sSeq (sRet (cVar 2))
  sNext)))
@[irreducible] noncomputable def  yX : List D → M D := runDef 4 JD
noncomputable def  vL : CS :=
  (sSeq (sAsg (gVar 1) (cKeep (aDisp cNil)))
  (sSeq (sAsg (gVar 2) (cDNew true))
  (sSeq (sFor (iSeq (cCall yp (cCons (cVar 0) cNil))) (gVar 3)
   (sSeq (sAsg (gVar 4) (cCall yE (cCons (cVar 0) (cCons (cVar 3) cNil))))
   (sSeq (sIf (tCmpB (c2 ninD (cVar 4) (cVar 2)))
    (sSeq (sAsg (gSubD (cVar 2) (cVar 4)) (cCon (.bl true)))
    (sSeq (sExp (cAppend (cVar 1) (cVar 4)))
    sNext))
    sNext)
   sNext)))
  (sSeq (sAsg (gVar 5) (cCon (.int 0)))
  (sSeq (sWhile (tCmpB (c2 ltD (cVar 5) (c1 lenD (cVar 1))))
   (sSeq (sFor (iSeq (cCall yX (cCons (cVar 0) (cCons (c2 subsD (cVar 1) (cVar 5)) cNil)))) (gVar 6)
    (sSeq (sAsg (gVar 4) (cCall j9 (cCons (cVar 0) (cCons (c2 subsD (cVar 1) (cVar 5)) (cCons (cVar 6) cNil)))))
    (sSeq (sIf (tCmpB (c2 ninD (cVar 4) (cVar 2)))
     (sSeq (sAsg (gSubD (cVar 2) (cVar 4)) (cCon (.bl true)))
     (sSeq (sExp (cAppend (cVar 1) (cVar 4)))
     sNext))
     sNext)
    sNext)))
   (sSeq (sAsg (gVar 5) (c2 addD (cVar 5) (cCon (.int 1))))
   sNext)))
  (sSeq (sRet (cVar 1))
  sNext))))))
@[irreducible] noncomputable def  yl : List D → M D := runDef 7 vL
noncomputable def  Ja : CS :=
  (sSeq (sRet (cAnd (c1 (isInst ["int"]) (cVar 0)) (cNot (c1 (isInst ["bool"]) (cVar 0)))))
  sNext)
@[irreducible] noncomputable def  jI : List D → M D := runDef 1 Ja
noncomputable def  wA : CS :=
  (sSeq (sIf (tOrB (tNotB (tVal (c1 (isInst ["tuple"]) (cVar 0)))) (tCmpB (c2 neD (cVar 0) (cVar 1))))
   (sSeq (sRet (cCon (.bl false)))
   sNext)
   sNext)
  (sSeq (sFor (iSeq (cVar 0)) (gVar 2)
   (sSeq (sIf (tOrB (tNotB (tVal (c1 (isInst ["tuple"]) (cVar 2)))) (tCmpB (cInTmp inL (cCon (.bl false)) (aComp 1 [] (iSeq (cVar 2)) (gVar 0) tTrue (cCall jI (cCons (cVar 0) cNil))))))
    (sSeq (sRet (cCon (.bl false)))
    sNext)
    sNext)
   sNext))
  (sSeq (sRet (cCon (.bl true)))
  sNext)))
@[irreducible] noncomputable def  jH : List D → M D := runDef 3 wA
noncomputable def  JZ : CS :=
  (sSeq (sAsg (gVar 3) (cCall j0 (cCons (cVar 0) (cCons (cVar 1) (cCons (cVar 2) cNil)))))
  (sSeq (sIf (tCmpB (c2 eqD (c2 subsD (cVar 3) (cCon (.int 0))) (cCon (.str "settle"))))
   (sSeq (sRet (cVar 1))
   sNext)
   sNext)
  (sSeq (sAsg (gVar 4) (c2 subsD (cVar 3) (cCon (.int 1))))
  (sSeq (sAsg (gVar 5) (c2 subsD (cVar 3) (cCon (.int 2))))
  (sSeq (sAsg (gVar 6) (c2 subsD (c2 subsD (c2 subsD (cVar 0) (cCon (.int 0))) (cVar 4)) (cCon (.int 0))))
  (sSeq (sAsg (gVar 7) (c2 subsD (c2 subsD (cVar 1) (cCon (.int 1))) (cVar 4)))
  (sSeq (sAsg (gVar 8) (c2 subsD (c2 subsD (cVar 3) (cCon (.int 3))) (cCall zD (cCons (cVar 6) (cCons (cVar 7) (cCons (cVar 5) cNil))))))
  (sSeq (sRet (cTup (cCons (cCall jV (cCons (c2 subsD (cVar 1) (cCon (.int 0))) (cCons (cVar 2) (cCons (cVar 8) cNil)))) (cCons (cCall jV (cCons (c2 subsD (cVar 1) (cCon (.int 1))) (cCons (cVar 4) (cCons (cCall ya (cCons (cVar 6) (cCons (cVar 7) (cCons (cVar 5) cNil)))) cNil)))) cNil))))
  sNext))))))))
@[irreducible] noncomputable def  zc : List D → M D := runDef 9 JZ
noncomputable def  J7 : CS :=
  (sSeq (sRet (cTmp tupL (aComp 1 [0, 1] (MM.iRng1 (c1 lenD (c2 subsD (cVar 0) (cCon (.int 1))))) (gVar 0) tTrue (cCall j7 (cCons (cCall j0 (cCons (cVar 1) (cCons (cVar 2) (cCons (cVar 0) cNil)))) cNil)))))
  sNext)
@[irreducible] noncomputable def  yW : List D → M D := runDef 2 J7
noncomputable def  WZ : CS :=
  (sSeq (sRet (cKeep (aComp 2 [] (iEnum (cCall yW (cCons (cVar 0) (cCons (cVar 1) cNil)))) (gTupD 2 (gsCons (gVar 0) (gsCons (gVar 1) gsNil))) (tCmpB (c2 isD (cVar 1) (cCon .non))) (cVar 0))))
  sNext)
@[irreducible] noncomputable def  vI : List D → M D := runDef 2 WZ
noncomputable def  vB : CS :=
  (sSeq (sAsg (gVar 4) (cKeep (aDisp cNil)))
  (sSeq (sFor (iSeq (cCall vI (cCons (cVar 0) (cCons (cVar 1) cNil)))) (gVar 5)
   (sSeq (sAsg (gVar 6) (cCall zc (cCons (cVar 0) (cCons (cVar 1) (cCons (cVar 5) cNil)))))
   (sSeq (sIf (tCmpB (c2 ninD (cVar 6) (cVar 3)))
    (sSeq (sAsg (gSubD (cVar 3) (cVar 6)) (c1 lenD (cVar 2)))
    (sSeq (sExp (cAppend (cVar 2) (cVar 6)))
    sNext))
    sNext)
   (sSeq (sExp (cAppend (cVar 4) (cTup (cCons (cVar 5) (cCons (c2 subsD (cVar 3) (cVar 6)) cNil)))))
   sNext))))
  (sSeq (sRet (cVar 4))
  sNext)))
@[irreducible] noncomputable def  yn : List D → M D := runDef 7 vB
noncomputable def  vi : CS :=
  (sSeq (sAsg (gVar 3) (cDNew true))
  (sSeq (sFor (iSeq (cVar 1)) (gVar 4)
   (sSeq (sExp (cSetDef (cVar 3) (cVar 4) (c1 lenD (cVar 3))))
   sNext))
  (sSeq (sAsg (gVar 5) (c1 listKD (cVar 3)))
  (sSeq (sAsg (gVar 6) (cKeep (aDisp cNil)))
  (sSeq (sWhile (tCmpB (c2 ltD (c1 lenD (cVar 6)) (c1 lenD (cVar 5))))
   (sSeq (sIf (tAndB (tCmpB (c2 isntD (cVar 2) (cCon .non))) (tCmpB (c2 gtD (c1 lenD (cVar 5)) (cVar 2))))
    (sSeq sBad
    sNext)
    sNext)
   (sSeq (sExp (cAppend (cVar 6) (cCall yn (cCons (cVar 0) (cCons (c2 subsD (cVar 5) (c1 lenD (cVar 6))) (cCons (cVar 5) (cCons (cVar 3) cNil)))))))
   sNext)))
  (sSeq (sRet (cTup (cCons (cVar 5) (cCons (cVar 6) cNil))))
  sNext))))))
@[irreducible] noncomputable def  yo : List D → M D := runDef 7 vi
noncomputable def  JJ : CS :=
  (sSeq (sAsg (gVar 2) (cKeep (aComp 1 [0] (iSeq (cCall yG (cCons (cVar 0) cNil))) (gVar 0) tTrue (cCall zU (cCons (cVar 1) (cCons (cVar 0) cNil))))))
  (sSeq (sRet (cCall yo (cCons (cVar 0) (cCons (cVar 2) (cCons (cVar 1) cNil)))))
  sNext))
@[irreducible] noncomputable def  yZ : List D → M D := runDef 3 JJ
noncomputable def  v4 : CS :=
  (sSeq (sRet (c2 subsD (cCall yZ (cCons (cVar 0) (cCons (cVar 1) cNil))) (cCon (.int 0))))
  sNext)
@[irreducible] noncomputable def  jC : List D → M D := runDef 2 v4
noncomputable def  jaK : CS :=
  (sSeq (sAsg (gVar 1) (cCall yF (cCons (cCall zy (cCons (cVar 0) (cCons (cCon (.int 0)) cNil))) cNil)))
  (sSeq (sAsg (gVar 2) (cCall yl (cCons (cVar 1) cNil)))
  (sSeq (sAsg (gVar 3) (cCallD jC (cCons (cVar 1) cNil) (.int 500)))
  (sSeq (sIf (tOrB (tNotB (tVal (c1 (isInst ["list"]) (cVar 3)))) (tCmpB (c2 neD (c1 lenD (cVar 3)) (c1 lenD (cVar 2)))))
   (sSeq (sRet (cCon (.bl false)))
   sNext)
   sNext)
  (sSeq (sIf (tCmpB (cInTmp inL (cCon (.bl false)) (aComp 2 [] (iZipL (cVar 3) (cVar 2)) (gTupD 2 (gsCons (gVar 0) (gsCons (gVar 1) gsNil))) tTrue (cCall jH (cCons (cVar 0) (cCons (cVar 1) cNil))))))
   (sSeq (sRet (cCon (.bl false)))
   sNext)
   sNext)
  (sSeq (sExp (cReverse (cVar 3)))
  (sSeq (sExp (cAppend (cVar 3) (cCon .non)))
  (sSeq (sIf (tOrB (tCmpB (c2 neD (cCallD jC (cCons (cVar 1) cNil) (.int 500)) (cVar 2))) (tCmpB (c2 neD (cCall jC (cCons (cVar 1) (cCons (c1 lenD (cVar 2)) cNil))) (cVar 2))))
   (sSeq (sRet (cCon (.bl false)))
   sNext)
   sNext)
  (sSeq (sRet (c2 eqD (cCall jC (cCons (cVar 1) (cCons (cCon (.int 1000)) cNil))) (cVar 2)))
  sNext)))))))))
@[irreducible] noncomputable def  JG : List D → M D := runDef 4 jaK
end My
namespace My
open PySem PySem.Spec PyProof.Rows L2 MM
noncomputable def top (i : Nat) : Stmt := PySem.Challenge.pw_pactboards_k27_all_stands_in_order.main.body.getD i (.Pass ⟨0, 0, 0, 0⟩)
noncomputable abbrev j6 : Stmt := top 4
noncomputable abbrev zA : Stmt := top 5
noncomputable abbrev jU : Stmt := top 7
noncomputable abbrev zp : Stmt := top 9
noncomputable abbrev yV : Stmt := top 10
noncomputable abbrev yA : Stmt := top 12
noncomputable abbrev zG : Stmt := top 14
noncomputable abbrev yq : Stmt := top 22
noncomputable abbrev j8 : Stmt := top 23
noncomputable abbrev jx : Stmt := top 24
noncomputable abbrev jq : Stmt := top 25
noncomputable abbrev jf : Stmt := top 26
noncomputable abbrev jT : Stmt := top 27
noncomputable abbrev jK : Stmt := top 28
noncomputable abbrev zB : Stmt := top 29
noncomputable abbrev jp : Stmt := top 30
noncomputable abbrev jN : Stmt := top 31
noncomputable abbrev jo : Stmt := top 32
noncomputable abbrev j4 : Stmt := top 35
noncomputable abbrev jA : Stmt := top 36
noncomputable abbrev jF : Stmt := top 11
noncomputable abbrev yI : Stmt := top 13
noncomputable abbrev wT : Stmt := top 15
noncomputable abbrev js : Stmt := top 20
noncomputable abbrev jt : Stmt := top 19
noncomputable abbrev yb : Stmt := top 18
noncomputable abbrev yj : Stmt := top 17
noncomputable abbrev yP : Stmt := top 37
theorem jbc : NameOk "_law_after" := nok (by nofun)
theorem jak : NameOk "_law_at" := nok (by nofun)
theorem zm : NameOk "_law_at_here" := nok (by nofun)
theorem JU : NameOk "_law_b" := nok (by nofun)
theorem WD : NameOk "_law_base" := nok (by nofun)
theorem ja6 : NameOk "_law_begin" := nok (by nofun)
theorem jan : NameOk "_law_begins" := nok (by nofun)
theorem jaA : NameOk "_law_behind" := nok (by nofun)
theorem jaP : NameOk "_law_board" := nok (by nofun)
theorem yU : NameOk "_law_boards" := nok (by nofun)
theorem Zi : NameOk "_law_cell" := nok (by nofun)
theorem JR : NameOk "_law_count" := nok (by nofun)
theorem ja5 : NameOk "_law_d" := nok (by nofun)
theorem ja3 : NameOk "_law_deeds" := nok (by nofun)
theorem ja8 : NameOk "_law_digit" := nok (by nofun)
theorem jj : NameOk "_law_draw" := nok (by nofun)
theorem zC : NameOk "_law_due" := nok (by nofun)
theorem jh : NameOk "_law_found" := nok (by nofun)
theorem jbR : NameOk "_law_free" := nok (by nofun)
theorem JO : NameOk "_law_goals" := nok (by nofun)
theorem wH : NameOk "_law_hand" := nok (by nofun)
theorem vM : NameOk "_law_hands" := nok (by nofun)
theorem Jx : NameOk "_law_hands_many" := nok (by nofun)
theorem jbi : NameOk "_law_house" := nok (by nofun)
theorem jc : NameOk "_law_house_here" := nok (by nofun)
theorem jav : NameOk "_law_inputs" := nok (by nofun)
theorem wr : NameOk "_law_inputs_here" := nok (by nofun)
theorem W3 : NameOk "_law_is_stand" := nok (by nofun)
theorem z7 : NameOk "_law_k" := nok (by nofun)
theorem jbB : NameOk "_law_kept" := nok (by nofun)
theorem Jc : NameOk "_law_kind" := nok (by nofun)
theorem Wx : NameOk "_law_left" := nok (by nofun)
theorem jbz : NameOk "_law_line" := nok (by nofun)
theorem zE : NameOk "_law_line_here" := nok (by nofun)
theorem vf : NameOk "_law_lines" := nok (by nofun)
theorem jg : NameOk "_law_many" := nok (by nofun)
theorem JI : NameOk "_law_met" := nok (by nofun)
theorem Wz : NameOk "_law_most" := nok (by nofun)
theorem jao : NameOk "_law_number" := nok (by nofun)
theorem JK : NameOk "_law_one" := nok (by nofun)
theorem Ju : NameOk "_law_onward" := nok (by nofun)
theorem jaL : NameOk "_law_other" := nok (by nofun)
theorem jbh : NameOk "_law_pairs" := nok (by nofun)
theorem Wy : NameOk "_law_part" := nok (by nofun)
theorem jbZ : NameOk "_law_pot" := nok (by nofun)
theorem jb : NameOk "_law_pot_here" := nok (by nofun)
theorem va : NameOk "_law_s" := nok (by nofun)
theorem ZS : NameOk "_law_script" := nok (by nofun)
theorem WC : NameOk "_law_seed" := nok (by nofun)
theorem WA : NameOk "_law_some" := nok (by nofun)
theorem jG : NameOk "_law_stand" := nok (by nofun)
theorem jas : NameOk "_law_stands" := nok (by nofun)
theorem Jv : NameOk "_law_states" := nok (by nofun)
theorem ja2 : NameOk "_law_table" := nok (by nofun)
theorem zk : NameOk "_law_table_here" := nok (by nofun)
theorem jaj : NameOk "_law_told_so" := nok (by nofun)
theorem ZF : NameOk "_law_v" := nok (by nofun)
theorem W8 : NameOk "_law_way" := nok (by nofun)
theorem jaW : NameOk "_law_whole" := nok (by nofun)
theorem jce : NameOk "answer" := nok (by nofun)
theorem jcy : NameOk "begin" := nok (by nofun)
theorem jcq : NameOk "begins" := nok (by nofun)
theorem jcc : NameOk "behind" := nok (by nofun)
theorem WN : NameOk "board" := nok (by nofun)
theorem Wc : NameOk "deed" := nok (by nofun)
theorem jcp : NameOk "firsts" := nok (by nofun)
theorem jcH : NameOk "free" := nok (by nofun)
theorem jcu : NameOk "given" := nok (by nofun)
theorem jcF : NameOk "goal" := nok (by nofun)
theorem jaI : NameOk "graph_from" := nok (by nofun)
theorem jbK : NameOk "graph_of" := nok (by nofun)
theorem wB : NameOk "hand" := nok (by nofun)
theorem jQ : NameOk "house" := nok (by nofun)
theorem Ze : NameOk "inputs" := nok (by nofun)
theorem jbm : NameOk "inputs_of" := nok (by nofun)
theorem JM : NameOk "line" := nok (by nofun)
theorem W7 : NameOk "line_at" := nok (by nofun)
theorem jcB : NameOk "lines" := nok (by nofun)
theorem Z4 : NameOk "longer" := nok (by nofun)
theorem Wb : NameOk "most" := nok (by nofun)
theorem jau : NameOk "next_state" := nok (by nofun)
theorem jcn : NameOk "number" := nok (by nofun)
theorem yB : NameOk "numbers" := nok (by nofun)
theorem jaO : NameOk "place" := nok (by nofun)
theorem WB : NameOk "replaced" := nok (by nofun)
theorem jb7 : NameOk "settled" := nok (by nofun)
theorem yJ : NameOk "stand" := nok (by nofun)
theorem wy : NameOk "stands" := nok (by nofun)
theorem vG : NameOk "stands_of" := nok (by nofun)
theorem JV : NameOk "state" := nok (by nofun)
theorem vW : NameOk "steps" := nok (by nofun)
theorem jaH : NameOk "steps_from" := nok (by nofun)
theorem ZR : NameOk "table" := nok (by nofun)
theorem ZH : NameOk "there" := nok (by nofun)
theorem jbS : NameOk "told" := nok (by nofun)
theorem jcs : NameOk "value" := nok (by nofun)
theorem jbL : NameOk "value_at" := nok (by nofun)
theorem jcD : bootBuiltins ("bool" : Str) = some (.type "bool") := by nofun
theorem jcm : bootBuiltins ("int" : Str) = some (.type "int") := by nofun
theorem zK : bootBuiltins ("isinstance" : Str) = some (.builtin "isinstance") := by nofun
theorem ye : bootBuiltins ("len" : Str) = some (.builtin "len") := by nofun
theorem Wf : bootBuiltins ("list" : Str) = some (.type "list") := by nofun
theorem jcN : bootBuiltins ("max" : Str) = some (.builtin "max") := by nofun
theorem jcL : bootBuiltins ("min" : Str) = some (.builtin "min") := by nofun
theorem jco : bootBuiltins ("sorted" : Str) = some (.builtin "sorted") := by nofun
theorem jv : bootBuiltins ("tuple" : Str) = some (.type "tuple") := by nofun
set_option genInjectivity false in
structure Txt (K : PySem.W.Frag) (mg : Str → Option Value) where
 wt : Addr
 zT : FuncData
 vp : Fun K "next_state" "next_state" j6 wt zT
 ya : mg "next_state" = some (.ref wt)
 JP : Addr
 Jm : FuncData
 ZE : Fun K "answer" "answer" zA JP Jm
 zD : mg "answer" = some (.ref JP)
 wI : Addr
 wo : FuncData
 v5 : Fun K "inputs_of" "inputs_of" jU wI wo
 yG : mg "inputs_of" = some (.ref wI)
 Zt : Addr
 JS : FuncData
 Wh : Fun K "begin" "begin" zp Zt JS
 zU : mg "begin" = some (.ref Zt)
 Jo : Addr
 vN : FuncData
 Jk : Fun K "line_at" "line_at" yV Jo vN
 j0 : mg "line_at" = some (.ref Jo)
 vH : Addr
 wU : FuncData
 vx : Fun K "replaced" "replaced" yA vH wU
 jV : mg "replaced" = some (.ref vH)
 vk : Addr
 wQ : FuncData
 JB : Fun K "value_at" "value_at" zG vk wQ
 j7 : mg "value_at" = some (.ref vk)
 Jj : Addr
 vm : FuncData
 Za : Fun K "_law_pot" "_law_pot" yq Jj vm
 zy : mg "_law_pot" = some (.ref Jj)
 vq : Addr
 wP : FuncData
 ji : Fun K "_law_draw" "_law_draw" j8 vq wP
 ja : mg "_law_draw" = some (.ref vq)
 wM : Addr
 wk : FuncData
 Jb : Fun K "_law_table" "_law_table" jx wM wk
 yD : mg "_law_table" = some (.ref wM)
 vv : Addr
 wW : FuncData
 JL : Fun K "_law_line" "_law_line" jq vv wW
 yz : mg "_law_line" = some (.ref vv)
 wO : Addr
 wu : FuncData
 v8 : Fun K "_law_house" "_law_house" jf wO wu
 yF : mg "_law_house" = some (.ref wO)
 z9 : Addr
 zP : FuncData
 vw : Fun K "_law_inputs" "_law_inputs" jT z9 zP
 yp : mg "_law_inputs" = some (.ref z9)
 wV : Addr
 wx : FuncData
 v9 : Fun K "_law_begin" "_law_begin" jK wV wx
 yE : mg "_law_begin" = some (.ref wV)
 JN : Addr
 Jt : FuncData
 JY : Fun K "_law_at" "_law_at" zB JN Jt
 yu : mg "_law_at" = some (.ref JN)
 wj : Addr
 zM : FuncData
 vn : Fun K "_law_behind" "_law_behind" jp wj zM
 j9 : mg "_law_behind" = some (.ref wj)
 vK : Addr
 wL : FuncData
 JE : Fun K "_law_free" "_law_free" jN vK wL
 yX : mg "_law_free" = some (.ref vK)
 wc : Addr
 zR : FuncData
 vt : Fun K "_law_stands" "_law_stands" jo wc zR
 yl : mg "_law_stands" = some (.ref wc)
 wS : Addr
 wn : FuncData
 Jf : Fun K "_law_whole" "_law_whole" j4 wS wn
 jI : mg "_law_whole" = some (.ref wS)
 zo : Addr
 y0 : FuncData
 wz : Fun K "_law_is_stand" "_law_is_stand" jA zo y0
 jH : mg "_law_is_stand" = some (.ref zo)
 J1 : Addr
 Jp : FuncData
 ZC : Fun K "behind" "behind" jF J1 Jp
 zc : mg "behind" = some (.ref J1)
 Jg : Addr
 vE : FuncData
 J5 : Fun K "settled" "settled" yI Jg vE
 yW : mg "settled" = some (.ref Jg)
 ZY : Addr
 Zx : FuncData
 WW : Fun K "free" "free" wT ZY Zx
 vI : mg "free" = some (.ref ZY)
 wv : Addr
 zO : FuncData
 vo : Fun K "steps_from" "steps_from" js wv zO
 yn : mg "steps_from" = some (.ref wv)
 wm : Addr
 zQ : FuncData
 vC : Fun K "graph_from" "graph_from" jt wm zQ
 yo : mg "graph_from" = some (.ref wm)
 vh : Addr
 wX : FuncData
 JA : Fun K "graph_of" "graph_of" yb vh wX
 yZ : mg "graph_of" = some (.ref vh)
 wJ : Addr
 zx : FuncData
 u_stands_of : Value
 r_stands_of : L2.RelV (.int 500) u_stands_of
 yH : FunD K "stands_of" "stands_of" yj wJ zx u_stands_of
 jC : mg "stands_of" = some (.ref wJ)
 ZO : Addr
 ZZ : FuncData
 jbY : Fun K "law" "law" yP ZO ZZ
 JG : mg "law" = some (.ref ZO)
 Zr : mg "bool" = none
 zW : mg "enumerate" = none
 ZQ : mg "int" = none
 jS : mg "isinstance" = none
 j5 : mg "len" = none
 vz : mg "list" = none
 We : mg "max" = none
 Wg : mg "min" = none
 jE : mg "range" = none
 vV : mg "sorted" = none
 ju : mg "tuple" = none
 ZD : mg "zip" = none
section
variable {P : Program} {w : World} {K : PySem.W.Frag} {mg : Str → Option Value} {base : Heap}
theorem Z1 : LK j6 "deed" .local := by nofun
theorem ZW : LK j6 "state" .local := by nofun
theorem ZU : LK j6 "table" .local := by nofun
theorem jaF : FnScope ["table", "state", "deed"] ["table", "state", "deed"] (defScope j6) := ⟨rfl, rfl, rfl, by nofun, rfl, by nofun, by nofun⟩
theorem jaw (T : Txt K mg) : L2.Binds K T.zT ["table", "state", "deed"] [] := T.vp.binds (ps := ["table", "state", "deed"]) fun _ _ _ _ _ _ us hl => le3 (fun _ _ _ => rfl) us hl
theorem jaq (T : Txt K mg) : FnOk P w K mg base CX0 1 T.wt T.zT ["table", "state", "deed"] (spOf K 3 ya) := by
 have q : FnOk P w K mg base CX0 (0 + 1) T.wt T.zT ["table", "state", "deed"] (spOf K 3 (runDef 3 vF)) := by
  refine QgY (k := 0) (N := ["table", "state", "deed"]) (body := vF) T.vp jaF rfl rfl (fun cdv A outer s H E hr => ?_)
  exact (@QeH _ _ _ _ _ (@QeJ _ _ _ _ (Qem (QgX hr) (Qem (QgX hr) (Qem (QgX hr) (QgR QgN 0 rfl ZU ZR) (QgR QgN 1 rfl ZW JV) (fun _ _ => rfl)) (QgR QgN 2 rfl Z1 Wc) (fun _ _ => rfl)) Qdi (fun _ _ => rfl)))
  QeG)
 unfold ya
 exact q
theorem jaf : LK zA "deed" .local := by nofun
theorem jab : LK zA "state" .local := by nofun
theorem W6 : LK zA "table" .local := by nofun
theorem jcl : FnScope ["table", "state", "deed"] ["table", "state", "deed"] (defScope zA) := ⟨rfl, rfl, rfl, by nofun, rfl, by nofun, by nofun⟩
theorem jcd (T : Txt K mg) : L2.Binds K T.Jm ["table", "state", "deed"] [] := T.ZE.binds (ps := ["table", "state", "deed"]) fun _ _ _ _ _ _ us hl => le3 (fun _ _ _ => rfl) us hl
theorem jcj (T : Txt K mg) : FnOk P w K mg base CX0 1 T.JP T.Jm ["table", "state", "deed"] (spOf K 3 zD) := by
 have q : FnOk P w K mg base CX0 (0 + 1) T.JP T.Jm ["table", "state", "deed"] (spOf K 3 (runDef 3 ZI)) := by
  refine QgY (k := 0) (N := ["table", "state", "deed"]) (body := ZI) T.ZE jcl rfl rfl (fun cdv A outer s H E hr => ?_)
  exact (@QeH _ _ _ _ _ (@QeJ _ _ _ _ (Qem (QgX hr) (Qem (QgX hr) (Qem (QgX hr) (QgR QgN 0 rfl W6 ZR) (QgR QgN 1 rfl jab JV) (fun _ _ => rfl)) (QgR QgN 2 rfl jaf Wc) (fun _ _ => rfl)) Qdi (fun _ _ => rfl)))
  QeG)
 unfold zD
 exact q
theorem Wm : LK jU "hand" .local := by nofun
theorem Z7 : LK jU "house" .local := by nofun
theorem zY : LK jU "inputs" .local := by nofun
theorem yQ : LK jU "longer" .local := by nofun
theorem zj : LK jU "told" .local := by nofun
theorem zu : FnScope ["house", "told", "hand", "longer", "inputs"] ["house"] (defScope jU) := ⟨rfl, rfl, rfl, by nofun, rfl, by nofun, by nofun⟩
theorem ja0 (T : Txt K mg) : L2.Binds K T.wo ["house"] [] := T.v5.binds (ps := ["house"]) fun _ _ _ _ _ _ us hl => le1 (fun _ => rfl) us hl
theorem jaZ (T : Txt K mg) : FnOk P w K mg base CX0 1 T.wI T.wo ["house"] (spOf K 1 yG) := by
 have q : FnOk P w K mg base CX0 (0 + 1) T.wI T.wo ["house"] (spOf K 1 (runDef 5 Jd)) := by
  refine QgY (k := 0) (N := ["house", "told", "hand", "longer", "inputs"]) (body := Jd) T.v5 zu rfl rfl (fun cdv A outer s H E hr => ?_)
  exact (@QeH _ _ _ _ _ (@QgT _ _ _ _ _ _ QgN 1 zu.nd rfl _ zj _ (@Qei _ _ _ (@Qeh _ _ _ _ (Qef (@Qeg _ _ _ _ _ Qee) Qee))) (by decide) (by rfl))
  (@QeH _ _ _ _ _ (@Qe0 _ _ _ _ _ _ _ _ PassesOwn.never rfl (@QeX _ _ _ _ (Qem (QgX hr) (QgR QgN 0 rfl Z7 jQ) Qdi (fun _ _ => rfl))) (@QgS _ _ _ _ QgN 2 zu.nd rfl .local Wm (by decide))
   (@QeH _ _ _ _ _ (@QgT _ _ _ _ _ _ QgN 3 zu.nd rfl _ yQ _ (@Qei _ _ _ (@Qeh _ _ _ _ Qee)) (by decide) (by rfl))
   (@QeH _ _ _ _ _ (@Qe0 _ _ _ _ _ _ _ _ PassesOwn.never rfl (@QeX _ _ _ _ (QgR QgN 1 rfl zj jbS)) (@QgS _ _ _ _ QgN 4 zu.nd rfl .local zY (by decide))
    (@QeH _ _ _ _ _ (@QeK _ _ _ _ (@QfE _ _ _ _ _ _ _ (QgR QgN 3 rfl yQ Z4) (@Qdn _ _ _ _ _ _ _ _ (@QfF _) (QgR QgN 4 rfl zY Ze) (@Qeg _ _ _ _ _ (Qef Qdi Qee))) (by rfl) (by rfl) (by rfl) (by rfl) (by rfl)) (by rfl))
    (@QeH _ _ _ _ _ (@QeK _ _ _ _ (@QfE _ _ _ _ _ _ _ (QgR QgN 3 rfl yQ Z4) (@Qdn _ _ _ _ _ _ _ _ (@QfF _) (QgR QgN 4 rfl zY Ze) (@Qeg _ _ _ _ _ (Qef Qdi Qee))) (by rfl) (by rfl) (by rfl) (by rfl) (by rfl)) (by rfl))
    QeG)) (by intros; rfl))
   (@QeH _ _ _ _ _ (@QgT _ _ _ _ _ _ QgN 1 zu.nd rfl _ zj _ (QgR QgN 3 rfl yQ Z4) (by decide) (by rfl))
   QeG))) (by intros; rfl))
  (@QeH _ _ _ _ _ (@QeJ _ _ _ _ (QgR QgN 1 rfl zj jbS))
  QeG)))
 unfold yG
 exact q
theorem Zu : LK zp "house" .local := by nofun
theorem WX : LK zp "inputs" .local := by nofun
theorem ZB : LK zp "lines" .local := by nofun
theorem Zy : LK zp "tuple" .globalImplicit := by nofun
theorem jbj : LK zp "zip" .globalImplicit := by nofun
theorem jaT : FnScope ["house", "inputs", "lines"] ["house", "inputs"] (defScope zp) := ⟨rfl, rfl, rfl, by nofun, rfl, by nofun, by nofun⟩
theorem jcx (T : Txt K mg) : L2.Binds K T.JS ["house", "inputs"] [] := T.Wh.binds (ps := ["house", "inputs"]) fun _ _ _ _ _ _ us hl => le2 (fun _ _ => rfl) us hl
theorem jcz (T : Txt K mg) : FnOk P w K mg base CX0 1 T.Zt T.JS ["house", "inputs"] (spOf K 2 zU) := by
 have q : FnOk P w K mg base CX0 (0 + 1) T.Zt T.JS ["house", "inputs"] (spOf K 2 (runDef 3 Wd)) := by
  refine QgY (k := 0) (N := ["house", "inputs", "lines"]) (body := Wd) T.Wh jaT rfl rfl (fun cdv A outer s H E hr => ?_)
  exact (@QeH _ _ _ _ _ (@QgT _ _ _ _ _ _ QgN 2 jaT.nd rfl _ ZB _ (@Qfa _ _ _ _ _ _ _ _ (@Qfg _) (QgN.glo _ Zy) T.ju jv (@Qe5 _ _ _ _ _ _ _ _ _ _ _ _ _ _ rfl (@QgP _ _ _ QgN (by nofun)) (@QgQ _ ["house", "inputs", "lines"] _ ["hand", "given"] 2 [] rfl (by nofun)) (@Qgw _ _ _ _ _ _ _ _ _ _ (QgN.glo _ jbj) T.ZD (Qem (QgX hr) (QgR QgN 0 rfl Zu jQ) Qdi (fun _ _ => rfl)) (QgR QgN 1 rfl WX Ze) (by rfl) (by rfl) (by rfl) (by rfl)) (fun _ _ _ => ⟨(@QeF _ _ _ _ _ _ rfl (@QeE _ _ _ _ _ (@QgS _ _ _ _ (QgO (rfl)) 0 (show List.Nodup (["hand", "given"] : List Str) by nofun) rfl .local (by nofun) (by decide)) (@QeE _ _ _ _ _ (@QgS _ _ _ _ (QgO (rfl)) 1 (show List.Nodup (["hand", "given"] : List Str) by nofun) rfl .local (by nofun) (by decide)) (@QeD _) (by rfl)) (by rfl)) (by rfl) (by rfl)), (@Qe2 _), (Qem (QgX hr) (Qem (QgX hr) (QgR (k := .local) (QgO (rfl)) 0 rfl (by nofun) wB) Qdi (fun _ _ => rfl)) (QgR (k := .local) (QgO (rfl)) 1 rfl (by nofun) jcu) (fun _ _ => rfl))⟩) (by intros; rfl)) (by decide) (by decide) (by rfl)) (by decide) (by rfl))
  (@QeH _ _ _ _ _ (@QeJ _ _ _ _ (@Qeg _ _ _ _ _ (Qef (QgR QgN 2 rfl ZB jcB) (Qef (@Qfa _ _ _ _ _ _ _ _ (@Qfg _) (QgN.glo _ Zy) T.ju jv (@Qe5 _ _ _ _ _ _ _ _ _ _ _ _ _ _ rfl (@QgP _ _ _ QgN (by nofun)) (@QgQ _ ["house", "inputs", "lines"] _ ["table", "state"] 2 [] rfl (by nofun)) (@QeX _ _ _ _ (Qem (QgX hr) (QgR QgN 0 rfl Zu jQ) Qdi (fun _ _ => rfl))) (fun _ _ _ => ⟨(@QeF _ _ _ _ _ _ rfl (@QeE _ _ _ _ _ (@QgS _ _ _ _ (QgO (rfl)) 0 (show List.Nodup (["table", "state"] : List Str) by nofun) rfl .local (by nofun) (by decide)) (@QeE _ _ _ _ _ (@QgS _ _ _ _ (QgO (rfl)) 1 (show List.Nodup (["table", "state"] : List Str) by nofun) rfl .local (by nofun) (by decide)) (@QeD _) (by rfl)) (by rfl)) (by rfl) (by rfl)), (@Qe2 _), (QgR (k := .local) (QgO (rfl)) 1 rfl (by nofun) JV)⟩) (by intros; rfl)) (by decide) (by decide) (by rfl)) Qee))))
  QeG))
 unfold zU
 exact q
theorem J9 : LK yV "hand" .local := by nofun
theorem WG : LK yV "house" .local := by nofun
theorem WR : LK yV "stand" .local := by nofun
theorem jb0 : FnScope ["house", "stand", "hand"] ["house", "stand", "hand"] (defScope yV) := ⟨rfl, rfl, rfl, by nofun, rfl, by nofun, by nofun⟩
theorem W0 (T : Txt K mg) : L2.Binds K T.vN ["house", "stand", "hand"] [] := T.Jk.binds (ps := ["house", "stand", "hand"]) fun _ _ _ _ _ _ us hl => le3 (fun _ _ _ => rfl) us hl
theorem W2 (T : Txt K mg) : FnOk P w K mg base CX0 1 T.Jo T.vN ["house", "stand", "hand"] (spOf K 3 j0) := by
 have q : FnOk P w K mg base CX0 (0 + 1) T.Jo T.vN ["house", "stand", "hand"] (spOf K 3 (runDef 3 Zb)) := by
  refine QgY (k := 0) (N := ["house", "stand", "hand"]) (body := Zb) T.Jk jb0 rfl rfl (fun cdv A outer s H E hr => ?_)
  exact (@QeH _ _ _ _ _ (@QeJ _ _ _ _ (Qem (QgX hr) (Qem (QgX hr) (Qem (QgX hr) (Qem (QgX hr) (QgR QgN 0 rfl WG jQ) Qdi (fun _ _ => rfl)) (QgR QgN 2 rfl J9 wB) (fun _ _ => rfl)) Qdi (fun _ _ => rfl)) (Qem (QgX hr) (Qem (QgX hr) (QgR QgN 1 rfl WR yJ) Qdi (fun _ _ => rfl)) (QgR QgN 2 rfl J9 wB) (fun _ _ => rfl)) (fun _ _ => rfl)))
  QeG)
 unfold j0
 exact q
theorem ZX : LK yA "number" .local := by nofun
theorem vR : LK yA "numbers" .local := by nofun
theorem Jz : LK yA "place" .local := by nofun
theorem jby : FnScope ["numbers", "place", "number"] ["numbers", "place", "number"] (defScope yA) := ⟨rfl, rfl, rfl, by nofun, rfl, by nofun, by nofun⟩
theorem jbO (T : Txt K mg) : L2.Binds K T.wU ["numbers", "place", "number"] [] := T.vx.binds (ps := ["numbers", "place", "number"]) fun _ _ _ _ _ _ us hl => le3 (fun _ _ _ => rfl) us hl
theorem jbv (T : Txt K mg) : FnOk P w K mg base CX0 1 T.vH T.wU ["numbers", "place", "number"] (spOf K 3 jV) := by
 have q : FnOk P w K mg base CX0 (0 + 1) T.vH T.wU ["numbers", "place", "number"] (spOf K 3 (runDef 3 JF)) := by
  refine QgY (k := 0) (N := ["numbers", "place", "number"]) (body := JF) T.vx jby rfl rfl (fun cdv A outer s H E hr => ?_)
  exact (@QeH _ _ _ _ _ (@QeJ _ _ _ _ (@Qdn _ _ _ _ _ _ _ _ (@QfF _) (@Qdn _ _ _ _ _ _ _ _ (@QfF _) (@Qgb _ _ _ _ _ _ _ _ _ (QgR QgN 0 rfl vR yB) (@QfG _) (@QfH _ _ _ (QgR QgN 1 rfl Jz jaO))) (@Qeg _ _ _ _ _ (Qef (QgR QgN 2 rfl ZX jcn) Qee))) (@Qgb _ _ _ _ _ _ _ _ _ (QgR QgN 0 rfl vR yB) (@QfH _ _ _ (@Qdn _ _ _ _ _ _ _ _ (@QfF _) (QgR QgN 1 rfl Jz jaO) Qdi)) (@QfG _))))
  QeG)
 unfold jV
 exact q
theorem JQ : LK zG "line" .local := by nofun
theorem jbq : FnScope ["line"] ["line"] (defScope zG) := ⟨rfl, rfl, rfl, by nofun, rfl, by nofun, by nofun⟩
theorem jbx (T : Txt K mg) : L2.Binds K T.wQ ["line"] [] := T.JB.binds (ps := ["line"]) fun _ _ _ _ _ _ us hl => le1 (fun _ => rfl) us hl
theorem jbr (T : Txt K mg) : FnOk P w K mg base CX0 1 T.vk T.wQ ["line"] (spOf K 1 j7) := by
 have q : FnOk P w K mg base CX0 (0 + 1) T.vk T.wQ ["line"] (spOf K 1 (runDef 1 vj)) := by
  refine QgY (k := 0) (N := ["line"]) (body := vj) T.JB jbq rfl rfl (fun cdv A outer s H E hr => ?_)
  exact (@QeH _ _ _ _ _ (@QeJ _ _ _ _ (@QeB _ _ _ _ _ _ _ _ (@Qer _ _ _ _ _ _ _ _ (QfC (QgX hr)) (Qem (QgX hr) (QgR QgN 0 rfl JQ JM) Qdi (fun _ _ => rfl)) Qdl (Qbr _)) (Qem (QgX hr) (QgR QgN 0 rfl JQ JM) Qdi (fun _ _ => rfl)) (@Qdk _ _ _)))
  QeG)
 unfold j7
 exact q
theorem vP : LK yq "_law_base" .local := by nofun
theorem yO : LK yq "_law_cell" .local := by nofun
theorem zZ : LK yq "_law_left" .local := by nofun
theorem Zq : LK yq "_law_script" .local := by nofun
theorem yN : LK yq "_law_seed" .local := by nofun
theorem vD : FnScope ["_law_script", "_law_base", "_law_seed", "_law_left", "_law_cell"] ["_law_script", "_law_base"] (defScope yq) := ⟨rfl, rfl, rfl, by nofun, rfl, by nofun, by nofun⟩
theorem jbW (T : Txt K mg) : L2.Binds K T.vm ["_law_script", "_law_base"] [] := T.Za.binds (ps := ["_law_script", "_law_base"]) fun _ _ _ _ _ _ us hl => le2 (fun _ _ => rfl) us hl
theorem jb9 (T : Txt K mg) : FnOk P w K mg base CX0 1 T.Jj T.vm ["_law_script", "_law_base"] (spOf K 2 zy) := by
 have q : FnOk P w K mg base CX0 (0 + 1) T.Jj T.vm ["_law_script", "_law_base"] (spOf K 2 (runDef 5 Zd)) := by
  refine QgY (k := 0) (N := ["_law_script", "_law_base", "_law_seed", "_law_left", "_law_cell"]) (body := Zd) T.Za vD rfl rfl (fun cdv A outer s H E hr => ?_)
  exact (@QeH _ _ _ _ _ (@QgT _ _ _ _ _ _ QgN 2 vD.nd rfl _ yN _ (@Qdn _ _ _ _ _ _ _ _ (@QfF _) (@Qdn _ _ _ _ _ _ _ _ (@Qd7 _) Qdi (QgR QgN 1 rfl vP WD)) Qdi) (by decide) (by rfl))
  (@QeH _ _ _ _ _ (@QgT _ _ _ _ _ _ QgN 3 vD.nd rfl _ zZ _ (@Qei _ _ _ (@Qeh _ _ _ _ Qee)) (by decide) (by rfl))
  (@QeH _ _ _ _ _ (@Qe0 _ _ _ _ _ _ _ _ PassesOwn.never rfl (@QeY _ _ _ _ (@QfI _ _ _ _ _ _ _ _ _ (QgR QgN 0 rfl Zq ZS) (@QfH _ _ _ (QgR QgN 1 rfl vP WD)) (@QfH _ _ _ Qdi))) (@QgS _ _ _ _ QgN 4 vD.nd rfl .local yO (by decide))
   (@QeH _ _ _ _ _ (@QgT _ _ _ _ _ _ QgN 2 vD.nd rfl _ yN _ (@Qdn _ _ _ _ _ _ _ _ (@Qd9 _) (@Qdn _ _ _ _ _ _ _ _ (@QfF _) (@Qdn _ _ _ _ _ _ _ _ (@QfF _) (@Qdn _ _ _ _ _ _ _ _ (@Qd7 _) (QgR QgN 2 rfl yN WC) Qdi) (@Qdn _ _ _ _ _ _ _ _ (@Qd9 _) (QgR QgN 4 rfl yO Zi) Qdi)) Qdi) Qdi) (by decide) (by rfl))
   (@QeH _ _ _ _ _ (@QeL _ _ _ _ _ _ _ (@Qer _ _ _ _ _ _ _ _ (@Qed _) (QgR QgN 4 rfl yO Zi) (@Qdn _ _ _ _ _ _ _ _ (@Qea _) Qdi Qdi) (Qbr _))
    (@QeH _ _ _ _ _ (@QeK _ _ _ _ (@QfE _ _ _ _ _ _ _ (QgR QgN 3 rfl zZ Wx) (QgR QgN 4 rfl yO Zi) (by rfl) (by rfl) (by rfl) (by rfl) (by rfl)) (by rfl))
    QeG) _
    QeG)
   QeG)) (by intros; rfl))
  (@QeH _ _ _ _ _ (@QeJ _ _ _ _ (@Qei _ _ _ (@Qeh _ _ _ _ (Qef (QgR QgN 2 rfl yN WC) (Qef Qdi (Qef (@Qei _ _ _ (@Qga _ _ _ _ _ _ _ _ (QgR QgN 3 rfl zZ Wx))) Qee))))))
  QeG))))
 unfold zy
 exact q
theorem vd : LK j8 "_law_digit" .local := by nofun
theorem zJ : LK j8 "_law_many" .local := by nofun
theorem yL : LK j8 "_law_one" .local := by nofun
theorem je : LK j8 "_law_pot_here" .local := by nofun
theorem jac : LK j8 "len" .globalImplicit := by nofun
theorem Zg : FnScope ["_law_pot_here", "_law_many", "_law_digit", "_law_one"] ["_law_pot_here", "_law_many"] (defScope j8) := ⟨rfl, rfl, rfl, by nofun, rfl, by nofun, by nofun⟩
theorem Zj (T : Txt K mg) : L2.Binds K T.wP ["_law_pot_here", "_law_many"] [] := T.ji.binds (ps := ["_law_pot_here", "_law_many"]) fun _ _ _ _ _ _ us hl => le2 (fun _ _ => rfl) us hl
theorem Zm (T : Txt K mg) : FnOk P w K mg base CX0 1 T.vq T.wP ["_law_pot_here", "_law_many"] (spOf K 2 ja) := by
 have q : FnOk P w K mg base CX0 (0 + 1) T.vq T.wP ["_law_pot_here", "_law_many"] (spOf K 2 (runDef 4 JC)) := by
  refine QgY (k := 0) (N := ["_law_pot_here", "_law_many", "_law_digit", "_law_one"]) (body := JC) T.ji Zg rfl rfl (fun cdv A outer s H E hr => ?_)
  exact (@QeH _ _ _ _ _ (@Qf7 _ _ _ _ _ _ PassesOwn.never (L2.PW.pt (@Qeu _ _ _ _ _ _ _ (@Qer _ _ _ _ _ _ _ _ (QfC (QgX hr)) (Qem (QgX hr) (QgR QgN 0 rfl je jb) Qdi (fun _ _ => rfl)) Qdi (Qbr _)) (@Qes _ _ _ _ (@Qer _ _ _ _ _ _ _ _ (@Qec _) (@Qe7 _ _ _ _ _ _ _ _ (@Qfd _) (QgN.glo _ jac) T.j5 ye (Qem (QgX hr) (QgR QgN 0 rfl je jb) Qdi (fun _ _ => rfl)) (by decide) (by decide) (by rfl)) Qdi (Qbr _)))))
   (@QeH _ _ _ _ _ (@QeP _ _ _ _ _ _ (@Qf4 _ _ _ _ _ (Qem (QgX hr) (QgR QgN 0 rfl je jb) Qdi (fun _ _ => rfl)) (by rfl) (by rfl)) (@QeR _ _ _ _ _ _ (QgX hr) (QgR QgN 0 rfl je jb) Qdi (by intros; rfl)) (by rfl) (by rfl) (by rfl))
   QeG))
  (@QeH _ _ _ _ _ (@QeL _ _ _ _ _ _ _ (@Qer _ _ _ _ _ _ _ _ (@Qec _) (Qem (QgX hr) (QgR QgN 0 rfl je jb) Qdi (fun _ _ => rfl)) Qdi (Qbr _))
   (@QeH _ _ _ _ _ (@QgT _ _ _ _ _ _ QgN 2 Zg.nd rfl _ vd _ (@Qdn _ _ _ _ _ _ _ _ (@Qd9 _) (Qem (QgX hr) (QgR QgN 0 rfl je jb) Qdi (fun _ _ => rfl)) (QgR QgN 1 rfl zJ jg)) (by decide) (by rfl))
   (@QeH _ _ _ _ _ (@QeP _ _ _ _ _ _ (@Qdn _ _ _ _ _ _ _ _ (@Qd8 _) (Qem (QgX hr) (QgR QgN 0 rfl je jb) Qdi (fun _ _ => rfl)) (QgR QgN 1 rfl zJ jg)) (@QeR _ _ _ _ _ _ (QgX hr) (QgR QgN 0 rfl je jb) Qdi (by intros; rfl)) (by rfl) (by rfl) (by rfl))
   (@QeH _ _ _ _ _ (@QeJ _ _ _ _ (QgR QgN 2 rfl vd ja8))
   QeG))) _
   QeG)
  (@QeH _ _ _ _ _ (@QgT _ _ _ _ _ _ QgN 3 Zg.nd rfl _ yL _ (@Qdn _ _ _ _ _ _ _ _ (@Qd9 _) (@Qdn _ _ _ _ _ _ _ _ (@QfF _) (@Qdn _ _ _ _ _ _ _ _ (@Qd7 _) (Qem (QgX hr) (QgR QgN 0 rfl je jb) Qdi (fun _ _ => rfl)) Qdi) Qdi) Qdi) (by decide) (by rfl))
  (@QeH _ _ _ _ _ (@QeP _ _ _ _ _ _ (@Qdn _ _ _ _ _ _ _ _ (@QfF _) (@Qdn _ _ _ _ _ _ _ _ (@Qd9 _) (@Qdn _ _ _ _ _ _ _ _ (@QfF _) (@Qdn _ _ _ _ _ _ _ _ (@Qd7 _) (QgR QgN 3 rfl yL JK) Qdi) Qdi) Qdi) Qdi) (@QeR _ _ _ _ _ _ (QgX hr) (QgR QgN 0 rfl je jb) Qdi (by intros; rfl)) (by rfl) (by rfl) (by rfl))
  (@QeH _ _ _ _ _ (@QeJ _ _ _ _ (@Qdn _ _ _ _ _ _ _ _ (@Qd9 _) (@Qdn _ _ _ _ _ _ _ _ (@Qd8 _) (@Qdn _ _ _ _ _ _ _ _ (@QfF _) (@Qdn _ _ _ _ _ _ _ _ (@Qd7 _) (@Qdn _ _ _ _ _ _ _ _ (@Qd9 _) (@Qdn _ _ _ _ _ _ _ _ (@Qd7 _) (QgR QgN 3 rfl yL JK) (QgR QgN 3 rfl yL JK)) Qdi) Qdi) (Qem (QgX hr) (QgR QgN 0 rfl je jb) Qdi (fun _ _ => rfl))) Qdi) (QgR QgN 1 rfl zJ jg)))
  QeG)))))
 unfold ja
 exact q
theorem Zh : LK jx "_law_deeds" .cell := by nofun
theorem zq : LK jx "_law_draw" .globalImplicit := by nofun
theorem zv : LK jx "_law_kept" .local := by nofun
theorem jZ : LK jx "_law_kind" .local := by nofun
theorem jm : LK jx "_law_many" .cell := by nofun
theorem Zp : LK jx "_law_most" .local := by nofun
theorem yy : LK jx "_law_pot_here" .cell := by nofun
theorem WQ : LK jx "min" .globalImplicit := by nofun
theorem j1 : LK jx "range" .globalImplicit := by nofun
theorem jY : LK jx "tuple" .globalImplicit := by nofun
theorem zr : FnScope ["_law_pot_here", "_law_most", "_law_kind", "_law_many", "_law_kept", "_law_deeds"] ["_law_pot_here", "_law_most"] (defScope jx) := ⟨rfl, rfl, rfl, by nofun, rfl, by nofun, by nofun⟩
theorem jbe (T : Txt K mg) : L2.Binds K T.wk ["_law_pot_here", "_law_most"] [] := T.Jb.binds (ps := ["_law_pot_here", "_law_most"]) fun _ _ _ _ _ _ us hl => le2 (fun _ _ => rfl) us hl
theorem jaY (T : Txt K mg) : FnOk P w K mg base CX0 2 T.wM T.wk ["_law_pot_here", "_law_most"] (spOf K 2 yD) := by
 have jk := Zm (P := P) (w := w) (base := base) T
 have jl := Zj T
 have q : FnOk P w K mg base CX0 (1 + 1) T.wM T.wk ["_law_pot_here", "_law_most"] (spOf K 2 (runDef 6 vZ)) := by
  refine QgY (k := 1) (N := ["_law_pot_here", "_law_most", "_law_kind", "_law_many", "_law_kept", "_law_deeds"]) (body := vZ) T.Jb zr rfl rfl (fun cdv A outer s H E hr => ?_)
  exact (@QeH _ _ _ _ _ (@QgT _ _ _ _ _ _ QgN 2 zr.nd rfl _ jZ _ (QgW QgN zq jk (hr.mono (by decide)) T.ja T.ji.kp jl jj (Qef (QgR QgN 0 rfl yy jb) (Qef Qdi Qee)) (QgU (QgU QgV))) (by decide) (by rfl))
  (@QeH _ _ _ _ _ (@QgT _ _ _ _ _ _ QgN 3 zr.nd rfl _ jm _ (@Qdn _ _ _ _ _ _ _ _ (@QfF _) Qdi (QgW QgN zq jk (hr.mono (by decide)) T.ja T.ji.kp jl jj (Qef (QgR QgN 0 rfl yy jb) (Qef (QgR QgN 1 rfl Zp Wz) Qee)) (QgU (QgU QgV)))) (by decide) (by rfl))
  (@QeH _ _ _ _ _ (@QeL _ _ _ _ _ _ _ (@Qer _ _ _ _ _ _ _ _ (QfC (QgX hr)) (QgR QgN 2 rfl jZ Jc) Qdi (Qbr _))
   (@QeH _ _ _ _ _ (@QgT _ _ _ _ _ _ QgN 3 zr.nd rfl _ jm _ (@Qf2 _ _ _ _ _ _ _ _ _ _ (@Qf3 _ rfl) (QgN.glo _ WQ) T.Wg jcL (QgR QgN 3 rfl jm jg) Qdi (by decide) (by decide) (by rfl) (by rfl) (by rfl)) (by decide) (by rfl))
   (@QeH _ _ _ _ _ (@QeJ _ _ _ _ (@Qfa _ _ _ _ _ _ _ _ (@Qfg _) (QgN.glo _ jY) T.ju jv (@Qe5 _ _ _ _ _ _ _ _ _ _ _ _ _ _ rfl (@QgP _ _ _ QgN (by nofun)) (@QgQ _ ["_law_pot_here", "_law_most", "_law_kind", "_law_many", "_law_kept", "_law_deeds"] _ ["_law_s", "_law_many"] 1 [3] rfl (by nofun)) (@QeZ _ _ _ _ _ _ (QgN.glo _ j1) T.jE (QgR QgN 3 rfl jm jg) (by rfl)) (fun _ _ _ => ⟨(@QgS _ _ _ _ (QgO (rfl)) 0 (show List.Nodup (["_law_s", "_law_many"] : List Str) by nofun) rfl .local (by nofun) (by decide)), (@Qe2 _), (@Qdn _ _ _ _ _ _ _ _ (@QfF _) (@Qeg _ _ _ _ _ (Qef (@Qeg _ _ _ _ _ (Qef (QgR (k := .local) (QgO (rfl)) 0 rfl (by nofun) va) (Qef (QgR (k := .local) (QgO (rfl)) 0 rfl (by nofun) va) Qee))) Qee)) (@Qfa _ _ _ _ _ _ _ _ (@Qfg _) ((QgO (rfl)).glo _ (by nofun)) T.ju jv (@Qe5 _ _ _ _ _ _ _ _ _ _ _ _ _ _ rfl (@QgP _ _ _ (QgO (rfl)) (by nofun)) (@QgQ _ ["_law_s", "_law_many"] _ ["_law_v"] 1 [] rfl (by nofun)) (@QeZ _ _ _ _ _ _ ((QgO (rfl)).glo _ (by nofun)) T.jE (QgR (k := .free) (QgO (rfl)) 1 rfl (by nofun) jg) (by rfl)) (fun _ _ _ => ⟨(@QgS _ _ _ _ (QgO (rfl)) 0 (show List.Nodup (["_law_v"] : List Str) by nofun) rfl .local (by nofun) (by decide)), (@Qe2 _), (@Qeg _ _ _ _ _ (Qef (QgR (k := .local) (QgO (rfl)) 0 rfl (by nofun) ZF) (Qef Qdi Qee)))⟩) (by intros; rfl)) (by decide) (by decide) (by rfl)))⟩) (by intros; rfl)) (by decide) (by decide) (by rfl)))
   QeG)) _
   QeG)
  (@QeH _ _ _ _ _ (@QeL _ _ _ _ _ _ _ (@Qer _ _ _ _ _ _ _ _ (QfC (QgX hr)) (QgR QgN 2 rfl jZ Jc) Qdi (Qbr _))
   (@QeH _ _ _ _ _ (@QeJ _ _ _ _ (@Qfa _ _ _ _ _ _ _ _ (@Qfg _) (QgN.glo _ jY) T.ju jv (@Qe5 _ _ _ _ _ _ _ _ _ _ _ _ _ _ rfl (@QgP _ _ _ QgN (by nofun)) (@QgQ _ ["_law_pot_here", "_law_most", "_law_kind", "_law_many", "_law_kept", "_law_deeds"] _ ["_law_s", "_law_many"] 1 [3] rfl (by nofun)) (@QeZ _ _ _ _ _ _ (QgN.glo _ j1) T.jE (QgR QgN 3 rfl jm jg) (by rfl)) (fun _ _ _ => ⟨(@QgS _ _ _ _ (QgO (rfl)) 0 (show List.Nodup (["_law_s", "_law_many"] : List Str) by nofun) rfl .cell (by nofun) (by decide)), (@Qe2 _), (@Qfa _ _ _ _ _ _ _ _ (@Qfg _) ((QgO (rfl)).glo _ (by nofun)) T.ju jv (@Qe5 _ _ _ _ _ _ _ _ _ _ _ _ _ _ rfl (@QgP _ _ _ (QgO (rfl)) (by nofun)) (@QgQ _ ["_law_s", "_law_many"] _ ["_law_v", "_law_s"] 1 [0] rfl (by nofun)) (@QeZ _ _ _ _ _ _ ((QgO (rfl)).glo _ (by nofun)) T.jE (QgR (k := .free) (QgO (rfl)) 1 rfl (by nofun) jg) (by rfl)) (fun _ _ _ => ⟨(@QgS _ _ _ _ (QgO (rfl)) 0 (show List.Nodup (["_law_v", "_law_s"] : List Str) by nofun) rfl .local (by nofun) (by decide)), (@Qe2 _), (@Qeg _ _ _ _ _ (Qef (QgR (k := .local) (QgO (rfl)) 0 rfl (by nofun) ZF) (Qef (QgR (k := .free) (QgO (rfl)) 1 rfl (by nofun) va) Qee)))⟩) (by intros; rfl)) (by decide) (by decide) (by rfl))⟩) (by intros; rfl)) (by decide) (by decide) (by rfl)))
   QeG) _
   QeG)
  (@QeH _ _ _ _ _ (@QeL _ _ _ _ _ _ _ (@Qer _ _ _ _ _ _ _ _ (QfC (QgX hr)) (QgR QgN 2 rfl jZ Jc) Qdi (Qbr _))
   (@QeH _ _ _ _ _ (@QeJ _ _ _ _ (@Qfa _ _ _ _ _ _ _ _ (@Qfg _) (QgN.glo _ jY) T.ju jv (@Qe5 _ _ _ _ _ _ _ _ _ _ _ _ _ _ rfl (@QgP _ _ _ QgN (by nofun)) (@QgQ _ ["_law_pot_here", "_law_most", "_law_kind", "_law_many", "_law_kept", "_law_deeds"] _ ["_law_s", "_law_many"] 1 [3] rfl (by nofun)) (@QeZ _ _ _ _ _ _ (QgN.glo _ j1) T.jE (QgR QgN 3 rfl jm jg) (by rfl)) (fun _ _ _ => ⟨(@QgS _ _ _ _ (QgO (rfl)) 0 (show List.Nodup (["_law_s", "_law_many"] : List Str) by nofun) rfl .local (by nofun) (by decide)), (@Qe2 _), (@Qeg _ _ _ _ _ (Qef (@Qeg _ _ _ _ _ (Qef (@Qdn _ _ _ _ _ _ _ _ (@Qd9 _) (@Qdn _ _ _ _ _ _ _ _ (@QfF _) (QgR (k := .local) (QgO (rfl)) 0 rfl (by nofun) va) Qdi) (QgR (k := .free) (QgO (rfl)) 1 rfl (by nofun) jg)) (Qef (QgR (k := .local) (QgO (rfl)) 0 rfl (by nofun) va) Qee))) Qee))⟩) (by intros; rfl)) (by decide) (by decide) (by rfl)))
   QeG) _
   QeG)
  (@QeH _ _ _ _ _ (@QeL _ _ _ _ _ _ _ (L2.PW.pt (@Qeu _ _ _ _ _ _ _ (@Qer _ _ _ _ _ _ _ _ (QfC (QgX hr)) (QgR QgN 2 rfl jZ Jc) Qdi (Qbr _)) (@Qes _ _ _ _ (@Qer _ _ _ _ _ _ _ _ (@Qec _) (QgR QgN 3 rfl jm jg) Qdi (Qbr _)))))
   (@QeH _ _ _ _ _ (@Qe6 _ _ _ _ _ _ _ _ _ _ _ 4 _ _ _ _ _ _ zr.nd rfl (QgN.loc _ _ zv (by decide)).1 (QgN.loc _ _ zv (by decide)).2 rfl (@QgP _ _ _ QgN (by nofun)) (@QgQ _ ["_law_pot_here", "_law_most", "_law_kind", "_law_many", "_law_kept", "_law_deeds"] _ ["_law_s", "_law_many"] 1 [3] rfl (by nofun)) (@Qf6 _ _ _ _ _ _ _ _ (QgN.glo _ j1) T.jE Qdi (QgR QgN 3 rfl jm jg) (by rfl) (by rfl) (by rfl) (by rfl)) (fun _ _ _ => ⟨(@QgS _ _ _ _ (QgO (rfl)) 0 (show List.Nodup (["_law_s", "_law_many"] : List Str) by nofun) rfl .cell (by nofun) (by decide)), (@Qe2 _), (@Qfa _ _ _ _ _ _ _ _ (@Qfg _) ((QgO (rfl)).glo _ (by nofun)) T.ju jv (@Qe5 _ _ _ _ _ _ _ _ _ _ _ _ _ _ rfl (@QgP _ _ _ (QgO (rfl)) (by nofun)) (@QgQ _ ["_law_s", "_law_many"] _ ["_law_v", "_law_s"] 1 [0] rfl (by nofun)) (@Qf6 _ _ _ _ _ _ _ _ ((QgO (rfl)).glo _ (by nofun)) T.jE Qdi (QgR (k := .free) (QgO (rfl)) 1 rfl (by nofun) jg) (by rfl) (by rfl) (by rfl) (by rfl)) (fun _ _ _ => ⟨(@QgS _ _ _ _ (QgO (rfl)) 0 (show List.Nodup (["_law_v", "_law_s"] : List Str) by nofun) rfl .local (by nofun) (by decide)), (@Qe2 _), (@Qeg _ _ _ _ _ (Qef (QgR (k := .free) (QgO (rfl)) 1 rfl (by nofun) va) (Qef (QgR (k := .free) (QgO (rfl)) 1 rfl (by nofun) va) Qee)))⟩) (by intros; rfl)) (by decide) (by decide) (by rfl))⟩) (by rfl) (by intros; rfl))
   (@QeH _ _ _ _ _ (@QeJ _ _ _ _ (@Qdn _ _ _ _ _ _ _ _ (@QfF _) (@Qeg _ _ _ _ _ (Qef (@Qfa _ _ _ _ _ _ _ _ (@Qfg _) (QgN.glo _ jY) T.ju jv (@Qe5 _ _ _ _ _ _ _ _ _ _ _ _ _ _ rfl (@QgP _ _ _ QgN (by nofun)) (@QgQ _ ["_law_pot_here", "_law_most", "_law_kind", "_law_many", "_law_kept", "_law_deeds"] _ ["_law_v"] 1 [] rfl (by nofun)) (@Qf6 _ _ _ _ _ _ _ _ (QgN.glo _ j1) T.jE Qdi (QgR QgN 3 rfl jm jg) (by rfl) (by rfl) (by rfl) (by rfl)) (fun _ _ _ => ⟨(@QgS _ _ _ _ (QgO (rfl)) 0 (show List.Nodup (["_law_v"] : List Str) by nofun) rfl .local (by nofun) (by decide)), (@Qe2 _), (@Qeg _ _ _ _ _ (Qef (QgR (k := .local) (QgO (rfl)) 0 rfl (by nofun) ZF) (Qef (QgR (k := .local) (QgO (rfl)) 0 rfl (by nofun) ZF) Qee)))⟩) (by intros; rfl)) (by decide) (by decide) (by rfl)) Qee)) (@Qe8 _ _ _ _ _ _ _ _ (@Qff _) (QgN.glo _ jY) T.ju jv (QgR QgN 4 rfl zv jbB) (by decide) (by decide) (by rfl))))
   QeG)) _
   QeG)
  (@QeH _ _ _ _ _ (@QgT _ _ _ _ _ _ QgN 5 zr.nd rfl _ Zh _ (@Qdn _ _ _ _ _ _ _ _ (@QfF _) Qdi (QgW QgN zq jk (hr.mono (by decide)) T.ja T.ji.kp jl jj (Qef (QgR QgN 0 rfl yy jb) (Qef Qdi Qee)) (QgU (QgU QgV)))) (by decide) (by rfl))
  (@QeH _ _ _ _ _ (@QeJ _ _ _ _ (@Qfa _ _ _ _ _ _ _ _ (@Qfg _) (QgN.glo _ jY) T.ju jv (@Qe5 _ _ _ _ _ _ _ _ _ _ _ _ _ _ rfl (@QgP _ _ _ QgN (by nofun)) (@QgQ _ ["_law_pot_here", "_law_most", "_law_kind", "_law_many", "_law_kept", "_law_deeds"] _ ["_law_s", "_law_pot_here", "_law_many", "_law_deeds"] 1 [0, 3, 5] rfl (by nofun)) (@QeZ _ _ _ _ _ _ (QgN.glo _ j1) T.jE (QgR QgN 3 rfl jm jg) (by rfl)) (fun _ _ _ => ⟨(@QgS _ _ _ _ (QgO (rfl)) 0 (show List.Nodup (["_law_s", "_law_pot_here", "_law_many", "_law_deeds"] : List Str) by nofun) rfl .local (by nofun) (by decide)), (@Qe2 _), (@Qfa _ _ _ _ _ _ _ _ (@Qfg _) ((QgO (rfl)).glo _ (by nofun)) T.ju jv (@Qe5 _ _ _ _ _ _ _ _ _ _ _ _ _ _ rfl (@QgP _ _ _ (QgO (rfl)) (by nofun)) (@QgQ _ ["_law_s", "_law_pot_here", "_law_many", "_law_deeds"] _ ["_law_d", "_law_pot_here", "_law_many"] 1 [1, 2] rfl (by nofun)) (@QeZ _ _ _ _ _ _ ((QgO (rfl)).glo _ (by nofun)) T.jE (QgR (k := .free) (QgO (rfl)) 3 rfl (by nofun) ja3) (by rfl)) (fun _ _ _ => ⟨(@QgS _ _ _ _ (QgO (rfl)) 0 (show List.Nodup (["_law_d", "_law_pot_here", "_law_many"] : List Str) by nofun) rfl .local (by nofun) (by decide)), (@Qe2 _), (@Qeg _ _ _ _ _ (Qef (QgW (QgO (rfl)) (by nofun) jk (hr.mono (by decide)) T.ja T.ji.kp jl jj (Qef (QgR (k := .free) (QgO (rfl)) 1 rfl (by nofun) jb) (Qef (QgR (k := .free) (QgO (rfl)) 2 rfl (by nofun) jg) Qee)) (QgU (QgU QgV))) (Qef (QgW (QgO (rfl)) (by nofun) jk (hr.mono (by decide)) T.ja T.ji.kp jl jj (Qef (QgR (k := .free) (QgO (rfl)) 1 rfl (by nofun) jb) (Qef Qdi Qee)) (QgU (QgU QgV))) Qee)))⟩) (by intros; rfl)) (by decide) (by decide) (by rfl))⟩) (by intros; rfl)) (by decide) (by decide) (by rfl)))
  QeG))))))))
 unfold yD
 exact q
theorem Jl : LK jq "_law_answer_told" .local := by nofun
theorem wG : LK jq "_law_b" .local := by nofun
theorem y8 : LK jq "_law_boards" .local := by nofun
theorem Jw : LK jq "_law_d" .cell := by nofun
theorem jO : LK jq "_law_draw" .globalImplicit := by nofun
theorem yt : LK jq "_law_goals" .local := by nofun
theorem wE : LK jq "_law_k" .local := by nofun
theorem zI : LK jq "_law_many" .local := by nofun
theorem wN : LK jq "_law_onward" .local := by nofun
theorem jB : LK jq "_law_pot_here" .local := by nofun
theorem yw : LK jq "_law_table_here" .local := by nofun
theorem vy : LK jq "len" .globalImplicit := by nofun
theorem WV : LK jq "max" .globalImplicit := by nofun
theorem Wn : LK jq "range" .globalImplicit := by nofun
theorem Wo : LK jq "tuple" .globalImplicit := by nofun
theorem zV : FnScope ["_law_pot_here", "_law_boards", "_law_many", "_law_k", "_law_onward", "_law_b", "_law_table_here", "_law_d", "_law_goals", "_law_answer_told"] ["_law_pot_here", "_law_boards", "_law_many", "_law_k", "_law_onward"] (defScope jq) := ⟨rfl, rfl, rfl, by nofun, rfl, by nofun, by nofun⟩
theorem jbC (T : Txt K mg) : L2.Binds K T.wW ["_law_pot_here", "_law_boards", "_law_many", "_law_k", "_law_onward"] [] := T.JL.binds (ps := ["_law_pot_here", "_law_boards", "_law_many", "_law_k", "_law_onward"]) fun _ _ _ _ _ _ us hl => le5 (fun _ _ _ _ _ => rfl) us hl
theorem jbN (T : Txt K mg) : FnOk P w K mg base CX0 2 T.vv T.wW ["_law_pot_here", "_law_boards", "_law_many", "_law_k", "_law_onward"] (spOf K 5 yz) := by
 have jk := Zm (P := P) (w := w) (base := base) T
 have jl := Zj T
 have q : FnOk P w K mg base CX0 (1 + 1) T.vv T.wW ["_law_pot_here", "_law_boards", "_law_many", "_law_k", "_law_onward"] (spOf K 5 (runDef 10 JH)) := by
  refine QgY (k := 1) (N := ["_law_pot_here", "_law_boards", "_law_many", "_law_k", "_law_onward", "_law_b", "_law_table_here", "_law_d", "_law_goals", "_law_answer_told"]) (body := JH) T.JL zV rfl rfl (fun cdv A outer s H E hr => ?_)
  exact (@QeH _ _ _ _ _ (@QeL _ _ _ _ _ _ _ (L2.PW.pt (@Qev _ _ _ _ _ _ _ (@Qer _ _ _ _ _ _ _ _ (QfC (QgX hr)) (@Qe7 _ _ _ _ _ _ _ _ (@Qfd _) (QgN.glo _ vy) T.j5 ye (QgR QgN 1 rfl y8 yU) (by decide) (by decide) (by rfl)) Qdi (Qbr _)) (@Qev _ _ _ _ _ _ _ (L2.PW.pt (@Qeu _ _ _ _ _ _ _ (@Qeq _ _ _ (QgR QgN 4 rfl wN Ju) (by intros; rfl)) (@Qes _ _ _ _ (@Qer _ _ _ _ _ _ _ _ (QfC (QgX hr)) (QgR QgN 3 rfl wE z7) (@Qdn _ _ _ _ _ _ _ _ (@Qd6 _) (QgR QgN 2 rfl zI jg) Qdi) (Qbr _))))) (@Qet _ _ _ _ (@Qer _ _ _ _ _ _ _ _ (QfC (QgX hr)) (QgW QgN jO jk (hr.mono (by decide)) T.ja T.ji.kp jl jj (Qef (QgR QgN 0 rfl jB jb) (Qef Qdi Qee)) (QgU (QgU QgV))) Qdi (Qbr _))))))
   (@QeH _ _ _ _ _ (@QeJ _ _ _ _ (@Qeg _ _ _ _ _ (Qef Qdl (Qef (QgW QgN jO jk (hr.mono (by decide)) T.ja T.ji.kp jl jj (Qef (QgR QgN 0 rfl jB jb) (Qef Qdi Qee)) (QgU (QgU QgV))) Qee))))
   QeG) _
   QeG)
  (@QeH _ _ _ _ _ (@QgT _ _ _ _ _ _ QgN 5 zV.nd rfl _ wG _ (QgW QgN jO jk (hr.mono (by decide)) T.ja T.ji.kp jl jj (Qef (QgR QgN 0 rfl jB jb) (Qef (@Qe7 _ _ _ _ _ _ _ _ (@Qfd _) (QgN.glo _ vy) T.j5 ye (QgR QgN 1 rfl y8 yU) (by decide) (by decide) (by rfl)) Qee)) (QgU (QgU QgV))) (by decide) (by rfl))
  (@QeH _ _ _ _ _ (@QgT _ _ _ _ _ _ QgN 6 zV.nd rfl _ yw _ (Qem (QgX hr) (Qem (QgX hr) (QgR QgN 1 rfl y8 yU) (QgR QgN 5 rfl wG JU) (fun _ _ => rfl)) Qdi (fun _ _ => rfl)) (by decide) (by rfl))
  (@QeH _ _ _ _ _ (@QgT _ _ _ _ _ _ QgN 7 zV.nd rfl _ Jw _ (QgW QgN jO jk (hr.mono (by decide)) T.ja T.ji.kp jl jj (Qef (QgR QgN 0 rfl jB jb) (Qef (@Qe7 _ _ _ _ _ _ _ _ (@Qfd _) (QgN.glo _ vy) T.j5 ye (Qem (QgX hr) (QgR QgN 6 rfl yw zk) Qdi (fun _ _ => rfl)) (by decide) (by decide) (by rfl)) Qee)) (QgU (QgU QgV))) (by decide) (by rfl))
  (@QeH _ _ _ _ _ (@QgT _ _ _ _ _ _ QgN 8 zV.nd rfl _ yt _ (@Qei _ _ _ (@Qeh _ _ _ _ Qee)) (by decide) (by rfl))
  (@QeH _ _ _ _ _ (@Qe0 _ _ _ _ _ _ _ _ PassesOwn.never rfl (@QeZ _ _ _ _ _ _ (QgN.glo _ Wn) T.jE (@Qdn _ _ _ _ _ _ _ _ (@QfF _) Qdi (@Qe9 _ _ _ _ _ _ _ _ (@Qfl _ rfl) (QgN.glo _ WV) T.We jcN (@Qe5 _ _ _ _ _ _ _ _ _ _ _ _ _ _ rfl (@QgP _ _ _ QgN (by nofun)) (@QgQ _ ["_law_pot_here", "_law_boards", "_law_many", "_law_k", "_law_onward", "_law_b", "_law_table_here", "_law_d", "_law_goals", "_law_answer_told"] _ ["_law_pairs", "_law_d"] 1 [7] rfl (by nofun)) (@QeX _ _ _ _ (QgR QgN 6 rfl yw zk)) (fun _ _ _ => ⟨(@QgS _ _ _ _ (QgO (rfl)) 0 (show List.Nodup (["_law_pairs", "_law_d"] : List Str) by nofun) rfl .local (by nofun) (by decide)), (@Qe2 _), (Qem (QgX hr) (Qem (QgX hr) (QgR (k := .local) (QgO (rfl)) 0 rfl (by nofun) jbh) (QgR (k := .free) (QgO (rfl)) 1 rfl (by nofun) ja5) (fun _ _ => rfl)) Qdi (fun _ _ => rfl))⟩) (by intros; rfl)) (by decide) (by decide) (by rfl))) (by rfl)) (@QgS _ _ _ _ QgN 9 zV.nd rfl .local Jl (by decide))
   (@QeH _ _ _ _ _ (@QeL _ _ _ _ _ _ _ (@Qeq _ _ _ (QgR QgN 4 rfl wN Ju) (by intros; rfl))
    (@QeH _ _ _ _ _ (@QeK _ _ _ _ (@QfE _ _ _ _ _ _ _ (QgR QgN 8 rfl yt JO) (@Qdn _ _ _ _ _ _ _ _ (@QfF _) (@Qdn _ _ _ _ _ _ _ _ (@QfF _) (QgR QgN 3 rfl wE z7) Qdi) (QgW QgN jO jk (hr.mono (by decide)) T.ja T.ji.kp jl jj (Qef (QgR QgN 0 rfl jB jb) (Qef (@Qdn _ _ _ _ _ _ _ _ (@Qd6 _) (@Qdn _ _ _ _ _ _ _ _ (@Qd6 _) (QgR QgN 2 rfl zI jg) (QgR QgN 3 rfl wE z7)) Qdi) Qee)) (QgU (QgU QgV)))) (by rfl) (by rfl) (by rfl) (by rfl) (by rfl)) (by rfl))
    QeG) _
    (@QeH _ _ _ _ _ (@QeK _ _ _ _ (@QfE _ _ _ _ _ _ _ (QgR QgN 8 rfl yt JO) (QgW QgN jO jk (hr.mono (by decide)) T.ja T.ji.kp jl jj (Qef (QgR QgN 0 rfl jB jb) (Qef (QgR QgN 2 rfl zI jg) Qee)) (QgU (QgU QgV))) (by rfl) (by rfl) (by rfl) (by rfl) (by rfl)) (by rfl))
    QeG))
   QeG) (by intros; rfl))
  (@QeH _ _ _ _ _ (@QeJ _ _ _ _ (@Qeg _ _ _ _ _ (Qef Qdl (Qef (QgR QgN 5 rfl wG JU) (Qef (QgR QgN 7 rfl Jw ja5) (Qef (@Qe8 _ _ _ _ _ _ _ _ (@Qff _) (QgN.glo _ Wo) T.ju jv (QgR QgN 8 rfl yt JO) (by decide) (by decide) (by rfl)) Qee))))))
  QeG)))))))
 unfold yz
 exact q
theorem yS : LK jf "_law_begins" .local := by nofun
theorem yR : LK jf "_law_boards" .cell := by nofun
theorem yk : LK jf "_law_count" .local := by nofun
theorem jn : LK jf "_law_draw" .globalImplicit := by nofun
theorem jR : LK jf "_law_hands" .local := by nofun
theorem ym : LK jf "_law_hands_many" .local := by nofun
theorem wl : LK jf "_law_k" .local := by nofun
theorem wK : LK jf "_law_lines" .local := by nofun
theorem j2 : LK jf "_law_many" .cell := by nofun
theorem vb : LK jf "_law_most" .local := by nofun
theorem J3 : LK jf "_law_onward" .cell := by nofun
theorem jd : LK jf "_law_pot_here" .cell := by nofun
theorem Zk : LK jf "_law_table" .globalImplicit := by nofun
theorem yr : LK jf "_law_table_here" .local := by nofun
theorem zF : LK jf "_law_way" .local := by nofun
theorem WS : LK jf "int" .globalImplicit := by nofun
theorem WI : LK jf "len" .globalImplicit := by nofun
theorem wd : LK jf "range" .globalImplicit := by nofun
theorem ww : LK jf "tuple" .globalImplicit := by nofun
theorem jw : FnScope ["_law_pot_here", "_law_boards", "_law_count", "_law_k", "_law_table_here", "_law_hands", "_law_hands_many", "_law_most", "_law_way", "_law_many", "_law_onward", "_law_lines", "_law_begins"] ["_law_pot_here"] (defScope jf) := ⟨rfl, rfl, rfl, by nofun, rfl, by nofun, by nofun⟩
theorem jaM (T : Txt K mg) : L2.Binds K T.wu ["_law_pot_here"] [] := T.v8.binds (ps := ["_law_pot_here"]) fun _ _ _ _ _ _ us hl => le1 (fun _ => rfl) us hl
theorem jaQ (T : Txt K mg) : FnOk P w K mg base CX0 3 T.wO T.wu ["_law_pot_here"] (spOf K 1 yF) := by
 have jk := Zm (P := P) (w := w) (base := base) T
 have jl := Zj T
 have jca := jbN (P := P) (w := w) (base := base) T
 have jbU := jbC T
 have jbs := jaY (P := P) (w := w) (base := base) T
 have jbM := jbe T
 have q : FnOk P w K mg base CX0 (2 + 1) T.wO T.wu ["_law_pot_here"] (spOf K 1 (runDef 13 v6)) := by
  refine QgY (k := 2) (N := ["_law_pot_here", "_law_boards", "_law_count", "_law_k", "_law_table_here", "_law_hands", "_law_hands_many", "_law_most", "_law_way", "_law_many", "_law_onward", "_law_lines", "_law_begins"]) (body := v6) T.v8 jw rfl rfl (fun cdv A outer s H E hr => ?_)
  exact (@QeH _ _ _ _ _ (@QgT _ _ _ _ _ _ QgN 1 jw.nd rfl _ yR _ (@Qei _ _ _ (@Qeh _ _ _ _ Qee)) (by decide) (by rfl))
  (@QeH _ _ _ _ _ (@QgT _ _ _ _ _ _ QgN 2 jw.nd rfl _ yk _ (@Qen _ _ _ _ _ _ (@Qeh _ _ _ _ (Qef Qdi (Qef Qdi (Qef Qdi (Qef Qdi (Qef Qdi (Qef Qdi (Qef Qdi (Qef Qdi Qee))))))))) (QgW QgN jn jk (hr.mono (by decide)) T.ja T.ji.kp jl jj (Qef (QgR QgN 0 rfl jd jb) (Qef Qdi Qee)) (QgU (QgU QgV))) (fun _ _ => rfl)) (by decide) (by rfl))
  (@QeH _ _ _ _ _ (@Qe0 _ _ _ _ _ _ _ _ PassesOwn.never rfl (@QeZ _ _ _ _ _ _ (QgN.glo _ wd) T.jE (QgR QgN 2 rfl yk JR) (by rfl)) (@QgS _ _ _ _ QgN 3 jw.nd rfl .local wl (by decide))
   (@QeH _ _ _ _ _ (@QgT _ _ _ _ _ _ QgN 4 jw.nd rfl _ yr _ (QgW QgN Zk jbs (hr.mono (by decide)) T.yD T.Jb.kp jbM ja2 (Qef (QgR QgN 0 rfl jd jb) (Qef (@Qen _ _ _ _ _ _ (@Qeh _ _ _ _ (Qef Qdi (Qef Qdi (Qef Qdi (Qef Qdi (Qef Qdi Qee)))))) (QgR QgN 2 rfl yk JR) (fun _ _ => rfl)) Qee)) (QgU (QgU QgV))) (by decide) (by rfl))
   (@QeH _ _ _ _ _ (@QeK _ _ _ _ (@QfE _ _ _ _ _ _ _ (QgR QgN 1 rfl yR yU) (@Qeg _ _ _ _ _ (Qef (QgR QgN 4 rfl yr zk) (Qef (QgW QgN jn jk (hr.mono (by decide)) T.ja T.ji.kp jl jj (Qef (QgR QgN 0 rfl jd jb) (Qef (@Qe7 _ _ _ _ _ _ _ _ (@Qfd _) (QgN.glo _ WI) T.j5 ye (QgR QgN 4 rfl yr zk) (by decide) (by decide) (by rfl)) Qee)) (QgU (QgU QgV))) Qee))) (by rfl) (by rfl) (by rfl) (by rfl) (by rfl)) (by rfl))
   QeG)) (by intros; rfl))
  (@QeH _ _ _ _ _ (@QgT _ _ _ _ _ _ QgN 5 jw.nd rfl _ jR _ (@Qei _ _ _ (@Qeh _ _ _ _ Qee)) (by decide) (by rfl))
  (@QeH _ _ _ _ _ (@QgT _ _ _ _ _ _ QgN 6 jw.nd rfl _ ym _ (@Qdn _ _ _ _ _ _ _ _ (@QfF _) Qdi (@Qe8 _ _ _ _ _ _ _ _ (@Qfe _) (QgN.glo _ WS) T.ZQ jcm (Qdo (QfC (QgX hr)) (QgW QgN jn jk (hr.mono (by decide)) T.ja T.ji.kp jl jj (Qef (QgR QgN 0 rfl jd jb) (Qef Qdi Qee)) (QgU (QgU QgV))) Qdi (Qbr _)) (by decide) (by decide) (by rfl))) (by decide) (by rfl))
  (@QeH _ _ _ _ _ (@QgT _ _ _ _ _ _ QgN 7 jw.nd rfl _ vb _ (Qem (QgX hr) (@Qen _ _ _ _ _ _ (@Qeh _ _ _ _ (Qef (@Qei _ _ _ (@Qeh _ _ _ _ (Qef Qdi (Qef Qdi (Qef Qdi (Qef Qdi (Qef Qdi Qee))))))) (Qef (@Qei _ _ _ (@Qeh _ _ _ _ (Qef Qdi (Qef Qdi (Qef Qdi (Qef Qdi (Qef Qdi Qee))))))) Qee))) (@Qdn _ _ _ _ _ _ _ _ (@Qd6 _) (QgR QgN 6 rfl ym Jx) Qdi) (fun _ _ => rfl)) (QgR QgN 2 rfl yk JR) (fun _ _ => rfl)) (by decide) (by rfl))
  (@QeH _ _ _ _ _ (@QgT _ _ _ _ _ _ QgN 8 jw.nd rfl _ zF _ (QgW QgN jn jk (hr.mono (by decide)) T.ja T.ji.kp jl jj (Qef (QgR QgN 0 rfl jd jb) (Qef Qdi Qee)) (QgU (QgU QgV))) (by decide) (by rfl))
  (@QeH _ _ _ _ _ (@Qe0 _ _ _ _ _ _ _ _ PassesOwn.never rfl (@QeZ _ _ _ _ _ _ (QgN.glo _ wd) T.jE (QgR QgN 6 rfl ym Jx) (by rfl)) (@QgS _ _ _ _ QgN 3 jw.nd rfl .local wl (by decide))
   (@QeH _ _ _ _ _ (@QgT _ _ _ _ _ _ QgN 9 jw.nd rfl _ j2 _ (@Qdn _ _ _ _ _ _ _ _ (@QfF _) Qdi (QgW QgN jn jk (hr.mono (by decide)) T.ja T.ji.kp jl jj (Qef (QgR QgN 0 rfl jd jb) (Qef (QgR QgN 7 rfl vb Wz) Qee)) (QgU (QgU QgV)))) (by decide) (by rfl))
   (@QeH _ _ _ _ _ (@QgT _ _ _ _ _ _ QgN 10 jw.nd rfl _ J3 _ (@Qez _ _ _ _ _ _ _ (Qdo Qeb (QgR QgN 8 rfl zF W8) Qdi (Qbr _)) (Qex (@Qey _ _ _ _ _ _ _ (Qdo (QfC (QgX hr)) (QgR QgN 8 rfl zF W8) Qdi (Qbr _)) (Qex (Qdo (@Qec _) (QgR QgN 3 rfl wl z7) Qdi (Qbr _)))))) (by decide) (by rfl))
   (@QeH _ _ _ _ _ (@QgT _ _ _ _ _ _ QgN 11 jw.nd rfl _ wK _ (@Qfa _ _ _ _ _ _ _ _ (@Qfg _) (QgN.glo _ ww) T.ju jv (@Qe5 _ _ _ _ _ _ _ _ _ _ _ _ _ _ rfl (@QgP _ _ _ QgN (by nofun)) (@QgQ _ ["_law_pot_here", "_law_boards", "_law_count", "_law_k", "_law_table_here", "_law_hands", "_law_hands_many", "_law_most", "_law_way", "_law_many", "_law_onward", "_law_lines", "_law_begins"] _ ["_law_at_here", "_law_pot_here", "_law_boards", "_law_many", "_law_onward"] 1 [0, 1, 9, 10] rfl (by nofun)) (@QeZ _ _ _ _ _ _ (QgN.glo _ wd) T.jE (QgR QgN 9 rfl j2 jg) (by rfl)) (fun _ _ _ => ⟨(@QgS _ _ _ _ (QgO (rfl)) 0 (show List.Nodup (["_law_at_here", "_law_pot_here", "_law_boards", "_law_many", "_law_onward"] : List Str) by nofun) rfl .local (by nofun) (by decide)), (@Qe2 _), (QgW (QgO (rfl)) (by nofun) jca (hr.mono (by decide)) T.yz T.JL.kp jbU jbz (Qef (QgR (k := .free) (QgO (rfl)) 1 rfl (by nofun) jb) (Qef (QgR (k := .free) (QgO (rfl)) 2 rfl (by nofun) yU) (Qef (QgR (k := .free) (QgO (rfl)) 3 rfl (by nofun) jg) (Qef (QgR (k := .local) (QgO (rfl)) 0 rfl (by nofun) zm) (Qef (QgR (k := .free) (QgO (rfl)) 4 rfl (by nofun) Ju) Qee))))) (QgU (QgU (QgU (QgU (QgU QgV))))))⟩) (by intros; rfl)) (by decide) (by decide) (by rfl)) (by decide) (by rfl))
   (@QeH _ _ _ _ _ (@QgT _ _ _ _ _ _ QgN 12 jw.nd rfl _ yS _ (@Qeg _ _ _ _ _ (Qef Qdi (Qef (QgW QgN jn jk (hr.mono (by decide)) T.ja T.ji.kp jl jj (Qef (QgR QgN 0 rfl jd jb) (Qef (QgR QgN 9 rfl j2 jg) Qee)) (QgU (QgU QgV))) Qee))) (by decide) (by rfl))
   (@QeH _ _ _ _ _ (@QeL _ _ _ _ _ _ _ (@Qer _ _ _ _ _ _ _ _ (QfC (QgX hr)) (QgW QgN jn jk (hr.mono (by decide)) T.ja T.ji.kp jl jj (Qef (QgR QgN 0 rfl jd jb) (Qef Qdi Qee)) (QgU (QgU QgV))) Qdi (Qbr _))
    (@QeH _ _ _ _ _ (@QgT _ _ _ _ _ _ QgN 12 jw.nd rfl _ yS _ (@Qeg _ _ _ _ _ (Qef (QgW QgN jn jk (hr.mono (by decide)) T.ja T.ji.kp jl jj (Qef (QgR QgN 0 rfl jd jb) (Qef (QgR QgN 9 rfl j2 jg) Qee)) (QgU (QgU QgV))) (Qef (QgW QgN jn jk (hr.mono (by decide)) T.ja T.ji.kp jl jj (Qef (QgR QgN 0 rfl jd jb) (Qef (QgR QgN 9 rfl j2 jg) Qee)) (QgU (QgU QgV))) Qee))) (by decide) (by rfl))
    QeG) _
    QeG)
   (@QeH _ _ _ _ _ (@QeK _ _ _ _ (@QfE _ _ _ _ _ _ _ (QgR QgN 5 rfl jR vM) (@Qeg _ _ _ _ _ (Qef (QgR QgN 12 rfl yS jan) (Qef (QgR QgN 11 rfl wK vf) Qee))) (by rfl) (by rfl) (by rfl) (by rfl) (by rfl)) (by rfl))
   QeG)))))) (by intros; rfl))
  (@QeH _ _ _ _ _ (@QeL _ _ _ _ _ _ _ (@Qer _ _ _ _ _ _ _ _ (QfC (QgX hr)) (QgW QgN jn jk (hr.mono (by decide)) T.ja T.ji.kp jl jj (Qef (QgR QgN 0 rfl jd jb) (Qef Qdi Qee)) (QgU (QgU QgV))) Qdi (Qbr _))
   (@QeH _ _ _ _ _ (@QeP _ _ _ _ _ _ (Qem (QgX hr) (QgR QgN 5 rfl jR vM) Qdi (fun _ _ => rfl)) (@QeR _ _ _ _ _ _ (QgX hr) (QgR QgN 5 rfl jR vM) (@QfZ _ _ _ _ _ _ (@QfY _) Qdi) (by intros; rfl)) (by rfl) (by rfl) (by rfl))
   QeG) _
   QeG)
  (@QeH _ _ _ _ _ (@QeJ _ _ _ _ (@Qeg _ _ _ _ _ (Qef (@Qe8 _ _ _ _ _ _ _ _ (@Qff _) (QgN.glo _ ww) T.ju jv (QgR QgN 1 rfl yR yU) (by decide) (by decide) (by rfl)) (Qef (@Qe8 _ _ _ _ _ _ _ _ (@Qff _) (QgN.glo _ ww) T.ju jv (QgR QgN 5 rfl jR vM) (by decide) (by decide) (by rfl)) Qee))))
  QeG))))))))))
 unfold yF
 exact q
theorem jP : LK jT "_law_found" .local := by nofun
theorem Zn : LK jT "_law_hand" .local := by nofun
theorem vX : LK jT "_law_house_here" .local := by nofun
theorem ZN : LK jT "sorted" .globalImplicit := by nofun
theorem w9 : FnScope ["_law_house_here", "_law_found", "_law_hand"] ["_law_house_here"] (defScope jT) := ⟨rfl, rfl, rfl, by nofun, rfl, by nofun, by nofun⟩
theorem jaE (T : Txt K mg) : L2.Binds K T.zP ["_law_house_here"] [] := T.vw.binds (ps := ["_law_house_here"]) fun _ _ _ _ _ _ us hl => le1 (fun _ => rfl) us hl
theorem jap (T : Txt K mg) : FnOk P w K mg base CX0 1 T.z9 T.zP ["_law_house_here"] (spOf K 1 yp) := by
 have q : FnOk P w K mg base CX0 (0 + 1) T.z9 T.zP ["_law_house_here"] (spOf K 1 (runDef 3 vg)) := by
  refine QgY (k := 0) (N := ["_law_house_here", "_law_found", "_law_hand"]) (body := vg) T.vw w9 rfl rfl (fun cdv A outer s H E hr => ?_)
  exact (@QeH _ _ _ _ _ (@QgT _ _ _ _ _ _ QgN 1 w9.nd rfl _ jP _ (@Qei _ _ _ (@Qeh _ _ _ _ (Qef (@Qeg _ _ _ _ _ Qee) Qee))) (by decide) (by rfl))
  (@QeH _ _ _ _ _ (@Qe0 _ _ _ _ _ _ _ _ PassesOwn.never rfl (@QeX _ _ _ _ (Qem (QgX hr) (QgR QgN 0 rfl vX jc) Qdi (fun _ _ => rfl))) (@QgS _ _ _ _ QgN 2 w9.nd rfl .local Zn (by decide))
   (@QeH _ _ _ _ _ (@QgT _ _ _ _ _ _ QgN 1 w9.nd rfl _ jP _ (@Qdn _ _ _ _ _ _ _ _ (@QfF _) (@Qei _ _ _ (@Qe5 _ _ _ _ _ _ _ _ _ _ _ _ _ _ rfl (@QgP _ _ _ QgN (by nofun)) (@QgQ _ ["_law_house_here", "_law_found", "_law_hand"] _ ["_law_some"] 1 [] rfl (by nofun)) (@QeX _ _ _ _ (QgR QgN 1 rfl jP jh)) (fun _ _ _ => ⟨(@QgS _ _ _ _ (QgO (rfl)) 0 (show List.Nodup (["_law_some"] : List Str) by nofun) rfl .local (by nofun) (by decide)), (@Qe2 _), (@Qdn _ _ _ _ _ _ _ _ (@QfF _) (QgR (k := .local) (QgO (rfl)) 0 rfl (by nofun) WA) (@Qeg _ _ _ _ _ (Qef Qdi Qee)))⟩) (by intros; rfl))) (@Qei _ _ _ (@Qe5 _ _ _ _ _ _ _ _ _ _ _ _ _ _ rfl (@QgP _ _ _ QgN (by nofun)) (@QgQ _ ["_law_house_here", "_law_found", "_law_hand"] _ ["_law_some"] 1 [] rfl (by nofun)) (@QeX _ _ _ _ (QgR QgN 1 rfl jP jh)) (fun _ _ _ => ⟨(@QgS _ _ _ _ (QgO (rfl)) 0 (show List.Nodup (["_law_some"] : List Str) by nofun) rfl .local (by nofun) (by decide)), (@Qe2 _), (@Qdn _ _ _ _ _ _ _ _ (@QfF _) (QgR (k := .local) (QgO (rfl)) 0 rfl (by nofun) WA) (@Qeg _ _ _ _ _ (Qef Qdi Qee)))⟩) (by intros; rfl)))) (by decide) (by rfl))
   QeG) (by intros; rfl))
  (@QeH _ _ _ _ _ (@QeJ _ _ _ _ (@Qe7 _ _ _ _ _ _ _ _ (@Qgi _) (QgN.glo _ ZN) T.vV jco (QgR QgN 1 rfl jP jh) (by decide) (by decide) (by rfl)))
  QeG)))
 unfold yp
 exact q
theorem Ji : LK jK "_law_house_here" .cell := by nofun
theorem vU : LK jK "_law_inputs_here" .cell := by nofun
theorem y9 : LK jK "_law_lines" .local := by nofun
theorem WH : LK jK "len" .globalImplicit := by nofun
theorem Z0 : LK jK "range" .globalImplicit := by nofun
theorem Jh : LK jK "tuple" .globalImplicit := by nofun
theorem Z3 : FnScope ["_law_house_here", "_law_inputs_here", "_law_lines"] ["_law_house_here", "_law_inputs_here"] (defScope jK) := ⟨rfl, rfl, rfl, by nofun, rfl, by nofun, by nofun⟩
theorem jaR (T : Txt K mg) : L2.Binds K T.wx ["_law_house_here", "_law_inputs_here"] [] := T.v9.binds (ps := ["_law_house_here", "_law_inputs_here"]) fun _ _ _ _ _ _ us hl => le2 (fun _ _ => rfl) us hl
theorem jbg (T : Txt K mg) : FnOk P w K mg base CX0 1 T.wV T.wx ["_law_house_here", "_law_inputs_here"] (spOf K 2 yE) := by
 have q : FnOk P w K mg base CX0 (0 + 1) T.wV T.wx ["_law_house_here", "_law_inputs_here"] (spOf K 2 (runDef 3 Je)) := by
  refine QgY (k := 0) (N := ["_law_house_here", "_law_inputs_here", "_law_lines"]) (body := Je) T.v9 Z3 rfl rfl (fun cdv A outer s H E hr => ?_)
  exact (@QeH _ _ _ _ _ (@Qe6 _ _ _ _ _ _ _ _ _ _ _ 2 _ _ _ _ _ _ Z3.nd rfl (QgN.loc _ _ y9 (by decide)).1 (QgN.loc _ _ y9 (by decide)).2 rfl (@QgP _ _ _ QgN (by nofun)) (@QgQ _ ["_law_house_here", "_law_inputs_here", "_law_lines"] _ ["_law_k", "_law_house_here", "_law_inputs_here"] 1 [0, 1] rfl (by nofun)) (@QeZ _ _ _ _ _ _ (QgN.glo _ Z0) T.jE (@Qe7 _ _ _ _ _ _ _ _ (@Qfd _) (QgN.glo _ WH) T.j5 ye (QgR QgN 1 rfl vU wr) (by decide) (by decide) (by rfl)) (by rfl)) (fun _ _ _ => ⟨(@QgS _ _ _ _ (QgO (rfl)) 0 (show List.Nodup (["_law_k", "_law_house_here", "_law_inputs_here"] : List Str) by nofun) rfl .local (by nofun) (by decide)), (@Qe2 _), (Qem (QgX hr) (Qem (QgX hr) (Qem (QgX hr) (Qem (QgX hr) (QgR (k := .free) (QgO (rfl)) 1 rfl (by nofun) jc) Qdi (fun _ _ => rfl)) (QgR (k := .local) (QgO (rfl)) 0 rfl (by nofun) z7) (fun _ _ => rfl)) Qdi (fun _ _ => rfl)) (Qem (QgX hr) (QgR (k := .free) (QgO (rfl)) 2 rfl (by nofun) wr) (QgR (k := .local) (QgO (rfl)) 0 rfl (by nofun) z7) (fun _ _ => rfl)) (fun _ _ => rfl))⟩) (by rfl) (by intros; rfl))
  (@QeH _ _ _ _ _ (@QeJ _ _ _ _ (@Qeg _ _ _ _ _ (Qef (@Qe8 _ _ _ _ _ _ _ _ (@Qff _) (QgN.glo _ Jh) T.ju jv (QgR QgN 2 rfl y9 vf) (by decide) (by decide) (by rfl)) (Qef (@Qfa _ _ _ _ _ _ _ _ (@Qfg _) (QgN.glo _ Jh) T.ju jv (@Qe5 _ _ _ _ _ _ _ _ _ _ _ _ _ _ rfl (@QgP _ _ _ QgN (by nofun)) (@QgQ _ ["_law_house_here", "_law_inputs_here", "_law_lines"] _ ["_law_board"] 1 [] rfl (by nofun)) (@QeX _ _ _ _ (Qem (QgX hr) (QgR QgN 0 rfl Ji jc) Qdi (fun _ _ => rfl))) (fun _ _ _ => ⟨(@QgS _ _ _ _ (QgO (rfl)) 0 (show List.Nodup (["_law_board"] : List Str) by nofun) rfl .local (by nofun) (by decide)), (@Qe2 _), (Qem (QgX hr) (QgR (k := .local) (QgO (rfl)) 0 rfl (by nofun) jaP) Qdi (fun _ _ => rfl))⟩) (by intros; rfl)) (by decide) (by decide) (by rfl)) Qee))))
  QeG))
 unfold yE
 exact q
theorem Jr : LK zB "_law_hand" .local := by nofun
theorem JX : LK zB "_law_house_here" .local := by nofun
theorem ZT : LK zB "_law_stand" .local := by nofun
theorem jcg : FnScope ["_law_house_here", "_law_stand", "_law_hand"] ["_law_house_here", "_law_stand", "_law_hand"] (defScope zB) := ⟨rfl, rfl, rfl, by nofun, rfl, by nofun, by nofun⟩
theorem jam (T : Txt K mg) : L2.Binds K T.Jt ["_law_house_here", "_law_stand", "_law_hand"] [] := T.JY.binds (ps := ["_law_house_here", "_law_stand", "_law_hand"]) fun _ _ _ _ _ _ us hl => le3 (fun _ _ _ => rfl) us hl
theorem jal (T : Txt K mg) : FnOk P w K mg base CX0 1 T.JN T.Jt ["_law_house_here", "_law_stand", "_law_hand"] (spOf K 3 yu) := by
 have q : FnOk P w K mg base CX0 (0 + 1) T.JN T.Jt ["_law_house_here", "_law_stand", "_law_hand"] (spOf K 3 (runDef 3 ZP)) := by
  refine QgY (k := 0) (N := ["_law_house_here", "_law_stand", "_law_hand"]) (body := ZP) T.JY jcg rfl rfl (fun cdv A outer s H E hr => ?_)
  exact (@QeH _ _ _ _ _ (@QeJ _ _ _ _ (Qem (QgX hr) (Qem (QgX hr) (Qem (QgX hr) (Qem (QgX hr) (QgR QgN 0 rfl JX jc) Qdi (fun _ _ => rfl)) (QgR QgN 2 rfl Jr wH) (fun _ _ => rfl)) Qdi (fun _ _ => rfl)) (Qem (QgX hr) (Qem (QgX hr) (QgR QgN 1 rfl ZT jG) Qdi (fun _ _ => rfl)) (QgR QgN 2 rfl Jr wH) (fun _ _ => rfl)) (fun _ _ => rfl)))
  QeG)
 unfold yu
 exact q
theorem wC : LK jp "_law_after" .local := by nofun
theorem ZJ : LK jp "_law_at" .globalImplicit := by nofun
theorem yM : LK jp "_law_b" .local := by nofun
theorem wY : LK jp "_law_hand" .local := by nofun
theorem zl : LK jp "_law_house_here" .local := by nofun
theorem jD : LK jp "_law_line_here" .local := by nofun
theorem yT : LK jp "_law_lines" .local := by nofun
theorem yd : LK jp "_law_stand" .local := by nofun
theorem yc : LK jp "_law_states" .local := by nofun
theorem z0 : LK jp "_law_told_so" .local := by nofun
theorem Jn : LK jp "list" .globalImplicit := by nofun
theorem vS : LK jp "tuple" .globalImplicit := by nofun
theorem yv : FnScope ["_law_house_here", "_law_stand", "_law_hand", "_law_line_here", "_law_lines", "_law_states", "_law_b", "_law_after", "_law_told_so"] ["_law_house_here", "_law_stand", "_law_hand"] (defScope jp) := ⟨rfl, rfl, rfl, by nofun, rfl, by nofun, by nofun⟩
theorem jaG (T : Txt K mg) : L2.Binds K T.zM ["_law_house_here", "_law_stand", "_law_hand"] [] := T.vn.binds (ps := ["_law_house_here", "_law_stand", "_law_hand"]) fun _ _ _ _ _ _ us hl => le3 (fun _ _ _ => rfl) us hl
theorem jaC (T : Txt K mg) : FnOk P w K mg base CX0 2 T.wj T.zM ["_law_house_here", "_law_stand", "_law_hand"] (spOf K 3 j9) := by
 have WM := jal (P := P) (w := w) (base := base) T
 have WT := jam T
 have q : FnOk P w K mg base CX0 (1 + 1) T.wj T.zM ["_law_house_here", "_law_stand", "_law_hand"] (spOf K 3 (runDef 9 wa)) := by
  refine QgY (k := 1) (N := ["_law_house_here", "_law_stand", "_law_hand", "_law_line_here", "_law_lines", "_law_states", "_law_b", "_law_after", "_law_told_so"]) (body := wa) T.vn yv rfl rfl (fun cdv A outer s H E hr => ?_)
  exact (@QeH _ _ _ _ _ (@QgT _ _ _ _ _ _ QgN 3 yv.nd rfl _ jD _ (QgW QgN ZJ WM (hr.mono (by decide)) T.yu T.JY.kp WT jak (Qef (QgR QgN 0 rfl zl jc) (Qef (QgR QgN 1 rfl yd jG) (Qef (QgR QgN 2 rfl wY wH) Qee))) (QgU (QgU (QgU QgV)))) (by decide) (by rfl))
  (@QeH _ _ _ _ _ (@QeL _ _ _ _ _ _ _ (@Qer _ _ _ _ _ _ _ _ (QfC (QgX hr)) (Qem (QgX hr) (QgR QgN 3 rfl jD zE) Qdi (fun _ _ => rfl)) Qdl (Qbr _))
   (@QeH _ _ _ _ _ (@QeJ _ _ _ _ (QgR QgN 1 rfl yd jG))
   QeG) _
   QeG)
  (@QeH _ _ _ _ _ (@QgT _ _ _ _ _ _ QgN 4 yv.nd rfl _ yT _ (@Qe8 _ _ _ _ _ _ _ _ (@Qf1 _) (QgN.glo _ Jn) T.vz Wf (Qem (QgX hr) (QgR QgN 1 rfl yd jG) Qdi (fun _ _ => rfl)) (by decide) (by decide) (by rfl)) (by decide) (by rfl))
  (@QeH _ _ _ _ _ (@QgT _ _ _ _ _ _ QgN 5 yv.nd rfl _ yc _ (@Qe8 _ _ _ _ _ _ _ _ (@Qf1 _) (QgN.glo _ Jn) T.vz Wf (Qem (QgX hr) (QgR QgN 1 rfl yd jG) Qdi (fun _ _ => rfl)) (by decide) (by decide) (by rfl)) (by decide) (by rfl))
  (@QeH _ _ _ _ _ (@QgT _ _ _ _ _ _ QgN 6 yv.nd rfl _ yM _ (Qem (QgX hr) (QgR QgN 3 rfl jD zE) Qdi (fun _ _ => rfl)) (by decide) (by rfl))
  (@QeH _ _ _ _ _ (@QeP _ _ _ _ _ _ (Qem (QgX hr) (Qem (QgX hr) (Qem (QgX hr) (Qem (QgX hr) (Qem (QgX hr) (QgR QgN 0 rfl zl jc) Qdi (fun _ _ => rfl)) (QgR QgN 6 rfl yM JU) (fun _ _ => rfl)) Qdi (fun _ _ => rfl)) (Qem (QgX hr) (QgR QgN 5 rfl yc Jv) (QgR QgN 6 rfl yM JU) (fun _ _ => rfl)) (fun _ _ => rfl)) (Qem (QgX hr) (QgR QgN 3 rfl jD zE) Qdi (fun _ _ => rfl)) (fun _ _ => rfl)) (@QeF _ _ _ _ _ _ rfl (@QeE _ _ _ _ _ (@QgS _ _ _ _ QgN 7 yv.nd rfl .local wC (by decide)) (@QeE _ _ _ _ _ (@QgS _ _ _ _ QgN 8 yv.nd rfl .local z0 (by decide)) (@QeD _) (by rfl)) (by rfl)) (by rfl) (by rfl)) (by rfl) (by rfl) (by rfl))
  (@QeH _ _ _ _ _ (@QeP _ _ _ _ _ _ (Qem (QgX hr) (Qem (QgX hr) (QgR QgN 3 rfl jD zE) Qdi (fun _ _ => rfl)) (QgR QgN 8 rfl z0 jaj) (fun _ _ => rfl)) (@QeR _ _ _ _ _ _ (QgX hr) (QgR QgN 4 rfl yT vf) (QgR QgN 2 rfl wY wH) (by intros; rfl)) (by rfl) (by rfl) (by rfl))
  (@QeH _ _ _ _ _ (@QeP _ _ _ _ _ _ (QgR QgN 7 rfl wC jbc) (@QeR _ _ _ _ _ _ (QgX hr) (QgR QgN 5 rfl yc Jv) (QgR QgN 6 rfl yM JU) (by intros; rfl)) (by rfl) (by rfl) (by rfl))
  (@QeH _ _ _ _ _ (@QeJ _ _ _ _ (@Qeg _ _ _ _ _ (Qef (@Qe8 _ _ _ _ _ _ _ _ (@Qff _) (QgN.glo _ vS) T.ju jv (QgR QgN 4 rfl yT vf) (by decide) (by decide) (by rfl)) (Qef (@Qe8 _ _ _ _ _ _ _ _ (@Qff _) (QgN.glo _ vS) T.ju jv (QgR QgN 5 rfl yc Jv) (by decide) (by decide) (by rfl)) Qee))))
  QeG)))))))))
 unfold j9
 exact q
theorem Z6 : LK jN "_law_at" .globalImplicit := by nofun
theorem zt : LK jN "_law_found" .local := by nofun
theorem zL : LK jN "_law_house_here" .local := by nofun
theorem wF : LK jN "_law_k" .local := by nofun
theorem Zz : LK jN "_law_stand" .local := by nofun
theorem W4 : LK jN "len" .globalImplicit := by nofun
theorem Wq : LK jN "range" .globalImplicit := by nofun
theorem Zf : FnScope ["_law_house_here", "_law_stand", "_law_found", "_law_k"] ["_law_house_here", "_law_stand"] (defScope jN) := ⟨rfl, rfl, rfl, by nofun, rfl, by nofun, by nofun⟩
theorem jbP (T : Txt K mg) : L2.Binds K T.wL ["_law_house_here", "_law_stand"] [] := T.JE.binds (ps := ["_law_house_here", "_law_stand"]) fun _ _ _ _ _ _ us hl => le2 (fun _ _ => rfl) us hl
theorem jbH (T : Txt K mg) : FnOk P w K mg base CX0 2 T.vK T.wL ["_law_house_here", "_law_stand"] (spOf K 2 yX) := by
 have WM := jal (P := P) (w := w) (base := base) T
 have WT := jam T
 have q : FnOk P w K mg base CX0 (1 + 1) T.vK T.wL ["_law_house_here", "_law_stand"] (spOf K 2 (runDef 4 JD)) := by
  refine QgY (k := 1) (N := ["_law_house_here", "_law_stand", "_law_found", "_law_k"]) (body := JD) T.JE Zf rfl rfl (fun cdv A outer s H E hr => ?_)
  exact (@QeH _ _ _ _ _ (@QgT _ _ _ _ _ _ QgN 2 Zf.nd rfl _ zt _ (@Qei _ _ _ (@Qeh _ _ _ _ Qee)) (by decide) (by rfl))
  (@QeH _ _ _ _ _ (@Qe0 _ _ _ _ _ _ _ _ PassesOwn.never rfl (@QeZ _ _ _ _ _ _ (QgN.glo _ Wq) T.jE (@Qe7 _ _ _ _ _ _ _ _ (@Qfd _) (QgN.glo _ W4) T.j5 ye (Qem (QgX hr) (QgR QgN 0 rfl zL jc) Qdi (fun _ _ => rfl)) (by decide) (by decide) (by rfl)) (by rfl)) (@QgS _ _ _ _ QgN 3 Zf.nd rfl .local wF (by decide))
   (@QeH _ _ _ _ _ (@QeL _ _ _ _ _ _ _ (@Qer _ _ _ _ _ _ _ _ (QfC (QgX hr)) (Qem (QgX hr) (QgW QgN Z6 WM (hr.mono (by decide)) T.yu T.JY.kp WT jak (Qef (QgR QgN 0 rfl zL jc) (Qef (QgR QgN 1 rfl Zz jG) (Qef (QgR QgN 3 rfl wF z7) Qee))) (QgU (QgU (QgU QgV)))) Qdi (fun _ _ => rfl)) Qdl (Qbr _))
    (@QeH _ _ _ _ _ (@QeK _ _ _ _ (@QfE _ _ _ _ _ _ _ (QgR QgN 2 rfl zt jh) (QgR QgN 3 rfl wF z7) (by rfl) (by rfl) (by rfl) (by rfl) (by rfl)) (by rfl))
    QeG) _
    QeG)
   QeG) (by intros; rfl))
  (@QeH _ _ _ _ _ (@QeJ _ _ _ _ (QgR QgN 2 rfl zt jh))
  QeG)))
 unfold yX
 exact q
theorem jz : LK jo "_law_at_here" .local := by nofun
theorem J2 : LK jo "_law_begin" .globalImplicit := by nofun
theorem JT : LK jo "_law_behind" .globalImplicit := by nofun
theorem jy : LK jo "_law_found" .local := by nofun
theorem Zo : LK jo "_law_free" .globalImplicit := by nofun
theorem wR : LK jo "_law_hand" .local := by nofun
theorem jM : LK jo "_law_house_here" .local := by nofun
theorem JW : LK jo "_law_inputs" .globalImplicit := by nofun
theorem zi : LK jo "_law_inputs_here" .local := by nofun
theorem jX : LK jo "_law_met" .local := by nofun
theorem jr : LK jo "_law_stand" .local := by nofun
theorem Wp : LK jo "len" .globalImplicit := by nofun
theorem jW : FnScope ["_law_house_here", "_law_found", "_law_met", "_law_inputs_here", "_law_stand", "_law_at_here", "_law_hand"] ["_law_house_here"] (defScope jo) := ⟨rfl, rfl, rfl, by nofun, rfl, by nofun, by nofun⟩
theorem jaz (T : Txt K mg) : L2.Binds K T.zR ["_law_house_here"] [] := T.vt.binds (ps := ["_law_house_here"]) fun _ _ _ _ _ _ us hl => le1 (fun _ => rfl) us hl
theorem jaB (T : Txt K mg) : FnOk P w K mg base CX0 3 T.wc T.zR ["_law_house_here"] (spOf K 1 yl) := by
 have jbQ := jbg (P := P) (w := w) (base := base) T
 have jbJ := jaR T
 have ja7 := jaC (P := P) (w := w) (base := base) T
 have ja1 := jaG T
 have jb6 := jbH (P := P) (w := w) (base := base) T
 have jbT := jbP T
 have jbk := jap (P := P) (w := w) (base := base) T
 have jaS := jaE T
 have q : FnOk P w K mg base CX0 (2 + 1) T.wc T.zR ["_law_house_here"] (spOf K 1 (runDef 7 vL)) := by
  refine QgY (k := 2) (N := ["_law_house_here", "_law_found", "_law_met", "_law_inputs_here", "_law_stand", "_law_at_here", "_law_hand"]) (body := vL) T.vt jW rfl rfl (fun cdv A outer s H E hr => ?_)
  exact (@QeH _ _ _ _ _ (@QgT _ _ _ _ _ _ QgN 1 jW.nd rfl _ jy _ (@Qei _ _ _ (@Qeh _ _ _ _ Qee)) (by decide) (by rfl))
  (@QeH _ _ _ _ _ (@QgT _ _ _ _ _ _ QgN 2 jW.nd rfl _ jX _ (@Qgy _ _) (by decide) (by rfl))
  (@QeH _ _ _ _ _ (@Qe0 _ _ _ _ _ _ _ _ PassesOwn.never rfl (@QeX _ _ _ _ (QgW QgN JW jbk (hr.mono (by decide)) T.yp T.vw.kp jaS jav (Qef (QgR QgN 0 rfl jM jc) Qee) (QgU QgV))) (@QgS _ _ _ _ QgN 3 jW.nd rfl .local zi (by decide))
   (@QeH _ _ _ _ _ (@QgT _ _ _ _ _ _ QgN 4 jW.nd rfl _ jr _ (QgW QgN J2 jbQ (hr.mono (by decide)) T.yE T.v9.kp jbJ ja6 (Qef (QgR QgN 0 rfl jM jc) (Qef (QgR QgN 3 rfl zi wr) Qee)) (QgU (QgU QgV))) (by decide) (by rfl))
   (@QeH _ _ _ _ _ (@QeL _ _ _ _ _ _ _ (@Qer _ _ _ _ _ _ _ _ (@QfX _ (QgX hr)) (QgR QgN 4 rfl jr jG) (QgR QgN 2 rfl jX JI) rfl)
    (@QeH _ _ _ _ _ (@QeP _ _ _ _ _ _ (@Qdj _ _ _ _) (@QeR _ _ _ _ _ _ (QgX hr) (QgR QgN 2 rfl jX JI) (QgR QgN 4 rfl jr jG) (by intros; rfl)) (by rfl) (by rfl) (by rfl))
    (@QeH _ _ _ _ _ (@QeK _ _ _ _ (@QfE _ _ _ _ _ _ _ (QgR QgN 1 rfl jy jh) (QgR QgN 4 rfl jr jG) (by rfl) (by rfl) (by rfl) (by rfl) (by rfl)) (by rfl))
    QeG)) _
    QeG)
   QeG)) (by intros; rfl))
  (@QeH _ _ _ _ _ (@QgT _ _ _ _ _ _ QgN 5 jW.nd rfl _ jz _ Qdi (by decide) (by rfl))
  (@QeH _ _ _ _ _ (@Qf7 _ _ _ _ _ _ PassesOwn.never (@Qer _ _ _ _ _ _ _ _ Qeb (QgR QgN 5 rfl jz zm) (@Qe7 _ _ _ _ _ _ _ _ (@Qfd _) (QgN.glo _ Wp) T.j5 ye (QgR QgN 1 rfl jy jh) (by decide) (by decide) (by rfl)) (Qbr _))
   (@QeH _ _ _ _ _ (@Qe0 _ _ _ _ _ _ _ _ PassesOwn.never rfl (@QeX _ _ _ _ (QgW QgN Zo jb6 (hr.mono (by decide)) T.yX T.JE.kp jbT jbR (Qef (QgR QgN 0 rfl jM jc) (Qef (Qem (QgX hr) (QgR QgN 1 rfl jy jh) (QgR QgN 5 rfl jz zm) (fun _ _ => rfl)) Qee)) (QgU (QgU QgV)))) (@QgS _ _ _ _ QgN 6 jW.nd rfl .local wR (by decide))
    (@QeH _ _ _ _ _ (@QgT _ _ _ _ _ _ QgN 4 jW.nd rfl _ jr _ (QgW QgN JT ja7 (hr.mono (by decide)) T.j9 T.vn.kp ja1 jaA (Qef (QgR QgN 0 rfl jM jc) (Qef (Qem (QgX hr) (QgR QgN 1 rfl jy jh) (QgR QgN 5 rfl jz zm) (fun _ _ => rfl)) (Qef (QgR QgN 6 rfl wR wH) Qee))) (QgU (QgU (QgU QgV)))) (by decide) (by rfl))
    (@QeH _ _ _ _ _ (@QeL _ _ _ _ _ _ _ (@Qer _ _ _ _ _ _ _ _ (@QfX _ (QgX hr)) (QgR QgN 4 rfl jr jG) (QgR QgN 2 rfl jX JI) rfl)
     (@QeH _ _ _ _ _ (@QeP _ _ _ _ _ _ (@Qdj _ _ _ _) (@QeR _ _ _ _ _ _ (QgX hr) (QgR QgN 2 rfl jX JI) (QgR QgN 4 rfl jr jG) (by intros; rfl)) (by rfl) (by rfl) (by rfl))
     (@QeH _ _ _ _ _ (@QeK _ _ _ _ (@QfE _ _ _ _ _ _ _ (QgR QgN 1 rfl jy jh) (QgR QgN 4 rfl jr jG) (by rfl) (by rfl) (by rfl) (by rfl) (by rfl)) (by rfl))
     QeG)) _
     QeG)
    QeG)) (by intros; rfl))
   (@QeH _ _ _ _ _ (@QgT _ _ _ _ _ _ QgN 5 jW.nd rfl _ jz _ (@Qdn _ _ _ _ _ _ _ _ (@QfF _) (QgR QgN 5 rfl jz zm) Qdi) (by decide) (by rfl))
   QeG)))
  (@QeH _ _ _ _ _ (@QeJ _ _ _ _ (QgR QgN 1 rfl jy jh))
  QeG))))))
 unfold yl
 exact q
theorem wZ : LK j4 "_law_found" .local := by nofun
theorem Wv : LK j4 "bool" .globalImplicit := by nofun
theorem WF : LK j4 "int" .globalImplicit := by nofun
theorem wD : LK j4 "isinstance" .globalImplicit := by nofun
theorem jbb : FnScope ["_law_found"] ["_law_found"] (defScope j4) := ⟨rfl, rfl, rfl, by nofun, rfl, by nofun, by nofun⟩
theorem jbp (T : Txt K mg) : L2.Binds K T.wn ["_law_found"] [] := T.Jf.binds (ps := ["_law_found"]) fun _ _ _ _ _ _ us hl => le1 (fun _ => rfl) us hl
theorem ja9 (T : Txt K mg) : FnOk P w K mg base CX0 1 T.wS T.wn ["_law_found"] (spOf K 1 jI) := by
 have q : FnOk P w K mg base CX0 (0 + 1) T.wS T.wn ["_law_found"] (spOf K 1 (runDef 1 Ja)) := by
  refine QgY (k := 0) (N := ["_law_found"]) (body := Ja) T.Jf jbb rfl rfl (fun cdv A outer s H E hr => ?_)
  exact (@QeH _ _ _ _ _ (@QeJ _ _ _ _ (@Qey _ _ _ _ _ _ _ (@Qfs _ _ _ _ _ _ _ _ Qfm (QgN.glo _ wD) T.jS (QgN.glo _ WF) T.ZQ jcm (QgR QgN 0 rfl wZ jh) zK (by decide) (by decide) (by rfl) (by rfl) (by rfl)) (Qex (@QeA _ _ _ _ (@Qfs _ _ _ _ _ _ _ _ Qfn (QgN.glo _ wD) T.jS (QgN.glo _ Wv) T.Zr jcD (QgR QgN 0 rfl wZ jh) zK (by decide) (by decide) (by rfl) (by rfl) (by rfl))))))
  QeG)
 unfold jI
 exact q
theorem J4 : LK jA "_law_due" .local := by nofun
theorem yC : LK jA "_law_found" .local := by nofun
theorem yK : LK jA "_law_part" .local := by nofun
theorem zN : LK jA "isinstance" .globalImplicit := by nofun
theorem vc : LK jA "tuple" .globalImplicit := by nofun
theorem J8 : FnScope ["_law_found", "_law_due", "_law_part"] ["_law_found", "_law_due"] (defScope jA) := ⟨rfl, rfl, rfl, by nofun, rfl, by nofun, by nofun⟩
theorem jad (T : Txt K mg) : L2.Binds K T.y0 ["_law_found", "_law_due"] [] := T.wz.binds (ps := ["_law_found", "_law_due"]) fun _ _ _ _ _ _ us hl => le2 (fun _ _ => rfl) us hl
theorem WY (T : Txt K mg) : FnOk P w K mg base CX0 2 T.zo T.y0 ["_law_found", "_law_due"] (spOf K 2 jH) := by
 have jbw := ja9 (P := P) (w := w) (base := base) T
 have jbE := jbp T
 have q : FnOk P w K mg base CX0 (1 + 1) T.zo T.y0 ["_law_found", "_law_due"] (spOf K 2 (runDef 3 wA)) := by
  refine QgY (k := 1) (N := ["_law_found", "_law_due", "_law_part"]) (body := wA) T.wz J8 rfl rfl (fun cdv A outer s H E hr => ?_)
  exact (@QeH _ _ _ _ _ (@QeL _ _ _ _ _ _ _ (L2.PW.pt (@Qev _ _ _ _ _ _ _ (@Qew _ _ _ _ (@Qeq _ _ _ (@Qfs _ _ _ _ _ _ _ _ Qfo (QgN.glo _ zN) T.jS (QgN.glo _ vc) T.ju jv (QgR QgN 0 rfl yC jh) zK (by decide) (by decide) (by rfl) (by rfl) (by rfl)) (by intros; rfl))) (@Qet _ _ _ _ (@Qer _ _ _ _ _ _ _ _ (QfD (QgX hr)) (QgR QgN 0 rfl yC jh) (QgR QgN 1 rfl J4 zC) (Qbr _)))))
   (@QeH _ _ _ _ _ (@QeJ _ _ _ _ (@Qdj _ _ _ _))
   QeG) _
   QeG)
  (@QeH _ _ _ _ _ (@Qe0 _ _ _ _ _ _ _ _ PassesOwn.never rfl (@QeX _ _ _ _ (QgR QgN 0 rfl yC jh)) (@QgS _ _ _ _ QgN 2 J8.nd rfl .local yK (by decide))
   (@QeH _ _ _ _ _ (@QeL _ _ _ _ _ _ _ (L2.PW.pt (@Qev _ _ _ _ _ _ _ (@Qew _ _ _ _ (@Qeq _ _ _ (@Qfs _ _ _ _ _ _ _ _ Qfo (QgN.glo _ zN) T.jS (QgN.glo _ vc) T.ju jv (QgR QgN 2 rfl yK Wy) zK (by decide) (by decide) (by rfl) (by rfl) (by rfl)) (by intros; rfl))) (@Qet _ _ _ _ (@Qf0 _ _ _ _ _ _ (@Qdj _ _ _ _) (@Qe5 _ _ _ _ _ _ _ _ _ _ _ _ _ _ rfl (@QgP _ _ _ QgN (by nofun)) (@QgQ _ ["_law_found", "_law_due", "_law_part"] _ ["_law_number"] 1 [] rfl (by nofun)) (@QeX _ _ _ _ (QgR QgN 2 rfl yK Wy)) (fun _ _ _ => ⟨(@QgS _ _ _ _ (QgO (rfl)) 0 (show List.Nodup (["_law_number"] : List Str) by nofun) rfl .local (by nofun) (by decide)), (@Qe2 _), (QgW (QgO (rfl)) (by nofun) jbw (hr.mono (by decide)) T.jI T.Jf.kp jbE jaW (Qef (QgR (k := .local) (QgO (rfl)) 0 rfl (by nofun) jao) Qee) (QgU QgV))⟩) (by intros; rfl)) rfl))))
    (@QeH _ _ _ _ _ (@QeJ _ _ _ _ (@Qdj _ _ _ _))
    QeG) _
    QeG)
   QeG) (by intros; rfl))
  (@QeH _ _ _ _ _ (@QeJ _ _ _ _ (@Qdj _ _ _ _))
  QeG)))
 unfold jH
 exact q
theorem WK : LK jF "answer" .globalImplicit := by nofun
theorem z6 : LK jF "board" .local := by nofun
theorem vY : LK jF "deed" .local := by nofun
theorem Zs : LK jF "goal" .local := by nofun
theorem Zv : LK jF "hand" .local := by nofun
theorem Zc : LK jF "house" .local := by nofun
theorem zn : LK jF "line" .local := by nofun
theorem Wj : LK jF "line_at" .globalImplicit := by nofun
theorem ZL : LK jF "next_state" .globalImplicit := by nofun
theorem Js : LK jF "replaced" .globalImplicit := by nofun
theorem yY : LK jF "stand" .local := by nofun
theorem vA : LK jF "state" .local := by nofun
theorem vJ : LK jF "table" .local := by nofun
theorem we : FnScope ["house", "stand", "hand", "line", "board", "deed", "table", "state", "goal"] ["house", "stand", "hand"] (defScope jF) := ⟨rfl, rfl, rfl, by nofun, rfl, by nofun, by nofun⟩
theorem jcf (T : Txt K mg) : L2.Binds K T.Jp ["house", "stand", "hand"] [] := T.ZC.binds (ps := ["house", "stand", "hand"]) fun _ _ _ _ _ _ us hl => le3 (fun _ _ _ => rfl) us hl
theorem jcb (T : Txt K mg) : FnOk P w K mg base CX0 2 T.J1 T.Jp ["house", "stand", "hand"] (spOf K 3 zc) := by
 have jct := jcj (P := P) (w := w) (base := base) T
 have jcv := jcd T
 have Z5 := W2 (P := P) (w := w) (base := base) T
 have Wa := W0 T
 have jaV := jaq (P := P) (w := w) (base := base) T
 have ja4 := jaw T
 have jaa := jbv (P := P) (w := w) (base := base) T
 have W1 := jbO T
 have q : FnOk P w K mg base CX0 (1 + 1) T.J1 T.Jp ["house", "stand", "hand"] (spOf K 3 (runDef 9 JZ)) := by
  refine QgY (k := 1) (N := ["house", "stand", "hand", "line", "board", "deed", "table", "state", "goal"]) (body := JZ) T.ZC we rfl rfl (fun cdv A outer s H E hr => ?_)
  exact (@QeH _ _ _ _ _ (@QgT _ _ _ _ _ _ QgN 3 we.nd rfl _ zn _ (QgW QgN Wj Z5 (hr.mono (by decide)) T.j0 T.Jk.kp Wa W7 (Qef (QgR QgN 0 rfl Zc jQ) (Qef (QgR QgN 1 rfl yY yJ) (Qef (QgR QgN 2 rfl Zv wB) Qee))) (QgU (QgU (QgU QgV)))) (by decide) (by rfl))
  (@QeH _ _ _ _ _ (@QeL _ _ _ _ _ _ _ (@Qer _ _ _ _ _ _ _ _ (QfC (QgX hr)) (Qem (QgX hr) (QgR QgN 3 rfl zn JM) Qdi (fun _ _ => rfl)) Qdl (Qbr _))
   (@QeH _ _ _ _ _ (@QeJ _ _ _ _ (QgR QgN 1 rfl yY yJ))
   QeG) _
   QeG)
  (@QeH _ _ _ _ _ (@QgT _ _ _ _ _ _ QgN 4 we.nd rfl _ z6 _ (Qem (QgX hr) (QgR QgN 3 rfl zn JM) Qdi (fun _ _ => rfl)) (by decide) (by rfl))
  (@QeH _ _ _ _ _ (@QgT _ _ _ _ _ _ QgN 5 we.nd rfl _ vY _ (Qem (QgX hr) (QgR QgN 3 rfl zn JM) Qdi (fun _ _ => rfl)) (by decide) (by rfl))
  (@QeH _ _ _ _ _ (@QgT _ _ _ _ _ _ QgN 6 we.nd rfl _ vJ _ (Qem (QgX hr) (Qem (QgX hr) (Qem (QgX hr) (QgR QgN 0 rfl Zc jQ) Qdi (fun _ _ => rfl)) (QgR QgN 4 rfl z6 WN) (fun _ _ => rfl)) Qdi (fun _ _ => rfl)) (by decide) (by rfl))
  (@QeH _ _ _ _ _ (@QgT _ _ _ _ _ _ QgN 7 we.nd rfl _ vA _ (Qem (QgX hr) (Qem (QgX hr) (QgR QgN 1 rfl yY yJ) Qdi (fun _ _ => rfl)) (QgR QgN 4 rfl z6 WN) (fun _ _ => rfl)) (by decide) (by rfl))
  (@QeH _ _ _ _ _ (@QgT _ _ _ _ _ _ QgN 8 we.nd rfl _ Zs _ (Qem (QgX hr) (Qem (QgX hr) (QgR QgN 3 rfl zn JM) Qdi (fun _ _ => rfl)) (QgW QgN WK jct (hr.mono (by decide)) T.zD T.ZE.kp jcv jce (Qef (QgR QgN 6 rfl vJ ZR) (Qef (QgR QgN 7 rfl vA JV) (Qef (QgR QgN 5 rfl vY Wc) Qee))) (QgU (QgU (QgU QgV)))) (fun _ _ => rfl)) (by decide) (by rfl))
  (@QeH _ _ _ _ _ (@QeJ _ _ _ _ (@Qeg _ _ _ _ _ (Qef (QgW QgN Js jaa (hr.mono (by decide)) T.jV T.vx.kp W1 WB (Qef (Qem (QgX hr) (QgR QgN 1 rfl yY yJ) Qdi (fun _ _ => rfl)) (Qef (QgR QgN 2 rfl Zv wB) (Qef (QgR QgN 8 rfl Zs jcF) Qee))) (QgU (QgU (QgU QgV)))) (Qef (QgW QgN Js jaa (hr.mono (by decide)) T.jV T.vx.kp W1 WB (Qef (Qem (QgX hr) (QgR QgN 1 rfl yY yJ) Qdi (fun _ _ => rfl)) (Qef (QgR QgN 4 rfl z6 WN) (Qef (QgW QgN ZL jaV (hr.mono (by decide)) T.ya T.vp.kp ja4 jau (Qef (QgR QgN 6 rfl vJ ZR) (Qef (QgR QgN 7 rfl vA JV) (Qef (QgR QgN 5 rfl vY Wc) Qee))) (QgU (QgU (QgU QgV)))) Qee))) (QgU (QgU (QgU QgV)))) Qee))))
  QeG))))))))
 unfold zc
 exact q
theorem WO : LK yI "house" .cell := by nofun
theorem jae : LK yI "len" .globalImplicit := by nofun
theorem WP : LK yI "range" .globalImplicit := by nofun
theorem WU : LK yI "tuple" .globalImplicit := by nofun
theorem jb2 : FnScope ["house", "stand"] ["house", "stand"] (defScope yI) := ⟨rfl, rfl, rfl, by nofun, rfl, by nofun, by nofun⟩
theorem jb1 (T : Txt K mg) : L2.Binds K T.vE ["house", "stand"] [] := T.J5.binds (ps := ["house", "stand"]) fun _ _ _ _ _ _ us hl => le2 (fun _ _ => rfl) us hl
theorem jbV (T : Txt K mg) : FnOk P w K mg base CX0 2 T.Jg T.vE ["house", "stand"] (spOf K 2 yW) := by
 have Z5 := W2 (P := P) (w := w) (base := base) T
 have Wa := W0 T
 have jb8 := jbr (P := P) (w := w) (base := base) T
 have jb3 := jbx T
 have q : FnOk P w K mg base CX0 (1 + 1) T.Jg T.vE ["house", "stand"] (spOf K 2 (runDef 2 J7)) := by
  refine QgY (k := 1) (N := ["house", "stand"]) (body := J7) T.J5 jb2 rfl rfl (fun cdv A outer s H E hr => ?_)
  exact (@QeH _ _ _ _ _ (@QeJ _ _ _ _ (@Qfa _ _ _ _ _ _ _ _ (@Qfg _) (QgN.glo _ WU) T.ju jv (@Qe5 _ _ _ _ _ _ _ _ _ _ _ _ _ _ rfl (@QgP _ _ _ QgN (by nofun)) (@QgQ _ ["house", "stand"] _ ["hand", "house", "stand"] 1 [0, 1] rfl (by nofun)) (@QeZ _ _ _ _ _ _ (QgN.glo _ WP) T.jE (@Qe7 _ _ _ _ _ _ _ _ (@Qfd _) (QgN.glo _ jae) T.j5 ye (Qem (QgX hr) (QgR QgN 0 rfl WO jQ) Qdi (fun _ _ => rfl)) (by decide) (by decide) (by rfl)) (by rfl)) (fun _ _ _ => ⟨(@QgS _ _ _ _ (QgO (rfl)) 0 (show List.Nodup (["hand", "house", "stand"] : List Str) by nofun) rfl .local (by nofun) (by decide)), (@Qe2 _), (QgW (QgO (rfl)) (by nofun) jb8 (hr.mono (by decide)) T.j7 T.JB.kp jb3 jbL (Qef (QgW (QgO (rfl)) (by nofun) Z5 (hr.mono (by decide)) T.j0 T.Jk.kp Wa W7 (Qef (QgR (k := .free) (QgO (rfl)) 1 rfl (by nofun) jQ) (Qef (QgR (k := .free) (QgO (rfl)) 2 rfl (by nofun) yJ) (Qef (QgR (k := .local) (QgO (rfl)) 0 rfl (by nofun) wB) Qee))) (QgU (QgU (QgU QgV)))) Qee) (QgU QgV))⟩) (by intros; rfl)) (by decide) (by decide) (by rfl)))
  QeG)
 unfold yW
 exact q
theorem Wl : LK wT "enumerate" .globalImplicit := by nofun
theorem jax : LK wT "house" .local := by nofun
theorem W9 : LK wT "settled" .globalImplicit := by nofun
theorem jay : LK wT "stand" .local := by nofun
theorem jcG : FnScope ["house", "stand"] ["house", "stand"] (defScope wT) := ⟨rfl, rfl, rfl, by nofun, rfl, by nofun, by nofun⟩
theorem jcI (T : Txt K mg) : L2.Binds K T.Zx ["house", "stand"] [] := T.WW.binds (ps := ["house", "stand"]) fun _ _ _ _ _ _ us hl => le2 (fun _ _ => rfl) us hl
theorem jcJ (T : Txt K mg) : FnOk P w K mg base CX0 3 T.ZY T.Zx ["house", "stand"] (spOf K 2 vI) := by
 have jci := jbV (P := P) (w := w) (base := base) T
 have jcr := jb1 T
 have q : FnOk P w K mg base CX0 (2 + 1) T.ZY T.Zx ["house", "stand"] (spOf K 2 (runDef 2 WZ)) := by
  refine QgY (k := 2) (N := ["house", "stand"]) (body := WZ) T.WW jcG rfl rfl (fun cdv A outer s H E hr => ?_)
  exact (@QeH _ _ _ _ _ (@QeJ _ _ _ _ (@Qei _ _ _ (@Qe5 _ _ _ _ _ _ _ _ _ _ _ _ _ _ rfl (@QgP _ _ _ QgN (by nofun)) (@QgQ _ ["house", "stand"] _ ["hand", "value"] 2 [] rfl (by nofun)) (@QfP _ _ _ _ _ _ _ _ (QgN.glo _ Wl) T.zW (QgW QgN W9 jci (hr.mono (by decide)) T.yW T.J5.kp jcr jb7 (Qef (QgR QgN 0 rfl jax jQ) (Qef (QgR QgN 1 rfl jay yJ) Qee)) (QgU (QgU QgV))) (by rfl)) (fun _ _ _ => ⟨(@QeF _ _ _ _ _ _ rfl (@QeE _ _ _ _ _ (@QgS _ _ _ _ (QgO (rfl)) 0 (show List.Nodup (["hand", "value"] : List Str) by nofun) rfl .local (by nofun) (by decide)) (@QeE _ _ _ _ _ (@QgS _ _ _ _ (QgO (rfl)) 1 (show List.Nodup (["hand", "value"] : List Str) by nofun) rfl .local (by nofun) (by decide)) (@QeD _) (by rfl)) (by rfl)) (by rfl) (by rfl)), (@Qe3 _ _ _ (@Qer _ _ _ _ _ _ _ _ (@QfQ _) (QgR (k := .local) (QgO (rfl)) 1 rfl (by nofun) jcs) (@Qdk _ _ _) (Qbr _))), (QgR (k := .local) (QgO (rfl)) 0 rfl (by nofun) wB)⟩) (by intros; rfl))))
  QeG)
 unfold vI
 exact q
theorem ZK : LK js "behind" .globalImplicit := by nofun
theorem Z9 : LK js "free" .globalImplicit := by nofun
theorem z8 : LK js "hand" .local := by nofun
theorem vQ : LK js "house" .local := by nofun
theorem Wi : LK js "len" .globalImplicit := by nofun
theorem zw : LK js "numbers" .local := by nofun
theorem vT : LK js "stand" .local := by nofun
theorem ve : LK js "stands" .local := by nofun
theorem zX : LK js "steps" .local := by nofun
theorem yf : LK js "there" .local := by nofun
theorem w8 : FnScope ["house", "stand", "stands", "numbers", "steps", "hand", "there"] ["house", "stand", "stands", "numbers"] (defScope js) := ⟨rfl, rfl, rfl, by nofun, rfl, by nofun, by nofun⟩
theorem jaJ (T : Txt K mg) : L2.Binds K T.zO ["house", "stand", "stands", "numbers"] [] := T.vo.binds (ps := ["house", "stand", "stands", "numbers"]) fun _ _ _ _ _ _ us hl => le4 (fun _ _ _ _ => rfl) us hl
theorem jaD (T : Txt K mg) : FnOk P w K mg base CX0 4 T.wv T.zO ["house", "stand", "stands", "numbers"] (spOf K 4 yn) := by
 have jcA := jcb (P := P) (w := w) (base := base) T
 have jcw := jcf T
 have jcK := jcJ (P := P) (w := w) (base := base) T
 have jcO := jcI T
 have q : FnOk P w K mg base CX0 (3 + 1) T.wv T.zO ["house", "stand", "stands", "numbers"] (spOf K 4 (runDef 7 vB)) := by
  refine QgY (k := 3) (N := ["house", "stand", "stands", "numbers", "steps", "hand", "there"]) (body := vB) T.vo w8 rfl rfl (fun cdv A outer s H E hr => ?_)
  exact (@QeH _ _ _ _ _ (@QgT _ _ _ _ _ _ QgN 4 w8.nd rfl _ zX _ (@Qei _ _ _ (@Qeh _ _ _ _ Qee)) (by decide) (by rfl))
  (@QeH _ _ _ _ _ (@Qe0 _ _ _ _ _ _ _ _ PassesOwn.never rfl (@QeX _ _ _ _ (QgW QgN Z9 jcK (hr.mono (by decide)) T.vI T.WW.kp jcO jcH (Qef (QgR QgN 0 rfl vQ jQ) (Qef (QgR QgN 1 rfl vT yJ) Qee)) (QgU (QgU QgV)))) (@QgS _ _ _ _ QgN 5 w8.nd rfl .local z8 (by decide))
   (@QeH _ _ _ _ _ (@QgT _ _ _ _ _ _ QgN 6 w8.nd rfl _ yf _ (QgW QgN ZK jcA (hr.mono (by decide)) T.zc T.ZC.kp jcw jcc (Qef (QgR QgN 0 rfl vQ jQ) (Qef (QgR QgN 1 rfl vT yJ) (Qef (QgR QgN 5 rfl z8 wB) Qee))) (QgU (QgU (QgU QgV)))) (by decide) (by rfl))
   (@QeH _ _ _ _ _ (@QeL _ _ _ _ _ _ _ (@Qer _ _ _ _ _ _ _ _ (@QfX _ (QgX hr)) (QgR QgN 6 rfl yf ZH) (QgR QgN 3 rfl zw yB) rfl)
    (@QeH _ _ _ _ _ (@QeP _ _ _ _ _ _ (@Qe7 _ _ _ _ _ _ _ _ (@Qfd _) (QgN.glo _ Wi) T.j5 ye (QgR QgN 2 rfl ve wy) (by decide) (by decide) (by rfl)) (@QeR _ _ _ _ _ _ (QgX hr) (QgR QgN 3 rfl zw yB) (QgR QgN 6 rfl yf ZH) (by intros; rfl)) (by rfl) (by rfl) (by rfl))
    (@QeH _ _ _ _ _ (@QeK _ _ _ _ (@QfE _ _ _ _ _ _ _ (QgR QgN 2 rfl ve wy) (QgR QgN 6 rfl yf ZH) (by rfl) (by rfl) (by rfl) (by rfl) (by rfl)) (by rfl))
    QeG)) _
    QeG)
   (@QeH _ _ _ _ _ (@QeK _ _ _ _ (@QfE _ _ _ _ _ _ _ (QgR QgN 4 rfl zX vW) (@Qeg _ _ _ _ _ (Qef (QgR QgN 5 rfl z8 wB) (Qef (Qem (QgX hr) (QgR QgN 3 rfl zw yB) (QgR QgN 6 rfl yf ZH) (fun _ _ => rfl)) Qee))) (by rfl) (by rfl) (by rfl) (by rfl) (by rfl)) (by rfl))
   QeG))) (by intros; rfl))
  (@QeH _ _ _ _ _ (@QeJ _ _ _ _ (QgR QgN 4 rfl zX vW))
  QeG)))
 unfold yn
 exact q
theorem ZM : LK jt "firsts" .local := by nofun
theorem ZV : LK jt "house" .local := by nofun
theorem yx : LK jt "len" .globalImplicit := by nofun
theorem Z8 : LK jt "list" .globalImplicit := by nofun
theorem Jq : LK jt "most" .local := by nofun
theorem j3 : LK jt "numbers" .local := by nofun
theorem vO : LK jt "stand" .local := by nofun
theorem jL : LK jt "stands" .local := by nofun
theorem yg : LK jt "steps" .local := by nofun
theorem J0 : LK jt "steps_from" .globalImplicit := by nofun
theorem zS : FnScope ["house", "firsts", "most", "numbers", "stand", "stands", "steps"] ["house", "firsts", "most"] (defScope jt) := ⟨rfl, rfl, rfl, by nofun, rfl, by nofun, by nofun⟩
theorem jat (T : Txt K mg) : L2.Binds K T.zQ ["house", "firsts", "most"] [] := T.vC.binds (ps := ["house", "firsts", "most"]) fun _ _ _ _ _ _ us hl => le3 (fun _ _ _ => rfl) us hl
theorem jar (T : Txt K mg) : FnOk P w K mg base CX0 5 T.wm T.zQ ["house", "firsts", "most"] (spOf K 3 yo) := by
 have jbo := jaD (P := P) (w := w) (base := base) T
 have jbf := jaJ T
 have q : FnOk P w K mg base CX0 (4 + 1) T.wm T.zQ ["house", "firsts", "most"] (spOf K 3 (runDef 7 vi)) := by
  refine QgY (k := 4) (N := ["house", "firsts", "most", "numbers", "stand", "stands", "steps"]) (body := vi) T.vC zS rfl rfl (fun cdv A outer s H E hr => ?_)
  exact (@QeH _ _ _ _ _ (@QgT _ _ _ _ _ _ QgN 3 zS.nd rfl _ j3 _ (@Qgy _ _) (by decide) (by rfl))
  (@QeH _ _ _ _ _ (@Qe0 _ _ _ _ _ _ _ _ PassesOwn.never rfl (@QeX _ _ _ _ (QgR QgN 1 rfl ZM jcp)) (@QgS _ _ _ _ QgN 4 zS.nd rfl .local vO (by decide))
   (@QeH _ _ _ _ _ (@QeK _ _ _ _ (QgM (QgX hr) (QgR QgN 3 rfl j3 yB) (QgR QgN 4 rfl vO yJ) (@Qe7 _ _ _ _ _ _ _ _ (@Qfd _) (QgN.glo _ yx) T.j5 ye (QgR QgN 3 rfl j3 yB) (by decide) (by decide) (by rfl))) (by rfl))
   QeG) (by intros; rfl))
  (@QeH _ _ _ _ _ (@QgT _ _ _ _ _ _ QgN 5 zS.nd rfl _ jL _ (@Qe8 _ _ _ _ _ _ _ _ (QgJ rfl) (QgN.glo _ Z8) T.vz Wf (QgR QgN 3 rfl j3 yB) (by decide) (by decide) (by rfl)) (by decide) (by rfl))
  (@QeH _ _ _ _ _ (@QgT _ _ _ _ _ _ QgN 6 zS.nd rfl _ yg _ (@Qei _ _ _ (@Qeh _ _ _ _ Qee)) (by decide) (by rfl))
  (@QeH _ _ _ _ _ (@Qf7 _ _ _ _ _ _ PassesOwn.never (@Qer _ _ _ _ _ _ _ _ Qeb (@Qe7 _ _ _ _ _ _ _ _ (@Qfd _) (QgN.glo _ yx) T.j5 ye (QgR QgN 6 rfl yg vW) (by decide) (by decide) (by rfl)) (@Qe7 _ _ _ _ _ _ _ _ (@Qfd _) (QgN.glo _ yx) T.j5 ye (QgR QgN 5 rfl jL wy) (by decide) (by decide) (by rfl)) (Qbr _))
   (@QeH _ _ _ _ _ (@QeL _ _ _ _ _ _ _ (L2.PW.pt (@Qeu _ _ _ _ _ _ _ (@Qer _ _ _ _ _ _ _ _ (@QfR _) (QgR QgN 2 rfl Jq Wb) (@Qdk _ _ _) (Qbr _)) (@Qes _ _ _ _ (@Qer _ _ _ _ _ _ _ _ (@Qec _) (@Qe7 _ _ _ _ _ _ _ _ (@Qfd _) (QgN.glo _ yx) T.j5 ye (QgR QgN 5 rfl jL wy) (by decide) (by decide) (by rfl)) (QgR QgN 2 rfl Jq Wb) (Qbr _)))))
    (@QeH _ _ _ _ _ (@QeI _ _)
    QeG) _
    QeG)
   (@QeH _ _ _ _ _ (@QeK _ _ _ _ (@QfE _ _ _ _ _ _ _ (QgR QgN 6 rfl yg vW) (QgW QgN J0 jbo (hr.mono (by decide)) T.yn T.vo.kp jbf jaH (Qef (QgR QgN 0 rfl ZV jQ) (Qef (Qem (QgX hr) (QgR QgN 5 rfl jL wy) (@Qe7 _ _ _ _ _ _ _ _ (@Qfd _) (QgN.glo _ yx) T.j5 ye (QgR QgN 6 rfl yg vW) (by decide) (by decide) (by rfl)) (fun _ _ => rfl)) (Qef (QgR QgN 5 rfl jL wy) (Qef (QgR QgN 3 rfl j3 yB) Qee)))) (QgU (QgU (QgU (QgU QgV))))) (by rfl) (by rfl) (by rfl) (by rfl) (by rfl)) (by rfl))
   QeG)))
  (@QeH _ _ _ _ _ (@QeJ _ _ _ _ (@Qeg _ _ _ _ _ (Qef (QgR QgN 5 rfl jL wy) (Qef (QgR QgN 6 rfl yg vW) Qee))))
  QeG))))))
 unfold yo
 exact q
theorem wg : LK yb "begins" .local := by nofun
theorem Zl : LK yb "graph_from" .globalImplicit := by nofun
theorem Jy : LK yb "house" .cell := by nofun
theorem Zw : LK yb "inputs_of" .globalImplicit := by nofun
theorem WL : LK yb "most" .local := by nofun
theorem Ww : FnScope ["house", "most", "begins"] ["house", "most"] (defScope yb) := ⟨rfl, rfl, rfl, by nofun, rfl, by nofun, by nofun⟩
theorem jbt (T : Txt K mg) : L2.Binds K T.wX ["house", "most"] [] := T.JA.binds (ps := ["house", "most"]) fun _ _ _ _ _ _ us hl => le2 (fun _ _ => rfl) us hl
theorem jbu (T : Txt K mg) : FnOk P w K mg base CX0 6 T.vh T.wX ["house", "most"] (spOf K 2 yZ) := by
 have jcC := jcz (P := P) (w := w) (base := base) T
 have jcE := jcx T
 have jbl := jar (P := P) (w := w) (base := base) T
 have jbn := jat T
 have jbF := jaZ (P := P) (w := w) (base := base) T
 have jbD := ja0 T
 have q : FnOk P w K mg base CX0 (5 + 1) T.vh T.wX ["house", "most"] (spOf K 2 (runDef 3 JJ)) := by
  refine QgY (k := 5) (N := ["house", "most", "begins"]) (body := JJ) T.JA Ww rfl rfl (fun cdv A outer s H E hr => ?_)
  exact (@QeH _ _ _ _ _ (@Qe6 _ _ _ _ _ _ _ _ _ _ _ 2 _ _ _ _ _ _ Ww.nd rfl (QgN.loc _ _ wg (by decide)).1 (QgN.loc _ _ wg (by decide)).2 rfl (@QgP _ _ _ QgN (by nofun)) (@QgQ _ ["house", "most", "begins"] _ ["inputs", "house"] 1 [0] rfl (by nofun)) (@QeX _ _ _ _ (QgW QgN Zw jbF (hr.mono (by decide)) T.yG T.v5.kp jbD jbm (Qef (QgR QgN 0 rfl Jy jQ) Qee) (QgU QgV))) (fun _ _ _ => ⟨(@QgS _ _ _ _ (QgO (rfl)) 0 (show List.Nodup (["inputs", "house"] : List Str) by nofun) rfl .local (by nofun) (by decide)), (@Qe2 _), (QgW (QgO (rfl)) (by nofun) jcC (hr.mono (by decide)) T.zU T.Wh.kp jcE jcy (Qef (QgR (k := .free) (QgO (rfl)) 1 rfl (by nofun) jQ) (Qef (QgR (k := .local) (QgO (rfl)) 0 rfl (by nofun) Ze) Qee)) (QgU (QgU QgV)))⟩) (by rfl) (by intros; rfl))
  (@QeH _ _ _ _ _ (@QeJ _ _ _ _ (QgW QgN Zl jbl (hr.mono (by decide)) T.yo T.vC.kp jbn jaI (Qef (QgR QgN 0 rfl Jy jQ) (Qef (QgR QgN 2 rfl wg jcq) (Qef (QgR QgN 1 rfl WL Wb) Qee))) (QgU (QgU (QgU QgV)))))
  QeG))
 unfold yZ
 exact q
theorem ZA : LK yj "graph_of" .globalImplicit := by nofun
theorem Z2 : LK yj "house" .local := by nofun
theorem Ws : LK yj "most" .local := by nofun
theorem jbd : FnScope ["house", "most"] ["house", "most"] (defScope yj) := ⟨rfl, rfl, rfl, by nofun, rfl, by nofun, by nofun⟩
theorem jaX (T : Txt K mg) : L2.Binds K T.zx ["house", "most"] [] := T.yH.binds (ps := ["house", "most"]) fun _ _ _ _ _ _ _ us hl => le2 (fun _ _ => ⟨_, rfl, rfl⟩) us (by simpa using hl)
theorem Qig (T : Txt K mg) : L2.Binds K T.zx ["house", "most"] [T.u_stands_of] := T.yH.binds (ps := ["house", "most"]) fun _ _ _ _ _ _ _ us hl => le1 (fun _ => ⟨_, rfl, rfl⟩) us (by simpa using hl)
theorem jaU (T : Txt K mg) : FnOk P w K mg base CX0 7 T.wJ T.zx ["house", "most"] (spOf K 2 jC) := by
 have jb4 := jbu (P := P) (w := w) (base := base) T
 have jbX := jbt T
 have q : FnOk P w K mg base CX0 (6 + 1) T.wJ T.zx ["house", "most"] (spOf K 2 (runDef 2 v4)) := by
  refine Qg2 (k := 6) (N := ["house", "most"]) (body := v4) T.yH jbd rfl rfl (fun cdv A outer s H E hr => ?_)
  exact (@QeH _ _ _ _ _ (@QeJ _ _ _ _ (Qem (QgX hr) (QgW QgN ZA jb4 (hr.mono (by decide)) T.yZ T.JA.kp jbX jbK (Qef (QgR QgN 0 rfl Z2 jQ) (Qef (QgR QgN 1 rfl Ws Wb) Qee)) (QgU (QgU QgV))) Qdi (fun _ _ => rfl)))
  QeG)
 unfold jC
 exact q
theorem yh : LK yP "_law_due" .local := by nofun
theorem yi : LK yP "_law_found" .local := by nofun
theorem WJ : LK yP "_law_house" .globalImplicit := by nofun
theorem jJ : LK yP "_law_house_here" .local := by nofun
theorem jag : LK yP "_law_pot" .globalImplicit := by nofun
theorem Wr : LK yP "_law_script" .local := by nofun
theorem Wu : LK yP "_law_stands" .globalImplicit := by nofun
theorem Wt : LK yP "isinstance" .globalImplicit := by nofun
theorem ZG : LK yP "len" .globalImplicit := by nofun
theorem jbA : LK yP "list" .globalImplicit := by nofun
theorem zH : LK yP "stands_of" .globalImplicit := by nofun
theorem jb5 : LK yP "zip" .globalImplicit := by nofun
theorem W5 : FnScope ["_law_script", "_law_house_here", "_law_due", "_law_found"] ["_law_script"] (defScope yP) := ⟨rfl, rfl, rfl, by nofun, rfl, by nofun, by nofun⟩
theorem jcM (T : Txt K mg) : FnOk P w K mg base CX0 8 T.ZO T.ZZ ["_law_script"] (spOf K 1 JG) := by
 have jbG := jaQ (P := P) (w := w) (base := base) T
 have jbI := jaM T
 have jah := WY (P := P) (w := w) (base := base) T
 have jai := jad T
 have jch := jb9 (P := P) (w := w) (base := base) T
 have jck := jbW T
 have jaN := jaB (P := P) (w := w) (base := base) T
 have jba := jaz T
 have v7 := jaU (P := P) (w := w) (base := base) T
 have WE := jaX T
 have BD_stands_of := Qig T
 have q : FnOk P w K mg base CX0 (7 + 1) T.ZO T.ZZ ["_law_script"] (spOf K 1 (runDef 4 jaK)) := by
  refine QgY (k := 7) (N := ["_law_script", "_law_house_here", "_law_due", "_law_found"]) (body := jaK) T.jbY W5 rfl rfl (fun cdv A outer s H E hr => ?_)
  exact (@QeH _ _ _ _ _ (@QgT _ _ _ _ _ _ QgN 1 W5.nd rfl _ jJ _ (QgW QgN WJ jbG (hr.mono (by decide)) T.yF T.v8.kp jbI jbi (Qef (QgW QgN jag jch (hr.mono (by decide)) T.zy T.Za.kp jck jbZ (Qef (QgR QgN 0 rfl Wr ZS) (Qef Qdi Qee)) (QgU (QgU QgV))) Qee) (QgU QgV)) (by decide) (by rfl))
  (@QeH _ _ _ _ _ (@QgT _ _ _ _ _ _ QgN 2 W5.nd rfl _ yh _ (QgW QgN Wu jaN (hr.mono (by decide)) T.yl T.vt.kp jba jas (Qef (QgR QgN 1 rfl jJ jc) Qee) (QgU QgV)) (by decide) (by rfl))
  (@QeH _ _ _ _ _ (@QgT _ _ _ _ _ _ QgN 3 W5.nd rfl _ yi _ (Qg3 QgN zH v7 (hr.mono (by decide)) T.jC T.yH.kp BD_stands_of T.r_stands_of vG (Qef (QgR QgN 1 rfl jJ jc) Qee) (fun _ _ _ _ z => congrArg (· + 1) ((QgU QgV) _ _ _ _ z))) (by decide) (by rfl))
  (@QeH _ _ _ _ _ (@QeL _ _ _ _ _ _ _ (L2.PW.pt (@Qev _ _ _ _ _ _ _ (@Qew _ _ _ _ (@Qeq _ _ _ (@Qfs _ _ _ _ _ _ _ _ Qfp (QgN.glo _ Wt) T.jS (QgN.glo _ jbA) T.vz Wf (QgR QgN 3 rfl yi jh) zK (by decide) (by decide) (by rfl) (by rfl) (by rfl)) (by intros; rfl))) (@Qet _ _ _ _ (@Qer _ _ _ _ _ _ _ _ (QfD (QgX hr)) (@Qe7 _ _ _ _ _ _ _ _ (@Qfd _) (QgN.glo _ ZG) T.j5 ye (QgR QgN 3 rfl yi jh) (by decide) (by decide) (by rfl)) (@Qe7 _ _ _ _ _ _ _ _ (@Qfd _) (QgN.glo _ ZG) T.j5 ye (QgR QgN 2 rfl yh zC) (by decide) (by decide) (by rfl)) (Qbr _)))))
   (@QeH _ _ _ _ _ (@QeJ _ _ _ _ (@Qdj _ _ _ _))
   QeG) _
   QeG)
  (@QeH _ _ _ _ _ (@QeL _ _ _ _ _ _ _ (@Qf0 _ _ _ _ _ _ (@Qdj _ _ _ _) (@Qe5 _ _ _ _ _ _ _ _ _ _ _ _ _ _ rfl (@QgP _ _ _ QgN (by nofun)) (@QgQ _ ["_law_script", "_law_house_here", "_law_due", "_law_found"] _ ["_law_one", "_law_other"] 2 [] rfl (by nofun)) (@Qgn _ _ _ _ _ _ _ _ _ _ (QgN.glo _ jb5) T.ZD (QgR QgN 3 rfl yi jh) (QgR QgN 2 rfl yh zC) (by rfl) (by rfl) (by rfl) (by rfl)) (fun _ _ _ => ⟨(@QeF _ _ _ _ _ _ rfl (@QeE _ _ _ _ _ (@QgS _ _ _ _ (QgO (rfl)) 0 (show List.Nodup (["_law_one", "_law_other"] : List Str) by nofun) rfl .local (by nofun) (by decide)) (@QeE _ _ _ _ _ (@QgS _ _ _ _ (QgO (rfl)) 1 (show List.Nodup (["_law_one", "_law_other"] : List Str) by nofun) rfl .local (by nofun) (by decide)) (@QeD _) (by rfl)) (by rfl)) (by rfl) (by rfl)), (@Qe2 _), (QgW (QgO (rfl)) (by nofun) jah (hr.mono (by decide)) T.jH T.wz.kp jai W3 (Qef (QgR (k := .local) (QgO (rfl)) 0 rfl (by nofun) JK) (Qef (QgR (k := .local) (QgO (rfl)) 1 rfl (by nofun) jaL) Qee)) (QgU (QgU QgV)))⟩) (by intros; rfl)) rfl)
   (@QeH _ _ _ _ _ (@QeJ _ _ _ _ (@Qdj _ _ _ _))
   QeG) _
   QeG)
  (@QeH _ _ _ _ _ (@QeK _ _ _ _ (@Qf5 _ _ _ _ _ (QgR QgN 3 rfl yi jh) (by rfl) (by rfl)) (by rfl))
  (@QeH _ _ _ _ _ (@QeK _ _ _ _ (@QfE _ _ _ _ _ _ _ (QgR QgN 3 rfl yi jh) (@Qdk _ _ _) (by rfl) (by rfl) (by rfl) (by rfl) (by rfl)) (by rfl))
  (@QeH _ _ _ _ _ (@QeL _ _ _ _ _ _ _ (L2.PW.pt (@Qev _ _ _ _ _ _ _ (@Qer _ _ _ _ _ _ _ _ (QfD (QgX hr)) (Qg3 QgN zH v7 (hr.mono (by decide)) T.jC T.yH.kp BD_stands_of T.r_stands_of vG (Qef (QgR QgN 1 rfl jJ jc) Qee) (fun _ _ _ _ z => congrArg (· + 1) ((QgU QgV) _ _ _ _ z))) (QgR QgN 2 rfl yh zC) (Qbr _)) (@Qet _ _ _ _ (@Qer _ _ _ _ _ _ _ _ (QfD (QgX hr)) (QgW QgN zH v7 (hr.mono (by decide)) T.jC T.yH.kp WE vG (Qef (QgR QgN 1 rfl jJ jc) (Qef (@Qe7 _ _ _ _ _ _ _ _ (@Qfd _) (QgN.glo _ ZG) T.j5 ye (QgR QgN 2 rfl yh zC) (by decide) (by decide) (by rfl)) Qee)) (QgU (QgU QgV))) (QgR QgN 2 rfl yh zC) (Qbr _)))))
   (@QeH _ _ _ _ _ (@QeJ _ _ _ _ (@Qdj _ _ _ _))
   QeG) _
   QeG)
  (@QeH _ _ _ _ _ (@QeJ _ _ _ _ (Qdo (QfC (QgX hr)) (QgW QgN zH v7 (hr.mono (by decide)) T.jC T.yH.kp WE vG (Qef (QgR QgN 1 rfl jJ jc) (Qef Qdi Qee)) (QgU (QgU QgV))) (QgR QgN 2 rfl yh zC) (Qbr _)))
  QeG)))))))))
 unfold JG
 exact q
end
end My
namespace My
open MM
open PySem (Str)
theorem Qih {s : Sto} {n : Nat} {o : MO} (h : s[n]? = some o) : n < s.length := (List.getElem?_eq_some_iff.mp h).1
structure PotAt (s : Sto) (p q : Nat) : Prop where
 ne : p ≠ q
 ex : ∃ (x c : Int) (cs : List D), s[p]? = some (.lst [.int x, .int c, .ref q]) ∧ s[q]? = some (.lst cs) ∧ 0 ≤ x ∧ x < 2147483648 ∧ ∀ d ∈ cs, ∃ i : Int, d = .int i
structure Kept (p q : Nat) (s s' : Sto) : Prop where
 le : s.length ≤ s'.length
 at_ : ∀ n, n < s.length → n ≠ p → n ≠ q → s'[n]? = s[n]?
section
variable {p q : Nat} {s s1 s2 : Sto} {Q : D → Sto → Prop}
theorem Kept.refl : Kept p q s s := ⟨Nat.le_refl _, fun _ _ _ _ => rfl⟩
theorem Kept.trans (h : Kept p q s s1) (k : Kept p q s1 s2) : Kept p q s s2 := ⟨Nat.le_trans h.le k.le, fun n hn hp hq => (k.at_ n (Nat.lt_of_lt_of_le hn h.le) hp hq).trans (h.at_ n hn hp hq)⟩
theorem Kept.same {n : Nat} {o : MO} (h : Kept p q s s1) (hp : n ≠ p) (hq : n ≠ q) (g : s[n]? = some o) : s1[n]? = some o := (h.at_ n (Qih g) hp hq).trans g
theorem Kept.snoc {o : MO} (h : Kept p q s s1) : Kept p q s (s1 ++ [o]) := h.trans ⟨by simp, fun n hn _ _ => List.getElem?_append_left hn⟩
theorem Kept.put {n : Nat} {o : MO} (h : Kept p q s s1) (hn : s.length ≤ n) : Kept p q s (s1.set n o) :=
 ⟨by simp; exact h.le, fun m hm hp hq => by rw [List.getElem?_set_ne (by ac_nf)]; exact h.at_ m hm hp hq⟩
theorem PotAt.lt (h : PotAt s p q) : p < s.length ∧ q < s.length := by obtain ⟨x, c, cs, a, b, _⟩ := h.ex; exact ⟨Qih a, Qih b⟩
theorem PotAt.snoc {o : MO} (h : PotAt s p q) : PotAt (s ++ [o]) p q := by
 obtain ⟨x, c, cs, a, b, r⟩ := h.ex
 exact ⟨h.ne, x, c, cs, by rw [List.getElem?_append_left (Qih a)]; exact a, by rw [List.getElem?_append_left (Qih b)]; exact b, r⟩
theorem PotAt.put {n : Nat} {o : MO} (h : PotAt s p q) (hp : n ≠ p) (hq : n ≠ q) : PotAt (s.set n o) p q := by
 obtain ⟨x, c, cs, a, b, r⟩ := h.ex
 exact ⟨h.ne, x, c, cs, by rw [List.getElem?_set_ne hp]; exact a, by rw [List.getElem?_set_ne hq]; exact b, r⟩
def PotIs (s : Sto) (p q : Nat) (x c : Int) (cs : List D) : Prop := s[p]? = some (.lst [.int x, .int c, .ref q]) ∧ s[q]? = some (.lst cs)
theorem Qii {k : Int} (hp : PotAt s p q) (hk : 0 < k) (hk2 : k < 1073741824) (h : ∀ r s', 0 ≤ r → r < k → PotAt s' p q → Kept p q s s' → Q (.int r) s') : wp (ja [.ref p, .int k]) Q s := by
 obtain ⟨x, c, cs, e1, e2, hx0, hx1, hcs⟩ := hp.ex
 have hne := hp.ne
 have i3 : MM.ixN [D.int x, D.int c, D.ref q].length 1 = some 1 := rfl
 (simp_arith [ja]; simp_arith [JC])
 refine QhS (fun l s' => l = [some (.ref p), some (.int k), none, none] ∧ ∃ c cs, PotIs s' p q x c cs ∧ (∀ d ∈ cs, ∃ i : Int, d = .int i) ∧ Kept p q s s')
  (fun l s' => match s'[q]? with
   | some (.lst cs) => cs.length
   | _ => 0) ⟨rfl, c, cs, ⟨e1, e2⟩, hcs, Kept.refl⟩ (fun l s' ⟨el, c, cs, ⟨e1, e2⟩, hcs, hk'⟩ => ?_)
 subst el
 have g1 : ∀ Q, wp (getL p) Q s' = Q [.int x, .int c, .ref q] s' := fun Q => Qg6 e1
 have g2 : ∀ Q, wp (getL q) Q s' = Q cs s' := fun Q => Qg6 e2
 simp_arith [↓g1, ↓g2]
 by_cases hc : c = 0 ∧ 0 < cs.length
 ·obtain ⟨hc0, hcl⟩ := hc
  subst hc0
  have b1 : decide ((0 : Int) < (cs.length : Nat)) = true := decide_eq_true (by ac_nf)
  rw [if_pos rfl, if_pos (by ac_nf)]
  obtain ⟨d, hd⟩ : ∃ d, cs.getLast? = some d := ⟨_, List.getLast?_eq_some_getLast (by intro e; rw [e] at hcl; simp at hcl)⟩
  obtain ⟨i, ei⟩ := hcs d (List.mem_of_getLast? hd)
  subst ei
  have q2 : ∀ es Q, wp (putL q es) Q s' = Q () (s'.set q (.lst es)) := fun es Q => Qg7 e2
  have e3 : (s'.set q (.lst cs.dropLast))[p]? = some (.lst [.int x, .int 0, .ref q]) := by rw [List.getElem?_set_ne (Ne.symm hne)]; exact e1
  have e4 : (s'.set q (.lst cs.dropLast))[q]? = some (.lst cs.dropLast) := List.getElem?_set_self (Qih e2)
  have g3 : ∀ Q, wp (getL p) Q (s'.set q (.lst cs.dropLast)) = Q [.int x, .int 0, .ref q] (s'.set q (.lst cs.dropLast)) := fun Q => Qg6 e3
  have q3 : ∀ es Q, wp (putL p es) Q (s'.set q (.lst cs.dropLast)) = Q () ((s'.set q (.lst cs.dropLast)).set p (.lst es)) := fun es Q => Qg7 e3
  have i3 : MM.ixN 3 1 = some 1 := rfl
  simp_arith [↓g1, ↓g2, hd, ↓q2, ↓x_setR, ↓g3, i3, ↓q3]
  have e5 : ((s'.set q (.lst cs.dropLast)).set p (.lst [.int x, .int i, .ref q]))[p]? = some (.lst [.int x, .int i, .ref q]) := List.getElem?_set_self (Qih e3)
  have e6 : ((s'.set q (.lst cs.dropLast)).set p (.lst [.int x, .int i, .ref q]))[q]? = some (.lst cs.dropLast) := by rw [List.getElem?_set_ne hne]; exact e4
  refine ⟨⟨i, cs.dropLast, ⟨e5, e6⟩, fun d hd => hcs d (List.dropLast_subset _ hd), ⟨by simp; exact hk'.le, fun n hn hp' hq' => ?_⟩⟩, ?_⟩
  ·rw [List.getElem?_set_ne (Ne.symm hp'), List.getElem?_set_ne (Ne.symm hq')]; exact hk'.at_ n hn hp' hq'
  ·rw [e6, e2]
   simp only [List.length_dropLast]; ac_nf
 ·have fin : ∀ (A B : Prop), (if c = 0 then (if 0 < (cs.length : Int) then A else B) else B) = B := fun A B => by
    by_cases h1 : c = 0
    ·rw [if_pos h1, if_neg (by ac_nf)]
    ·rw [if_neg h1]
  rw [fin]
  have q3 : ∀ es Q, wp (putL p es) Q s' = Q () (s'.set p (.lst es)) := fun es Q => Qg7 e1
  have i3 : MM.ixN 3 1 = some 1 := rfl
  have i4 : MM.ixN 3 0 = some 0 := rfl
  have kp : ∀ o, Kept p q s (s'.set p o) := fun o => ⟨by simp; exact hk'.le, fun n hn hp' hq' => by rw [List.getElem?_set_ne (Ne.symm hp')]; exact hk'.at_ n hn hp' hq'⟩
  have pt : ∀ (x' c' : Int), 0 ≤ x' → x' < 2147483648 → PotAt (s'.set p (.lst [.int x', .int c', .ref q])) p q := fun x' c' h0 h1 => ⟨hne, x', c', cs, List.getElem?_set_self (Qih e1), by rw [List.getElem?_set_ne hne]; exact e2, h0, h1, hcs⟩
  have g5 : ∀ ds Q, wp (getL p) Q (s'.set p (.lst ds)) = Q ds (s'.set p (.lst ds)) := fun ds Q => Qg6 (List.getElem?_set_self (Qih e1))
  have m2 : ∀ a b : Int, 0 ≤ b → b < 10000000 → mulOk a b := fun a b h1 h2 => .inr ⟨by ac_nf, by ac_nf⟩
  by_cases h0 : 0 < c
  ·rw [if_pos h0]
   simp_arith [i3, ↓q3]
   exact ⟨hk, ⟨hk, hk2⟩, h _ _ (Int.emod_nonneg _ (by ac_nf)) (Int.emod_lt_of_pos _ hk) (pt _ _ hx0 hx1) (kp _)⟩
  ·rw [if_neg h0]
   have o1 : 0 ≤ (x * 48271 + 7919) % 2147483647 := Int.emod_nonneg _ (by ac_nf)
   have o2 : (x * 48271 + 7919) % 2147483647 < 2147483647 := Int.emod_lt_of_pos _ (by ac_nf)
   generalize (x * 48271 + 7919) % 2147483647 = one at o1 o2 ⊢
   have o3 : 0 ≤ (one * 40692 + 12345) % 2147483399 + 1 := by have := Int.emod_nonneg (one * 40692 + 12345) (show (2147483399 : Int) ≠ 0 by ac_nf); ac_nf
   have o4 : (one * 40692 + 12345) % 2147483399 + 1 < 2147483648 := by have := Int.emod_lt_of_pos (one * 40692 + 12345) (show (0 : Int) < 2147483399 by ac_nf); ac_nf
   generalize (one * 40692 + 12345) % 2147483399 + 1 = x' at o3 o4 ⊢
   have d64 : ((0 : Int) < 64 ∧ (64 : Int) < 1073741824) := by ac_nf
   simp_arith [i4, ↓q3, ↓g5, d64]
   exact ⟨m2 _ _ (by ac_nf) (by ac_nf), m2 _ _ (by ac_nf) (by ac_nf), .inl ⟨by ac_nf, by ac_nf⟩, m2 _ _ (by ac_nf) (by ac_nf), hk, h _ _ (Int.emod_nonneg _ (by ac_nf)) (Int.emod_lt_of_pos _ hk) (pt _ _ o3 o4) (kp _)⟩
theorem Qij {ns : List Int} (h : ∀ p q s', PotAt s' p q → s.length ≤ p → s.length ≤ q → Q (.ref p) s') : wp (zy [.lit (ns.map D.int), .int 0]) Q s := by
 have l0 : 0 ≤ lim := Nat.zero_le _
 have l3 : 3 ≤ lim := Qhf (by ac_nf)
 have m0 : mulOk 7919 0 := .inl ⟨by ac_nf, by ac_nf⟩
 have m2 : ∀ a b : Int, 0 ≤ b → b < 10000000 → mulOk a b := fun a b h1 h2 => .inr ⟨by ac_nf, by ac_nf⟩
 have pw : ∀ Q s, wp (powD (.int 10) (.int 18)) Q s = Q (.int 1000000000000000000) s := fun Q s => by unfold powD; rw [wp_chk, wp_ret]; exact propext ⟨fun h => h.2, fun h => ⟨by decide, h⟩⟩
 generalize (1000000000000000000 : Int) = big at pw
 (simp_arith [zy]; simp_arith [Zd, l0, m0])
 have hcut : ∀ d ∈ cutD (ns.map D.int) (some 0) (some 63), ∃ i : Int, d = .int i := fun d hd => by
  unfold cutD at hd
  obtain ⟨i, _, e⟩ := List.mem_map.mp (List.mem_of_mem_drop (List.mem_of_mem_take hd))
  exact ⟨i, e.symm⟩
 have hlen : (cutD (ns.map D.int) (some 0) (some 63)).length ≤ 63 := by
  unfold cutD sIx; simp; ac_nf
 generalize cutD (ns.map D.int) (some 0) (some 63) = cells at hcut hlen
 refine Qhh (fun i l s' => ∃ x y4 cs, l = [some (.lit (ns.map D.int)), some (.int 0), some (.int x), some (.ref s.length), y4] ∧ (i = 0 ∨ (0 ≤ x ∧ x < 2147483648)) ∧ (i = 0 → x = 104729) ∧ s'[s.length]? = some (.lst cs) ∧ s'.length = s.length + 1 ∧ cs.length ≤ i ∧ ∀ d ∈ cs, ∃ i : Int, d = .int i) (fun _ _ _ _ => trivial) ⟨_, _, [], rfl, .inl rfl, fun _ => rfl, by simp, by simp, Nat.le_refl _, by simp⟩ (fun i d l s' hd hW => ?_) (fun l s' hW => ?_)
 ·obtain ⟨x, y4, cs, el, hx, hx', g, hsl, hl, hcs⟩ := hW
  subst el
  obtain ⟨v, ev⟩ := hcut d (List.mem_of_getElem? hd)
  subst ev
  have hi := (List.getElem?_eq_some_iff.mp hd).1
  have q2 : ∀ Q, wp (getL s.length) Q s' = Q cs s' := fun Q => Qg6 g
  have q3 : ∀ es Q, wp (putL s.length es) Q s' = Q () (s'.set s.length (.lst es)) := fun es Q => Qg7 g
  have c1 : (0 : Int) < 2147483629 := by ac_nf
  have c2 : (0 : Int) < 2147483647 := by ac_nf
  have o1 : 0 ≤ (x * 48271 + v % 2147483629 + 1) % 2147483647 := Int.emod_nonneg _ (by ac_nf)
  have o2 : (x * 48271 + v % 2147483629 + 1) % 2147483647 < 2147483647 := Int.emod_lt_of_pos _ (by ac_nf)
  have m3 : mulOk x 48271 := m2 _ _ (by ac_nf) (by ac_nf)
  have l4 : cs.length < lim := Qhg (by ac_nf)
  simp_arith [↓pw, ↓q2, ↓q3, m3, c1, c2, l4]
  generalize (x * 48271 + v % 2147483629 + 1) % 2147483647 = x' at o1 o2 ⊢
  by_cases hb : big ≤ v
  ·rw [if_pos hb]
   refine ⟨_, _, _, rfl, .inr ⟨o1, by ac_nf⟩, fun h => by ac_nf, List.getElem?_set_self (Qih g), by simp [hsl], by simp; ac_nf, fun d hd => ?_⟩
   rcases List.mem_append.mp hd with hd | hd
   ·exact hcs d hd
   ·exact ⟨v, List.mem_singleton.mp hd⟩
  ·rw [if_neg hb]
   exact ⟨_, _, _, rfl, .inr ⟨o1, by ac_nf⟩, fun h => by ac_nf, g, hsl, by ac_nf, hcs⟩
 ·obtain ⟨x, y4, cs, el, hx, hx', g, hsl, hl, hcs⟩ := hW
  subst el
  have q2 : ∀ Q, wp (getL s.length) Q s' = Q cs s' := fun Q => Qg6 g
  simp_arith [↓q2, l3]
  have hx2 : 0 ≤ x ∧ x < 2147483648 := by
   rcases hx with h | h
   ·have := hx' h; ac_nf
   ·exact h
  refine h _ s'.length _ ⟨by simp, x, 0, cs.reverse, by simp, by simp, hx2.1, hx2.2, fun d hd => hcs d (List.mem_reverse.mp hd)⟩ (by simp; ac_nf) (by ac_nf)
end
end My
namespace My
open MM
open PySem (Str)
noncomputable def tabD (S dn : Nat) (nx un : Nat → Nat → Nat) : D := .tup (upto S fun s => .tup (upto dn fun d => .tup [.int (nx s d : Nat), .int (un s d : Nat)]))
def TabOk (S dn : Nat) (nx un : Nat → Nat → Nat) : Prop := 1 ≤ S ∧ S ≤ 4 ∧ 1 ≤ dn ∧ dn ≤ 4 ∧ ∀ s d, s < S → d < dn → nx s d < S ∧ un s d < 4
section
variable {p q : Nat} {s s1 s2 : Sto} {Q : D → Sto → Prop}
theorem Qik {m : Nat} (h : m ≤ 100) : (-(2 ^ 62) ≤ (m : Int) ∧ (m : Int) < 2 ^ 62) := by ac_nf
theorem Qil {m n : Nat} {A : List D → Sto → Prop} (hp : PotAt s p q) (h1 : 1 ≤ m) (h2 : m ≤ 4) (h : ∀ (f g : Nat → Nat) s', (∀ i, i < n → f i < m ∧ g i < 4) → PotAt s' p q → Kept p q s s' → A (upto n fun i => .tup [.int (f i : Nat), .int (g i : Nat)]) s') :
  wp (collect (gVar 0) tTrue (cTup (cCons (cCall ja (cCons (cVar 1) (cCons (cVar 2) cNil))) (cCons (cCall ja (cCons (cVar 1) (cCons (cCon (.int 4)) cNil))) cNil))) anySt (upto n fun i => .int i) [none, some (.ref p), some (.int m)]) A s := by
 refine QhJ (fun i out s' => ∃ f g : Nat → Nat, out = (upto i fun i => .tup [.int (f i : Nat), .int (g i : Nat)]) ∧ (∀ j, j < i → f j < m ∧ g j < 4) ∧ PotAt s' p q ∧ Kept p q s s') (fun _ _ _ _ => trivial) ⟨fun _ => 0, fun _ => 0, rfl, fun j hj => absurd hj (Nat.not_lt_zero _), hp, Kept.refl⟩ (fun i out s1 hi hW => ?_) (fun out s1 pq118 => by obtain ⟨f, g, eo, hfg, hp1, k1⟩ := pq118; rw [eo]; exact h f g s1 hfg hp1 k1)
 obtain ⟨f, g, eo, hfg, hp1, k1⟩ := hW
 have l2 : 2 ≤ lim := Qhf (by ac_nf)
 simp_arith [l2]
 refine Qii hp1 (by ac_nf) (by ac_nf) fun a s2 a0 a1 hp2 k2 => ?_
 try simp_arith []
 refine Qii hp2 (by ac_nf) (by ac_nf) fun b s3 b0 b1 hp3 k3 => ?_
 try simp_arith [l2]
 refine ⟨fun j => if j = i then a.toNat else f j, fun j => if j = i then b.toNat else g j, ?_, fun j hj => ?_, hp3, (k1.trans k2).trans k3⟩
 ·rw [Qhv, eo]
  congr 1
  ·exact Qhx fun j hj => by dsimp only; rw [if_neg (by ac_nf), if_neg (by ac_nf)]
  ·dsimp only; rw [if_pos rfl, if_pos rfl, Int.toNat_of_nonneg a0, Int.toNat_of_nonneg b0]
 ·dsimp only
  by_cases e : j = i
  ·rw [if_pos e, if_pos e]; ac_nf
  ·rw [if_neg e, if_neg e]; exact hfg j (by ac_nf)
theorem Qim {m n : Nat} {A : List D → Sto → Prop} (hp : PotAt s p q) (h1 : 1 ≤ m) (h2 : m ≤ 4) (h3 : 1 ≤ n) (h4 : n ≤ 4) (h : ∀ (nx un : Nat → Nat → Nat) s', TabOk m n nx un → PotAt s' p q → Kept p q s s' → A (upto m fun s => .tup (upto n fun d => .tup [.int (nx s d : Nat), .int (un s d : Nat)])) s') :
  wp (collect (gVar 0) tTrue (cTmp tupL (aComp 1 [1, 2] (MM.iRng1 (cVar 3)) (gVar 0) tTrue (cTup (cCons (cCall ja (cCons (cVar 1) (cCons (cVar 2) cNil))) (cCons (cCall ja (cCons (cVar 1) (cCons (cCon (.int 4)) cNil))) cNil))))) anySt (upto m fun i => .int i) [none, some (.ref p), some (.int m), some (.int n)]) A s := by
 refine QhJ (fun i out s' => ∃ nx un : Nat → Nat → Nat, out = (upto i fun s => .tup (upto n fun d => .tup [.int (nx s d : Nat), .int (un s d : Nat)])) ∧ (∀ s d, s < i → d < n → nx s d < m ∧ un s d < 4) ∧ PotAt s' p q ∧ Kept p q s s') (fun _ _ _ _ => trivial) ⟨fun _ _ => 0, fun _ _ => 0, rfl, fun j d hj => absurd hj (Nat.not_lt_zero _), hp, Kept.refl⟩ (fun i out s1 hi hW => ?_) (fun out s1 pq119 => by obtain ⟨nx, un, eo, hfg, hp1, k1⟩ := pq119; rw [eo]; exact h nx un s1 ⟨h1, h2, h3, h4, hfg⟩ hp1 k1)
 obtain ⟨nx, un, eo, hfg, hp1, k1⟩ := hW
 have hb := Qik (show n ≤ 100 by ac_nf)
 have hl : n ≤ lim := Qhf (by ac_nf)
 simp_arith [hb, capt, Int.toNat_natCast, Qhz, Qhu, hl]
 refine Qil hp1 h1 h2 fun f g s2 hf hp2 k2 => ?_
 try simp_arith []
 refine ⟨fun j d => if j = i then f d else nx j d, fun j d => if j = i then g d else un j d, ?_, fun j d hj hd => ?_, hp2, k1.trans k2⟩
 ·rw [Qhv, eo]
  congr 1
  ·exact Qhx fun j hj => by
     congr 1
     exact Qhx fun d hd => by dsimp only; rw [if_neg (by ac_nf), if_neg (by ac_nf)]
  ·congr 2
   exact Qhx fun d hd => by dsimp only; rw [if_pos rfl, if_pos rfl]
 ·dsimp only
  by_cases e : j = i
  ·rw [if_pos e, if_pos e]; exact hf d hd
  ·rw [if_neg e, if_neg e]; exact hfg j d (by ac_nf) hd
theorem Qin {k : Nat} {A : List D → Sto → Prop} (hk3 : k ≤ 3) : wp (collect (gVar 0) tTrue (c2 addD (cTup (cCons (cTup (cCons (cVar 0) (cCons (cVar 0) cNil))) cNil)) (cTmp tupL (aComp 1 [] (MM.iRng1 (cVar 1)) (gVar 0) tTrue (cTup (cCons (cVar 0) (cCons (cCon (.int 0)) cNil)))))) anySt (upto k fun i => .int i) [none, some (.int k)]) A s = A (upto k fun v => .tup (.tup [.int (v : Nat), .int (v : Nat)] :: upto k fun v => .tup [.int (v : Nat), .int 0])) s := QhK QhH fun v hv Q => by
 have l1 : 1 ≤ lim := Qhf (by ac_nf)
 have l2 : 2 ≤ lim := Qhf (by ac_nf)
 have hb := Qik (show k ≤ 100 by ac_nf)
 have hl : k ≤ lim := Qhf (by ac_nf)
 have hl2 : 1 + k ≤ lim := Qhf (by ac_nf)
 have w0 : ∀ Q s, wp (collect (gVar 0) tTrue (cTup (cCons (cVar 0) (cCons (cCon (.int 0)) cNil))) anySt (upto k fun i => .int i) [none]) Q s = Q (upto k fun v => .tup [.int (v : Nat), .int 0]) s := fun Q s => QhK QhH fun v hv Q => by
  simp_arith [l2]
 simp_arith [l1, l2, hb, capt, Int.toNat_natCast, Qhz, Qhu, hl, ↓w0, hl2]
theorem Qio {k : Nat} : D.tup (upto k fun v => .tup (.tup [.int (v : Nat), .int (v : Nat)] :: upto k fun v => .tup [.int (v : Nat), .int 0])) = tabD k (k + 1) (fun s d => match d with
    | 0 => s
    | d + 1 => d) (fun s d => match d with
    | 0 => s
    | _ + 1 => 0) := by
 unfold tabD
 congr 1
 exact Qhx fun v hv => by
  rw [QhX]
  congr 1
  exact Qhx fun d hd => by cases d <;> rfl
theorem Qip {m : Nat} {A : List D → Sto → Prop} (hm : m ≤ 4) : wp (collect (gVar 0) tTrue (cTmp tupL (aComp 1 [0] (MM.iRng1 (cVar 1)) (gVar 0) tTrue (cTup (cCons (cVar 0) (cCons (cVar 1) cNil))))) anySt (upto m fun i => .int i) [none, some (.int m)]) A s = A (upto m fun s => .tup (upto m fun v => .tup [.int (v : Nat), .int (s : Nat)])) s := QhK QhH fun v hv Q => by
 have l2 : 2 ≤ lim := Qhf (by ac_nf)
 have hb := Qik (show m ≤ 100 by ac_nf)
 have hl : m ≤ lim := Qhf (by ac_nf)
 have w0 : ∀ Q s, wp (collect (gVar 0) tTrue (cTup (cCons (cVar 0) (cCons (cVar 1) cNil))) anySt (upto m fun i => .int i) [none, some (.int v)]) Q s = Q (upto m fun u => .tup [.int (u : Nat), .int (v : Nat)]) s := fun Q s => QhK QhH fun u hu Q => by
  simp_arith [l2]
 simp_arith [hb, capt, Int.toNat_natCast, Qhz, Qhu, hl, ↓w0]
theorem Qiq {m : Nat} {A : List D → Sto → Prop} (hm1 : 1 ≤ m) : wp (collect (gVar 0) tTrue (cTup (cCons (cTup (cCons (c2 modD (c2 addD (cVar 0) (cCon (.int 1))) (cVar 1)) (cCons (cVar 0) cNil))) cNil)) anySt (upto m fun i => .int i) [none, some (.int m)]) A s = A (upto m fun s => .tup [.tup [.int (((s + 1) % m : Nat) : Int), .int (s : Nat)]]) s := QhK QhH fun v hv Q => by
 have l1 : 1 ≤ lim := Qhf (by ac_nf)
 have l2 : 2 ≤ lim := Qhf (by ac_nf)
 have hm0 : (0 : Int) < (m : Nat) := by ac_nf
 have ev : ((v : Int) + 1) % (m : Int) = (((v + 1) % m : Nat) : Int) := by simp
 simp_arith [l1, l2, hm0, ev]
theorem Qir {m : Nat} {A : List D → Sto → Prop} (hm : m ≤ 4) : wp (collect (gVar 0) tTrue (cTmp tupL (aComp 1 [0] (MM.iRng2 (cCon (.int 1)) (cVar 1)) (gVar 0) tTrue (cTup (cCons (cVar 1) (cCons (cVar 1) cNil))))) anySt (upto (m - 1) fun i => .int (1 + (i : Int))) [none, some (.int m)]) A s = A (upto (m - 1) fun s => .tup (upto (m - 1) fun v => .tup [.int (1 + (s : Int)), .int (1 + (s : Int))])) s := QhK QhH fun v hv Q => by
 have l2 : 2 ≤ lim := Qhf (by ac_nf)
 have hb := Qik (show m ≤ 100 by ac_nf)
 have e1 : ((m : Int) - 1).toNat = m - 1 := by ac_nf
 have hl1 : m - 1 ≤ lim := Qhf (by ac_nf)
 have b1 : (-(2 ^ 62) ≤ (1 : Int) ∧ (1 : Int) < 2 ^ 62) := by ac_nf
 have w0 : ∀ Q s, wp (collect (gVar 0) tTrue (cTup (cCons (cVar 1) (cCons (cVar 1) cNil))) anySt (upto (m - 1) fun i => .int (1 + (i : Int))) [none, some (.int (1 + (v : Int)))]) Q s = Q (upto (m - 1) fun u => .tup [.int (1 + (v : Int)), .int (1 + (v : Int))]) s := fun Q s => QhK QhH fun u hu Q => by
  simp_arith [l2]
 simp_arith [b1, hb, capt, e1, QhY, Qhu, hl1, ↓w0]
theorem Qis {m : Nat} {A : List D → Sto → Prop} : wp (collect (gVar 0) tTrue (cTup (cCons (cVar 0) (cCons (cVar 0) cNil))) anySt (upto (m - 1) fun i => .int (1 + (i : Int))) [none]) A s = A (upto (m - 1) fun v => .tup [.int (1 + (v : Int)), .int (1 + (v : Int))]) s := QhK QhH fun u hu Q => by
 have l2 : 2 ≤ lim := Qhf (by ac_nf)
 simp_arith [l2]
theorem Qit {n : Nat} : D.tup (.tup (upto n fun v => .tup [.int (1 + (v : Int)), .int (1 + (v : Int))]) :: upto n fun s => .tup (upto n fun v => .tup [.int (1 + (s : Int)), .int (1 + (s : Int))])) = tabD (n + 1) n (fun s d => match s with
     | 0 => d + 1
     | s + 1 => s + 1) (fun s d => match s with
     | 0 => d + 1
     | s + 1 => s + 1) := by
 unfold tabD
 rw [QhX]
 congr 1
 exact Qhx fun s hs => by
  cases s with
  | zero =>
   dsimp only
   congr 1
   exact Qhx fun d hd => by rw [show (1 + (d : Int)) = ((d + 1 : Nat) : Int) by ac_nf]
  | succ s =>
   dsimp only
   congr 1
   exact Qhx fun d hd => by rw [show (1 + (s : Int)) = ((s + 1 : Nat) : Int) by ac_nf]
theorem Qiu {mo : Int} (mo1 : 1 ≤ mo) (mo4 : mo ≤ 4) (hp : PotAt s p q) (h : ∀ S dn nx un s', TabOk S dn nx un → (S : Int) ≤ mo → PotAt s' p q → Kept p q s s' → Q (tabD S dn nx un) s') : wp (yD [.ref p, .int mo]) Q s := by
 (simp_arith [yD]; simp_arith [vZ])
 refine Qii hp (by ac_nf) (by ac_nf) fun kind s1 kd0 kd1 hp1 k1 => ?_
 try simp_arith []
 refine Qii hp1 (by ac_nf) (by ac_nf) fun r s2 r0 r1 hp2 k2 => ?_
 have k12 := k1.trans k2
 have hr : r = ((r.toNat : Nat) : Int) := (Int.toNat_of_nonneg r0).symm
 generalize r.toNat = rn at hr
 subst hr
 have hm : (1 + (rn : Int)) = ((1 + rn : Nat) : Int) := by ac_nf
 have hm1 : 1 ≤ 1 + rn := by ac_nf
 have hm4 : 1 + rn ≤ 4 := by ac_nf
 have hmo : ((1 + rn : Nat) : Int) ≤ mo := by ac_nf
 simp_arith [hm]
 try rw [hm]
 generalize 1 + rn = m at hm1 hm4 hmo
 have l1 : 1 ≤ lim := Qhf (by ac_nf)
 by_cases c0 : kind = 0
 ·rw [if_pos c0]
  have em : min (m : Int) 3 = ((min m 3 : Nat) : Int) := by ac_nf
  have hk1 : 1 ≤ min m 3 := by ac_nf
  have hk3 : min m 3 ≤ 3 := by ac_nf
  have hkm : min m 3 ≤ m := by ac_nf
  rw [em]
  generalize min m 3 = k at hk1 hk3 hkm
  have hb := Qik (show k ≤ 100 by ac_nf)
  have hl : k ≤ lim := Qhf (by ac_nf)
  have w1 : ∀ A s, wp (collect (gVar 0) tTrue (c2 addD (cTup (cCons (cTup (cCons (cVar 0) (cCons (cVar 0) cNil))) cNil)) (cTmp tupL (aComp 1 [] (MM.iRng1 (cVar 1)) (gVar 0) tTrue (cTup (cCons (cVar 0) (cCons (cCon (.int 0)) cNil)))))) anySt (upto k fun i => .int i) [none, some (.int k)]) A s = A (upto k fun v => .tup (.tup [.int (v : Nat), .int (v : Nat)] :: upto k fun v => .tup [.int (v : Nat), .int 0])) s := fun A s => Qin hk3
  simp_arith [hb, capt, Int.toNat_natCast, Qhz, Qhu, hl, ↓w1]
  rw [Qio]
  refine h _ _ _ _ _ ⟨hk1, by ac_nf, by ac_nf, by ac_nf, fun s d hs hd => ?_⟩ (by ac_nf) hp2 k12
  cases d with
  | zero => exact ⟨hs, by dsimp only; ac_nf⟩
  | succ d => exact ⟨by dsimp only; ac_nf, by dsimp only; ac_nf⟩
 rw [if_neg c0]
 have hb := Qik (show m ≤ 100 by ac_nf)
 have hl : m ≤ lim := Qhf (by ac_nf)
 by_cases c1 : kind = 1
 ·rw [if_pos c1]
  have w1 : ∀ A s, wp (collect (gVar 0) tTrue (cTmp tupL (aComp 1 [0] (MM.iRng1 (cVar 1)) (gVar 0) tTrue (cTup (cCons (cVar 0) (cCons (cVar 1) cNil))))) anySt (upto m fun i => .int i) [none, some (.int m)]) A s = A (upto m fun s => .tup (upto m fun v => .tup [.int (v : Nat), .int (s : Nat)])) s := fun A s => Qip hm4
  simp_arith [hb, capt, Int.toNat_natCast, Qhz, Qhu, hl, ↓w1]
  exact h m m (fun s d => d) (fun s d => s) _ ⟨hm1, hm4, hm1, hm4, fun s d hs hd => ⟨hd, by dsimp only; ac_nf⟩⟩ (by ac_nf) hp2 k12
 rw [if_neg c1]
 by_cases c2' : kind = 2
 ·rw [if_pos c2']
  have w1 : ∀ A s, wp (collect (gVar 0) tTrue (cTup (cCons (cTup (cCons (c2 modD (c2 addD (cVar 0) (cCon (.int 1))) (cVar 1)) (cCons (cVar 0) cNil))) cNil)) anySt (upto m fun i => .int i) [none, some (.int m)]) A s = A (upto m fun s => .tup [.tup [.int (((s + 1) % m : Nat) : Int), .int (s : Nat)]]) s := fun A s => Qiq hm1
  simp_arith [hb, capt, Int.toNat_natCast, Qhz, Qhu, hl, ↓w1]
  exact h m 1 (fun s d => (s + 1) % m) (fun s d => s) _ ⟨hm1, hm4, by ac_nf, by ac_nf, fun s d hs hd => ⟨Nat.mod_lt _ (by ac_nf), by dsimp only; ac_nf⟩⟩ (by ac_nf) hp2 k12
 rw [if_neg c2']
 by_cases c3 : kind = 3
 ·rw [if_pos c3]
  by_cases c4 : (1 : Int) < (m : Nat)
  ·rw [if_pos c4]
   have e1 : ((m : Int) - 1).toNat = m - 1 := by ac_nf
   have hl1 : m - 1 ≤ lim := Qhf (by ac_nf)
   have hlm : 1 + (m - 1) ≤ lim := Qhf (by ac_nf)
   have b1 : (-(2 ^ 62) ≤ (1 : Int) ∧ (1 : Int) < 2 ^ 62) := by ac_nf
   have w1 : ∀ A s, wp (collect (gVar 0) tTrue (cTmp tupL (aComp 1 [0] (MM.iRng2 (cCon (.int 1)) (cVar 1)) (gVar 0) tTrue (cTup (cCons (cVar 1) (cCons (cVar 1) cNil))))) anySt (upto (m - 1) fun i => .int (1 + (i : Int))) [none, some (.int m)]) A s = A (upto (m - 1) fun s => .tup (upto (m - 1) fun v => .tup [.int (1 + (s : Int)), .int (1 + (s : Int))])) s := fun A s => Qir hm4
   have w2 : ∀ A s, wp (collect (gVar 0) tTrue (cTup (cCons (cVar 0) (cCons (cVar 0) cNil))) anySt (upto (m - 1) fun i => .int (1 + (i : Int))) [none]) A s = A (upto (m - 1) fun v => .tup [.int (1 + (v : Int)), .int (1 + (v : Int))]) s := fun A s => Qis
   have g : ∀ (ds : List D) Q, wp (getL s2.length) Q (s2 ++ [MO.lst ds]) = Q ds (s2 ++ [MO.lst ds]) := fun ds Q => Qg6 (by simp)
   simp_arith [b1, hb, capt, e1, QhY, Qhu, hl1, ↓w1, ↓w2, ↓g, l1, hlm]
   rw [Qit]
   refine h _ _ _ _ _ ⟨by ac_nf, by ac_nf, by ac_nf, by ac_nf, fun s d hs hd => ?_⟩ (by ac_nf) hp2.snoc k12.snoc
   cases s with
   | zero => dsimp only; ac_nf
   | succ s => dsimp only; ac_nf
  ·rw [if_neg c4]
   refine Qii hp2 (by ac_nf) (by ac_nf) fun r s3 r0 r1 hp3 k3 => ?_
   have hr : r = ((r.toNat : Nat) : Int) := (Int.toNat_of_nonneg r0).symm
   generalize r.toNat = rn at hr
   subst hr
   have hm : (1 + (rn : Int)) = ((1 + rn : Nat) : Int) := by ac_nf
   simp_arith [hm, hb, capt, Int.toNat_natCast, Qhz, Qhu, hl]
   try rw [hm]
   refine Qim hp3 hm1 hm4 (by ac_nf) (by ac_nf) fun nx un s4 ok hp4 k4 => ?_
   simp_arith []
   exact h _ _ _ _ _ ok (by ac_nf) hp4 ((k12.trans k3).trans k4)
 ·rw [if_neg c3]
  refine Qii hp2 (by ac_nf) (by ac_nf) fun r s3 r0 r1 hp3 k3 => ?_
  have hr : r = ((r.toNat : Nat) : Int) := (Int.toNat_of_nonneg r0).symm
  generalize r.toNat = rn at hr
  subst hr
  have hm : (1 + (rn : Int)) = ((1 + rn : Nat) : Int) := by ac_nf
  simp_arith [hm, hb, capt, Int.toNat_natCast, Qhz, Qhu, hl]
  try rw [hm]
  refine Qim hp3 hm1 hm4 (by ac_nf) (by ac_nf) fun nx un s4 ok hp4 k4 => ?_
  simp_arith []
  exact h _ _ _ _ _ ok (by ac_nf) hp4 ((k12.trans k3).trans k4)
end
end My
namespace My
open MM
open PySem (Str)
structure Bd where
 S : Nat
 dn : Nat
 nx : Nat → Nat → Nat
 un : Nat → Nat → Nat
 st : Nat
inductive Ln where
 | settle (v : Nat)
 | act (b d : Nat) (gs : List Nat)
structure Hd where
 b0 : Nat
 b1 : Nat
 lines : List Ln
structure Hs where
 boards : List Bd
 hands : List Hd
structure Sd where
 ls : List Nat
 ss : List Nat
 deriving DecidableEq
noncomputable def natD (n : Nat) : D := .int (n : Int)
noncomputable def bdD (b : Bd) : D := .tup [tabD b.S b.dn b.nx b.un, natD b.st]
noncomputable def lnD : Ln → D
 | .settle v => .tup [.str "settle", natD v]
 | .act b d gs => .tup [.str "do", natD b, natD d, .tup (gs.map natD)]
noncomputable def hdD (h : Hd) : D := .tup [.tup [natD h.b0, natD h.b1], .tup (h.lines.map lnD)]
noncomputable def hsD (h : Hs) : D := .tup [.tup (h.boards.map bdD), .tup (h.hands.map hdD)]
noncomputable def sdD (s : Sd) : D := .tup [.tup (s.ls.map natD), .tup (s.ss.map natD)]
def BdOk (b : Bd) : Prop := TabOk b.S b.dn b.nx b.un ∧ b.st < b.S
noncomputable def LnOk (bs : List Bd) (m : Nat) : Ln → Prop
 | .settle v => v < 2
 | .act b d gs => ∃ bd, bs[b]? = some bd ∧ d < bd.dn ∧ gs.length = 1 + mx (bd.un · d) bd.S ∧ ∀ g ∈ gs, g < m
def HdOk (bs : List Bd) (h : Hd) : Prop := h.b0 < h.lines.length ∧ h.b1 < h.lines.length ∧ h.lines.length ≤ 12 ∧ ∀ l ∈ h.lines, LnOk bs h.lines.length l
def HsOk (h : Hs) : Prop := h.boards.length ≤ 7 ∧ (∀ b ∈ h.boards, BdOk b) ∧ 2 ≤ h.hands.length ∧ h.hands.length ≤ 3 ∧ ∀ x ∈ h.hands, HdOk h.boards x
def SdOk (h : Hs) (s : Sd) : Prop := s.ls.length = h.hands.length ∧ s.ss.length = h.boards.length ∧ (∀ (k : Nat) hd l, h.hands[k]? = some hd → s.ls[k]? = some l → l < hd.lines.length) ∧ ∀ (b : Nat) bd x, h.boards[b]? = some bd → s.ss[b]? = some x → x < bd.S
theorem Qiv {r : Int} (h : 0 ≤ r) : ∃ n : Nat, r = (n : Int) := ⟨r.toNat, (Int.toNat_of_nonneg h).symm⟩
section
variable {p q : Nat} {s s1 s2 : Sto} {Q : D → Sto → Prop}
theorem Qiw {b : Bd} {d : Nat} {Q : D → Sto → Prop} {s : Sto} (h : TabOk b.S b.dn b.nx b.un) (hd : d < b.dn) : wp (collect (gVar 0) tTrue (c2 subsD (c2 subsD (cVar 0) (cVar 1)) (cCon (.int 1))) anySt (upto b.S fun s => .tup (upto b.dn fun d => D.tup [.int (b.nx s d : Nat), .int (b.un s d : Nat)])) [none, some (.int d)]) (fun x s' => wp (maxD x) Q s') s = Q (.int (mx (b.un · d) b.S : Nat)) s := by
 rw [QhK (f := fun i => .int (b.un i d : Nat)) QhH (fun i hi Q => by simp_arith [↓QhD hd])]
 exact QhP (f := (b.un · d)) (by have := h.1; ac_nf)
theorem Qix {nb : Nat} {bs : List Bd} {m k : Nat} {on : Bool} {T : Bool → Sto → Prop} (hp : PotAt s p q) (hg : s[nb]? = some (.lst (bs.map bdD))) (hk : k < m) (h1 : ∀ s1, PotAt s1 p q → Kept p q s s1 → T true s1) (h2 : ∀ s1, (on = true → k + 1 < m) → 0 < bs.length → PotAt s1 p q → Kept p q s s1 → T false s1) :
  wp (tOrB (tCmpB (c2 eqD (c1 lenD (cVar 1)) (cCon (.int 0)))) (tOrB (tAndB (tVal (cVar 4)) (tCmpB (c2 eqD (cVar 3) (c2 subD (cVar 2) (cCon (.int 1)))))) (tCmpB (c2 eqD (cCall ja (cCons (cVar 0) (cCons (cCon (.int 5)) cNil))) (cCon (.int 0))))) [some (.ref p), some (.ref nb), some (.int m), some (.int k), some (.bl on), none, none, none, none, none]) T s := by
 have q1 : ∀ Q, wp (getL nb) Q s = Q (bs.map bdD) s := fun Q => Qg6 hg
 simp_arith [↓q1, List.length_map]
 by_cases hz : bs.length = 0
 ·rw [if_pos (by ac_nf)]
  exact h1 s hp Kept.refl
 rw [if_neg (by ac_nf)]
 have go : ∀ (hon : on = true → k + 1 < m) (R : D → Sto → Prop) (hR : ∀ (r : Int) s', R (.int r) s' = T (r == 0) s'), wp (ja [.ref p, .int 5]) R s := fun hon R hR => by
  refine Qii hp (by ac_nf) (by ac_nf) fun r s1 r0 r1 hp1 k1 => ?_
  rw [hR]
  by_cases hr : r = 0
  ·have : (r == 0) = true := by simp [hr]
   rw [this]; exact h1 s1 hp1 k1
  ·have : (r == 0) = false := by simp [hr]
   rw [this]; exact h2 s1 hon (by ac_nf) hp1 k1
 cases on with
 | false =>
  simp only [Bool.false_eq_true, if_false]
  exact go (fun h => by cases h) _ fun r s' => by simp_arith []
 | true =>
  simp only [if_true]
  by_cases hkm : k + 1 < m
  ·rw [if_neg (by ac_nf)]
   exact go (fun _ => hkm) _ fun r s' => by simp_arith []
  ·rw [if_pos (by ac_nf)]
   exact h1 s hp Kept.refl
theorem Qiy {nb : Nat} {bs : List Bd} {m k : Nat} {on : Bool} (hp : PotAt s p q) (hg : s[nb]? = some (.lst (bs.map bdD))) (hnp : nb ≠ p) (hnq : nb ≠ q) (hbl : bs.length ≤ 7) (hbd : ∀ x ∈ bs, BdOk x) (hk : k < m) (hm : m ≤ 12)
  (h : ∀ ln s', LnOk bs m ln → PotAt s' p q → Kept p q s s' → Q (lnD ln) s') : wp (yz [.ref p, .ref nb, .int m, .int k, .bl on]) Q s := by
 have l0 : 0 ≤ lim := Nat.zero_le _
 have l2 : 2 ≤ lim := Qhf (by ac_nf)
 have l4 : 4 ≤ lim := Qhf (by ac_nf)
 simp only [yz, JH, ↓wp_run, ↓x_seq, ↓x_if, List.map_cons, List.map_nil, List.cons_append, List.nil_append, List.length_cons, List.length_nil, Nat.reduceAdd, Nat.reduceSub, List.replicate_succ, List.replicate_zero]
 refine Qix hp hg hk (fun s1 hp1 k1 => ?_) (fun s1 hon hz hp1 k1 => ?_)
 ·simp_arith [l2]
  refine Qii hp1 (by ac_nf) (by ac_nf) fun v s2 v0 v1 b2 k2 => ?_
  obtain ⟨n, e⟩ := Qiv v0
  subst e
  simp_arith [l2]
  exact h (.settle n) _ (by show n < 2; ac_nf) b2 (k1.trans k2)
 ·have q2 : ∀ Q, wp (getL nb) Q s1 = Q (bs.map bdD) s1 := fun Q => Qg6 (k1.same hnp hnq hg)
  simp_arith [↓q2, List.length_map, Bool.false_eq_true, if_false]
  refine Qii hp1 (by ac_nf) (by ac_nf) fun bi s2 bi0 bi1 hp2 k2 => ?_
  obtain ⟨b, eb⟩ := Qiv bi0
  subst eb
  have hb : b < bs.length := by ac_nf
  have hat : bs[b]? = some bs[b] := List.getElem?_eq_getElem hb
  obtain ⟨ok, hst⟩ := hbd bs[b] (List.getElem_mem hb)
  generalize bs[b] = bd at hat ok hst
  have q3 : ∀ Q, wp (getL nb) Q s2 = Q (bs.map bdD) s2 := fun Q => Qg6 ((k1.trans k2).same hnp hnq hg)
  have q4 : ∀ Q s, wp (itemD (bs.map bdD) (b : Int)) Q s = Q (.tup [tabD bd.S bd.dn bd.nx bd.un, natD bd.st]) s := fun Q s => Qhl (by rw [List.getElem?_map, hat]; rfl)
  have ok0 := ok
  obtain ⟨o1, o2, o3, o4, o5⟩ := ok
  have tb : wp (subsD (tabD bd.S bd.dn bd.nx bd.un) (.int 0)) = fun Q s => Q (D.tup (upto bd.dn fun d => D.tup [.int (bd.nx 0 d : Nat), .int (bd.un 0 d : Nat)])) s := by
   funext Q s; unfold tabD; rw [x_subsT, QhE (by ac_nf)]
  simp_arith [↓q3, ↓q4, ↓tb, Qhu]
  refine Qii hp2 (by ac_nf) (by ac_nf) fun dd s3 dd0 dd1 hp3 k3 => ?_
  obtain ⟨d, ed⟩ := Qiv dd0
  subst ed
  have hd : d < bd.dn := by ac_nf
  have hS : bd.S ≤ lim := Qhf (by ac_nf)
  have mu : ∀ Q s, wp (collect (gVar 0) tTrue (c2 subsD (c2 subsD (cVar 0) (cVar 1)) (cCon (.int 1))) anySt (upto bd.S fun s => .tup (upto bd.dn fun d => D.tup [.int (bd.nx s d : Nat), .int (bd.un s d : Nat)])) [none, some (.int d)]) (fun x s' => wp (maxD x) Q s') s = Q (.int (mx (bd.un · d) bd.S : Nat)) s := fun Q s => Qiw ok0 hd
  have hmx : mx (bd.un · d) bd.S ≤ 3 := QhN fun i hi => by have := (o5 i d hi hd).2; ac_nf
  have hm1 : (1 + ((mx (bd.un · d) bd.S : Nat) : Int)) = ((1 + mx (bd.un · d) bd.S : Nat) : Int) := by ac_nf
  have hb1 := Qik (show 1 + mx (bd.un · d) bd.S ≤ 100 by ac_nf)
  simp_arith [l0, tabD, capt, Qhu, hS, ↓mu, hm1, hb1, Int.toNat_natCast, Qhz]
  have k123 := (k1.trans k2).trans k3
  have hp4 : PotAt (s3 ++ [.lst []]) p q := hp3.snoc
  have k4 : Kept p q s (s3 ++ [.lst []]) := k123.snoc
  have g4 : (s3 ++ [MO.lst []])[s3.length]? = some (.lst []) := by simp
  have hlp := hp3.lt
  have hs3 : s.length ≤ s3.length := k123.le
  generalize s3 ++ [MO.lst []] = s4 at hp4 k4 g4
  refine QhI (n := 1 + mx (bd.un · d) bd.S) (fun i l s' => ∃ x9 gs, l = [some (.ref p), some (.ref nb), some (.int m), some (.int k), some (.bl on), some (.int b), some (.tup (upto bd.S fun s => .tup (upto bd.dn fun d => D.tup [.int (bd.nx s d : Nat), .int (bd.un s d : Nat)]))), some (.int d), some (.ref s3.length), x9] ∧ s'[s3.length]? = some (.lst (gs.map natD)) ∧ gs.length = i ∧ (∀ g ∈ gs, g < m) ∧ PotAt s' p q ∧ Kept p q s s') (fun _ _ _ _ => trivial) ⟨_, [], rfl, g4, rfl, by simp, hp4, k4⟩ (fun i l s' hi hW => ?_) (fun l s' hW => ?_)
  ·obtain ⟨x9, gs, el, g, hl, hgs, hp', hk'⟩ := hW
   subst el
   have app : ∀ v s5, v < m → PotAt s5 p q → Kept p q s' s5 → ∃ gs' : List Nat,(s5.set s3.length (.lst (gs.map natD ++ [natD v])))[s3.length]? = some (.lst (gs'.map natD)) ∧ gs'.length = i + 1 ∧ (∀ g ∈ gs', g < m) ∧ PotAt (s5.set s3.length (.lst (gs.map natD ++ [natD v]))) p q ∧ Kept p q s (s5.set s3.length (.lst (gs.map natD ++ [natD v]))) := fun v s5 hv hp5 k5 => by
    have g5 : s5[s3.length]? = some (.lst (gs.map natD)) := k5.same (by ac_nf) (by ac_nf) g
    refine ⟨gs ++ [v], by rw [List.getElem?_set_self (Qih g5)]; simp, by simp [hl], fun x hx => ?_, hp5.put (by ac_nf) (by ac_nf), (hk'.trans k5).put hs3⟩
    rcases List.mem_append.mp hx with hx | hx
    ·exact hgs x hx
    ·rw [List.mem_singleton] at hx; rw [hx]; exact hv
   have l3 : gs.length < lim := Qhg (by ac_nf)
   cases on with
   | true =>
    have hkm := hon rfl
    simp_arith [if_true]
    refine Qii hp' (by ac_nf) (by ac_nf) fun r s5 r0 r1 hp5 k5 => ?_
    obtain ⟨v, ev⟩ := Qiv r0
    subst ev
    have g5 : s5[s3.length]? = some (.lst (gs.map natD)) := k5.same (by ac_nf) (by ac_nf) g
    have q5 : ∀ Q, wp (getL s3.length) Q s5 = Q (gs.map natD) s5 := fun Q => Qg6 g5
    have q6 : ∀ es Q, wp (putL s3.length es) Q s5 = Q () (s5.set s3.length (.lst es)) := fun es Q => Qg7 g5
    have ev : D.int ((k : Int) + 1 + (v : Int)) = natD (k + 1 + v) := by unfold natD; congr 1
    simp_arith [↓q5, ↓q6, List.length_map, l3, ev]
    obtain ⟨gs', z⟩ := app (k + 1 + v) s5 (by ac_nf) hp5 k5
    exact ⟨_, gs', rfl, z⟩
   | false =>
    simp_arith [Bool.false_eq_true, if_false]
    refine Qii hp' (by ac_nf) (by ac_nf) fun r s5 r0 r1 hp5 k5 => ?_
    obtain ⟨v, ev⟩ := Qiv r0
    subst ev
    have g5 : s5[s3.length]? = some (.lst (gs.map natD)) := k5.same (by ac_nf) (by ac_nf) g
    have q5 : ∀ Q, wp (getL s3.length) Q s5 = Q (gs.map natD) s5 := fun Q => Qg6 g5
    have q6 : ∀ es Q, wp (putL s3.length es) Q s5 = Q () (s5.set s3.length (.lst es)) := fun es Q => Qg7 g5
    simp_arith [↓q5, ↓q6, List.length_map, l3]
    obtain ⟨gs', z⟩ := app v s5 (by ac_nf) hp5 k5
    exact ⟨_, gs', rfl, z⟩
  ·obtain ⟨x9, gs, el, g, hl, hgs, hp', hk'⟩ := hW
   subst el
   have q5 : ∀ Q, wp (getL s3.length) Q s' = Q (gs.map natD) s' := fun Q => Qg6 g
   simp_arith [↓q5, l4]
   exact h (.act b d gs) _ ⟨bd, hat, hd, hl, hgs⟩ hp' hk'
end
end My
namespace My
open MM
open PySem (Str)
section
variable {p q : Nat} {s s1 s2 : Sto} {Q : D → Sto → Prop}
theorem Qiz {nb : Nat} {bs : List Bd} {m : Nat} {on : Bool} {A : List D → Sto → Prop} (hp : PotAt s p q) (hg : s[nb]? = some (.lst (bs.map bdD))) (hnp : nb ≠ p) (hnq : nb ≠ q) (hbl : bs.length ≤ 7) (hbd : ∀ x ∈ bs, BdOk x) (hm : m ≤ 12)
  (h : ∀ (ls : List Ln) s', ls.length = m → (∀ l ∈ ls, LnOk bs m l) → PotAt s' p q → Kept p q s s' → A (ls.map lnD) s') :
  wp (collect (gVar 0) tTrue (cCall yz (cCons (cVar 1) (cCons (cVar 2) (cCons (cVar 3) (cCons (cVar 0) (cCons (cVar 4) cNil)))))) anySt (upto m fun i => .int i) [none, some (.ref p), some (.ref nb), some (.int m), some (.bl on)]) A s := by
 refine QhJ (fun i out s' => ∃ ls : List Ln, out = ls.map lnD ∧ ls.length = i ∧ (∀ l ∈ ls, LnOk bs m l) ∧ PotAt s' p q ∧ Kept p q s s') (fun _ _ _ _ => trivial) ⟨[], rfl, rfl, by simp, hp, Kept.refl⟩ (fun i out s1 hi hW => ?_) (fun out s1 pq120 => by obtain ⟨ls, eo, hl, hls, hp1, k1⟩ := pq120; rw [eo]; exact h ls s1 hl hls hp1 k1)
 obtain ⟨ls, eo, hl, hls, hp1, k1⟩ := hW
 simp_arith []
 refine Qiy hp1 (k1.same hnp hnq hg) hnp hnq hbl hbd hi hm fun ln s2 hln hp2 k2 => ?_
 refine ⟨ls ++ [ln], by rw [eo]; simp, by simp [hl], fun l hl' => ?_, hp2, k1.trans k2⟩
 rcases List.mem_append.mp hl' with hl' | hl'
 ·exact hls l hl'
 ·rw [List.mem_singleton] at hl'; rw [hl']; exact hln
theorem QiA {r : Nat} (h : r < 8) {Q : D → Sto → Prop} {s : Sto} (hq : ∀ n : Nat, n ≤ 4 → Q (.int n) s) : wp (itemD [.int 0, .int 1, .int 1, .int 2, .int 2, .int 3, .int 1, .int 4] (r : Int)) Q s := by
 have : r = 0 ∨ r = 1 ∨ r = 2 ∨ r = 3 ∨ r = 4 ∨ r = 5 ∨ r = 6 ∨ r = 7 := by ac_nf
 rcases this with e | e | e | e | e | e | e | e <;> subst e <;> rw [Qhl (i := _) rfl] <;> first | exact hq 0 (by ac_nf) | exact hq 1 (by ac_nf) | exact hq 2 (by ac_nf) | exact hq 3 (by ac_nf) | exact hq 4 (by ac_nf)
noncomputable def mS : Nat → Nat
 | 0 => 4
 | 1 => 4
 | 2 => 3
 | _ => 2
noncomputable def mL2 : Nat → Nat
 | 0 => 8
 | 1 => 8
 | 2 => 6
 | 3 => 6
 | _ => 4
noncomputable def mL3 : Nat → Nat
 | 0 => 4
 | 1 => 4
 | 2 => 3
 | 3 => 3
 | _ => 2
noncomputable def mL (n c : Nat) : Nat := if n = 2 then mL2 c else mL3 c
theorem le4 {r : Nat} (h : r ≤ 4) : r = 0 ∨ r = 1 ∨ r = 2 ∨ r = 3 ∨ r = 4 := by ac_nf
theorem QiB {r : Nat} (h : r ≤ 4) {Q : D → Sto → Prop} {s : Sto} : wp (itemD [.int 4, .int 4, .int 3, .int 2, .int 2] (r : Int)) Q s = Q (.int (mS r)) s := by
 rcases le4 h with e | e | e | e | e <;> subst e <;> rw [Qhl (i := _) rfl] <;> rfl
theorem QiC {r : Nat} (h : r ≤ 4) {Q : D → Sto → Prop} {s : Sto} : wp (itemD [.int 8, .int 8, .int 6, .int 6, .int 4] (r : Int)) Q s = Q (.int (mL2 r)) s := by
 rcases le4 h with e | e | e | e | e <;> subst e <;> rw [Qhl (i := _) rfl] <;> rfl
theorem QiD {r : Nat} (h : r ≤ 4) {Q : D → Sto → Prop} {s : Sto} : wp (itemD [.int 4, .int 4, .int 3, .int 3, .int 2] (r : Int)) Q s = Q (.int (mL3 r)) s := by
 rcases le4 h with e | e | e | e | e <;> subst e <;> rw [Qhl (i := _) rfl] <;> rfl
theorem mS_b {r : Nat} (h : r ≤ 4) : 1 ≤ mS r ∧ mS r ≤ 4 := by rcases le4 h with e | e | e | e | e <;> subst e <;> decide
theorem mL_b {n r : Nat} (h : r ≤ 4) : 1 ≤ mL n r ∧ mL n r ≤ 8 := by unfold mL; split <;> (rcases le4 h with e | e | e | e | e <;> subst e <;> decide)
def HsF (x : Hs) : Prop := HsOk x ∧ x.boards.length ≤ 4 ∧ (∀ b ∈ x.boards, b.S ≤ mS x.boards.length) ∧ ∀ y ∈ x.hands, y.lines.length ≤ mL x.hands.length x.boards.length
theorem QiE {w k : Int} {l : Loc} {Q : D → Sto → Prop} {s : Sto} (h8 : l[8]? = some (some (.int w))) (h3 : l[3]? = some (some (.int k))) (h : ∀ b, Q (.bl b) s) : wp (cOr (c2 ltD (cVar 8) (cCon (.int 2))) (cAnd (c2 eqD (cVar 8) (cCon (.int 2))) (c2 gtD (cVar 3) (cCon (.int 0)))) l) Q s := by
 simp_arith [h8, h3]
 by_cases a : w < 2
 ·have : decide (w < 2) = true := decide_eq_true a
  rw [this]; simp only [andB_t]; exact h _
 ·have : decide (w < 2) = false := decide_eq_false a
  rw [this]; simp only [andB_f]
  by_cases b : w = 2
  ·have : (w == 2) = true := by simp [b]
   rw [this]; simp only [andB_t]; exact h _
  ·have : (w == 2) = false := by simp [b]
   rw [this]; simp only [andB_f]; exact h _
theorem QiF (hp : PotAt s p q) (h : ∀ x s', HsF x → PotAt s' p q → Kept p q s s' → Q (hsD x) s') : wp (yF [.ref p]) Q s := by
 have l0 : 0 ≤ lim := Nat.zero_le _
 have l2 : 2 ≤ lim := Qhf (by ac_nf)
 have l8 : 8 ≤ lim := Qhf (by ac_nf)
 have l5 : 5 ≤ lim := Qhf (by ac_nf)
 (simp_arith [yF]; simp_arith [v6, l0, l8])
 have hp1 : PotAt (s ++ [.lst []]) p q := hp.snoc
 have k1 : Kept p q s (s ++ [.lst []]) := Kept.refl.snoc
 have g1 : (s ++ [MO.lst []])[s.length]? = some (.lst []) := by simp
 have hlt := hp.lt
 generalize s ++ [MO.lst []] = s1 at hp1 k1 g1
 refine Qii hp1 (by ac_nf) (by ac_nf) fun r s2 r0 r1 hp2 k2 => ?_
 obtain ⟨rn, er⟩ := Qiv r0
 subst er
 have g2 : s2[s.length]? = some (.lst []) := k2.same (by ac_nf) (by ac_nf) g1
 have k12 := k1.trans k2
 simp_arith []
 refine QiA (by ac_nf) fun cnt hcnt => ?_
 have iS : ∀ (Q : D → Sto → Prop) s, wp (itemD [.int 4, .int 4, .int 3, .int 2, .int 2] (cnt : Int)) Q s = Q (.int (mS cnt)) s := fun Q s => QiB hcnt
 have bS := mS_b hcnt
 have hb := Qik (show cnt ≤ 100 by ac_nf)
 simp_arith [hb, Int.toNat_natCast, Qhz]
 refine QhI (n := cnt) (fun i l s' => ∃ x3 x4 bs, l = [some (.ref p), some (.ref s.length), some (.int cnt), x3, x4, none, none, none, none, none, none, none, none] ∧ s'[s.length]? = some (.lst (bs.map bdD)) ∧ bs.length = i ∧ (∀ x ∈ bs, BdOk x ∧ x.S ≤ mS cnt) ∧ PotAt s' p q ∧ Kept p q s s') (fun _ _ _ _ => trivial) ⟨_, _, [], rfl, g2, rfl, by simp, hp2, k12⟩ (fun i l s' hi hW => ?_) (fun l s' hW => ?_)
 ·obtain ⟨x3, x4, bs, el, g, hl, hbs, hp', hk'⟩ := hW
  subst el
  simp_arith [l5, ↓iS]
  refine Qiu (mo := (mS cnt : Int)) (by ac_nf) (by ac_nf) hp' fun S dn nx un s3 ok hSm hp3 k3 => ?_
  have w1 : wp (lenD (tabD S dn nx un)) = fun Q s => Q (.int S) s := by
   funext Q s; unfold tabD; rw [x_lenT, Qhu]
  simp_arith [↓w1]
  have o1 := ok.1
  have o2 := ok.2.1
  refine Qii hp3 (by ac_nf) (by ac_nf) fun st s4 st0 st1 hp4 k4 => ?_
  obtain ⟨stn, est⟩ := Qiv st0
  subst est
  have g4 : s4[s.length]? = some (.lst (bs.map bdD)) := (k3.trans k4).same (by ac_nf) (by ac_nf) g
  have q1 : ∀ Q, wp (getL s.length) Q s4 = Q (bs.map bdD) s4 := fun Q => Qg6 g4
  have q2 : ∀ es Q, wp (putL s.length es) Q s4 = Q () (s4.set s.length (.lst es)) := fun es Q => Qg7 g4
  have l3 : bs.length < lim := Qhg (by ac_nf)
  simp_arith [↓q1, ↓q2, l2, l3, List.length_map]
  refine ⟨_, _, bs ++ [⟨S, dn, nx, un, stn⟩], rfl, by rw [List.getElem?_set_self (Qih g4)]; simp [bdD, natD], by simp [hl], fun x hx => ?_, hp4.put (by ac_nf) (by ac_nf), ((hk'.trans k3).trans k4).put (Nat.le_refl _)⟩
  rcases List.mem_append.mp hx with hx | hx
  ·exact hbs x hx
  ·rw [List.mem_singleton] at hx; rw [hx]; exact ⟨⟨ok, by show stn < S; ac_nf⟩, by show S ≤ mS cnt; ac_nf⟩
 ·obtain ⟨x3, x4, bs, el, g, hl, hbs, hp', hk'⟩ := hW
  subst el
  simp_arith [l0]
  have hp3 : PotAt (s' ++ [.lst []]) p q := hp'.snoc
  have k3 : Kept p q s (s' ++ [.lst []]) := hk'.snoc
  have g3 : (s' ++ [MO.lst []])[s'.length]? = some (.lst []) := by simp
  have g3' : (s' ++ [MO.lst []])[s.length]? = some (.lst (bs.map bdD)) := by rw [List.getElem?_append_left (Qih g)]; exact g
  have hlt' := hp'.lt
  have hs' := hk'.le
  have hgl := Qih g
  generalize s' ++ [MO.lst []] = s3 at hp3 k3 g3 g3'
  refine Qii hp3 (by ac_nf) (by ac_nf) fun r3 s4 r30 r31 hp4 k4 => ?_
  have hn : ∃ n : Nat, (n = 2 ∨ n = 3) ∧ (2 + (if r3 = 0 then (1 : Int) else 0)) = (n : Int) := by
   by_cases e : r3 = 0
   ·exact ⟨3, .inr rfl, by simp [e]⟩
   ·exact ⟨2, .inl rfl, by simp [e]⟩
  obtain ⟨n, hn23, en⟩ := hn
  have hb := Qik (show n ≤ 100 by ac_nf)
  obtain ⟨mm, LL, gm, hit, hLL⟩ : ∃ (mm : Nat) (LL : List D), (s4 ++ [MO.lst [.int 8, .int 8, .int 6, .int 6, .int 4]] ++ [MO.lst [.int 4, .int 4, .int 3, .int 3, .int 2]])[mm]? = some (.lst LL) ∧ (∀ (Q : D → Sto → Prop) s, wp (itemD [.ref s4.length, .ref (s4 ++ [MO.lst [.int 8, .int 8, .int 6, .int 6, .int 4]]).length] ((n : Int) - 2)) Q s = Q (.ref mm) s) ∧ ∀ (Q : D → Sto → Prop) s, wp (itemD LL (cnt : Int)) Q s = Q (.int (mL n cnt)) s := by
   rcases hn23 with rfl | rfl
   ·exact ⟨_, _, Qh6 Qh5, fun Q s => by rw [show ((2 : Nat) : Int) - 2 = 0 from rfl, x_item0], fun Q s => QiC hcnt⟩
   ·exact ⟨_, _, Qh5, fun Q s => by rw [show ((3 : Nat) : Int) - 2 = 1 from rfl, x_item1], fun Q s => QiD hcnt⟩
  have qm : ∀ Q, wp (getL mm) Q (s4 ++ [MO.lst [.int 8, .int 8, .int 6, .int 6, .int 4]] ++ [MO.lst [.int 4, .int 4, .int 3, .int 3, .int 2]]) = Q LL _ := fun Q => Qg6 gm
  have bL := mL_b (n := n) hcnt
  simp_all_arith [en, l2, l5, ↓hit, ↓qm, ↓hLL]
  have hp4' : PotAt (s4 ++ [MO.lst [.int 8, .int 8, .int 6, .int 6, .int 4]] ++ [MO.lst [.int 4, .int 4, .int 3, .int 3, .int 2]]) p q := hp4.snoc.snoc
  have k4' : Kept p q s3 (s4 ++ [MO.lst [.int 8, .int 8, .int 6, .int 6, .int 4]] ++ [MO.lst [.int 4, .int 4, .int 3, .int 3, .int 2]]) := k4.snoc.snoc
  clear gm hit qm
  generalize s4 ++ [MO.lst [.int 8, .int 8, .int 6, .int 6, .int 4]] ++ [MO.lst [.int 4, .int 4, .int 3, .int 3, .int 2]] = s4' at hp4' k4'
  replace k4 := k4'
  have en' : (2 + (if (r3 == 0) = true then (1 : Int) else 0)) = (n : Int) := by rw [← en]; simp
  rw [en']
  refine Qii hp4' (by ac_nf) (by ac_nf) fun way s5 w0 w1 hp5 k5 => ?_
  simp_all_arith [en, hb, Int.toNat_natCast, Qhz]
  have g5 : s5[s'.length]? = some (.lst []) := (k4.trans k5).same (by ac_nf) (by ac_nf) g3
  have g5' : s5[s.length]? = some (.lst (bs.map bdD)) := (k4.trans k5).same (by ac_nf) (by ac_nf) g3'
  have k35 := (k3.trans k4).trans k5
  have hbs1 : ∀ x ∈ bs, BdOk x := fun x hx => (hbs x hx).1
  refine QhI (n := n) (fun i l s'' => ∃ x3 x8 x9 x10 x11 hs, l = [some (.ref p), some (.ref s.length), some (.int cnt), x3, x4, some (.ref s'.length), some (.int n), some (.int (mL n cnt)), some (.int way), x8, x9, x10, x11] ∧ s''[s'.length]? = some (.lst (hs.map hdD)) ∧ s''[s.length]? = some (.lst (bs.map bdD)) ∧ hs.length = i ∧ (∀ x ∈ hs, HdOk bs x ∧ x.lines.length ≤ mL n cnt) ∧ PotAt s'' p q ∧ Kept p q s s'') (fun _ _ _ _ => trivial) ⟨_, _, _, _, _, [], rfl, g5, g5', rfl, by simp, hp5, k35⟩ (fun i l s6 hi hW => ?_) (fun l s6 hW => ?_)
  ·obtain ⟨x3, x8, x9, x10, x11, hs, el, ga, gb, hl2, hhs, hp6, k6⟩ := hW
   subst el
   try simp_all_arith []
   refine Qii hp6 (by ac_nf) (by ac_nf) fun r s7 r0 r1 hp7 k7 => ?_
   obtain ⟨rn, er⟩ := Qiv r0
   subst er
   have hm : (1 + (rn : Int)) = ((1 + rn : Nat) : Int) := by ac_nf
   simp_all_arith [hm]
   have hm1 : 1 ≤ 1 + rn := by ac_nf
   have hm8 : 1 + rn ≤ 8 := by ac_nf
   have hmm : 1 + rn ≤ mL n cnt := by ac_nf
   try rw [hm]
   generalize 1 + rn = m at hm1 hm8 hmm
   refine QiE rfl rfl fun on => ?_
   have hbm := Qik (show m ≤ 100 by ac_nf)
   have hlm : m ≤ lim := Qhf (by ac_nf)
   simp_all_arith [hbm, Int.toNat_natCast, Qhz, Qhu, hlm, capt]
   refine Qiz hp7 (k7.same (by ac_nf) (by ac_nf) gb) (by ac_nf) (by ac_nf) (by ac_nf) hbs1 (by ac_nf) fun ls s8 hll hls hp8 k8 => ?_
   try simp_all_arith []
   refine Qii hp8 (by ac_nf) (by ac_nf) fun v1 s9 v10 v11 hp9 k9 => ?_
   obtain ⟨b1, eb1⟩ := Qiv v10
   subst eb1
   simp_all_arith [l2]
   refine Qii hp9 (by ac_nf) (by ac_nf) fun t sa t0 t1 hpa ka => ?_
   have l3 : hs.length < lim := Qhg (by ac_nf)
   have app : ∀ (b0 b1 : Nat) sb, b0 < m → b1 < m → PotAt sb p q → Kept p q s6 sb → ∃ hs' : List Hd, (sb.set s'.length (.lst (hs.map hdD ++ [.tup [.tup [.int b0, .int b1], .tup (ls.map lnD)]])))[s'.length]? = some (.lst (hs'.map hdD)) ∧ (sb.set s'.length (.lst (hs.map hdD ++ [.tup [.tup [.int b0, .int b1], .tup (ls.map lnD)]])))[s.length]? = some (.lst (bs.map bdD)) ∧ hs'.length = i + 1 ∧ (∀ x ∈ hs', HdOk bs x ∧ x.lines.length ≤ mL n cnt) ∧ PotAt (sb.set s'.length (.lst (hs.map hdD ++ [.tup [.tup [.int b0, .int b1], .tup (ls.map lnD)]]))) p q ∧ Kept p q s (sb.set s'.length (.lst (hs.map hdD ++ [.tup [.tup [.int b0, .int b1], .tup (ls.map lnD)]]))) := fun b0 b1 sb h0 h1 hpb kb => by
    have gc : sb[s'.length]? = some (.lst (hs.map hdD)) := kb.same (by ac_nf) (by ac_nf) ga
    refine ⟨hs ++ [⟨b0, b1, ls⟩], by rw [List.getElem?_set_self (Qih gc)]; simp [hdD, natD], by rw [List.getElem?_set_ne (by ac_nf)]; exact kb.same (by ac_nf) (by ac_nf) gb, by simp [hl2], fun x hx => ?_, hpb.put (by ac_nf) (by ac_nf), (k6.trans kb).put hs'⟩
    rcases List.mem_append.mp hx with hx | hx
    ·exact hhs x hx
    ·rw [List.mem_singleton] at hx; rw [hx]
     exact ⟨⟨by show b0 < ls.length; ac_nf, by show b1 < ls.length; ac_nf, by show ls.length ≤ 12; ac_nf, by show ∀ l ∈ ls, LnOk bs ls.length l; rw [hll]; exact hls⟩, by show ls.length ≤ mL n cnt; ac_nf⟩
   have k69 := ((k7.trans k8).trans k9).trans ka
   by_cases ht : t = 1
   ·subst ht
    simp_all_arith [l2, if_true]
    refine Qii hpa (by ac_nf) (by ac_nf) fun v2 sb v20 v21 hpb kb => ?_
    obtain ⟨b2, eb2⟩ := Qiv v20
    subst eb2
    try simp_all_arith [l2]
    refine Qii hpb (by ac_nf) (by ac_nf) fun v3 sc v30 v31 hpc kc => ?_
    obtain ⟨b3, eb3⟩ := Qiv v30
    subst eb3
    have gc : sc[s'.length]? = some (.lst (hs.map hdD)) := ((k69.trans kb).trans kc).same (by ac_nf) (by ac_nf) ga
    have q5 : ∀ Q, wp (getL s'.length) Q sc = Q (hs.map hdD) sc := fun Q => Qg6 gc
    have q6 : ∀ es Q, wp (putL s'.length es) Q sc = Q () (sc.set s'.length (.lst es)) := fun es Q => Qg7 gc
    simp_all_arith [l2, ↓q5, ↓q6, List.length_map, l3]
    obtain ⟨hs', z⟩ := app b2 b3 sc (by ac_nf) (by ac_nf) hpc ((k69.trans kb).trans kc)
    exact ⟨_, _, _, _, _, hs', rfl, z⟩
   ·have gc : sa[s'.length]? = some (.lst (hs.map hdD)) := k69.same (by ac_nf) (by ac_nf) ga
    have q5 : ∀ Q, wp (getL s'.length) Q sa = Q (hs.map hdD) sa := fun Q => Qg6 gc
    have q6 : ∀ es Q, wp (putL s'.length es) Q sa = Q () (sa.set s'.length (.lst es)) := fun es Q => Qg7 gc
    simp_all_arith [l2, ↓q5, ↓q6, List.length_map, l3]
    rw [if_neg ht]
    obtain ⟨hs', z⟩ := app 0 b1 sa (by ac_nf) (by ac_nf) hpa k69
    exact ⟨_, _, _, _, _, hs', rfl, z⟩
  ·obtain ⟨x3, x8, x9, x10, x11, hs, el, ga, gb, hl2, hhs, hp6, k6⟩ := hW
   subst el
   try simp_all_arith []
   refine Qii hp6 (by ac_nf) (by ac_nf) fun t s7 t0 t1 hp7 k7 => ?_
   have gc : s7[s'.length]? = some (.lst (hs.map hdD)) := k7.same (by ac_nf) (by ac_nf) ga
   have gd : s7[s.length]? = some (.lst (bs.map bdD)) := k7.same (by ac_nf) (by ac_nf) gb
   have q5 : ∀ Q, wp (getL s'.length) Q s7 = Q (hs.map hdD) s7 := fun Q => Qg6 gc
   have q6 : ∀ es Q, wp (putL s'.length es) Q s7 = Q () (s7.set s'.length (.lst es)) := fun es Q => Qg7 gc
   have q7 : ∀ Q, wp (getL s.length) Q s7 = Q (bs.map bdD) s7 := fun Q => Qg6 gd
   by_cases ht : t = 0
   ·subst ht
    obtain ⟨h0, hs0, eh⟩ : ∃ h0 hs0, hs = h0 :: hs0 := by
     cases hs with
     | nil => simp at hl2; ac_nf
     | cons a b => exact ⟨a, b, rfl⟩
    have q8 : ∀ Q s, wp (itemD (hs.map hdD) 0) Q s = Q (hdD h0) s := fun Q s => by rw [eh, List.map_cons, x_item0]
    have ix : MM.ixN (hs.map hdD).length (-1) = some (hs.length - 1) := by
     unfold MM.ixN
     rw [List.length_map, if_neg (by ac_nf), if_pos (by ac_nf)]
     congr 1; ac_nf
    have e9 : (hs.map hdD).set (hs.length - 1) (hdD h0) = (hs.set (hs.length - 1) h0).map hdD := by rw [List.map_set]
    have ge : ∀ es, (s7.set s'.length (MO.lst es))[s.length]? = some (.lst (bs.map bdD)) := fun es => by rw [List.getElem?_set_ne (by ac_nf)]; exact gd
    have gf : ∀ es, (s7.set s'.length (MO.lst es))[s'.length]? = some (.lst es) := fun es => List.getElem?_set_self (Qih gc)
    have qe : ∀ es Q, wp (getL s.length) Q (s7.set s'.length (MO.lst es)) = Q (bs.map bdD) (s7.set s'.length (MO.lst es)) := fun es Q => Qg6 (ge es)
    have qf : ∀ es Q, wp (getL s'.length) Q (s7.set s'.length (MO.lst es)) = Q es (s7.set s'.length (MO.lst es)) := fun es Q => Qg6 (gf es)
    simp_all_arith [if_true, ↓q5, ↓q8, ↓x_setR, ix, ↓q6, e9, ↓qe, ↓qf, l2]
    have hsl : (hs.set (hs.length - 1) h0).length = n := by rw [List.length_set]; ac_nf
    have mem : ∀ x ∈ hs.set (hs.length - 1) h0, HdOk bs x ∧ x.lines.length ≤ mL n cnt := fun x hx => by
     rcases List.mem_or_eq_of_mem_set hx with hx | hx
     ·exact hhs x hx
     ·rw [hx]; exact hhs h0 (by rw [eh]; simp)
    exact h ⟨bs, hs.set (hs.length - 1) h0⟩ _ ⟨⟨by show bs.length ≤ 7; ac_nf, hbs1, by show 2 ≤ (hs.set (hs.length - 1) h0).length; ac_nf, by show (hs.set (hs.length - 1) h0).length ≤ 3; ac_nf, fun x hx => (mem x hx).1⟩, by show bs.length ≤ 4; ac_nf, by show ∀ b ∈ bs, b.S ≤ mS bs.length; rw [hl]; exact fun b hb => (hbs b hb).2, by show ∀ y ∈ hs.set (hs.length - 1) h0, y.lines.length ≤ mL (hs.set (hs.length - 1) h0).length bs.length; rw [hsl, hl]; exact fun y hy => (mem y hy).2⟩ (hp7.put (by ac_nf) (by ac_nf)) ((k6.trans k7).put (by ac_nf))
   ·simp_all_arith [↓q5, ↓q7, l2]
    rw [if_neg ht]
    exact h ⟨bs, hs⟩ _ ⟨⟨by show bs.length ≤ 7; ac_nf, hbs1, by show 2 ≤ hs.length; ac_nf, by show hs.length ≤ 3; ac_nf, fun x hx => (hhs x hx).1⟩, by show bs.length ≤ 4; ac_nf, by show ∀ b ∈ bs, b.S ≤ mS bs.length; rw [hl]; exact fun b hb => (hbs b hb).2, by show ∀ y ∈ hs, y.lines.length ≤ mL hs.length bs.length; rw [hl2, hl]; exact fun y hy => (hhs y hy).2⟩ hp7 (k6.trans k7)
end
end My
namespace My
open MM
open PySem (Str)
theorem QiG : ((("settle" : Str)) == "settle") = true := by nofun
theorem QiH : ((("do" : Str)) == "settle") = false := by nofun
noncomputable def lineAt (h : Hs) (s : Sd) (k : Nat) : Ln := ((h.hands[k]?.bind fun hd => s.ls[k]?.bind fun l => hd.lines[l]?)).getD (.settle 0)
noncomputable def beh (h : Hs) (s : Sd) (k : Nat) : Sd := match lineAt h s k with
 | .settle _ => s
 | .act b d gs => match h.boards[b]?, s.ss[b]? with
  | some bd, some x => ⟨s.ls.set k ((gs[bd.un x d]?).getD 0), s.ss.set b (bd.nx x d)⟩
  | _, _ => s
section
variable {p q : Nat} {s s1 s2 : Sto} {Q : D → Sto → Prop} {h : Hs} {st : Sd}
theorem QiI {xs : List Nat} {i x : Nat} {Q : D → Sto → Prop} {s : Sto} (h : xs[i]? = some x) : wp (itemD (xs.map natD) (i : Int)) Q s = Q (.int (x : Nat)) s := Qhl (by rw [List.getElem?_map, h]; rfl)
theorem QiJ {k : Nat} (hh : HsOk h) (hs : SdOk h st) (hk : k < h.hands.length) : ∃ hd l, h.hands[k]? = some hd ∧ st.ls[k]? = some l ∧ l < hd.lines.length ∧ hd.lines[l]? = some (lineAt h st k) ∧ LnOk h.boards hd.lines.length (lineAt h st k) := by
 have e1 : h.hands[k]? = some h.hands[k] := List.getElem?_eq_getElem hk
 have hk2 : k < st.ls.length := by rw [hs.1]; exact hk
 have e2 : st.ls[k]? = some st.ls[k] := List.getElem?_eq_getElem hk2
 have hl := hs.2.2.1 k _ _ e1 e2
 have e3 : h.hands[k].lines[st.ls[k]]? = some (h.hands[k].lines[st.ls[k]]) := List.getElem?_eq_getElem hl
 have e4 : lineAt h st k = h.hands[k].lines[st.ls[k]] := by unfold lineAt; rw [e1, e2]; simp only [Option.bind_some, e3, Option.getD_some]
 refine ⟨_, _, e1, e2, hl, by rw [e3, e4], ?_⟩
 rw [e4]
 exact (hh.2.2.2.2 _ (List.mem_of_getElem? e1)).2.2.2 _ (List.getElem_mem hl)
theorem QiK {k : Nat} (hh : HsOk h) (hs : SdOk h st) (hk : k < h.hands.length) : wp (j0 [hsD h, sdD st, .int k]) Q s = Q (lnD (lineAt h st k)) s := by
 obtain ⟨hd, l, e1, e2, hl, e3, _⟩ := QiJ hh hs hk
 have w1 : ∀ Q s, wp (itemD (h.hands.map hdD) (k : Int)) Q s = Q (.tup [.tup [natD hd.b0, natD hd.b1], .tup (hd.lines.map lnD)]) s := fun Q s => Qhl (by rw [List.getElem?_map, e1]; rfl)
 have w2 : ∀ Q s, wp (itemD (st.ls.map natD) (k : Int)) Q s = Q (.int (l : Nat)) s := fun Q s => QiI e2
 have w3 : ∀ Q s, wp (itemD (hd.lines.map lnD) (l : Int)) Q s = Q (lnD (lineAt h st k)) s := fun Q s => Qhl (by rw [List.getElem?_map, e3]; rfl)
 (simp_arith [j0]; simp_arith [Zb, hsD, sdD, ↓w1, ↓w2, ↓w3])
theorem QiL {k : Nat} (hh : HsOk h) (hs : SdOk h st) (hk : k < h.hands.length) : wp (yu [hsD h, sdD st, .int k]) Q s = Q (lnD (lineAt h st k)) s := by
 obtain ⟨hd, l, e1, e2, hl, e3, _⟩ := QiJ hh hs hk
 have w1 : ∀ Q s, wp (itemD (h.hands.map hdD) (k : Int)) Q s = Q (.tup [.tup [natD hd.b0, natD hd.b1], .tup (hd.lines.map lnD)]) s := fun Q s => Qhl (by rw [List.getElem?_map, e1]; rfl)
 have w2 : ∀ Q s, wp (itemD (st.ls.map natD) (k : Int)) Q s = Q (.int (l : Nat)) s := fun Q s => QiI e2
 have w3 : ∀ Q s, wp (itemD (hd.lines.map lnD) (l : Int)) Q s = Q (lnD (lineAt h st k)) s := fun Q s => Qhl (by rw [List.getElem?_map, e3]; rfl)
 (simp_arith [yu]; simp_arith [ZP, hsD, sdD, ↓w1, ↓w2, ↓w3])
theorem QiM {b d : Nat} {gs : List Nat} {m : Nat} (hh : HsOk h) (hs : SdOk h st) (hl : LnOk h.boards m (.act b d gs)) : ∃ bd x g, h.boards[b]? = some bd ∧ st.ss[b]? = some x ∧ x < bd.S ∧ d < bd.dn ∧ gs[bd.un x d]? = some g ∧ g < m ∧ bd.nx x d < bd.S ∧ TabOk bd.S bd.dn bd.nx bd.un := by
 obtain ⟨bd, e1, hd, hg, hgs⟩ := hl
 have hb := (List.getElem?_eq_some_iff.mp e1).1
 have hb2 : b < st.ss.length := by rw [hs.2.1]; exact hb
 have e2 : st.ss[b]? = some st.ss[b] := List.getElem?_eq_getElem hb2
 have hx := hs.2.2.2 b bd _ e1 e2
 obtain ⟨ok, _⟩ := hh.2.1 bd (List.mem_of_getElem? e1)
 have hu : bd.un st.ss[b] d < gs.length := by
  rw [hg]
  have : bd.un st.ss[b] d ≤ mx (bd.un · d) bd.S := QhO (f := (bd.un · d)) hx
  ac_nf
 exact ⟨bd, _, _, e1, e2, hx, hd, List.getElem?_eq_getElem hu, hgs _ (List.getElem_mem hu), (ok.2.2.2.2 _ _ hx hd).1, ok⟩
theorem QiN {xs : List D} {i : Nat} {v : D} (hi : i < xs.length) (hl : xs.length ≤ 100) : wp (jV [.tup xs, .int i, v]) Q s = Q (.tup (xs.set i v)) s := by
 have c1 : ¬(sIx xs.length 0 none = 0 ∧ sIx xs.length xs.length (some (i : Int)) = xs.length) := by
  unfold sIx; simp only [Int.toNat_natCast]; rw [if_neg (by ac_nf)]; ac_nf
 have c2' : ¬(sIx xs.length 0 (some ((i : Int) + 1)) = 0 ∧ sIx xs.length xs.length none = xs.length) := by
  unfold sIx; dsimp only; rw [if_neg (by ac_nf)]; ac_nf
 have e1 : cutD xs none (some (i : Int)) = xs.take i := by
  unfold cutD sIx; simp only [Int.toNat_natCast]; rw [if_neg (by ac_nf), List.drop_zero]; congr 1; ac_nf
 have e2 : cutD xs (some ((i : Int) + 1)) none = xs.drop (i + 1) := by
  unfold cutD sIx
  have : (if (i : Int) + 1 < 0 then ((i : Int) + 1 + (xs.length : Int)).toNat else min ((i : Int) + 1).toNat xs.length) = i + 1 := by rw [if_neg (by ac_nf)]; ac_nf
  simp only [this]
  exact List.take_of_length_le (by rw [List.length_drop]; exact Nat.le_refl _)
 have l1 : 1 ≤ lim := Qhf (by ac_nf)
 have l2 : (xs.take i).length + 1 ≤ lim := Qhf (by rw [List.length_take]; ac_nf)
 have l3 : (xs.take i ++ [v]).length + (xs.drop (i + 1)).length ≤ lim := Qhf (by rw [List.length_append, List.length_take, List.length_drop]; simp; ac_nf)
 (simp_arith [jV]; simp_arith [JF, c1, c2', not_false_eq_true, e1, e2, l1, l2])
 rw [List.set_eq_take_append_cons_drop, if_pos hi]
 have : xs.take i ++ [v] ++ xs.drop (i + 1) = xs.take i ++ v :: xs.drop (i + 1) := by simp
 rw [this]
 exact propext ⟨fun z => z.2, fun z => ⟨l3, z⟩⟩
theorem QiO {b d k : Nat} {gs : List Nat} {bd : Bd} {x g : Nat} (e : lineAt h st k = .act b d gs) (e1 : h.boards[b]? = some bd) (e2 : st.ss[b]? = some x) (e3 : gs[bd.un x d]? = some g) : beh h st k = ⟨st.ls.set k g, st.ss.set b (bd.nx x d)⟩ := by
 unfold beh; rw [e]; dsimp only; rw [e1, e2]; dsimp only; rw [e3]; rfl
theorem QiP {v k : Nat} (e : lineAt h st k = .settle v) : beh h st k = st := by unfold beh; rw [e]
theorem QiQ {k : Nat} (hh : HsOk h) (hs : SdOk h st) (hk : k < h.hands.length) : SdOk h (beh h st k) := by
 obtain ⟨hd, l, e1, e2, hl, e3, ok⟩ := QiJ hh hs hk
 cases el : lineAt h st k with
 | settle v => rw [QiP el]; exact hs
 | act b d gs =>
  rw [el] at ok
  obtain ⟨bd, x, g, f1, f2, f3, f4, f5, f6, f7, f8⟩ := QiM hh hs ok
  rw [QiO el f1 f2 f5]
  refine ⟨by show (st.ls.set k g).length = _; rw [List.length_set]; exact hs.1, by show (st.ss.set b _).length = _; rw [List.length_set]; exact hs.2.1, fun k' hd' l' a1 a2 => ?_, fun b' bd' x' a1 a2 => ?_⟩
  ·have a2' : (st.ls.set k g)[k']? = some l' := a2
   by_cases e : k = k'
   ·subst e
    rw [e1] at a1; cases a1
    rw [List.getElem?_set_self (List.getElem?_eq_some_iff.mp e2).1] at a2'
    cases a2'; exact f6
   ·rw [List.getElem?_set_ne e] at a2'
    exact hs.2.2.1 k' hd' l' a1 a2'
  ·have a2' : (st.ss.set b (bd.nx x d))[b']? = some x' := a2
   by_cases e : b = b'
   ·subst e
    rw [f1] at a1; cases a1
    rw [List.getElem?_set_self (List.getElem?_eq_some_iff.mp f2).1] at a2'
    cases a2'; exact f7
   ·rw [List.getElem?_set_ne e] at a2'
    exact hs.2.2.2 b' bd' x' a1 a2'
theorem QiR {bd : Bd} {x d : Nat} (hx : x < bd.S) (hd : d < bd.dn) : wp (ya [tabD bd.S bd.dn bd.nx bd.un, .int x, .int d]) Q s = Q (.int (bd.nx x d : Nat)) s := by
 (simp_arith [ya]; simp_arith [vF, tabD, ↓QhD hx, ↓QhD hd])
theorem QiS {bd : Bd} {x d : Nat} (hx : x < bd.S) (hd : d < bd.dn) : wp (zD [tabD bd.S bd.dn bd.nx bd.un, .int x, .int d]) Q s = Q (.int (bd.un x d : Nat)) s := by
 (simp_arith [zD]; simp_arith [ZI, tabD, ↓QhD hx, ↓QhD hd])
theorem QiT {xs : List Nat} {i v : Nat} : (xs.map natD).set i (.int (v : Nat)) = (xs.set i v).map natD := by rw [List.map_set]; rfl
theorem QiU {k : Nat} (hh : HsOk h) (hs : SdOk h st) (hk : k < h.hands.length) : wp (zc [hsD h, sdD st, .int k]) Q s = Q (sdD (beh h st k)) s := by
 obtain ⟨hd, l, e1, e2, hl, e3, ok⟩ := QiJ hh hs hk
 have w : ∀ Q s, wp (j0 [hsD h, sdD st, .int k]) Q s = Q (lnD (lineAt h st k)) s := fun Q s => QiK hh hs hk
 cases el : lineAt h st k with
 | settle v =>
  rw [QiP el]
  rw [el] at w
  simp only [lnD] at w
  (simp_arith [zc]; simp_arith [JZ, ↓w, QiG])
 | act b d gs =>
  rw [el] at ok w
  obtain ⟨bd, x, g, f1, f2, f3, f4, f5, f6, f7, f8⟩ := QiM hh hs ok
  rw [QiO el f1 f2 f5]
  simp only [lnD] at w
  have hkl : k < (st.ls.map natD).length := by rw [List.length_map, hs.1]; exact hk
  have hbl : b < (st.ss.map natD).length := by rw [List.length_map]; exact (List.getElem?_eq_some_iff.mp f2).1
  have z1 := hs.1
  have z2 := hs.2.1
  have z3 := hh.1
  have z4 := hh.2.2.2.1
  have w1 : ∀ Q s, wp (itemD (h.boards.map bdD) (b : Int)) Q s = Q (.tup [tabD bd.S bd.dn bd.nx bd.un, natD bd.st]) s := fun Q s => Qhl (by rw [List.getElem?_map, f1]; rfl)
  have w2 : ∀ Q s, wp (itemD (st.ss.map natD) (b : Int)) Q s = Q (.int (x : Nat)) s := fun Q s => QiI f2
  have w3 : ∀ Q s, wp (itemD (gs.map natD) ((bd.un x d : Nat) : Int)) Q s = Q (.int (g : Nat)) s := fun Q s => QiI f5
  have w4 : ∀ Q s, wp (zD [tabD bd.S bd.dn bd.nx bd.un, .int x, .int d]) Q s = Q (.int (bd.un x d : Nat)) s := fun Q s => QiS f3 f4
  have w5 : ∀ Q s, wp (ya [tabD bd.S bd.dn bd.nx bd.un, .int x, .int d]) Q s = Q (.int (bd.nx x d : Nat)) s := fun Q s => QiR f3 f4
  have w6 : ∀ Q s, wp (jV [.tup (st.ls.map natD), .int k, .int g]) Q s = Q (.tup ((st.ls.map natD).set k (.int g))) s := fun Q s => QiN hkl (by rw [List.length_map]; ac_nf)
  have w7 : ∀ Q s, wp (jV [.tup (st.ss.map natD), .int b, .int (bd.nx x d : Nat)]) Q s = Q (.tup ((st.ss.map natD).set b (.int (bd.nx x d : Nat)))) s := fun Q s => QiN hbl (by rw [List.length_map]; ac_nf)
  have l2 : 2 ≤ lim := Qhf (by ac_nf)
  unfold natD at w
  have nd : ∀ n : Nat, D.int (n : Int) = natD n := fun _ => rfl
  (simp_arith [zc]; simp_arith [JZ, ↓w, QiH, Bool.false_eq_true, if_false])
  unfold hsD sdD
  unfold natD at w2 w3 w6 w7 ⊢
  simp_arith [↓w1, ↓w2, ↓w3, ↓w4, ↓w5, ↓w6, ↓w7, l2]
  rw [List.map_set, List.map_set]
theorem QiV {k : Nat} (hh : HsOk h) (hs : SdOk h st) (hk : k < h.hands.length) (hq : ∀ s', Ext s s' → Q (sdD (beh h st k)) s') : wp (j9 [hsD h, sdD st, .int k]) Q s := by
 obtain ⟨hd, l, e1, e2, hl, e3, ok⟩ := QiJ hh hs hk
 have w : ∀ Q s, wp (yu [hsD h, sdD st, .int k]) Q s = Q (lnD (lineAt h st k)) s := fun Q s => QiL hh hs hk
 cases el : lineAt h st k with
 | settle v =>
  rw [QiP el] at hq
  rw [el] at w
  simp only [lnD] at w
  (simp_arith [j9]; simp_arith [wa, ↓w, QiG])
  exact hq s (Ext.refl _)
 | act b d gs =>
  rw [el] at ok w
  obtain ⟨bd, x, g, f1, f2, f3, f4, f5, f6, f7, f8⟩ := QiM hh hs ok
  rw [QiO el f1 f2 f5] at hq
  simp only [lnD] at w
  have hkl : k < st.ls.length := by rw [hs.1]; exact hk
  have hbl : b < st.ss.length := (List.getElem?_eq_some_iff.mp f2).1
  have l2 : 2 ≤ lim := Qhf (by ac_nf)
  unfold natD at w
  (simp_arith [j9]; simp_arith [wa, ↓w, QiH, Bool.false_eq_true, if_false])
  unfold hsD sdD
  simp_arith []
  have x1 : Ext s (s ++ [.lst (st.ls.map natD)]) := (Ext.refl _).snoc _
  have g1 : (s ++ [MO.lst (st.ls.map natD)])[s.length]? = some (.lst (st.ls.map natD)) := by simp
  have n1 : (s ++ [MO.lst (st.ls.map natD)]).length = s.length + 1 := by simp
  generalize s ++ [MO.lst (st.ls.map natD)] = s1 at x1 g1 n1
  have x2 : Ext s (s1 ++ [.lst (st.ss.map natD)]) := x1.snoc _
  have g2 : (s1 ++ [MO.lst (st.ss.map natD)])[s1.length]? = some (.lst (st.ss.map natD)) := by simp
  have g3 : (s1 ++ [MO.lst (st.ss.map natD)])[s.length]? = some (.lst (st.ls.map natD)) := (Ext.snoc (Ext.refl _) _).at_ g1
  generalize s1 ++ [MO.lst (st.ss.map natD)] = s2 at x2 g2 g3
  have w1 : ∀ Q s, wp (itemD (h.boards.map bdD) (b : Int)) Q s = Q (.tup [tabD bd.S bd.dn bd.nx bd.un, natD bd.st]) s := fun Q s => Qhl (by rw [List.getElem?_map, f1]; rfl)
  have w2 : ∀ Q s, wp (itemD (st.ss.map natD) (b : Int)) Q s = Q (.int (x : Nat)) s := fun Q s => QiI f2
  have w3 : ∀ Q s, wp (itemD (gs.map natD) ((bd.un x d : Nat) : Int)) Q s = Q (.int (g : Nat)) s := fun Q s => QiI f5
  have q1 : ∀ Q, wp (getL s1.length) Q s2 = Q (st.ss.map natD) s2 := fun Q => Qg6 g2
  have q2 : ∀ Q, wp (getL s.length) Q s2 = Q (st.ls.map natD) s2 := fun Q => Qg6 g3
  have q3 : ∀ es Q, wp (putL s.length es) Q s2 = Q () (s2.set s.length (.lst es)) := fun es Q => Qg7 g3
  have g4 : ∀ es, (s2.set s.length (MO.lst es))[s1.length]? = some (.lst (st.ss.map natD)) := fun es => by rw [List.getElem?_set_ne (by ac_nf)]; exact g2
  have q4 : ∀ es Q, wp (getL s1.length) Q (s2.set s.length (MO.lst es)) = Q (st.ss.map natD) (s2.set s.length (MO.lst es)) := fun es Q => Qg6 (g4 es)
  have q5 : ∀ es fs Q, wp (putL s1.length fs) Q (s2.set s.length (MO.lst es)) = Q () ((s2.set s.length (MO.lst es)).set s1.length (.lst fs)) := fun es fs Q => Qg7 (g4 es)
  have g6 : ∀ es fs, ((s2.set s.length (MO.lst es)).set s1.length (MO.lst fs))[s1.length]? = some (.lst fs) := fun es fs => List.getElem?_set_self (Qih (g4 es))
  have g7 : ∀ es fs, ((s2.set s.length (MO.lst es)).set s1.length (MO.lst fs))[s.length]? = some (.lst es) := fun es fs => by rw [List.getElem?_set_ne (by ac_nf), List.getElem?_set_self (Qih g3)]
  have q6 : ∀ es fs Q, wp (getL s1.length) Q ((s2.set s.length (MO.lst es)).set s1.length (MO.lst fs)) = Q fs ((s2.set s.length (MO.lst es)).set s1.length (MO.lst fs)) := fun es fs Q => Qg6 (g6 es fs)
  have q7 : ∀ es fs Q, wp (getL s.length) Q ((s2.set s.length (MO.lst es)).set s1.length (MO.lst fs)) = Q es ((s2.set s.length (MO.lst es)).set s1.length (MO.lst fs)) := fun es fs Q => Qg6 (g7 es fs)
  have i1 : MM.ixN (st.ls.map natD).length (k : Int) = some k := by unfold MM.ixN; rw [if_pos (by ac_nf), if_pos (by rw [List.length_map]; ac_nf)]; rfl
  have i2 : MM.ixN (st.ss.map natD).length (b : Int) = some b := by unfold MM.ixN; rw [if_pos (by ac_nf), if_pos (by rw [List.length_map]; ac_nf)]; rfl
  have tb : ∀ Q s, wp (subsD (tabD bd.S bd.dn bd.nx bd.un) (.int (x : Nat))) Q s = Q (.tup (upto bd.dn fun d => D.tup [.int (bd.nx x d : Nat), .int (bd.un x d : Nat)])) s := fun Q s => by unfold tabD; rw [x_subsT, QhD f3]
  have w3' := w3
  unfold natD at w3'
  simp_arith [↓w1, ↓q1, ↓w2, ↓tb, ↓QhD f4, ↓w3', ↓q2, ↓x_setR, i1, ↓q3, ↓q4, i2, ↓q5, ↓q6, ↓q7, l2]
  have fin := hq ((s2.set s.length (MO.lst ((st.ls.map natD).set k (.int (g : Nat))))).set s1.length (MO.lst ((st.ss.map natD).set b (.int (bd.nx x d : Nat))))) ((x2.put (Nat.le_refl _)).put (by ac_nf))
  unfold sdD at fin
  dsimp only at fin
  rw [← QiT, ← QiT] at fin
  exact fin
theorem QiW {s : Sd} : Pd 2 (sdD s) := .tup fun d hd => by
 have nat : ∀ (xs : List Nat), Pd 1 (.tup (xs.map natD)) := fun xs => .tup fun d hd => by
  obtain ⟨n, _, e⟩ := List.mem_map.mp hd
  rw [← e]; exact .int _
 simp at hd
 rcases hd with e | e <;> rw [e] <;> exact nat _
theorem QiX {i : Int} : wp (jI [.int i]) Q s = Q (.bl true) s := by
 (simp_arith [jI]; simp_arith [Ja])
end
end My
namespace My
open MM
open PySem (Str)
theorem PotAt.ext {p q : Nat} {s s' : Sto} (h : PotAt s p q) (x : Ext s s') : PotAt s' p q := by
 obtain ⟨a, c, cs, e1, e2, r⟩ := h.ex
 exact ⟨h.ne, a, c, cs, x.at_ e1, x.at_ e2, r⟩
noncomputable def inU : Nat → List (List D)
 | 0 => [[]]
 | n + 1 => ((inU n).map fun x => x ++ [.int 0]) ++ ((inU n).map fun x => x ++ [.int 1])
noncomputable def inS : Nat → List (List D)
 | 0 => [[]]
 | n + 1 => ((inS n).map fun x => .int 0 :: x) ++ ((inS n).map fun x => .int 1 :: x)
theorem QiY : ∀ n, ∀ x ∈ inU n, x.length = n
 | 0, x, h => by simp [inU] at h; simp [h]
 | n + 1, x, h => by
  simp only [inU, List.mem_append, List.mem_map] at h
  rcases h with ⟨y, hy, e⟩ | ⟨y, hy, e⟩ <;> rw [← e] <;> simp [QiY n y hy]
theorem QiZ : ∀ n, (inU n).length = 2 ^ n
 | 0 => rfl
 | n + 1 => by simp only [inU, List.length_append, List.length_map, QiZ n, Nat.pow_succ]; ac_nf
theorem Qi0 : ∀ n, (inS n).length = 2 ^ n
 | 0 => rfl
 | n + 1 => by simp only [inS, List.length_append, List.length_map, Qi0 n, Nat.pow_succ]; ac_nf
theorem Qi1 : ∀ n, ∀ x ∈ inS n, x.length = n ∧ ∀ (k : Nat) d, x[k]? = some d → d = .int 0 ∨ d = .int 1
 | 0, x, h => by simp [inS] at h; simp [h]
 | n + 1, x, h => by
  simp only [inS, List.mem_append, List.mem_map] at h
  rcases h with ⟨y, hy, e⟩ | ⟨y, hy, e⟩
  ·obtain ⟨a, b⟩ := Qi1 n y hy
   rw [← e]
   refine ⟨by simp [a], fun k d hd => ?_⟩
   cases k with
   | zero => exact .inl (by simpa using hd.symm)
   | succ k => exact b k d (by simpa using hd)
  ·obtain ⟨a, b⟩ := Qi1 n y hy
   rw [← e]
   refine ⟨by simp [a], fun k d hd => ?_⟩
   cases k with
   | zero => exact .inr (by simpa using hd.symm)
   | succ k => exact b k d (by simpa using hd)
theorem Qi2 : kSort ((inU 2).map D.tup) = some ((inS 2).map D.tup) := by rfl
theorem Qi3 : kSort ((inU 3).map D.tup) = some ((inS 3).map D.tup) := by rfl
section
variable {s : Sto} {Q : D → Sto → Prop} {h : Hs}
theorem Qi4 {xs : List (List D)} {v : Int} {n : Nat} {A : List D → Sto → Prop} (g : s[n]? = some (.lst (xs.map D.tup))) (hl : ∀ x ∈ xs, x.length ≤ 100) : wp (collect (gVar 0) tTrue (c2 addD (cVar 0) (cTup (cCons (cCon (.int v)) cNil))) (sameL n (xs.map D.tup)) (xs.map D.tup) [none]) A s = A ((xs.map fun x => x ++ [.int v]).map D.tup) s := by
 have l1 : 1 ≤ lim := Qhf (by ac_nf)
 have := @QhB (c2 addD (cVar 0) (cTup (cCons (cCon (.int v)) cNil))) (sameL n (xs.map D.tup)) (xs.map D.tup) [] (fun i => .tup ((xs.getD i []) ++ [.int v])) A s g (fun i d hd Q => by
  rw [List.getElem?_map] at hd
  cases ex : xs[i]? with
  | none => rw [ex] at hd; cases hd
  | some x =>
   rw [ex] at hd
   have ed : d = .tup x := (Option.some.inj hd).symm
   subst ed
   have m1 : x.length + 1 ≤ lim := Qhf (by have := hl x (List.mem_of_getElem? ex); ac_nf)
   have eg : xs.getD i [] = x := by rw [List.getD_eq_getElem?_getD, ex]; rfl
   simp_arith [l1, m1, eg])
 rw [this, List.length_map]
 congr 1
 symm
 apply Qhw
 ·simp
 ·intro i hi
  rw [List.getElem?_map, List.getElem?_map, List.getElem?_eq_getElem hi]
  simp [hi]
theorem Qi5 (hn : h.hands.length = 2 ∨ h.hands.length = 3) (hq : ∀ r s', s.length ≤ r → s'[r]? = some (.lst ((inS h.hands.length).map D.tup)) → Ext s s' → Q (.ref r) s') : wp (yp [hsD h]) Q s := by
 have l0 : 0 ≤ lim := Nat.zero_le _
 have l1 : 1 ≤ lim := Qhf (by ac_nf)
 (simp_arith [yp]; simp_arith [vg, hsD, l0, l1])
 refine Qhh (fun i l s' => ∃ n x2, l = [some (.tup [.tup (h.boards.map bdD), .tup (h.hands.map hdD)]), some (.ref n), x2] ∧ s'[n]? = some (.lst ((inU i).map D.tup)) ∧ Ext s s') (fun _ _ _ _ => trivial) ⟨_, _, rfl, by simp [inU], (Ext.refl _).snoc _⟩ (fun i d l s' hd hW => ?_) (fun l s' hW => ?_)
 ·obtain ⟨n, x2, el, g, ex⟩ := hW
  subst el
  have hi := (List.getElem?_eq_some_iff.mp hd).1
  rw [List.length_map] at hi
  have hc := QiZ i
  have h8 : 2 ^ i ≤ 8 := by
   have : i ≤ 3 := by ac_nf
   calc 2 ^ i ≤ 2 ^ 3 := Nat.pow_le_pow_right (by ac_nf) this
    _ = 8 := rfl
  have hlen : ∀ x ∈ inU i, x.length ≤ 100 := fun x hx => by have := QiY i x hx; ac_nf
  have q1 : ∀ Q, wp (getL n) Q s' = Q ((inU i).map D.tup) s' := fun Q => Qg6 g
  have ll : (inU i).length ≤ lim := Qhf (by ac_nf)
  have c0 : ∀ A, wp (collect (gVar 0) tTrue (c2 addD (cVar 0) (cTup (cCons (cCon (.int 0)) cNil))) (sameL n ((inU i).map D.tup)) ((inU i).map D.tup) [none]) A s' = A (((inU i).map fun x => x ++ [.int 0]).map D.tup) s' := fun A => Qi4 g hlen
  simp_arith [↓q1, capt, List.length_map, ll, ↓c0]
  have xa : Ext s' (s' ++ [.lst (((inU i).map fun x => x ++ [.int 0]).map D.tup)]) := (Ext.refl _).snoc _
  have ga : (s' ++ [MO.lst (((inU i).map fun x => x ++ [.int 0]).map D.tup)])[s'.length]? = some (.lst (((inU i).map fun x => x ++ [.int 0]).map D.tup)) := by simp
  generalize s' ++ [MO.lst (((inU i).map fun x => x ++ [.int 0]).map D.tup)] = sa at xa ga
  have q2 : ∀ Q, wp (getL n) Q sa = Q ((inU i).map D.tup) sa := fun Q => Qg6 (xa.at_ g)
  have c1' : ∀ A, wp (collect (gVar 0) tTrue (c2 addD (cVar 0) (cTup (cCons (cCon (.int 1)) cNil))) (sameL n ((inU i).map D.tup)) ((inU i).map D.tup) [none]) A sa = A (((inU i).map fun x => x ++ [.int 1]).map D.tup) sa := fun A => Qi4 (xa.at_ g) hlen
  simp_arith [↓q2, capt, List.length_map, ll, ↓c1']
  have xb : Ext sa (sa ++ [.lst (((inU i).map fun x => x ++ [.int 1]).map D.tup)]) := (Ext.refl _).snoc _
  have gb : (sa ++ [MO.lst (((inU i).map fun x => x ++ [.int 1]).map D.tup)])[sa.length]? = some (.lst (((inU i).map fun x => x ++ [.int 1]).map D.tup)) := by simp
  generalize sa ++ [MO.lst (((inU i).map fun x => x ++ [.int 1]).map D.tup)] = sb at xb gb
  rw [Qhk (xb.at_ ga) gb]
  refine ⟨Qhf (by simp; ac_nf), ?_⟩
  simp_arith []
  refine ⟨_, _, rfl, ?_, ((ex.trans xa).trans xb).snoc _⟩
  simp [inU]
 ·obtain ⟨n, x2, el, g, ex⟩ := hW
  subst el
  rw [List.length_map] at g
  have q1 : ∀ Q, wp (getL n) Q s' = Q ((inU h.hands.length).map D.tup) s' := fun Q => Qg6 g
  have ks : kSort ((inU h.hands.length).map D.tup) = some ((inS h.hands.length).map D.tup) := by
   rcases hn with e | e <;> rw [e]
   ·exact Qi2
   ·exact Qi3
  have ws : ∀ Q, wp (sortedD (.ref n)) Q s' = Q (.ref s'.length) (s' ++ [.lst ((inS h.hands.length).map D.tup)]) := fun Q => by
   unfold sortedD
   rw [Qg5, q1, ks]
   dsimp only
   rw [wp_alloc]
  simp_arith [↓ws]
  exact hq _ _ ex.le (by simp) (ex.snoc _)
noncomputable def bf (h : Hs) (row : List D) (k : Nat) : Nat := match h.hands[k]?, row[k]? with
 | some hd, some (.int v) => if v = 0 then hd.b0 else hd.b1
 | _, _ => 0
noncomputable def bs0 (h : Hs) (k : Nat) : Nat := (h.boards[k]?.map (·.st)).getD 0
noncomputable def begS (h : Hs) (row : List D) : Sd := ⟨upto h.hands.length (bf h row), upto h.boards.length (bs0 h)⟩
theorem Qi6 {row : List D} (hh : HsOk h) (hr : row ∈ inS h.hands.length) : SdOk h (begS h row) := by
 obtain ⟨hrl, hr01⟩ := Qi1 _ row hr
 refine ⟨Qhu, Qhu, fun k hd l a1 a2 => ?_, fun b bd x a1 a2 => ?_⟩
 ·obtain ⟨hk, el⟩ := Qht a2
  obtain ⟨y1, y2, _⟩ := hh.2.2.2.2 hd (List.mem_of_getElem? a1)
  have hk2 : k < row.length := by ac_nf
  have e2 : row[k]? = some row[k] := List.getElem?_eq_getElem hk2
  rw [el]
  unfold bf
  rcases hr01 k _ e2 with e | e <;> rw [a1, e2, e]
  ·exact y1
  ·exact y2
 ·obtain ⟨hk, el⟩ := Qht a2
  obtain ⟨_, y2⟩ := hh.2.1 bd (List.mem_of_getElem? a1)
  rw [el]
  unfold bs0
  rw [a1]; exact y2
theorem Qi7 {row : List D} {k : Nat} {Q : D → Sto → Prop} (hr : row ∈ inS h.hands.length) (hk : k < h.hands.length) : ∃ (hd : Hd) (v : Int), h.hands[k]? = some hd ∧ row[k]? = some (.int v) ∧ (v = 0 ∧ bf h row k = hd.b0 ∨ v = 1 ∧ bf h row k = hd.b1) := by
 obtain ⟨hrl, hr01⟩ := Qi1 _ row hr
 have e1 : h.hands[k]? = some h.hands[k] := List.getElem?_eq_getElem hk
 have hk2 : k < row.length := by ac_nf
 have e2 : row[k]? = some row[k] := List.getElem?_eq_getElem hk2
 rcases hr01 k _ e2 with e | e <;> rw [e] at e2
 ·exact ⟨_, 0, e1, e2, .inl ⟨rfl, by unfold bf; rw [e1, e2]; rfl⟩⟩
 ·exact ⟨_, 1, e1, e2, .inr ⟨rfl, by unfold bf; rw [e1, e2]; rfl⟩⟩
theorem Qi8 {row : List D} (hh : HsOk h) (hr : row ∈ inS h.hands.length) (hq : ∀ s', Ext s s' → Q (sdD (begS h row)) s') : wp (yE [hsD h, .tup row]) Q s := by
 obtain ⟨hrl, hr01⟩ := Qi1 _ row hr
 have z1 := hh.1
 have z4 := hh.2.2.2.1
 have hb := Qik (show h.hands.length ≤ 100 by ac_nf)
 have l1 : h.hands.length ≤ lim := Qhf (by ac_nf)
 have l3 : h.boards.length ≤ lim := Qhf (by ac_nf)
 have l2 : 2 ≤ lim := Qhf (by ac_nf)
 have w : ∀ A s, wp (collect (gVar 0) tTrue (c2 subsD (c2 subsD (c2 subsD (c2 subsD (cVar 1) (cCon (.int 1))) (cVar 0)) (cCon (.int 0))) (c2 subsD (cVar 2) (cVar 0))) anySt (upto h.hands.length fun i => .int i) [none, some (.tup [.tup (h.boards.map bdD), .tup (h.hands.map hdD)]), some (.tup row)]) A s = A (upto h.hands.length fun k => natD (bf h row k)) s := fun A s => QhK QhH fun k hk Q => by
  obtain ⟨hd, v, e1, e2, ev⟩ := Qi7 (Q := Q) hr hk
  have w1 : ∀ Q s, wp (itemD (h.hands.map hdD) (k : Int)) Q s = Q (.tup [.tup [natD hd.b0, natD hd.b1], .tup (hd.lines.map lnD)]) s := fun Q s => Qhl (by rw [List.getElem?_map, e1]; rfl)
  have w2 : ∀ Q s, wp (itemD row (k : Int)) Q s = Q (.int v) s := fun Q s => Qhl e2
  rcases ev with ⟨e, ef⟩ | ⟨e, ef⟩ <;> subst e <;> rw [ef] <;> simp_arith [↓w1, ↓w2]
 have wb : ∀ A s, wp (collect (gVar 0) tTrue (c2 subsD (cVar 0) (cCon (.int 1))) anySt (h.boards.map bdD) [none]) A s = A (upto h.boards.length fun k => natD (bs0 h k)) s := fun A s => by
  have := @QhB (c2 subsD (cVar 0) (cCon (.int 1))) anySt (h.boards.map bdD) [] (fun k => natD (bs0 h k)) A s QhH (fun i d hd Q => by
   rw [List.getElem?_map] at hd
   cases ex : h.boards[i]? with
   | none => rw [ex] at hd; cases hd
   | some x =>
    rw [ex] at hd
    have ed : d = bdD x := (Option.some.inj hd).symm
    subst ed
    have eb : bs0 h i = x.st := by unfold bs0; rw [ex]; rfl
    simp_arith [bdD, eb])
  rw [this, List.length_map]
 have g : ∀ (ds : List D) Q, wp (getL s.length) Q (s ++ [MO.lst ds]) = Q ds (s ++ [MO.lst ds]) := fun ds Q => Qg6 (by simp)
 (simp_arith [yE]; simp_arith [Je, hsD, hrl, hb, capt, Int.toNat_natCast, Qhz, Qhu, l1, ↓w, ↓g, List.length_map, l3, ↓wb, l2])
 have fin := hq (s ++ [MO.lst (upto h.hands.length fun k => natD (bf h row k))]) ((Ext.refl _).snoc _)
 unfold sdD begS at fin
 dsimp only at fin
 rw [Qhy, Qhy] at fin
 exact fin
end
end My
namespace My
open MM
open PySem (Str)
theorem Qi9 : ((("do" : Str)) == "do") = true := by nofun
theorem Qja : ((("settle" : Str)) == "do") = false := by nofun
theorem Qjb {g : CG} {t : CT} {e : CE} {same : Sto → Prop} {ds : List D} {l0 : Loc} {f : Nat → D} {p : Nat → Bool} {Q : List D → Sto → Prop} {s : Sto} (I : Loc → Prop) (hs : same s) (h0 : I l0)
  (h : ∀ i d l, ds[i]? = some d → I l → ∃ l', (∀ G, wp (g d l) G s = G l' s) ∧ I l' ∧ (∀ T, wp (t l') T s = T (p i) s) ∧ ∀ Q, wp (e l') Q s = Q (f i) s) :
  wp (collect g t e same ds l0) Q s = Q (((List.range ds.length).filter p).map f) s := by
 have chk : ∀ {R : Unit → Sto → Prop}, R () s → wp (chkS same) R s := fun r => by rw [Qg4]; unfold chkS; rw [if_pos hs]; exact r
 apply Qhj
 refine Qhc (Q := fun out s' => out = ((List.range ds.length).filter p).map f ∧ s' = s) (fun out xs l s' => ∃ i, xs = ds.drop i ∧ i ≤ ds.length ∧ I l ∧ out = ((List.range i).filter p).map f ∧ s' = s) (fun out l s' hW => ?_) (fun out d xs l s' hW => ?_) ds [] _ s ⟨0, by simp, Nat.zero_le _, h0, rfl, rfl⟩
 ·obtain ⟨i, e1, hi, _, e2, es⟩ := hW
  have : i = ds.length := by
   have := congrArg List.length e1
   simp at this; ac_nf
  subst this
  subst es
  exact chk ⟨e2, rfl⟩
 ·obtain ⟨i, e1, hi, hI, e2, es⟩ := hW
  have hlt : i < ds.length := by
   have := congrArg List.length e1
   simp at this; ac_nf
  rw [List.drop_eq_getElem_cons hlt] at e1
  obtain ⟨e3, e4⟩ := List.cons.inj e1
  obtain ⟨l', q1, q2, q4, q3⟩ := h i d l (by rw [e3]; exact List.getElem?_eq_getElem hlt) hI
  subst es
  refine chk ?_
  rw [q1, q4]
  cases hp : p i with
  | true =>
   rw [if_pos rfl, q3]
   exact ⟨i + 1, e4, hlt, q2, by rw [e2, List.range_succ, List.filter_append, List.map_append]; simp [hp], rfl⟩
  | false =>
   rw [if_neg (by simp)]
   exact ⟨i + 1, e4, hlt, q2, by rw [e2, List.range_succ, List.filter_append, List.map_append]; simp [hp], rfl⟩
noncomputable def valD : Ln → D
 | .settle v => natD v
 | .act _ _ _ => .non
noncomputable def isAct : Ln → Bool
 | .settle _ => false
 | .act _ _ _ => true
noncomputable def setV (h : Hs) (st : Sd) : List D := upto h.hands.length fun k => valD (lineAt h st k)
noncomputable def freeL (h : Hs) (st : Sd) (n : Nat) : List D := ((List.range n).filter fun k => isAct (lineAt h st k)).map fun k => .int (k : Nat)
section
variable {s : Sto} {Q : D → Sto → Prop} {h : Hs} {st : Sd}
theorem Qjc {ln : Ln} : wp (j7 [lnD ln]) Q s = Q (valD ln) s := by
 cases ln with
 | settle v => (simp_arith [j7]; simp_arith [vj, lnD, valD, QiG, if_true])
 | act b d gs => (simp_arith [j7]; simp_arith [vj, lnD, valD, QiH, Bool.false_eq_true, if_false])
theorem Qjd {Q : D → Sto → Prop} {s : Sto} : wp (subsD (hsD h) (.int 1)) Q s = Q (.tup (h.hands.map hdD)) s := by unfold hsD; rw [x_subsT, x_item1]
theorem Qje (hh : HsOk h) (hs : SdOk h st) : wp (yW [hsD h, sdD st]) Q s = Q (.tup (setV h st)) s := by
 have z4 := hh.2.2.2.1
 have hb := Qik (show h.hands.length ≤ 100 by ac_nf)
 have l1 : h.hands.length ≤ lim := Qhf (by ac_nf)
 have lh : ∀ Q s, wp (subsD (hsD h) (.int 1)) Q s = Q (.tup (h.hands.map hdD)) s := fun Q s => Qjd
 have w : ∀ A s, wp (collect (gVar 0) tTrue (cCall j7 (cCons (cCall j0 (cCons (cVar 1) (cCons (cVar 2) (cCons (cVar 0) cNil)))) cNil)) anySt (upto h.hands.length fun i => .int i) [none, some (hsD h), some (sdD st)]) A s = A (setV h st) s := fun A s => QhK QhH fun k hk Q => by
  have w1 : ∀ Q s, wp (j0 [hsD h, sdD st, .int k]) Q s = Q (lnD (lineAt h st k)) s := fun Q s => QiK hh hs hk
  have w2 : ∀ Q s, wp (j7 [lnD (lineAt h st k)]) Q s = Q (valD (lineAt h st k)) s := fun Q s => Qjc
  simp_arith [↓w1, ↓w2]
 (simp_arith [yW]; simp_arith [J7, ↓lh, List.length_map, hb, capt, Int.toNat_natCast, Qhz, Qhu, l1, ↓w])
theorem Qjf {ln : Ln} {T : Bool → Sto → Prop} : wp (isD (valD ln) .non) (fun x s' => match x with
  | .bl b => T b s'
  | _ => False) s = T (isAct ln) s := by
 cases ln <;> (unfold valD isAct natD isD isND; rw [wp_ret])
theorem Qjg (hh : HsOk h) (hs : SdOk h st) : wp (vI [hsD h, sdD st]) Q s = Q (.ref s.length) (s ++ [.lst (freeL h st h.hands.length)]) := by
 have z4 := hh.2.2.2.1
 have l1 : h.hands.length ≤ lim := Qhf (by ac_nf)
 have ws : ∀ Q s, wp (yW [hsD h, sdD st]) Q s = Q (.tup (upto h.hands.length fun k => valD (lineAt h st k))) s := fun Q s => Qje hh hs
 have w : ∀ A s, wp (collect (gTupD 2 (gsCons (gVar 0) (gsCons (gVar 1) gsNil))) (tCmpB (c2 isD (cVar 1) (cCon .non))) (cVar 0) anySt (upto h.hands.length fun i => .tup [.int i, valD (lineAt h st i)]) [none, none]) A s = A (freeL h st h.hands.length) s := fun A s => by
  rw [Qjb (f := fun k => .int (k : Nat)) (p := fun k => isAct (lineAt h st k)) (fun l => ∃ x y, l = [x, y]) QhH ⟨_, _, rfl⟩ (fun i d l hd pq121 => by
   obtain ⟨x, y, el⟩ := pq121
   obtain ⟨hi, ed⟩ := Qht hd
   refine ⟨[some (.int i), some (valD (lineAt h st i))], fun G => ?_, ⟨_, _, rfl⟩, fun T => ?_, fun Q => ?_⟩
   ·rw [ed, el, x_gtup, x_gcons, x_gvar, x_gcons, x_gvar, x_gnil]
    exact propext ⟨fun h => h.2, fun h => ⟨rfl, h⟩⟩
   ·simp only [↓x_cmp, ↓x_c2, ↓x_var, ↓x_con, List.getElem?_cons_zero, List.getElem?_cons_succ]
    exact Qjf
   ·simp only [↓x_var, List.getElem?_cons_zero]), Qhu]
  rfl
 (simp_arith [vI]; simp_arith [WZ, ↓ws, Qhu, QhL, capt, l1, ↓w])
theorem Qjh (hh : HsOk h) (hs : SdOk h st) (hq : ∀ r s', s.length ≤ r → s'[r]? = some (.lst (freeL h st h.hands.length)) → Ext s s' → Q (.ref r) s') : wp (yX [hsD h, sdD st]) Q s := by
 have z4 := hh.2.2.2.1
 have l0 : 0 ≤ lim := Nat.zero_le _
 have hb := Qik (show h.hands.length ≤ 100 by ac_nf)
 have lh : ∀ Q s, wp (subsD (hsD h) (.int 1)) Q s = Q (.tup (h.hands.map hdD)) s := fun Q s => Qjd
 (simp_arith [yX]; simp_arith [JD, l0, ↓lh, List.length_map, hb, Int.toNat_natCast, Qhz])
 refine QhI (n := h.hands.length) (fun i l s' => ∃ x3, l = [some (hsD h), some (sdD st), some (.ref s.length), x3] ∧ s'[s.length]? = some (.lst (freeL h st i)) ∧ Ext s s') (fun _ _ _ _ => trivial) ⟨_, rfl, by simp [freeL], (Ext.refl _).snoc _⟩ (fun i l s' hi hW => ?_) (fun l s' hW => ?_)
 ·obtain ⟨x3, el, g, ex⟩ := hW
  subst el
  have w1 : ∀ Q s, wp (yu [hsD h, sdD st, .int i]) Q s = Q (lnD (lineAt h st i)) s := fun Q s => QiL hh hs hi
  have q1 : ∀ Q, wp (getL s.length) Q s' = Q (freeL h st i) s' := fun Q => Qg6 g
  have q2 : ∀ es Q, wp (putL s.length es) Q s' = Q () (s'.set s.length (.lst es)) := fun es Q => Qg7 g
  have ll : (freeL h st i).length < lim := Qhg (by unfold freeL; rw [List.length_map]; exact Nat.le_trans (List.length_filter_le _ _) (by rw [List.length_range]; ac_nf))
  cases el : lineAt h st i with
  | settle v =>
   rw [el] at w1
   simp only [lnD] at w1
   have ef : freeL h st (i + 1) = freeL h st i := by unfold freeL; rw [List.range_succ, List.filter_append]; simp [el, isAct]
   simp_arith [↓w1, Qja, Bool.false_eq_true, if_false]
   exact ⟨_, rfl, by rw [ef]; exact g, ex⟩
  | act b d gs =>
   rw [el] at w1
   simp only [lnD] at w1
   have ef : freeL h st (i + 1) = freeL h st i ++ [.int (i : Nat)] := by unfold freeL; rw [List.range_succ, List.filter_append]; simp [el, isAct]
   simp_arith [↓w1, Qi9, if_true, ↓q1, ↓q2, ll]
   exact ⟨_, rfl, by rw [List.getElem?_set_self (Qih g), ef], ex.put (Nat.le_refl _)⟩
 ·obtain ⟨x3, el, g, ex⟩ := hW
  subst el
  simp_arith []
  exact hq _ _ (Nat.le_refl _) g ex
theorem Qji {row : List D} {A : List D → Sto → Prop} (hr : row ∈ inS h.hands.length) : wp (collect (gTupD 2 (gsCons (gVar 0) (gsCons (gVar 1) gsNil))) tTrue (c2 subsD (c2 subsD (cVar 0) (cCon (.int 0))) (cVar 1)) anySt ((h.hands.map hdD).zipWith (fun p q => D.tup [p, q]) row) [none, none]) A s = A (upto h.hands.length fun k => natD (bf h row k)) s := by
 obtain ⟨hrl, hr01⟩ := Qi1 _ row hr
 have lz : ((h.hands.map hdD).zipWith (fun p q => D.tup [p, q]) row).length = h.hands.length := by rw [List.length_zipWith, List.length_map]; ac_nf
 rw [QhC (f := fun k => natD (bf h row k)) (caps := []) QhH (fun i d hd => by
  have hi : i < h.hands.length := by rw [← lz]; exact (List.getElem?_eq_some_iff.mp hd).1
  obtain ⟨hd0, v, e1, e2, ev⟩ := Qi7 (Q := fun _ _ => True) hr hi
  rw [List.getElem?_zipWith, List.getElem?_map, e1, e2] at hd
  refine ⟨_, _, (Option.some.inj hd).symm, fun Q => ?_⟩
  rcases ev with ⟨e, ef⟩ | ⟨e, ef⟩ <;> subst e <;> rw [ef] <;> simp_arith [hdD]), lz]
theorem Qjj {row : List D} (hh : HsOk h) (hr : row ∈ inS h.hands.length) : wp (zU [hsD h, .tup row]) Q s = Q (sdD (begS h row)) s := by
 obtain ⟨hrl, hr01⟩ := Qi1 _ row hr
 have z1 := hh.1
 have z4 := hh.2.2.2.1
 have l2 : 2 ≤ lim := Qhf (by ac_nf)
 have l3 : h.boards.length ≤ lim := Qhf (by ac_nf)
 have lz : ((h.hands.map hdD).zipWith (fun p q => D.tup [p, q]) row).length ≤ lim := Qhf (by rw [List.length_zipWith, List.length_map]; ac_nf)
 have x_zipT : ∀ {a b : CE} {I : Wk → Sto → Prop} {l : Loc} {s : Sto}, wp (iZipT a b l) I s = wp (a l) (fun x s1 => wp (b l) (fun y s2 => match x, y with
   | .tup ds, .tup es => I ⟨ds.zipWith (fun p q => .tup [p, q]) es, anySt⟩ s2
   | _, _ => False) s1) s := fun {a b I l s} => by
  unfold iZipT; rw [Qg5]; congr 1; funext x s1; rw [Qg5]; congr 1; funext y s2
  cases x <;> cases y <;> first | exact wp_ret | exact wp_bad | exact wp_no rfl | exact wp_eq rfl
 have w1 : ∀ A s, wp (collect (gTupD 2 (gsCons (gVar 0) (gsCons (gVar 1) gsNil))) tTrue (c2 subsD (c2 subsD (cVar 0) (cCon (.int 0))) (cVar 1)) anySt ((h.hands.map hdD).zipWith (fun p q => D.tup [p, q]) row) [none, none]) A s = A (upto h.hands.length fun k => natD (bf h row k)) s := fun A s => Qji hr
 have w2 : ∀ A s, wp (collect (gTupD 2 (gsCons (gVar 0) (gsCons (gVar 1) gsNil))) tTrue (cVar 1) anySt (h.boards.map bdD) [none, none]) A s = A (upto h.boards.length fun k => natD (bs0 h k)) s := fun A s => by
  rw [QhC (f := fun k => natD (bs0 h k)) (caps := []) QhH (fun i d hd => by
   rw [List.getElem?_map] at hd
   cases ex : h.boards[i]? with
   | none => rw [ex] at hd; cases hd
   | some x =>
    rw [ex] at hd
    have eb : bs0 h i = x.st := by unfold bs0; rw [ex]; rfl
    refine ⟨_, _, (Option.some.inj hd).symm, fun Q => ?_⟩
    rw [eb]
    simp_arith []), List.length_map]
 (simp_arith [zU]; simp_arith [Wd, hsD, ↓x_zipT, capt, lz, ↓w1, List.length_map, l3, ↓w2, l2])
 unfold sdD begS
 dsimp only
 rw [Qhy, Qhy]
end
end My
namespace My
open MM
open PySem (Str)
noncomputable def sts : List Bd → Nat
 | [] => 1
 | b :: bs => b.S * sts bs
section
variable {s : Sto} {Q : D → Sto → Prop} {h : Hs}
noncomputable def numS (h : Hs) (st : Sd) : Nat := enc (mL h.hands.length h.boards.length) st.ls * sts h.boards + encS (h.boards.map (·.S)) st.ss
theorem Qjk : ∀ bs : List Bd, pr (bs.map (·.S)) = sts bs
 | [] => rfl
 | b :: bs => by show b.S * pr (bs.map (·.S)) = b.S * sts bs; rw [Qjk bs]
theorem Qjl {B : Nat} {st : Sd} (hs : SdOk h st) (hB : ∀ x ∈ h.hands, x.lines.length ≤ B) : ∀ x ∈ st.ls, x < B := fun x hx => by
 obtain ⟨k, hk⟩ := List.getElem?_of_mem hx
 have hk2 := (List.getElem?_eq_some_iff.mp hk).1
 have hk3 : k < h.hands.length := by rw [← hs.1]; exact hk2
 have e := List.getElem?_eq_getElem hk3
 have h1 := hs.2.2.1 k _ _ e hk
 have h2 := hB _ (List.getElem_mem hk3)
 ac_nf
theorem Qjm {st : Sd} (hs : SdOk h st) : ∀ (i b x : Nat), (h.boards.map (·.S))[i]? = some b → st.ss[i]? = some x → x < b := fun i b x hb hx => by
 rw [List.getElem?_map] at hb
 cases e : h.boards[i]? with
 | none => rw [e] at hb; cases hb
 | some bd =>
  rw [e] at hb
  cases hb
  exact hs.2.2.2 i bd x e hx
theorem Qjn {K : Nat} : ∀ {bs : List Bd}, (∀ b ∈ bs, b.S ≤ K) → sts bs ≤ K ^ bs.length
 | [], _ => Nat.le_refl _
 | b :: bs, hb => by
  have h1 := Qjn (bs := bs) fun x hx => hb x (by simp [hx])
  have h2 := hb b (by simp)
  rw [List.length_cons, Nat.pow_succ, Nat.mul_comm]
  exact Nat.mul_le_mul h2 h1
theorem Qjo {n c : Nat} (hn : n = 2 ∨ n = 3) (hc : c ≤ 4) : mL n c ^ n * mS c ^ c ≤ 324 := by
 rcases hn with rfl | rfl <;> rcases le4 hc with rfl | rfl | rfl | rfl | rfl <;> decide
theorem Qjp (hc : HsF h) : ∃ B : Nat, (mL h.hands.length h.boards.length) = B ∧ (∀ x ∈ h.hands, x.lines.length ≤ B) ∧ B ^ h.hands.length * sts h.boards ≤ 324 := by
 obtain ⟨hh, h4, hS, hl⟩ := hc
 refine ⟨_, rfl, hl, Nat.le_trans (Nat.mul_le_mul_left _ (Qjn hS)) (Qjo ?_ h4)⟩
 have := hh.2.2.1
 have := hh.2.2.2.1
 ac_nf
theorem Qjq {st : Sd} (hc : HsF h) (hs : SdOk h st) : numS h st < 324 := by
 obtain ⟨B, e, hl, hn⟩ := Qjp hc
 have h1 := Qh8 (Qjl hs hl)
 have h2 := Qia (by rw [List.length_map]; exact hs.2.1) (Qjm hs)
 rw [Qjk] at h2
 unfold numS
 rw [e]
 rw [hs.1] at h1
 have : (enc B st.ls + 1) * sts h.boards ≤ B ^ h.hands.length * sts h.boards := Nat.mul_le_mul_right _ h1
 rw [Nat.succ_mul] at this
 ac_nf
theorem Qjr {a b : Sd} (hc : HsF h) (ha : SdOk h a) (hb : SdOk h b) (e : numS h a = numS h b) : a = b := by
 obtain ⟨B, eB, hl, hn⟩ := Qjp hc
 have a1 := Qia (by rw [List.length_map]; exact ha.2.1) (Qjm ha)
 have b1 := Qia (by rw [List.length_map]; exact hb.2.1) (Qjm hb)
 rw [Qjk] at a1 b1
 unfold numS at e
 rw [eB] at e
 have q : enc B a.ls = enc B b.ls ∧ encS (h.boards.map (·.S)) a.ss = encS (h.boards.map (·.S)) b.ss := by
  generalize sts h.boards = p at e a1 b1
  have hp : 0 < p := by ac_nf
  have x1 : (enc B a.ls * p + encS (h.boards.map (·.S)) a.ss) / p = enc B a.ls := by rw [Nat.mul_comm, Nat.mul_add_div hp, Nat.div_eq_of_lt a1]; simp
  have x2 : (enc B b.ls * p + encS (h.boards.map (·.S)) b.ss) / p = enc B b.ls := by rw [Nat.mul_comm, Nat.mul_add_div hp, Nat.div_eq_of_lt b1]; simp
  have : enc B a.ls = enc B b.ls := by rw [← x1, ← x2, e]
  rw [this] at e
  exact ⟨this, by ac_nf⟩
 have e1 := Qh9 (by rw [ha.1, hb.1]) (Qjl ha hl) (Qjl hb hl) q.1
 have e2 := Qib (by rw [List.length_map]; exact ha.2.1) (by rw [List.length_map]; exact hb.2.1) (Qjm ha) (Qjm hb) q.2
 cases a; cases b
 simp only at e1 e2
 rw [e1, e2]
theorem Qjs {α β : Type} {f : α → β} : ∀ {l : List α}, l.Nodup → (∀ a ∈ l, ∀ b ∈ l, f a = f b → a = b) → (l.map f).Nodup
 | [], _, _ => List.nodup_nil
 | x :: xs, hn, hi => by
  obtain ⟨h1, h2⟩ := List.nodup_cons.mp hn
  rw [List.map_cons]
  refine List.nodup_cons.mpr ⟨fun hm => ?_, Qjs h2 fun a ha b hb => hi a (by simp [ha]) b (by simp [hb])⟩
  obtain ⟨y, hy, e⟩ := List.mem_map.mp hm
  have := hi y (by simp [hy]) x (by simp) e
  exact h1 (this ▸ hy)
theorem few {l : List Sd} (hc : HsF h) (hn : l.Nodup) (ho : ∀ x ∈ l, SdOk h x) : l.length ≤ 324 := by
 have := Qh7 324 (l.map (numS h)) (Qjs hn fun a ha b hb e => Qjr hc (ho a ha) (ho b hb) e) (fun x hx => by
  obtain ⟨a, ha, e⟩ := List.mem_map.mp hx
  rw [← e]; exact Qjq hc (ho a ha))
 rwa [List.length_map] at this
theorem Qjt (st : Sd) : kOk true (sdD st) = true := Qie st.ls st.ss
theorem Qju (a b : Sd) : eqK (sdD a) (sdD b) = decide (a = b) := by
 have := Qif a.ls a.ss b.ls b.ss
 show eqK (sdD a) (sdD b) = _
 unfold sdD
 refine this.trans ?_
 cases a; cases b
 simp only [Sd.mk.injEq, Bool.decide_and]
theorem Qjv {order : List Sd} : ∀ {kvs : List (D × D)}, kvs.map (·.1) = order.map sdD → ∀ st, (lkK kvs (sdD st)).isSome = decide (st ∈ order) := by
 induction order with
 | nil =>
  intro kvs hk st
  cases kvs with
  | nil => rfl
  | cons p ps => cases hk
 | cons x xs ih =>
  intro kvs hk st
  cases kvs with
  | nil => cases hk
  | cons p ps =>
   rw [List.map_cons, List.map_cons] at hk
   obtain ⟨h1, h2⟩ := List.cons.inj hk
   unfold lkK
   rw [List.find?_cons, h1, Qju]
   by_cases e : x = st
   ·rw [decide_eq_true e]; simp [e]
   ·rw [decide_eq_false e]
    have := ih h2 st
    unfold lkK at this
    rw [this]
    have e' : ¬ st = x := fun z => e z.symm
    simp [e']
theorem Qjw {kvs : List (D × D)} {order : List Sd} {st : Sd} {v : D} (w : kvs.map (·.1) = order.map sdD) (hn : st ∉ order) : (ptK kvs (sdD st) v).map (·.1) = (order ++ [st]).map sdD := by
 have h0 := Qjv w st
 rw [decide_eq_false hn] at h0
 have h1 : (kvs.any fun p => eqK p.1 (sdD st)) = false := by
  cases e : kvs.any fun p => eqK p.1 (sdD st) with
  | false => rfl
  | true =>
   obtain ⟨p, hp, hq⟩ := List.any_eq_true.mp e
   have : (kvs.find? fun p => eqK p.1 (sdD st)).isSome = true := List.find?_isSome.mpr ⟨p, hp, hq⟩
   unfold lkK at h0
   rw [Option.isSome_map, this] at h0
   cases h0
 unfold ptK
 rw [h1, if_neg (by simp), List.map_append, List.map_append, w]
 rfl
end
noncomputable def addS (xs : List Sd) (x : Sd) : List Sd := if x ∈ xs then xs else xs ++ [x]
noncomputable def frs (h : Hs) (st : Sd) : List Nat := (List.range h.hands.length).filter fun k => isAct (lineAt h st k)
noncomputable def stp (h : Hs) (x : Sd) (ks : List Nat) (xs : List Sd) : List Sd := ks.foldl (fun ys k => addS ys (beh h x k)) xs
noncomputable def firstS (h : Hs) (rows : List (List D)) : List Sd := rows.foldl (fun ys row => addS ys (begS h row)) []
noncomputable def wlk (h : Hs) : Nat → List Sd
 | 0 => firstS h (inS h.hands.length)
 | i + 1 => match (wlk h i)[i]? with
  | some x => stp h x (frs h x) (wlk h i)
  | none => wlk h i
def Good (h : Hs) (xs : List Sd) : Prop := xs.Nodup ∧ ∀ x ∈ xs, SdOk h x
section
variable {h : Hs}
theorem Qjx {xs : List Sd} {x : Sd} (g : Good h xs) (hx : SdOk h x) : Good h (addS xs x) := by
 unfold addS
 by_cases e : x ∈ xs
 ·rw [if_pos e]; exact g
 ·rw [if_neg e]
  refine ⟨List.nodup_append.mpr ⟨g.1, by simp, fun a ha b hb => ?_⟩, fun y hy => ?_⟩
  ·rw [List.mem_singleton.mp hb]; exact fun z => e (z ▸ ha)
  ·rcases List.mem_append.mp hy with hy | hy
   ·exact g.2 y hy
   ·rw [List.mem_singleton.mp hy]; exact hx
theorem Qjy (hh : HsOk h) {x : Sd} (hx : SdOk h x) : ∀ {ks : List Nat} {xs : List Sd}, (∀ k ∈ ks, k < h.hands.length) → Good h xs → Good h (stp h x ks xs)
 | [], _, _, g => g
 | k :: ks, xs, hk, g => Qjy hh hx (ks := ks) (fun y hy => hk y (by simp [hy])) (Qjx g (QiQ hh hx (hk k (by simp))))
theorem Qjz (hh : HsOk h) : ∀ {rows : List (List D)} {xs : List Sd}, (∀ r ∈ rows, r ∈ inS h.hands.length) → Good h xs → Good h (rows.foldl (fun ys row => addS ys (begS h row)) xs)
 | [], _, _, g => g
 | r :: rows, xs, hr, g => Qjz hh (rows := rows) (fun y hy => hr y (by simp [hy])) (Qjx g (Qi6 hh (hr r (by simp))))
theorem QjA {st : Sd} {k : Nat} (hk : k ∈ frs h st) : k < h.hands.length := List.mem_range.mp (List.mem_filter.mp hk).1
theorem QjB (hh : HsOk h) : ∀ i, Good h (wlk h i)
 | 0 => Qjz hh (fun r hr => hr) ⟨List.nodup_nil, by simp⟩
 | i + 1 => by
  have g := QjB hh i
  unfold wlk
  cases e : (wlk h i)[i]? with
  | none => exact g
  | some x => exact Qjy hh (g.2 x (List.mem_of_getElem? e)) (fun k hk => QjA hk) g
theorem QjC (xs : List Sd) (x : Sd) : ∃ t, addS xs x = xs ++ t := by
 unfold addS
 by_cases e : x ∈ xs
 ·exact ⟨[], by rw [if_pos e]; simp⟩
 ·exact ⟨[x], by rw [if_neg e]⟩
theorem QjD {x : Sd} : ∀ (ks : List Nat) (xs : List Sd), ∃ t, stp h x ks xs = xs ++ t
 | [], xs => ⟨[], by simp [stp]⟩
 | k :: ks, xs => by
  obtain ⟨t, e⟩ := QjC xs (beh h x k)
  obtain ⟨u, f⟩ := QjD (x := x) ks (addS xs (beh h x k))
  refine ⟨t ++ u, ?_⟩
  show stp h x ks (addS xs (beh h x k)) = _
  rw [f, e, List.append_assoc]
theorem QjE (i : Nat) : ∃ t, wlk h (i + 1) = wlk h i ++ t := by
 show ∃ t, (match (wlk h i)[i]? with
  | some x => stp h x (frs h x) (wlk h i)
  | none => wlk h i) = _
 cases (wlk h i)[i]? with
 | none => exact ⟨[], by simp⟩
 | some x => exact QjD _ _
theorem QjF {i j : Nat} (hij : i ≤ j) : (wlk h i).length ≤ (wlk h j).length := by
 induction j with
 | zero => cases Nat.le_zero.mp hij; exact Nat.le_refl _
 | succ j ih =>
  by_cases e : i = j + 1
  ·subst e; exact Nat.le_refl _
  ·obtain ⟨t, ht⟩ := QjE (h := h) j
   rw [ht, List.length_append]
   have := ih (by ac_nf)
   ac_nf
def Gone (h : Hs) (i : Nat) : Prop := ∀ j, j < i → j < (wlk h j).length
def Stop (h : Hs) (i : Nat) : Prop := Gone h i ∧ (wlk h i).length ≤ i
theorem Stop.uniq {i j : Nat} (a : Stop h i) (b : Stop h j) : i = j := by
 rcases Nat.lt_trichotomy i j with e | e | e
 ·have := b.1 i e; have := a.2; ac_nf
 ·exact e
 ·have := a.1 j e; have := b.2; ac_nf
theorem QjG (hc : HsF h) {i : Nat} (g : Gone h i) : (wlk h i).length ≤ 324 ∧ i ≤ 324 := by
 have h1 := few hc (QjB hc.1 i).1 (QjB hc.1 i).2
 refine ⟨h1, ?_⟩
 cases i with
 | zero => ac_nf
 | succ i =>
  have := g i (by ac_nf)
  have := QjF (h := h) (show i ≤ i + 1 by ac_nf)
  ac_nf
end
end My
namespace My
open MM
open PySem (Str)
section
variable {s u : Sto} {Q : D → Sto → Prop} {h : Hs} {no nd : Nat} {xs : List Sd}
def Fnd (s : Sto) (no nd : Nat) (xs : List Sd) (u : Sto) : Prop := ∃ kvs, u[nd]? = some (.dct true kvs) ∧ u[no]? = some (.lst (xs.map sdD)) ∧ kvs.map (·.1) = xs.map sdD ∧ Ext s u
theorem Fnd.ext {u' : Sto} (f : Fnd s no nd xs u) (x : Ext u u') : Fnd s no nd xs u' := by
 obtain ⟨kvs, a, b, c, d⟩ := f
 exact ⟨kvs, x.at_ a, x.at_ b, c, d.trans x⟩
theorem QjH {kvs : List (D × D)} (w : kvs.map (·.1) = xs.map sdD) : kvs.length = xs.length := by
 have := congrArg List.length w
 simpa using this
theorem QjI {st : Sd} {a y3 y5 y6 : Option D} {R : Flw → Sto → Prop} (hne : no ≠ nd) (hso : s.length ≤ no) (hsd : s.length ≤ nd) (I : Fnd s no nd xs u) (hl : xs.length ≤ 400)
  (hq : ∀ u', Fnd s no nd (addS xs st) u' → (∀ n, n ≠ no → n ≠ nd → u'[n]? = u[n]?) → R (.next [a, some (.ref no), some (.dic nd), y3, some (sdD st), y5, y6]) u') :
  wp (sIf (tCmpB (c2 ninD (cVar 4) (cVar 2))) (sSeq (sAsg (gSubD (cVar 2) (cVar 4)) (cCon (.bl true))) (sSeq (sExp (cAppend (cVar 1) (cVar 4))) sNext)) sNext [a, some (.ref no), some (.dic nd), y3, some (sdD st), y5, y6]) R u := by
 obtain ⟨kvs, g1, g2, w, hx⟩ := I
 have kl := QjH w
 have q1 : ∀ Q, wp (hasK nd (sdD st)) Q u = Q (lkK kvs (sdD st)).isSome u := fun Q => Qh3 g1 (Qjt st)
 simp_arith [↓q1, Qjv w]
 by_cases hm : st ∈ xs
 ·rw [decide_eq_true hm]
  simp_arith [Bool.not_true, Bool.false_eq_true, if_false]
  refine hq u ⟨kvs, g1, ?_, ?_, hx⟩ fun _ _ _ => rfl
  ·unfold addS; rw [if_pos hm]; exact g2
  ·unfold addS; rw [if_pos hm]; exact w
 ·rw [decide_eq_false hm]
  have q2 : ∀ v Q, wp (storeK nd (sdD st) v) Q u = Q () (u.set nd (.dct true (ptK kvs (sdD st) v))) := fun v Q => Qh2 g1 (Qjt st) (Qhg (by ac_nf))
  have g3 : ∀ v, (u.set nd (MO.dct true (ptK kvs (sdD st) v)))[no]? = some (.lst (xs.map sdD)) := fun v => by rw [List.getElem?_set_ne (by ac_nf)]; exact g2
  have q3 : ∀ v Q, wp (getL no) Q (u.set nd (MO.dct true (ptK kvs (sdD st) v))) = Q (xs.map sdD) (u.set nd (MO.dct true (ptK kvs (sdD st) v))) := fun v Q => Qg6 (g3 v)
  have q4 : ∀ v es Q, wp (putL no es) Q (u.set nd (MO.dct true (ptK kvs (sdD st) v))) = Q () ((u.set nd (MO.dct true (ptK kvs (sdD st) v))).set no (.lst es)) := fun v es Q => Qg7 (g3 v)
  simp_arith [Bool.not_false, if_true, ↓q2, ↓q3, ↓q4, List.length_map]
  refine ⟨Qhg (by ac_nf), hq _ ⟨_, by rw [List.getElem?_set_ne hne, List.getElem?_set_self (Qih g1)], ?_, ?_, (hx.put hsd).put hso⟩ fun n h1 h2 => by rw [List.getElem?_set_ne (Ne.symm h1), List.getElem?_set_ne (Ne.symm h2)]⟩
  ·unfold addS; rw [if_neg hm, List.getElem?_set_self (by rw [List.length_set]; exact Qih g2), List.map_append]; rfl
  ·unfold addS; rw [if_neg hm]; exact Qjw w hm
theorem QjJ {st : Sd} : freeL h st h.hands.length = (frs h st).map fun k => .int (k : Nat) := rfl
theorem QjK {x : Sd} {ks : List Nat} {j k : Nat} (e : ks[j]? = some k) : stp h x (ks.take (j + 1)) xs = addS (stp h x (ks.take j) xs) (beh h x k) := by
 obtain ⟨hj, e2⟩ := List.getElem?_eq_some_iff.mp e
 rw [List.take_succ_eq_append_getElem hj, e2]
 unfold stp
 rw [List.foldl_append]
 rfl
theorem QjL {rows : List (List D)} {j : Nat} {r : List D} (e : rows[j]? = some r) : firstS h (rows.take (j + 1)) = addS (firstS h (rows.take j)) (begS h r) := by
 obtain ⟨hj, e2⟩ := List.getElem?_eq_some_iff.mp e
 rw [List.take_succ_eq_append_getElem hj, e2]
 unfold firstS
 rw [List.foldl_append]
 rfl
theorem QjM (hc : HsF h) (hq : ∀ i r u, Stop h i → u[r]? = some (.lst ((wlk h i).map sdD)) → s.length ≤ r → Ext s u → Q (.ref r) u) : wp (yl [hsD h]) Q s := by
 have hh := hc.1
 have hn : h.hands.length = 2 ∨ h.hands.length = 3 := by have := hh.2.2.1; have := hh.2.2.2.1; ac_nf
 (simp_arith [yl]; simp_arith [vL, Nat.zero_le])
 refine Qi5 hn fun r s1 hr gr x1 => ?_
 have qr : ∀ Q, wp (getL r) Q s1 = Q ((inS h.hands.length).map D.tup) s1 := fun Q => Qg6 gr
 simp_arith [↓qr]
 have f0 : Fnd s s.length (s ++ [MO.lst []]).length [] s1 := ⟨[], x1.at_ Qh5, x1.at_ (Qh6 Qh5), rfl, (((Ext.refl s).snoc _).snoc _).trans x1⟩
 have hr' : (s ++ [MO.lst []]).length < r := by
  have : (s ++ [MO.lst []] ++ [MO.dct true []]).length = (s ++ [MO.lst []]).length + 1 := by simp
  ac_nf
 have hne : s.length < (s ++ [MO.lst []]).length := by simp
 generalize (s ++ [MO.lst []]).length = nd at f0 hr' hne ⊢
 refine Qhh (fun i l u => ∃ y3 y4, l = [some (hsD h), some (.ref s.length), some (.dic nd), y3, y4, none, none] ∧ u[r]? = some (.lst ((inS h.hands.length).map D.tup)) ∧ Fnd s s.length nd (firstS h ((inS h.hands.length).take i)) u) (fun _ _ _ w => by obtain ⟨_, _, _, g, _⟩ := w; exact g)
  ⟨_, _, rfl, gr, f0⟩ (fun i d l u hd hW => ?_) (fun l u hW => ?_)
 ·obtain ⟨y3, y4, el, g, f⟩ := hW
  subst el
  rw [List.getElem?_map] at hd
  cases er : (inS h.hands.length)[i]? with
  | none => rw [er] at hd; cases hd
  | some row =>
   rw [er] at hd
   have ed : d = .tup row := (Option.some.inj hd).symm
   subst ed
   have hrow := List.mem_of_getElem? er
   simp_arith []
   refine Qi8 hh hrow fun u1 e1 => ?_
   simp only [↓x_g4, ↓x_seq]
   have gd : Good h (firstS h ((inS h.hands.length).take i)) := Qjz hh (fun r hr => List.mem_of_mem_take hr) ⟨List.nodup_nil, by simp⟩
   have hl := few hc gd.1 gd.2
   refine QjI (by ac_nf) (Nat.le_refl _) (by ac_nf) (f.ext e1) (by ac_nf) fun u2 f2 k2 => ?_
   simp_arith []
   refine ⟨_, _, rfl, ?_, ?_⟩
   ·rw [k2 r (by ac_nf) (by ac_nf)]; exact e1.at_ g
   ·rw [QjL er]; exact f2
 ·obtain ⟨y3, y4, el, g, f⟩ := hW
  subst el
  rw [List.length_map, List.take_length] at f
  simp_arith []
  refine QhS (fun l u => ∃ (i : Nat) (y3 y4 y6 : Option D), l = [some (hsD h), some (.ref s.length), some (.dic nd), y3, y4, some (.int i), y6] ∧ Gone h i ∧ Fnd s s.length nd (wlk h i) u)
   (fun (l : Loc) (_ : Sto) => match (l[5]? : Option (Option D)) with
    | some (some (D.int i)) => (1000 - i).toNat
    | _ => 0) ⟨0, _, _, _, rfl, fun j hj => absurd hj (by ac_nf), f⟩ (fun l u hW => ?_)
  clear f g
  obtain ⟨i, y3, y4, y6, el, go, f⟩ := hW
  subst el
  obtain ⟨hl, hi⟩ := QjG hc go
  have gl : u[s.length]? = some (.lst ((wlk h i).map sdD)) := by obtain ⟨_, _, b, _⟩ := f; exact b
  have q1 : ∀ Q, wp (getL s.length) Q u = Q ((wlk h i).map sdD) u := fun Q => Qg6 gl
  simp_arith [↓q1, List.length_map]
  by_cases hlt : i < (wlk h i).length
  ·rw [if_pos (by ac_nf)]
   have ex : (wlk h i)[i]? = some (wlk h i)[i] := List.getElem?_eq_getElem hlt
   have hx := (QjB hh i).2 _ (List.getElem_mem hlt)
   have ew : wlk h (i + 1) = stp h (wlk h i)[i] (frs h (wlk h i)[i]) (wlk h i) := by
    show (match (wlk h i)[i]? with
     | some x => stp h x (frs h x) (wlk h i)
     | none => wlk h i) = _
    rw [ex]
   generalize (wlk h i)[i] = x at ex hx ew
   have q2 : ∀ (Q : D → Sto → Prop) s, wp (itemD ((wlk h i).map sdD) (i : Int)) Q s = Q (sdD x) s := fun Q s => Qhl (by rw [List.getElem?_map, ex]; rfl)
   simp_arith [↓q2]
   refine Qjh hh hx fun r1 u1 hr1 gr1 e1 => ?_
   rw [QjJ] at gr1
   have q3 : ∀ Q, wp (getL r1) Q u1 = Q ((frs h x).map fun k => .int (k : Nat)) u1 := fun Q => Qg6 gr1
   simp_arith [↓q3]
   have lu : nd < u.length := by obtain ⟨_, a, _⟩ := f; exact Qih a
   refine Qhh (fun j l u => ∃ y4 y6, l = [some (hsD h), some (.ref s.length), some (.dic nd), y3, y4, some (.int i), y6] ∧ u[r1]? = some (.lst ((frs h x).map fun k => .int (k : Nat))) ∧ Fnd s s.length nd (stp h x ((frs h x).take j) (wlk h i)) u) (fun _ _ _ w => by obtain ⟨_, _, _, g, _⟩ := w; exact g)
    ⟨_, _, rfl, gr1, f.ext e1⟩ (fun j d l v hd hW => ?_) (fun l v hW => ?_)
   ·obtain ⟨y4, y6, el, g2, f2⟩ := hW
    subst el
    rw [List.getElem?_map] at hd
    cases ek : (frs h x)[j]? with
    | none => rw [ek] at hd; cases hd
    | some k =>
     rw [ek] at hd
     have ed : d = .int (k : Nat) := (Option.some.inj hd).symm
     subst ed
     have hk := QjA (List.mem_of_getElem? ek)
     obtain ⟨t, et⟩ := QjD (h := h) (x := x) ((frs h x).take j) (wlk h i)
     have g3 : v[s.length]? = some (.lst ((stp h x ((frs h x).take j) (wlk h i)).map sdD)) := by obtain ⟨_, _, b, _⟩ := f2; exact b
     have q4 : ∀ Q, wp (getL s.length) Q v = Q ((stp h x ((frs h x).take j) (wlk h i)).map sdD) v := fun Q => Qg6 g3
     have q5 : ∀ (Q : D → Sto → Prop) s, wp (itemD ((stp h x ((frs h x).take j) (wlk h i)).map sdD) (i : Int)) Q s = Q (sdD x) s := fun Q s => Qhl (by rw [et, List.getElem?_map, List.getElem?_append_left hlt, ex]; rfl)
     have gd := Qjy hh hx (fun k hk => QjA (List.mem_of_mem_take hk)) (QjB hh i) (ks := (frs h x).take j)
     have hl2 := few hc gd.1 gd.2
     simp_arith [↓q4, ↓q5]
     refine QiV hh hx hk fun v1 e2 => ?_
     simp only [↓x_g4, ↓x_seq]
     refine QjI (by ac_nf) (Nat.le_refl _) (by ac_nf) (f2.ext e2) (by ac_nf) fun v2 f3 k3 => ?_
     simp_arith []
     refine ⟨_, _, rfl, ?_, ?_⟩
     ·rw [k3 r1 (by ac_nf) (by ac_nf)]; exact e2.at_ g2
     ·rw [QjK ek]; exact f3
   ·obtain ⟨y4, y6, el, g2, f2⟩ := hW
    subst el
    rw [List.length_map, List.take_length, ← ew] at f2
    simp_arith []
    refine ⟨⟨i + 1, _, _, _, rfl, fun j hj => ?_, f2⟩, ?_⟩
    ·by_cases e : j = i
     ·subst e; exact hlt
     ·exact go j (by ac_nf)
    ·show (1000 - ((i : Int) + 1)).toNat < (1000 - (i : Int)).toNat
     ac_nf
  ·rw [if_neg (by ac_nf)]
   try simp_arith []
   obtain ⟨_, _, _, _, ex⟩ := f
   exact hq i _ _ ⟨go, by ac_nf⟩ gl (Nat.le_refl _) ex
end
end My
namespace My
open MM
open PySem (Str)
section
variable {s u : Sto} {Q : D → Sto → Prop} {h : Hs} {no nd : Nat} {xs : List Sd} {l : Loc}
theorem QjN {a b c : CE} : wp (cSetDef a b c l) Q s = wp (a l) (fun x s1 => match x with
  | .dic n => wp (getDc n) (fun p s2 => p.1 = true ∧ wp (b l) (fun y s3 => wp (c l) (fun z s4 => wp (setDefK n y z) Q s4) s3) s2) s1
  | _ => False) s := by
 unfold cSetDef
 rw [Qg5]
 refine wp_cg fun x s1 => ?_
 cases x with
 | dic n =>
  dsimp only
  rw [Qg5]
  refine wp_cg fun p s2 => ?_
  rw [wp_chk, Qg5]
  refine congrArg _ (wp_cg fun y s3 => ?_)
  rw [Qg5]
 | _ => exact wp_no rfl
theorem QjO {n : Nat} {kvs : List (D × D)} {k v d : D} (g : s[n]? = some (.dct true kvs)) (hk : kOk true k = true) (hl : kvs.length < lim) (e : lkK kvs k = some d) : wp (setDefK n k v) Q s = Q d s := by
 unfold setDefK
 rw [Qg5, QhZ g, wp_chk]
 dsimp only
 rw [e]
 dsimp only
 rw [wp_ret]
 exact propext ⟨fun z => z.2, fun z => ⟨⟨rfl, hk, hl⟩, z⟩⟩
theorem QjP {n : Nat} {kvs : List (D × D)} {k v : D} (g : s[n]? = some (.dct true kvs)) (hk : kOk true k = true) (hl : kvs.length < lim) (e : lkK kvs k = none) : wp (setDefK n k v) Q s = Q v (s.set n (.dct true (ptK kvs k v))) := by
 unfold setDefK
 rw [Qg5, QhZ g, wp_chk]
 dsimp only
 rw [e]
 dsimp only
 rw [Qg5, Qh0 g, wp_ret]
 exact propext ⟨fun z => z.2, fun z => ⟨⟨rfl, hk, hl⟩, z⟩⟩
theorem QjQ {n : Nat} {kvs : List (D × D)} (g : s[n]? = some (.dct true kvs)) : wp (listKD (.dic n)) Q s = Q (.ref s.length) (s ++ [.lst (kvs.map (·.1))]) := by
 unfold listKD
 dsimp only
 rw [Qg5, QhZ g, wp_chk, wp_alloc]
 exact propext ⟨fun z => z.2, fun z => ⟨rfl, z⟩⟩
noncomputable def inP : Nat → List (List D)
 | 0 => [[]]
 | n + 1 => (inP n).flatMap fun x => [x ++ [.int 0], x ++ [.int 1]]
theorem QjR {n : Nat} (hn : n = 2 ∨ n = 3) : inP n = inS n := by rcases hn with rfl | rfl <;> rfl
theorem QjS : ∀ n, ∀ x ∈ inP n, x.length = n
 | 0, x, h => by simp [inP] at h; simp [h]
 | n + 1, x, h => by
  obtain ⟨y, hy, e⟩ := List.mem_flatMap.mp h
  have := QjS n y hy
  simp at e
  rcases e with e | e <;> rw [e] <;> simp [this]
theorem QjT : ∀ n, (inP n).length = 2 ^ n
 | 0 => rfl
 | n + 1 => by
  have : ∀ l : List (List D), (l.flatMap fun x => [x ++ [D.int 0], x ++ [D.int 1]]).length = 2 * l.length := by
   intro l
   induction l with
   | nil => rfl
   | cons a t ih => rw [List.flatMap_cons, List.length_append, ih, List.length_cons]; simp; ac_nf
  show ((inP n).flatMap _).length = _
  rw [this, QjT n, Nat.pow_succ]; ac_nf
theorem QjU (hh : HsOk h) (hq : ∀ r u, s.length ≤ r → u[r]? = some (.lst ((inS h.hands.length).map D.tup)) → Ext s u → Q (.ref r) u) : wp (yG [hsD h]) Q s := by
 have hn : h.hands.length = 2 ∨ h.hands.length = 3 := by have := hh.2.2.1; have := hh.2.2.2.1; ac_nf
 have l1 : 1 ≤ lim := Qhf (by ac_nf)
 have wh : ∀ (Q : D → Sto → Prop) s, wp (subsD (hsD h) (.int 1)) Q s = Q (.tup (h.hands.map hdD)) s := fun Q s => Qjd
 (simp_arith [yG]; simp_arith [Jd, Nat.zero_le, l1, ↓wh])
 refine Qhh (fun i l u => ∃ (n : Nat) (y2 y3 y4 : Option D), l = [some (hsD h), some (.ref n), y2, y3, y4] ∧ s.length ≤ n ∧ u[n]? = some (.lst ((inP i).map D.tup)) ∧ Ext s u) (fun _ _ _ _ => trivial)
  ⟨_, _, _, _, rfl, Nat.le_refl _, Qh5, (Ext.refl _).snoc _⟩ (fun i d l u hd hW => ?_) (fun l u hW => ?_)
 ·obtain ⟨n, y2, y3, y4, el, hsn, g, ex⟩ := hW
  subst el
  have hi := (List.getElem?_eq_some_iff.mp hd).1
  rw [List.length_map] at hi
  have hi3 : i < 3 := by ac_nf
  have hcn := QjT i
  have hp : 2 ^ i ≤ 8 := by rcases (show i = 0 ∨ i = 1 ∨ i = 2 by ac_nf) with rfl | rfl | rfl <;> decide
  have gn : (u ++ [MO.lst []])[n]? = some (.lst ((inP i).map D.tup)) := Qh6 g
  have lnn := Qih g
  have qn : ∀ Q, wp (getL n) Q (u ++ [MO.lst []]) = Q ((inP i).map D.tup) (u ++ [MO.lst []]) := fun Q => Qg6 gn
  simp_arith [Nat.zero_le, ↓qn]
  refine Qhh (fun j l v => ∃ y4, l = [some (hsD h), some (.ref n), some d, some (.ref u.length), y4] ∧ v[n]? = some (.lst ((inP i).map D.tup)) ∧ v[u.length]? = some (.lst ((((inP i).take j).flatMap fun x => [x ++ [.int 0], x ++ [.int 1]]).map D.tup)) ∧ Ext s v) (fun _ _ _ w => by obtain ⟨_, _, g, _⟩ := w; exact g)
   ⟨_, rfl, gn, Qh5, ex.snoc _⟩ (fun j e l v he hW => ?_) (fun l v hW => ?_)
  ·obtain ⟨y4, el, g1, g2, ex2⟩ := hW
   subst el
   rw [List.getElem?_map] at he
   cases er : (inP i)[j]? with
   | none => rw [er] at he; cases he
   | some row =>
    rw [er] at he
    have ed : e = .tup row := (Option.some.inj he).symm
    subst ed
    obtain ⟨hj, e2⟩ := List.getElem?_eq_some_iff.mp er
    have hrl := QjS i row (List.mem_of_getElem? er)
    have tk : (inP i).take (j + 1) = (inP i).take j ++ [row] := by rw [List.take_succ_eq_append_getElem hj, e2]
    generalize hys : ((inP i).take j).flatMap (fun x => [x ++ [D.int 0], x ++ [D.int 1]]) = ys at g2
    have hyl : ys.length ≤ 16 := by
     have : ∀ l : List (List D), (l.flatMap fun x => [x ++ [D.int 0], x ++ [D.int 1]]).length = 2 * l.length := by
      intro l
      induction l with
      | nil => rfl
      | cons a t ih => rw [List.flatMap_cons, List.length_append, ih, List.length_cons]; simp; ac_nf
     rw [← hys, this, List.length_take]; ac_nf
    have q1 : ∀ Q, wp (getL u.length) Q v = Q (ys.map D.tup) v := fun Q => Qg6 g2
    have q2 : ∀ es Q, wp (putL u.length es) Q v = Q () (v.set u.length (.lst es)) := fun es Q => Qg7 g2
    have g3 : ∀ es, (v.set u.length (MO.lst es))[u.length]? = some (.lst es) := fun es => List.getElem?_set_self (Qih g2)
    have q3 : ∀ es Q, wp (getL u.length) Q (v.set u.length (MO.lst es)) = Q es (v.set u.length (MO.lst es)) := fun es Q => Qg6 (g3 es)
    have q4 : ∀ es es' Q, wp (putL u.length es') Q (v.set u.length (MO.lst es)) = Q () ((v.set u.length (MO.lst es)).set u.length (.lst es')) := fun es es' Q => Qg7 (g3 es)
    have lr : row.length + 1 ≤ lim := Qhf (by ac_nf)
    simp_arith [l1, lr, ↓q1, ↓q2, ↓q3, ↓q4, List.length_append, List.length_map, List.length_cons, List.length_nil]
    have hu := ex.le
    refine ⟨Qhg (by ac_nf), Qhg (by ac_nf), _, rfl, ?_, ?_, (ex2.put hu).put hu⟩
    ·rw [List.getElem?_set_ne (by ac_nf), List.getElem?_set_ne (by ac_nf)]; exact g1
    ·rw [List.getElem?_set_self (by rw [List.length_set]; exact Qih g2), tk, List.flatMap_append, hys]
     simp
  ·obtain ⟨y4, el, g1, g2, ex2⟩ := hW
   subst el
   rw [List.length_map, List.take_length] at g2
   simp_arith []
   exact ⟨_, _, _, _, rfl, by have := ex.le; ac_nf, g2, ex2⟩
 ·obtain ⟨n, y2, y3, y4, el, hsn, g, ex⟩ := hW
  subst el
  rw [List.length_map, QjR hn] at g
  simp_arith []
  exact hq n u hsn g ex
theorem QjV {st : Sd} {a b y4 y5 : Option D} {R : Flw → Sto → Prop} (hne : no ≠ nd) (hso : s.length ≤ no) (hsd : s.length ≤ nd) (I : Fnd s no nd xs u) (hl : xs.length ≤ 400)
  (hq : ∀ u', Fnd s no nd (addS xs st) u' → (∀ n, n ≠ no → n ≠ nd → u'[n]? = u[n]?) → R (.next [a, b, some (.ref no), some (.dic nd), y4, y5, some (sdD st)]) u') :
  wp (sIf (tCmpB (c2 ninD (cVar 6) (cVar 3))) (sSeq (sAsg (gSubD (cVar 3) (cVar 6)) (c1 lenD (cVar 2))) (sSeq (sExp (cAppend (cVar 2) (cVar 6))) sNext)) sNext [a, b, some (.ref no), some (.dic nd), y4, y5, some (sdD st)]) R u := by
 obtain ⟨kvs, g1, g2, w, hx⟩ := I
 have kl := QjH w
 have q1 : ∀ Q, wp (hasK nd (sdD st)) Q u = Q (lkK kvs (sdD st)).isSome u := fun Q => Qh3 g1 (Qjt st)
 have q0 : ∀ Q, wp (getL no) Q u = Q (xs.map sdD) u := fun Q => Qg6 g2
 simp_arith [↓q1, Qjv w]
 by_cases hm : st ∈ xs
 ·rw [decide_eq_true hm]
  simp_arith [Bool.not_true, Bool.false_eq_true, if_false]
  refine hq u ⟨kvs, g1, ?_, ?_, hx⟩ fun _ _ _ => rfl
  ·unfold addS; rw [if_pos hm]; exact g2
  ·unfold addS; rw [if_pos hm]; exact w
 ·rw [decide_eq_false hm]
  have q2 : ∀ v Q, wp (storeK nd (sdD st) v) Q u = Q () (u.set nd (.dct true (ptK kvs (sdD st) v))) := fun v Q => Qh2 g1 (Qjt st) (Qhg (by ac_nf))
  have g3 : ∀ v, (u.set nd (MO.dct true (ptK kvs (sdD st) v)))[no]? = some (.lst (xs.map sdD)) := fun v => by rw [List.getElem?_set_ne (by ac_nf)]; exact g2
  have q3 : ∀ v Q, wp (getL no) Q (u.set nd (MO.dct true (ptK kvs (sdD st) v))) = Q (xs.map sdD) (u.set nd (MO.dct true (ptK kvs (sdD st) v))) := fun v Q => Qg6 (g3 v)
  have q4 : ∀ v es Q, wp (putL no es) Q (u.set nd (MO.dct true (ptK kvs (sdD st) v))) = Q () ((u.set nd (MO.dct true (ptK kvs (sdD st) v))).set no (.lst es)) := fun v es Q => Qg7 (g3 v)
  simp_arith [Bool.not_false, if_true, ↓q0, ↓q2, ↓q3, ↓q4, List.length_map]
  refine ⟨Qhg (by ac_nf), hq _ ⟨_, by rw [List.getElem?_set_ne hne, List.getElem?_set_self (Qih g1)], ?_, ?_, (hx.put hsd).put hso⟩ fun n h1 h2 => by rw [List.getElem?_set_ne (Ne.symm h1), List.getElem?_set_ne (Ne.symm h2)]⟩
  ·unfold addS; rw [if_neg hm, List.getElem?_set_self (by rw [List.length_set]; exact Qih g2), List.map_append]; rfl
  ·unfold addS; rw [if_neg hm]; exact Qjw w hm
theorem QjW {x : Sd} : x ∈ addS xs x := by
 unfold addS
 by_cases e : x ∈ xs
 ·rw [if_pos e]; exact e
 ·rw [if_neg e]; simp
theorem QjX {x : Sd} {i : Nat} (hc : HsF h) (hx : SdOk h x) (hne : no ≠ nd) (hso : s.length ≤ no) (hsd : s.length ≤ nd) (I : Fnd s no nd (wlk h i) u)
  (hq : ∀ r u', u.length ≤ r → Fnd s no nd (stp h x (frs h x) (wlk h i)) u' → (∀ n, n < u.length → n ≠ no → n ≠ nd → u'[n]? = u[n]?) → Q (.ref r) u') : wp (yn [hsD h, sdD x, .ref no, .dic nd]) Q u := by
 have hh := hc.1
 have l2 : 2 ≤ lim := Qhf (by ac_nf)
 have z4 := hh.2.2.2.1
 have wf : ∀ (Q : D → Sto → Prop) s, wp (vI [hsD h, sdD x]) Q s = Q (.ref s.length) (s ++ [.lst ((frs h x).map fun k => .int (k : Nat))]) := fun Q s => Qjg hh hx
 have gf : (u ++ [MO.lst []] ++ [MO.lst ((frs h x).map fun k => .int (k : Nat))])[(u ++ [MO.lst []]).length]? = some (.lst ((frs h x).map fun k => .int (k : Nat))) := Qh5
 have qf : ∀ Q, wp (getL (u ++ [MO.lst []]).length) Q (u ++ [MO.lst []] ++ [MO.lst ((frs h x).map fun k => .int (k : Nat))]) = Q ((frs h x).map fun k => .int (k : Nat)) (u ++ [MO.lst []] ++ [MO.lst ((frs h x).map fun k => .int (k : Nat))]) := fun Q => Qg6 gf
 (simp_arith [yn]; simp_arith [vB, Nat.zero_le, ↓wf, ↓qf])
 have xu : Ext u (u ++ [MO.lst []] ++ [MO.lst ((frs h x).map fun k => .int (k : Nat))]) := ((Ext.refl _).snoc _).snoc _
 have gs : (u ++ [MO.lst []] ++ [MO.lst ((frs h x).map fun k => .int (k : Nat))])[u.length]? = some (.lst []) := Qh6 Qh5
 have lf : u.length < (u ++ [MO.lst []]).length := by simp
 have lnd : nd < u.length := by obtain ⟨_, a, _⟩ := I; exact Qih a
 have lno : no < u.length := by obtain ⟨_, _, a, _⟩ := I; exact Qih a
 have f0 := I.ext xu
 have k0 : ∀ n, n < u.length → n ≠ no → n ≠ nd → (u ++ [MO.lst []] ++ [MO.lst ((frs h x).map fun k => .int (k : Nat))])[n]? = u[n]? := fun n hn _ _ => by
  rw [List.getElem?_append_left (by rw [List.length_append]; ac_nf), List.getElem?_append_left hn]
 clear qf wf
 generalize (u ++ [MO.lst []]).length = nr at gf lf
 generalize u ++ [MO.lst []] ++ [MO.lst ((frs h x).map fun k => .int (k : Nat))] = u0 at gf gs f0 k0
 refine Qhh (fun j l v => ∃ (y5 y6 : Option D) (rs : List D), l = [some (hsD h), some (sdD x), some (.ref no), some (.dic nd), some (.ref u.length), y5, y6] ∧ v[nr]? = some (.lst ((frs h x).map fun k => .int (k : Nat))) ∧ v[u.length]? = some (.lst rs) ∧ rs.length = j ∧ Fnd s no nd (stp h x ((frs h x).take j) (wlk h i)) v ∧ ∀ n, n < u.length → n ≠ no → n ≠ nd → v[n]? = u[n]?) (fun _ _ _ w => by obtain ⟨_, _, _, _, g, _⟩ := w; exact g)
  ⟨_, _, [], rfl, gf, gs, rfl, f0, k0⟩ (fun j d l v hd hW => ?_) (fun l v hW => ?_)
 ·obtain ⟨y5, y6, rs, el, g1, g2, hrl, f, kp⟩ := hW
  subst el
  rw [List.getElem?_map] at hd
  cases ek : (frs h x)[j]? with
  | none => rw [ek] at hd; cases hd
  | some k =>
   rw [ek] at hd
   have ed : d = .int (k : Nat) := (Option.some.inj hd).symm
   subst ed
   have hk := QjA (List.mem_of_getElem? ek)
   have hj := (List.getElem?_eq_some_iff.mp ek).1
   have hj3 : (frs h x).length ≤ 3 := by
    have := List.length_filter_le (fun k => isAct (lineAt h x k)) (List.range h.hands.length)
    rw [List.length_range] at this
    unfold frs; ac_nf
   have wb : ∀ (Q : D → Sto → Prop) s, wp (zc [hsD h, sdD x, .int k]) Q s = Q (sdD (beh h x k)) s := fun Q s => QiU hh hx hk
   have gd := Qjy hh hx (fun k hk => QjA (List.mem_of_mem_take hk)) (QjB hh i) (ks := (frs h x).take j)
   have hl2 := few hc gd.1 gd.2
   simp only [↓x_g5]
   rw [x_seq]
   simp only [↓x_asg, ↓x_call, ↓x_cons, ↓x_nil, ↓x_v0, ↓x_v1, ↓x_v5, ↓wb, ↓x_g6]
   rw [x_seq]
   refine QjV hne hso hsd f (by ac_nf) fun v2 f2 kp2 => ?_
   have g2' : v2[u.length]? = some (.lst rs) := by rw [kp2 _ (by ac_nf) (by ac_nf)]; exact g2
   obtain ⟨kvs, b1, b2, b3, b4⟩ := id f2
   have hsome := Qjv b3 (beh h x k)
   rw [decide_eq_true QjW] at hsome
   obtain ⟨dv, hdv⟩ := Option.isSome_iff_exists.mp hsome
   have q1 : ∀ Q, wp (itemK nd (sdD (beh h x k))) Q v2 = Q dv v2 := fun Q => Qh1 b1 (Qjt _) hdv
   have q2 : ∀ Q, wp (getL u.length) Q v2 = Q rs v2 := fun Q => Qg6 g2'
   have q3 : ∀ es Q, wp (putL u.length es) Q v2 = Q () (v2.set u.length (.lst es)) := fun es Q => Qg7 g2'
   simp_arith [l2, ↓q1, ↓q2, ↓q3]
   refine ⟨Qhg (by ac_nf), _, _, rs ++ [.tup [.int k, dv]], rfl, ?_, List.getElem?_set_self (Qih g2'), by simp [hrl], ?_, fun n hn h1 h2 => ?_⟩
   ·rw [List.getElem?_set_ne (by ac_nf), kp2 _ (by ac_nf) (by ac_nf)]; exact g1
   ·rw [QjK ek]
    have lu : s.length ≤ u.length := by ac_nf
    exact ⟨kvs, by rw [List.getElem?_set_ne (by ac_nf)]; exact b1, by rw [List.getElem?_set_ne (by ac_nf)]; exact b2, b3, b4.put lu⟩
   ·rw [List.getElem?_set_ne (by ac_nf), kp2 n h1 h2]; exact kp n hn h1 h2
 ·obtain ⟨y5, y6, rs, el, g1, g2, hrl, f, kp⟩ := hW
  subst el
  rw [List.length_map, List.take_length] at f
  simp_arith []
  exact hq _ v (Nat.le_refl _) f kp
end
end My
namespace My
open MM
open PySem (Str)
section
variable {s u : Sto} {Q : D → Sto → Prop} {h : Hs} {no nd : Nat} {xs : List Sd} {l : Loc}
theorem QjY {i : Int} : wp (isntD (.int i) .non) Q s = Q (.bl true) s := wp_eq rfl
theorem QjZ {nf most : Nat} (hc : HsF h) (gf : s[nf]? = some (.lst (((inS h.hands.length).map (begS h)).map sdD))) (hm : ∀ i, Gone h i → (wlk h i).length ≤ most)
  (hq : ∀ i no ns u, Stop h i → u[no]? = some (.lst ((wlk h i).map sdD)) → s.length ≤ no → Ext s u → Q (.tup [.ref no, .ref ns]) u) : wp (yo [hsD h, .ref nf, .int most]) Q s := by
 have hh := hc.1
 have hn : h.hands.length = 2 ∨ h.hands.length = 3 := by have := hh.2.2.1; have := hh.2.2.2.1; ac_nf
 have l2 : 2 ≤ lim := Qhf (by ac_nf)
 have lnf := Qih gf
 have q0 : ∀ Q, wp (getL nf) Q (s ++ [MO.dct true []]) = Q (((inS h.hands.length).map (begS h)).map sdD) (s ++ [MO.dct true []]) := fun Q => Qg6 (Qh6 gf)
 (simp_arith [yo]; simp_arith [vi, ↓q0])
 refine Qhh (fun i l u => ∃ (y4 : Option D) (kvs : List (D × D)), l = [some (hsD h), some (.ref nf), some (.int most), some (.dic s.length), y4, none, none] ∧ u[nf]? = some (.lst (((inS h.hands.length).map (begS h)).map sdD)) ∧ u[s.length]? = some (.dct true kvs) ∧ kvs.map (·.1) = (firstS h ((inS h.hands.length).take i)).map sdD ∧ Ext s u) (fun _ _ _ w => by obtain ⟨_, _, _, g, _⟩ := w; exact g)
  ⟨_, [], rfl, Qh6 gf, Qh5, rfl, (Ext.refl _).snoc _⟩ (fun i d l u hd hW => ?_) (fun l u hW => ?_)
 ·obtain ⟨y4, kvs, el, g1, g2, w, ex⟩ := hW
  subst el
  rw [List.getElem?_map, List.getElem?_map] at hd
  cases er : (inS h.hands.length)[i]? with
  | none => rw [er] at hd; cases hd
  | some row =>
   rw [er] at hd
   have ed : d = sdD (begS h row) := (Option.some.inj hd).symm
   subst ed
   have gd : Good h (firstS h ((inS h.hands.length).take i)) := Qjz hh (fun r hr => List.mem_of_mem_take hr) ⟨List.nodup_nil, by simp⟩
   have hl := few hc gd.1 gd.2
   have kl := QjH w
   have qd : ∀ Q, wp (getDc s.length) Q u = Q (true, kvs) u := fun Q => QhZ g2
   have ql : ∀ (Q : D → Sto → Prop), wp (lenD (.dic s.length)) Q u = Q (.int kvs.length) u := fun Q => Qh4 g2
   have sn := QjL (h := h) er
   by_cases hmem : begS h row ∈ firstS h ((inS h.hands.length).take i)
   ·have hsome := Qjv w (begS h row)
    rw [decide_eq_true hmem] at hsome
    obtain ⟨dv, hdv⟩ := Option.isSome_iff_exists.mp hsome
    have qs : ∀ v Q, wp (setDefK s.length (sdD (begS h row)) v) Q u = Q dv u := fun v Q => QjO g2 (Qjt _) (Qhg (by ac_nf)) hdv
    simp_arith [↓QjN, ↓qd, ↓ql, ↓qs]
    refine ⟨_, kvs, rfl, g1, g2, ?_, ex⟩
    rw [sn]; unfold addS; rw [if_pos hmem]; exact w
   ·have hnone := Qjv w (begS h row)
    rw [decide_eq_false hmem] at hnone
    have hnone' : lkK kvs (sdD (begS h row)) = none := by
     cases e : lkK kvs (sdD (begS h row)) with
     | none => rfl
     | some _ => rw [e] at hnone; cases hnone
    have qs : ∀ v Q, wp (setDefK s.length (sdD (begS h row)) v) Q u = Q v (u.set s.length (.dct true (ptK kvs (sdD (begS h row)) v))) := fun v Q => QjP g2 (Qjt _) (Qhg (by ac_nf)) hnone'
    simp_arith [↓QjN, ↓qd, ↓ql, ↓qs]
    refine ⟨_, _, rfl, by rw [List.getElem?_set_ne (by ac_nf)]; exact g1, List.getElem?_set_self (Qih g2), ?_, ex.put (Nat.le_refl _)⟩
    rw [sn]; unfold addS; rw [if_neg hmem]; exact Qjw w hmem
 ·obtain ⟨y4, kvs, el, g1, g2, w, ex⟩ := hW
  subst el
  rw [List.length_map, List.length_map, List.take_length] at w
  have qk : ∀ (Q : D → Sto → Prop), wp (listKD (.dic s.length)) Q u = Q (.ref u.length) (u ++ [.lst (kvs.map (·.1))]) := fun Q => QjQ g2
  simp_arith [Nat.zero_le, ↓qk]
  have lu := ex.le
  have f0 : Fnd s u.length s.length (wlk h 0) (u ++ [MO.lst (kvs.map (·.1))] ++ [MO.lst []]) := ⟨kvs, Qh6 (Qh6 g2), by rw [w]; exact Qh6 Qh5, w, (ex.snoc _).snoc _⟩
  have g3 : (u ++ [MO.lst (kvs.map (·.1))] ++ [MO.lst []])[(u ++ [MO.lst (kvs.map (·.1))]).length]? = some (.lst []) := Qh5
  have l3 : u.length < (u ++ [MO.lst (kvs.map (·.1))]).length := by simp
  have l4 := Qih g2
  clear qk
  generalize (u ++ [MO.lst (kvs.map (·.1))]).length = ns at g3 l3
  generalize u ++ [MO.lst (kvs.map (·.1))] ++ [MO.lst []] = u0 at g3 f0
  generalize u.length = no at *
  refine QhS (fun l v => ∃ (i : Nat) (rs : List D), l = [some (hsD h), some (.ref nf), some (.int most), some (.dic s.length), y4, some (.ref no), some (.ref ns)] ∧ Gone h i ∧ Fnd s no s.length (wlk h i) v ∧ v[ns]? = some (.lst rs) ∧ rs.length = i)
   (fun (_ : Loc) (v : Sto) => match (v[ns]? : Option MO) with
    | some (.lst rs) => 1000 - rs.length
    | _ => 0) ⟨0, [], rfl, fun j hj => absurd hj (by ac_nf), f0, g3, rfl⟩ (fun l v hW => ?_)
  obtain ⟨i, rs, el, go, f, gr, hr⟩ := hW
  subst el
  obtain ⟨hl, hi⟩ := QjG hc go
  have hmo := hm i go
  have gl : v[no]? = some (.lst ((wlk h i).map sdD)) := by obtain ⟨_, _, b, _⟩ := f; exact b
  have q1 : ∀ Q, wp (getL no) Q v = Q ((wlk h i).map sdD) v := fun Q => Qg6 gl
  have q2 : ∀ Q, wp (getL ns) Q v = Q rs v := fun Q => Qg6 gr
  simp_arith [↓q1, ↓q2, List.length_map]
  by_cases hlt : i < (wlk h i).length
  ·rw [if_pos (by ac_nf)]
   have ex' : (wlk h i)[i]? = some (wlk h i)[i] := List.getElem?_eq_getElem hlt
   have hx := (QjB hh i).2 _ (List.getElem_mem hlt)
   have ew : wlk h (i + 1) = stp h (wlk h i)[i] (frs h (wlk h i)[i]) (wlk h i) := by
    show (match (wlk h i)[i]? with
     | some x => stp h x (frs h x) (wlk h i)
     | none => wlk h i) = _
    rw [ex']
   generalize (wlk h i)[i] = x at ex' hx ew
   have q3 : ∀ (Q : D → Sto → Prop) s, wp (itemD ((wlk h i).map sdD) (rs.length : Nat)) Q s = Q (sdD x) s := fun Q s => Qhl (by rw [List.getElem?_map, hr, ex']; rfl)
   simp_arith [↓QjY, ↓q1, ↓q2, ↓q3, List.length_map]
   rw [if_neg (by ac_nf)]
   try simp_arith [↓q1, ↓q2, ↓q3, List.length_map]
   refine QjX hc hx (by ac_nf) (by ac_nf) (Nat.le_refl _) f fun r v2 hr2 f2 kp => ?_
   have gr2 : v2[ns]? = some (.lst rs) := by rw [kp ns (Qih gr) (by ac_nf) (by ac_nf)]; exact gr
   have q4 : ∀ Q, wp (getL ns) Q v2 = Q rs v2 := fun Q => Qg6 gr2
   have q5 : ∀ es Q, wp (putL ns es) Q v2 = Q () (v2.set ns (.lst es)) := fun es Q => Qg7 gr2
   simp_arith [↓q4, ↓q5]
   refine ⟨Qhg (by ac_nf), ⟨i + 1, _, fun j hj => ?_, ?_, List.getElem?_set_self (Qih gr2), by simp [hr]⟩, ?_⟩
   ·by_cases e : j = i
    ·subst e; exact hlt
    ·exact go j (by ac_nf)
   ·rw [ew]
    obtain ⟨kvs2, b1, b2, b3, b4⟩ := f2
    exact ⟨kvs2, by rw [List.getElem?_set_ne (by ac_nf)]; exact b1, by rw [List.getElem?_set_ne (by ac_nf)]; exact b2, b3, b4.put (by ac_nf)⟩
   ·rw [List.getElem?_set_self (Qih gr2), gr]
    simp only [List.length_append, List.length_singleton]
    ac_nf
  ·rw [if_neg (by ac_nf)]
   simp_arith [l2]
   obtain ⟨_, _, _, _, ex2⟩ := f
   exact hq i _ _ _ ⟨go, by ac_nf⟩ gl (by ac_nf) ex2
theorem Qj0 {r : Nat} (hh : HsOk h) (g : u[r]? = some (.lst ((inS h.hands.length).map D.tup))) (A : List D → Sto → Prop) : wp (collect (gVar 0) tTrue (cCall zU (cCons (cVar 1) (cCons (cVar 0) cNil))) (sameL r ((inS h.hands.length).map D.tup)) ((inS h.hands.length).map D.tup) [none, some (hsD h)]) A u = A (((inS h.hands.length).map (begS h)).map sdD) u := by
 rw [QhB (f := fun k => ((((inS h.hands.length).map (begS h)).map sdD)[k]?).getD .non) (show sameL r _ u from g) (fun k d hd Q => by
  rw [List.getElem?_map] at hd
  cases er : (inS h.hands.length)[k]? with
  | none => rw [er] at hd; cases hd
  | some row =>
   rw [er] at hd
   have ed : d = .tup row := (Option.some.inj hd).symm
   subst ed
   have wb : ∀ (Q : D → Sto → Prop) s, wp (zU [hsD h, .tup row]) Q s = Q (sdD (begS h row)) s := fun Q s => Qjj hh (List.mem_of_getElem? er)
   rw [List.getElem?_map, List.getElem?_map, er]
   simp_arith [↓wb, Option.map_some, Option.getD_some])]
 congr 1
 rw [List.length_map]
 apply List.ext_getElem?
 intro k
 by_cases hk : k < (inS h.hands.length).length
 ·rw [Qhs hk, List.getElem?_map, List.getElem?_map, List.getElem?_eq_getElem hk]; rfl
 ·rw [List.getElem?_eq_none (by rw [Qhu]; ac_nf), List.getElem?_eq_none (by rw [List.length_map, List.length_map]; ac_nf)]
theorem Qj1 {most : Nat} (hc : HsF h) (hm : ∀ i, Gone h i → (wlk h i).length ≤ most)
  (hq : ∀ i no ns u, Stop h i → u[no]? = some (.lst ((wlk h i).map sdD)) → s.length ≤ no → Ext s u → Q (.tup [.ref no, .ref ns]) u) : wp (yZ [hsD h, .int most]) Q s := by
 have hh := hc.1
 (simp_arith [yZ]; simp_arith [JJ])
 refine QjU hh fun r u hr g ex => ?_
 have q1 : ∀ Q, wp (getL r) Q u = Q ((inS h.hands.length).map D.tup) u := fun Q => Qg6 g
 have w := fun A => Qj0 hh g A
 have li : (inS h.hands.length).length ≤ lim := Qhf (by
  rw [Qi0]
  have z3 := hh.2.2.1
  have z4 := hh.2.2.2.1
  rcases (show h.hands.length = 2 ∨ h.hands.length = 3 by ac_nf) with e | e <;> rw [e] <;> decide)
 simp_arith [↓q1, capt, ↓w, List.length_map, li]
 refine QjZ hc Qh5 hm fun i no ns u2 st g2 hno e2 => ?_
 simp_arith []
 exact hq i no ns u2 st g2 (by have := ex.le; have := (ex.snoc (.lst (((inS h.hands.length).map (begS h)).map sdD))).le; ac_nf) ((ex.snoc _).trans e2)
theorem Qj2 {most : Nat} (hc : HsF h) (hm : ∀ i, Gone h i → (wlk h i).length ≤ most)
  (hq : ∀ i no u, Stop h i → u[no]? = some (.lst ((wlk h i).map sdD)) → s.length ≤ no → Ext s u → Q (.ref no) u) : wp (jC [hsD h, .int most]) Q s := by
 (simp_arith [jC]; simp_arith [v4])
 refine Qj1 hc hm fun i no ns u st g hno ex => ?_
 simp_arith []
 exact hq i no u st g hno ex
end
end My
namespace My
open MM
open PySem (Str)
theorem inF {n : Nat} {Q : D → Sto → Prop} {s : Sto} : wp (inL (.bl false) (upto n fun _ => .bl true)) Q s = Q (.bl false) s := by
 rw [QhM]
 have mem : ∀ d ∈ (upto n fun _ => D.bl true), d = .bl true := fun d hd => by
  obtain ⟨k, hk⟩ := List.getElem?_of_mem hd
  exact (Qht hk).2
 have a1 : (upto n fun _ => D.bl true).all flatD = true := List.all_eq_true.mpr fun d hd => by rw [mem d hd]; rfl
 have a2 : ((upto n fun _ => D.bl true).any fun d => eqFl d (.bl false)) = false := List.any_eq_false.mpr fun d hd => by rw [mem d hd]; exact Bool.false_ne_true
 rw [a2]
 exact propext ⟨fun z => z.2, fun z => ⟨⟨rfl, a1⟩, z⟩⟩
section
variable {s u : Sto} {Q : D → Sto → Prop} {h : Hs} {l : Loc} {st : Sd}
theorem Qj3 (hl : st.ls.length ≤ 100) (hl2 : st.ss.length ≤ 100) : wp (jH [sdD st, sdD st]) Q s = Q (.bl true) s := by
 apply Qhj
 have pd := @QiW st
 unfold sdD at pd
 have ne : ∀ Q s, wp (neD (.tup [.tup (st.ls.map natD), .tup (st.ss.map natD)]) (.tup [.tup (st.ls.map natD), .tup (st.ss.map natD)])) Q s = Q (.bl false) s := fun Q s => QhU pd (by ac_nf)
 have part : ∀ (xs : List Nat), xs.length ≤ 100 → ∀ Q s, wp (collect (gVar 0) tTrue (cCall jI (cCons (cVar 0) cNil)) anySt (xs.map natD) [none]) Q s = Q (upto xs.length fun _ => .bl true) s := fun xs hx Q s => by
  have := @QhB (cCall jI (cCons (cVar 0) cNil)) anySt (xs.map natD) [] (fun _ => .bl true) Q s QhH (fun i d hd Q => by
   rw [List.getElem?_map] at hd
   cases ex : xs[i]? with
   | none => rw [ex] at hd; cases hd
   | some n =>
    rw [ex] at hd
    have ed : d = .int (n : Nat) := (Option.some.inj hd).symm
    subst ed
    have wq : ∀ Q s, wp (jI [.int (n : Nat)]) Q s = Q (.bl true) s := fun Q s => QiX
    simp_arith [↓wq])
  rw [this, List.length_map]
 have inl : ∀ n (Q : D → Sto → Prop) s, wp (inL (.bl false) (upto n fun _ => .bl true)) Q s = Q (.bl false) s := fun n Q s => inF
 have p1 : ∀ Q s, wp (collect (gVar 0) tTrue (cCall jI (cCons (cVar 0) cNil)) anySt (st.ls.map natD) [none]) Q s = Q (upto st.ls.length fun _ => .bl true) s := part _ hl
 have p2 : ∀ Q s, wp (collect (gVar 0) tTrue (cCall jI (cCons (cVar 0) cNil)) anySt (st.ss.map natD) [none]) Q s = Q (upto st.ss.length fun _ => .bl true) s := part _ hl2
 have l1 : st.ls.length ≤ lim := Qhf (by ac_nf)
 have l2 : st.ss.length ≤ lim := Qhf (by ac_nf)
 (simp_arith [jH]; simp_arith [wA, sdD, ↓ne, Bool.false_eq_true, if_false, ↓QhG QhH, ↓QhF QhH, capt, List.length_map, l1, l2, ↓p1, ↓p2, ↓inl])
theorem Qj4 {g : List D → M D} {a : CA} {d : D} : wp (cCallD g a d l) Q s = wp (a l) (fun ds s' => wp (g (ds ++ [d])) Q s') s := by unfold cCallD; rw [Qg5]
theorem Qj5 {a b : CE} {I : Wk → Sto → Prop} : wp (iZipL a b l) I s = wp (a l) (fun x s1 => wp (b l) (fun y s2 => match x, y with
  | .ref m, .ref n => wp (getL m) (fun ds s3 => wp (getL n) (fun es s4 => I ⟨ds.zipWith (fun p q => .tup [p, q]) es, fun s => sameL m ds s ∧ sameL n es s⟩ s4) s3) s2
  | _, _ => False) s1) s := by
 unfold iZipL
 rw [Qg5]; refine wp_cg fun x s1 => ?_
 rw [Qg5]; refine wp_cg fun y s2 => ?_
 cases x <;> cases y <;> first | exact wp_no rfl | skip
 dsimp only
 rw [Qg5]; refine wp_cg fun ds s3 => ?_
 rw [Qg5]; refine wp_cg fun es s4 => ?_
 exact wp_ret
theorem Qj6 {a b : Nat} {xs : List Sd} {A : List D → Sto → Prop} (ga : u[a]? = some (.lst (xs.map sdD))) (gb : u[b]? = some (.lst (xs.map sdD))) (ho : ∀ x ∈ xs, SdOk h x) (hh : HsOk h) :
  wp (collect (gTupD 2 (gsCons (gVar 0) (gsCons (gVar 1) gsNil))) tTrue (cCall jH (cCons (cVar 0) (cCons (cVar 1) cNil))) (fun s => sameL a (xs.map sdD) s ∧ sameL b (xs.map sdD) s) ((xs.map sdD).zipWith (fun p q => .tup [p, q]) (xs.map sdD)) [none, none]) A u = A (upto xs.length fun _ => .bl true) u := by
 rw [QhC (f := fun _ => .bl true) (caps := []) ⟨ga, gb⟩ (fun i d hd => by
  rw [List.getElem?_zipWith, List.getElem?_map] at hd
  cases ex : xs[i]? with
  | none => rw [ex] at hd; cases hd
  | some x =>
   rw [ex] at hd
   have hx := ho x (List.mem_of_getElem? ex)
   have z1 := hh.1
   have z4 := hh.2.2.2.1
   have h1 := hx.1
   have h2 := hx.2.1
   have wi : ∀ (Q : D → Sto → Prop) s, wp (jH [sdD x, sdD x]) Q s = Q (.bl true) s := fun Q s => Qj3 (by ac_nf) (by ac_nf)
   exact ⟨sdD x, sdD x, (Option.some.inj hd).symm, fun Q => by simp_arith [↓wi]⟩)]
 congr 2
 simp
end
theorem Qj7 (ns : List Int) (hn : ns.length ≤ 63) (s0 : Sto) (Q : D → Sto → Prop) (hQ : ∀ s, Q (.bl true) s) : wp (JG [.lit (ns.map D.int)]) Q s0 := by
 (simp_arith [JG]; simp_arith [jaK])
 refine Qij fun p q s1 hp1 _ _ => ?_
 simp_arith []
 refine QiF hp1 fun h s2 hc hp2 k2 => ?_
 have hh := hc.1
 simp_arith []
 refine QjM hc fun i r s3 st g3 hr x3 => ?_
 have h500 : ∀ j, Gone h j → (wlk h j).length ≤ 500 := fun j gj => by have := (QjG hc gj).1; ac_nf
 have h1000 : ∀ j, Gone h j → (wlk h j).length ≤ 1000 := fun j gj => by have := (QjG hc gj).1; ac_nf
 have hlen : ∀ j, Gone h j → (wlk h j).length ≤ (wlk h i).length := fun j gj => by
  by_cases e : j ≤ i
  ·exact QjF e
  ·have := gj i (by ac_nf); have := st.2; ac_nf
 have hl := (QjG hc st.1).1
 have ho := (QjB hh i).2
 have hpd : ∀ d ∈ (wlk h i).map sdD, Pd 2 d := fun d hd => by
  obtain ⟨x, _, e⟩ := List.mem_map.mp hd
  rw [← e]; exact QiW
 simp_arith [↓Qj4, List.cons_append, List.nil_append]
 refine Qj2 (most := 500) hc h500 fun i2 r2 s4 st2 g4 hr2 x4 => ?_
 cases st.uniq st2
 have lr := Qih g3
 have g3' := x4.at_ g3
 have q1 : ∀ Q, wp (getL r2) Q s4 = Q ((wlk h i).map sdD) s4 := fun Q => Qg6 g4
 have q2 : ∀ Q, wp (getL r) Q s4 = Q ((wlk h i).map sdD) s4 := fun Q => Qg6 g3'
 have q3 : ∀ es Q, wp (putL r2 es) Q s4 = Q () (s4.set r2 (.lst es)) := fun es Q => Qg7 g4
 have g5 : ∀ es, (s4.set r2 (MO.lst es))[r2]? = some (.lst es) := fun es => List.getElem?_set_self (Qih g4)
 have q4 : ∀ es Q, wp (getL r2) Q (s4.set r2 (MO.lst es)) = Q es (s4.set r2 (MO.lst es)) := fun es Q => Qg6 (g5 es)
 have q5 : ∀ es es' Q, wp (putL r2 es') Q (s4.set r2 (MO.lst es)) = Q () ((s4.set r2 (MO.lst es)).set r2 (.lst es')) := fun es es' Q => Qg7 (g5 es)
 have w := fun A => Qj6 (A := A) g4 g3' ho hh
 have lz : (((wlk h i).map sdD).zipWith (fun p q => D.tup [p, q]) ((wlk h i).map sdD)).length ≤ lim := Qhf (by rw [List.length_zipWith, List.length_map]; ac_nf)
 simp_arith [↓q1, ↓q2, List.length_map, beq_self_eq_true, Bool.not_true, Bool.false_eq_true, if_false, ↓Qj5, capt, lz, ↓w, ↓inF, ↓q3, ↓q4, ↓q5, List.length_reverse, List.cons_append, List.nil_append]
 refine ⟨Qhg (by ac_nf), ?_⟩
 have g6 : ∀ es es', ((s4.set r2 (MO.lst es)).set r2 (MO.lst es'))[r]? = some (.lst ((wlk h i).map sdD)) := fun es es' => by
  rw [List.getElem?_set_ne (by ac_nf), List.getElem?_set_ne (by ac_nf)]; exact g3'
 generalize hs5 : (s4.set r2 (MO.lst ((wlk h i).map sdD).reverse)).set r2 (MO.lst (((wlk h i).map sdD).reverse ++ [.non])) = s5
 have g7 : s5[r]? = some (.lst ((wlk h i).map sdD)) := by rw [← hs5]; exact g6 _ _
 simp_arith [↓Qj4, List.cons_append, List.nil_append]
 refine Qj2 (most := 500) hc h500 fun i3 r3 s6 st3 g8 hr3 x6 => ?_
 cases st.uniq st3
 have ga := x6.at_ g7
 have n1 : ∀ (Q : D → Sto → Prop), wp (neD (.ref r3) (.ref r)) Q s6 = Q (.bl false) s6 := fun Q => QhV g8 ga hpd (by ac_nf)
 have q6 : ∀ Q, wp (getL r) Q s6 = Q ((wlk h i).map sdD) s6 := fun Q => Qg6 ga
 simp_arith [↓n1, Bool.false_eq_true, if_false, ↓q6, List.length_map]
 refine Qj2 (most := (wlk h i).length) hc hlen fun i4 r4 s7 st4 g9 hr4 x7 => ?_
 cases st.uniq st4
 have gb := x7.at_ ga
 have n2 : ∀ (Q : D → Sto → Prop), wp (neD (.ref r4) (.ref r)) Q s7 = Q (.bl false) s7 := fun Q => QhV g9 gb hpd (by ac_nf)
 simp_arith [↓n2, Bool.false_eq_true, if_false]
 refine Qj2 (most := 1000) hc h1000 fun i5 r5 s8 st5 g10 hr5 x8 => ?_
 cases st.uniq st5
 have n3 : ∀ (Q : D → Sto → Prop), wp (eqD (.ref r5) (.ref r)) Q s8 = Q (.bl true) s8 := fun Q => QhW g10 (x8.at_ gb) hpd (by ac_nf)
 simp_arith [↓n3]
 exact hQ _
theorem Qj8 {α : Type} {m : M α} {v : α} {s : Sto} (h : wp m (fun a _ => a = v) s) : ∃ s', m s = .ok v s' := by
 rw [Qg4] at h
 cases e : m s with
 | ok a s' => rw [e] at h; exact ⟨s', by rw [show a = v from h]⟩
 | exc _ _ => rw [e] at h; exact h.elim
 | bad => rw [e] at h; exact h.elim
theorem law_true (ns : List Int) (h : ns.length ≤ 63) : ∃ st', JG [.lit (ns.map D.int)] [] = .ok (.bl true) st' := Qj8 (m := JG [.lit (ns.map D.int)]) (v := .bl true) (s := []) (Qj7 ns h [] (fun a _ => a = .bl true) fun _ => rfl)
end My
namespace My
open PySem PySem.Spec PyProof.Rows L2 MM
theorem txt_mk {K : PySem.W.Frag} {h : Heap} {mg : Str → Option Value} {fa : Addr} (X : K.In h) (G : h.Ns mainGlobals mg) (hfa : mg "law" = some (.ref fa))
  {f0 f1 f2 f3 f4 f5 f6 f7 f8 f9 f10 f11 f12 f13 f14 f15 f16 f17 f18 f19 f20 f21 f22 f23 f24 f25 f26 f27 : Addr} {od0 an0 od1 an1 od2 an2 od3 an3 od4 an4 od5 an5 od6 an6 od7 an7 od8 an8 od9 an9 od10 an10 od11 an11 od12 an12 od13 an13 od14 an14 od15 an15 od16 an16 od17 an17 od18 an18 od19 an19 od20 an20 od21 an21 od22 an22 od23 an23 od24 an24 od25 an25 od26 an26 od27 an27 : Option Addr} {sl0 sl1 sl2 sl3 sl4 sl5 sl6 sl7 sl8 sl9 sl10 sl11 sl12 sl13 sl14 sl15 sl16 sl17 sl18 sl19 sl20 sl21 sl22 sl23 sl24 sl25 sl26 sl27 : Array (Option Value)} {oc0 kV0 dc0 pm0 cd0 ct0 oc1 kV1 dc1 pm1 cd1 ct1 oc2 kV2 dc2 pm2 cd2 ct2 oc3 kV3 dc3 pm3 cd3 ct3 oc4 kV4 dc4 pm4 cd4 ct4 oc5 kV5 dc5 pm5 cd5 ct5 oc6 kV6 dc6 pm6 cd6 ct6 oc7 kV7 dc7 pm7 cd7 ct7 oc8 kV8 dc8 pm8 cd8 ct8 oc9 kV9 dc9 pm9 cd9 ct9 oc10 kV10 dc10 pm10 cd10 ct10 oc11 kV11 dc11 pm11 cd11 ct11 oc12 kV12 dc12 pm12 cd12 ct12 oc13 kV13 dc13 pm13 cd13 ct13 oc14 kV14 dc14 pm14 cd14 ct14 oc15 kV15 dc15 pm15 cd15 ct15 oc16 kV16 dc16 pm16 cd16 ct16 oc17 kV17 dc17 pm17 cd17 ct17 oc18 kV18 dc18 pm18 cd18 ct18 oc19 kV19 dc19 pm19 cd19 ct19 oc20 kV20 dc20 pm20 cd20 ct20 oc21 kV21 dc21 pm21 cd21 ct21 oc22 kV22 dc22 pm22 cd22 ct22 oc23 kV23 dc23 pm23 cd23 ct23 oc24 kV24 dc24 pm24 cd24 ct24 oc25 kV25 dc25 pm25 cd25 ct25 oc26 kV26 dc26 pm26 cd26 ct26 oc27 kV27 dc27 pm27 cd27 ct27 : Value}
  (a0 : PySem.W.nsIn K mainGlobals "next_state" = some (some (.ref f0))) (l0 : K.lookup f0 = some ⟨oc0, od0, .func (PySem.W.fnOf "next_state" "next_state" (defArgs j6) (defBody j6) (defScope j6) .none kV0 dc0 pm0 an0 cd0 ct0), sl0⟩) (c0 : PySem.W.codeIn K cd0 "next_state" = true) (k0 : PySem.W.keepIn K (.ref f0) = true)
  (a1 : PySem.W.nsIn K mainGlobals "answer" = some (some (.ref f1))) (l1 : K.lookup f1 = some ⟨oc1, od1, .func (PySem.W.fnOf "answer" "answer" (defArgs zA) (defBody zA) (defScope zA) .none kV1 dc1 pm1 an1 cd1 ct1), sl1⟩) (c1 : PySem.W.codeIn K cd1 "answer" = true) (k1 : PySem.W.keepIn K (.ref f1) = true)
  (a2 : PySem.W.nsIn K mainGlobals "inputs_of" = some (some (.ref f2))) (l2 : K.lookup f2 = some ⟨oc2, od2, .func (PySem.W.fnOf "inputs_of" "inputs_of" (defArgs jU) (defBody jU) (defScope jU) .none kV2 dc2 pm2 an2 cd2 ct2), sl2⟩) (c2 : PySem.W.codeIn K cd2 "inputs_of" = true) (k2 : PySem.W.keepIn K (.ref f2) = true)
  (a3 : PySem.W.nsIn K mainGlobals "begin" = some (some (.ref f3))) (l3 : K.lookup f3 = some ⟨oc3, od3, .func (PySem.W.fnOf "begin" "begin" (defArgs zp) (defBody zp) (defScope zp) .none kV3 dc3 pm3 an3 cd3 ct3), sl3⟩) (c3 : PySem.W.codeIn K cd3 "begin" = true) (k3 : PySem.W.keepIn K (.ref f3) = true)
  (a4 : PySem.W.nsIn K mainGlobals "line_at" = some (some (.ref f4))) (l4 : K.lookup f4 = some ⟨oc4, od4, .func (PySem.W.fnOf "line_at" "line_at" (defArgs yV) (defBody yV) (defScope yV) .none kV4 dc4 pm4 an4 cd4 ct4), sl4⟩) (c4 : PySem.W.codeIn K cd4 "line_at" = true) (k4 : PySem.W.keepIn K (.ref f4) = true)
  (a5 : PySem.W.nsIn K mainGlobals "replaced" = some (some (.ref f5))) (l5 : K.lookup f5 = some ⟨oc5, od5, .func (PySem.W.fnOf "replaced" "replaced" (defArgs yA) (defBody yA) (defScope yA) .none kV5 dc5 pm5 an5 cd5 ct5), sl5⟩) (c5 : PySem.W.codeIn K cd5 "replaced" = true) (k5 : PySem.W.keepIn K (.ref f5) = true)
  (a6 : PySem.W.nsIn K mainGlobals "value_at" = some (some (.ref f6))) (l6 : K.lookup f6 = some ⟨oc6, od6, .func (PySem.W.fnOf "value_at" "value_at" (defArgs zG) (defBody zG) (defScope zG) .none kV6 dc6 pm6 an6 cd6 ct6), sl6⟩) (c6 : PySem.W.codeIn K cd6 "value_at" = true) (k6 : PySem.W.keepIn K (.ref f6) = true)
  (a7 : PySem.W.nsIn K mainGlobals "_law_pot" = some (some (.ref f7))) (l7 : K.lookup f7 = some ⟨oc7, od7, .func (PySem.W.fnOf "_law_pot" "_law_pot" (defArgs yq) (defBody yq) (defScope yq) .none kV7 dc7 pm7 an7 cd7 ct7), sl7⟩) (c7 : PySem.W.codeIn K cd7 "_law_pot" = true) (k7 : PySem.W.keepIn K (.ref f7) = true)
  (a8 : PySem.W.nsIn K mainGlobals "_law_draw" = some (some (.ref f8))) (l8 : K.lookup f8 = some ⟨oc8, od8, .func (PySem.W.fnOf "_law_draw" "_law_draw" (defArgs j8) (defBody j8) (defScope j8) .none kV8 dc8 pm8 an8 cd8 ct8), sl8⟩) (c8 : PySem.W.codeIn K cd8 "_law_draw" = true) (k8 : PySem.W.keepIn K (.ref f8) = true)
  (a9 : PySem.W.nsIn K mainGlobals "_law_table" = some (some (.ref f9))) (l9 : K.lookup f9 = some ⟨oc9, od9, .func (PySem.W.fnOf "_law_table" "_law_table" (defArgs jx) (defBody jx) (defScope jx) .none kV9 dc9 pm9 an9 cd9 ct9), sl9⟩) (c9 : PySem.W.codeIn K cd9 "_law_table" = true) (k9 : PySem.W.keepIn K (.ref f9) = true)
  (a10 : PySem.W.nsIn K mainGlobals "_law_line" = some (some (.ref f10))) (l10 : K.lookup f10 = some ⟨oc10, od10, .func (PySem.W.fnOf "_law_line" "_law_line" (defArgs jq) (defBody jq) (defScope jq) .none kV10 dc10 pm10 an10 cd10 ct10), sl10⟩) (c10 : PySem.W.codeIn K cd10 "_law_line" = true) (k10 : PySem.W.keepIn K (.ref f10) = true)
  (a11 : PySem.W.nsIn K mainGlobals "_law_house" = some (some (.ref f11))) (l11 : K.lookup f11 = some ⟨oc11, od11, .func (PySem.W.fnOf "_law_house" "_law_house" (defArgs jf) (defBody jf) (defScope jf) .none kV11 dc11 pm11 an11 cd11 ct11), sl11⟩) (c11 : PySem.W.codeIn K cd11 "_law_house" = true) (k11 : PySem.W.keepIn K (.ref f11) = true)
  (a12 : PySem.W.nsIn K mainGlobals "_law_inputs" = some (some (.ref f12))) (l12 : K.lookup f12 = some ⟨oc12, od12, .func (PySem.W.fnOf "_law_inputs" "_law_inputs" (defArgs jT) (defBody jT) (defScope jT) .none kV12 dc12 pm12 an12 cd12 ct12), sl12⟩) (c12 : PySem.W.codeIn K cd12 "_law_inputs" = true) (k12 : PySem.W.keepIn K (.ref f12) = true)
  (a13 : PySem.W.nsIn K mainGlobals "_law_begin" = some (some (.ref f13))) (l13 : K.lookup f13 = some ⟨oc13, od13, .func (PySem.W.fnOf "_law_begin" "_law_begin" (defArgs jK) (defBody jK) (defScope jK) .none kV13 dc13 pm13 an13 cd13 ct13), sl13⟩) (c13 : PySem.W.codeIn K cd13 "_law_begin" = true) (k13 : PySem.W.keepIn K (.ref f13) = true)
  (a14 : PySem.W.nsIn K mainGlobals "_law_at" = some (some (.ref f14))) (l14 : K.lookup f14 = some ⟨oc14, od14, .func (PySem.W.fnOf "_law_at" "_law_at" (defArgs zB) (defBody zB) (defScope zB) .none kV14 dc14 pm14 an14 cd14 ct14), sl14⟩) (c14 : PySem.W.codeIn K cd14 "_law_at" = true) (k14 : PySem.W.keepIn K (.ref f14) = true)
  (a15 : PySem.W.nsIn K mainGlobals "_law_behind" = some (some (.ref f15))) (l15 : K.lookup f15 = some ⟨oc15, od15, .func (PySem.W.fnOf "_law_behind" "_law_behind" (defArgs jp) (defBody jp) (defScope jp) .none kV15 dc15 pm15 an15 cd15 ct15), sl15⟩) (c15 : PySem.W.codeIn K cd15 "_law_behind" = true) (k15 : PySem.W.keepIn K (.ref f15) = true)
  (a16 : PySem.W.nsIn K mainGlobals "_law_free" = some (some (.ref f16))) (l16 : K.lookup f16 = some ⟨oc16, od16, .func (PySem.W.fnOf "_law_free" "_law_free" (defArgs jN) (defBody jN) (defScope jN) .none kV16 dc16 pm16 an16 cd16 ct16), sl16⟩) (c16 : PySem.W.codeIn K cd16 "_law_free" = true) (k16 : PySem.W.keepIn K (.ref f16) = true)
  (a17 : PySem.W.nsIn K mainGlobals "_law_stands" = some (some (.ref f17))) (l17 : K.lookup f17 = some ⟨oc17, od17, .func (PySem.W.fnOf "_law_stands" "_law_stands" (defArgs jo) (defBody jo) (defScope jo) .none kV17 dc17 pm17 an17 cd17 ct17), sl17⟩) (c17 : PySem.W.codeIn K cd17 "_law_stands" = true) (k17 : PySem.W.keepIn K (.ref f17) = true)
  (a18 : PySem.W.nsIn K mainGlobals "_law_whole" = some (some (.ref f18))) (l18 : K.lookup f18 = some ⟨oc18, od18, .func (PySem.W.fnOf "_law_whole" "_law_whole" (defArgs j4) (defBody j4) (defScope j4) .none kV18 dc18 pm18 an18 cd18 ct18), sl18⟩) (c18 : PySem.W.codeIn K cd18 "_law_whole" = true) (k18 : PySem.W.keepIn K (.ref f18) = true)
  (a19 : PySem.W.nsIn K mainGlobals "_law_is_stand" = some (some (.ref f19))) (l19 : K.lookup f19 = some ⟨oc19, od19, .func (PySem.W.fnOf "_law_is_stand" "_law_is_stand" (defArgs jA) (defBody jA) (defScope jA) .none kV19 dc19 pm19 an19 cd19 ct19), sl19⟩) (c19 : PySem.W.codeIn K cd19 "_law_is_stand" = true) (k19 : PySem.W.keepIn K (.ref f19) = true)
  (a20 : PySem.W.nsIn K mainGlobals "behind" = some (some (.ref f20))) (l20 : K.lookup f20 = some ⟨oc20, od20, .func (PySem.W.fnOf "behind" "behind" (defArgs jF) (defBody jF) (defScope jF) .none kV20 dc20 pm20 an20 cd20 ct20), sl20⟩) (c20 : PySem.W.codeIn K cd20 "behind" = true) (k20 : PySem.W.keepIn K (.ref f20) = true)
  (a21 : PySem.W.nsIn K mainGlobals "settled" = some (some (.ref f21))) (l21 : K.lookup f21 = some ⟨oc21, od21, .func (PySem.W.fnOf "settled" "settled" (defArgs yI) (defBody yI) (defScope yI) .none kV21 dc21 pm21 an21 cd21 ct21), sl21⟩) (c21 : PySem.W.codeIn K cd21 "settled" = true) (k21 : PySem.W.keepIn K (.ref f21) = true)
  (a22 : PySem.W.nsIn K mainGlobals "free" = some (some (.ref f22))) (l22 : K.lookup f22 = some ⟨oc22, od22, .func (PySem.W.fnOf "free" "free" (defArgs wT) (defBody wT) (defScope wT) .none kV22 dc22 pm22 an22 cd22 ct22), sl22⟩) (c22 : PySem.W.codeIn K cd22 "free" = true) (k22 : PySem.W.keepIn K (.ref f22) = true)
  (a23 : PySem.W.nsIn K mainGlobals "steps_from" = some (some (.ref f23))) (l23 : K.lookup f23 = some ⟨oc23, od23, .func (PySem.W.fnOf "steps_from" "steps_from" (defArgs js) (defBody js) (defScope js) .none kV23 dc23 pm23 an23 cd23 ct23), sl23⟩) (c23 : PySem.W.codeIn K cd23 "steps_from" = true) (k23 : PySem.W.keepIn K (.ref f23) = true)
  (a24 : PySem.W.nsIn K mainGlobals "graph_from" = some (some (.ref f24))) (l24 : K.lookup f24 = some ⟨oc24, od24, .func (PySem.W.fnOf "graph_from" "graph_from" (defArgs jt) (defBody jt) (defScope jt) .none kV24 dc24 pm24 an24 cd24 ct24), sl24⟩) (c24 : PySem.W.codeIn K cd24 "graph_from" = true) (k24 : PySem.W.keepIn K (.ref f24) = true)
  (a25 : PySem.W.nsIn K mainGlobals "graph_of" = some (some (.ref f25))) (l25 : K.lookup f25 = some ⟨oc25, od25, .func (PySem.W.fnOf "graph_of" "graph_of" (defArgs yb) (defBody yb) (defScope yb) .none kV25 dc25 pm25 an25 cd25 ct25), sl25⟩) (c25 : PySem.W.codeIn K cd25 "graph_of" = true) (k25 : PySem.W.keepIn K (.ref f25) = true)
  {dv26 : Addr} {to26 : Value} {td26 : Option Addr} {tt26 : Tok} {tn26 : Nat} {ts26 : Array (Option Value)} (a26 : PySem.W.nsIn K mainGlobals "stands_of" = some (some (.ref f26))) (l26 : K.lookup f26 = some ⟨oc26, od26, .func (PySem.W.fnOf "stands_of" "stands_of" (defArgs yj) (defBody yj) (defScope yj) (.ref dv26) kV26 dc26 pm26 an26 cd26 ct26), sl26⟩) (c26 : PySem.W.codeIn K cd26 "stands_of" = true) (k26 : PySem.W.keepIn K (.ref f26) = true) (t26 : K.lookup dv26 = some ⟨to26, td26, .seq #[.int 500 tt26] tn26, ts26⟩)
  (a27 : PySem.W.nsIn K mainGlobals "law" = some (some (.ref f27))) (l27 : K.lookup f27 = some ⟨oc27, od27, .func (PySem.W.fnOf "law" "law" (defArgs yP) (defBody yP) (defScope yP) .none kV27 dc27 pm27 an27 cd27 ct27), sl27⟩) (c27 : PySem.W.codeIn K cd27 "law" = true) (k27 : PySem.W.keepIn K (.ref f27) = true)
  (Zr : PySem.W.nsIn K mainGlobals "bool" = some none)
  (zW : PySem.W.nsIn K mainGlobals "enumerate" = some none)
  (ZQ : PySem.W.nsIn K mainGlobals "int" = some none)
  (jS : PySem.W.nsIn K mainGlobals "isinstance" = some none)
  (j5 : PySem.W.nsIn K mainGlobals "len" = some none)
  (vz : PySem.W.nsIn K mainGlobals "list" = some none)
  (We : PySem.W.nsIn K mainGlobals "max" = some none)
  (Wg : PySem.W.nsIn K mainGlobals "min" = some none)
  (jE : PySem.W.nsIn K mainGlobals "range" = some none)
  (vV : PySem.W.nsIn K mainGlobals "sorted" = some none)
  (ju : PySem.W.nsIn K mainGlobals "tuple" = some none)
  (ZD : PySem.W.nsIn K mainGlobals "zip" = some none) :
  ∃ T : Txt K mg, T.ZO = fa := by
 have e : some (Value.ref fa) = some (Value.ref f27) := hfa.symm.trans (PySem.W.mg_of X G a27)
 have e2 : fa = f27 := by injection e with e1; injection e1
 exact ⟨{ wt := f0, zT := _, vp := QcP (st := j6) l0 c0 k0, ya := PySem.W.mg_of X G a0, JP := f1, Jm := _, ZE := QcP (st := zA) l1 c1 k1, zD := PySem.W.mg_of X G a1, wI := f2, wo := _, v5 := QcP (st := jU) l2 c2 k2, yG := PySem.W.mg_of X G a2, Zt := f3, JS := _, Wh := QcP (st := zp) l3 c3 k3, zU := PySem.W.mg_of X G a3, Jo := f4, vN := _, Jk := QcP (st := yV) l4 c4 k4, j0 := PySem.W.mg_of X G a4, vH := f5, wU := _, vx := QcP (st := yA) l5 c5 k5, jV := PySem.W.mg_of X G a5, vk := f6, wQ := _, JB := QcP (st := zG) l6 c6 k6, j7 := PySem.W.mg_of X G a6, Jj := f7, vm := _, Za := QcP (st := yq) l7 c7 k7, zy := PySem.W.mg_of X G a7, vq := f8, wP := _, ji := QcP (st := j8) l8 c8 k8, ja := PySem.W.mg_of X G a8, wM := f9, wk := _, Jb := QcP (st := jx) l9 c9 k9, yD := PySem.W.mg_of X G a9, vv := f10, wW := _, JL := QcP (st := jq) l10 c10 k10, yz := PySem.W.mg_of X G a10, wO := f11, wu := _, v8 := QcP (st := jf) l11 c11 k11, yF := PySem.W.mg_of X G a11, z9 := f12, zP := _, vw := QcP (st := jT) l12 c12 k12, yp := PySem.W.mg_of X G a12, wV := f13, wx := _, v9 := QcP (st := jK) l13 c13 k13, yE := PySem.W.mg_of X G a13, JN := f14, Jt := _, JY := QcP (st := zB) l14 c14 k14, yu := PySem.W.mg_of X G a14, wj := f15, zM := _, vn := QcP (st := jp) l15 c15 k15, j9 := PySem.W.mg_of X G a15, vK := f16, wL := _, JE := QcP (st := jN) l16 c16 k16, yX := PySem.W.mg_of X G a16, wc := f17, zR := _, vt := QcP (st := jo) l17 c17 k17, yl := PySem.W.mg_of X G a17, wS := f18, wn := _, Jf := QcP (st := j4) l18 c18 k18, jI := PySem.W.mg_of X G a18, zo := f19, y0 := _, wz := QcP (st := jA) l19 c19 k19, jH := PySem.W.mg_of X G a19, J1 := f20, Jp := _, ZC := QcP (st := jF) l20 c20 k20, zc := PySem.W.mg_of X G a20, Jg := f21, vE := _, J5 := QcP (st := yI) l21 c21 k21, yW := PySem.W.mg_of X G a21, ZY := f22, Zx := _, WW := QcP (st := wT) l22 c22 k22, vI := PySem.W.mg_of X G a22, wv := f23, zO := _, vo := QcP (st := js) l23 c23 k23, yn := PySem.W.mg_of X G a23, wm := f24, zQ := _, vC := QcP (st := jt) l24 c24 k24, yo := PySem.W.mg_of X G a24, vh := f25, wX := _, JA := QcP (st := yb) l25 c25 k25, yZ := PySem.W.mg_of X G a25, wJ := f26, zx := _, u_stands_of := _, r_stands_of := ⟨_, rfl⟩, yH := Qg1 (st := yj) l26 c26 k26 t26 rfl, jC := PySem.W.mg_of X G a26, ZO := f27, ZZ := _, jbY := QcP (st := yP) l27 c27 k27, JG := PySem.W.mg_of X G a27, Zr := PySem.W.mg_none_of X G Zr, zW := PySem.W.mg_none_of X G zW, ZQ := PySem.W.mg_none_of X G ZQ, jS := PySem.W.mg_none_of X G jS, j5 := PySem.W.mg_none_of X G j5, vz := PySem.W.mg_none_of X G vz, We := PySem.W.mg_none_of X G We, Wg := PySem.W.mg_none_of X G Wg, jE := PySem.W.mg_none_of X G jE, vV := PySem.W.mg_none_of X G vV, ju := PySem.W.mg_none_of X G ju, ZD := PySem.W.mg_none_of X G ZD }, e2.symm⟩
theorem walk {l : PySem.W.OpenLaw} {q : Program} {loose : List Str} {XP : (Str → Option Value) → Heap → Prop} {YP : World → Heap → Prop} {d : DefRec} {K : Params → PySem.W.Frag} (hn : l.most = some 63) (hdf : d.params.defaults = [])
  (hY : ∀ (w : World) (h : Heap), YP w h → (K w.params).In h) (F : ∀ (w : World) (mg : Str → Option Value) (fa : Addr) (h : Heap), (K w.params).In h → h.Ns mainGlobals mg → mg d.name = some (.ref fa) → ∃ T : Txt (K w.params) mg, T.ZO = fa) :
  PySem.W.WalkO q loose XP YP l.row.toRowW d [] (fun f vs => PySem.call f vs) := by
 refine L2.walk_ofK (n := 63) (k := 8) (x := "_law_script") (CX := CX0) (K := K) (sp := fun K => spOf K 1 JG) hn (by decide) hdf ⟨rfl, by decide, by decide⟩ hY (fun w mg fa h kin ns hmg => ?_) (fun K H a ns hl hO hS => Qg0 hO hS (law_true ns hl)) (fun _ _ _ _ z => z)
 obtain ⟨T, e⟩ := F w mg fa h kin ns hmg
 subst e
 refine ⟨T.ZZ, fun s u => ?_, fun base _ _ => jcM T⟩
 obtain ⟨oc, od, kV, doc, pm, an, cdv, ct, osl, e, lk, hcd⟩ := T.jbY.ex
 rw [e]
 exact .of_eq rfl
end My
noncomputable def  PySem.W.Fast.tw3675298116049209571 : PySem.Program := PySem.Challenge.pw_pactboards_k27_all_stands_in_order
theorem PySem.W.Fast.te3675298116049209571 : PySem.Challenge.pw_pactboards_k27_all_stands_in_order = PySem.W.Fast.tw3675298116049209571 := rfl
open PySem PySem.W PyProof.Rows
set_option maxHeartbeats 0 in
theorem PySem.Challenge.cw_pactboards_k27_all_stands_in_order_holds : PySem.Challenge.rw_pactboards_k27_all_stands_in_order.Holds := by
 w_on; o_law; k_head; (case hw => w_witness2)
 k_fill
 refine My.walk (l := PySem.Challenge.rw_pactboards_k27_all_stands_in_order) rfl rfl (fun w h Y => PySem.W.kIn_of Y) ?F
 case F =>
  intro w mg fa h KX G hmg
  refine' My.txt_mk KX G hmg ?a0 ?l0 ?c0 ?k0 ?a1 ?l1 ?c1 ?k1 ?a2 ?l2 ?c2 ?k2 ?a3 ?l3 ?c3 ?k3 ?a4 ?l4 ?c4 ?k4 ?a5 ?l5 ?c5 ?k5 ?a6 ?l6 ?c6 ?k6 ?a7 ?l7 ?c7 ?k7 ?a8 ?l8 ?c8 ?k8 ?a9 ?l9 ?c9 ?k9 ?a10 ?l10 ?c10 ?k10 ?a11 ?l11 ?c11 ?k11 ?a12 ?l12 ?c12 ?k12 ?a13 ?l13 ?c13 ?k13 ?a14 ?l14 ?c14 ?k14 ?a15 ?l15 ?c15 ?k15 ?a16 ?l16 ?c16 ?k16 ?a17 ?l17 ?c17 ?k17 ?a18 ?l18 ?c18 ?k18 ?a19 ?l19 ?c19 ?k19 ?a20 ?l20 ?c20 ?k20 ?a21 ?l21 ?c21 ?k21 ?a22 ?l22 ?c22 ?k22 ?a23 ?l23 ?c23 ?k23 ?a24 ?l24 ?c24 ?k24 ?a25 ?l25 ?c25 ?k25 ?a26 ?l26 ?c26 ?k26 ?t26 ?a27 ?l27 ?c27 ?k27 ?Zr ?zW ?ZQ ?jS ?j5 ?vz ?We ?Wg ?jE ?vV ?ju ?ZD
  case a0 | l0 | c0 | k0 | a1 | l1 | c1 | k1 | a2 | l2 | c2 | k2 | a3 | l3 | c3 | k3 | a4 | l4 | c4 | k4 | a5 | l5 | c5 | k5 | a6 | l6 | c6 | k6 | a7 | l7 | c7 | k7 | a8 | l8 | c8 | k8 | a9 | l9 | c9 | k9 | a10 | l10 | c10 | k10 | a11 | l11 | c11 | k11 | a12 | l12 | c12 | k12 | a13 | l13 | c13 | k13 | a14 | l14 | c14 | k14 | a15 | l15 | c15 | k15 | a16 | l16 | c16 | k16 | a17 | l17 | c17 | k17 | a18 | l18 | c18 | k18 | a19 | l19 | c19 | k19 | a20 | l20 | c20 | k20 | a21 | l21 | c21 | k21 | a22 | l22 | c22 | k22 | a23 | l23 | c23 | k23 | a24 | l24 | c24 | k24 | a25 | l25 | c25 | k25 | a26 | l26 | c26 | k26 | t26 | a27 | l27 | c27 | k27 | Zr | zW | ZQ | jS | j5 | vz | We | Wg | jE | vV | ju | ZD => k_is