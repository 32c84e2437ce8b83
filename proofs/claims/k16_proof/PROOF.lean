import PyProof.Rows.All
import Wide.All
import OpenK.AllK
import Wide.FinOn
import Lean
import PyProof.EqAt
import PyProof.EqKinds
import PyProof.TupleCall
import PySem.Str
import PyProof.NeKinds
import PyProof.IsRules
import PySem.Challenge.RW_pactboards_k16_houses_and_inputs
set_option Elab.async false
set_option linter.all false
set_option maxRecDepth 100000
set_option maxHeartbeats 4000000
/-! THE HAND LAYER, for ints, bools, texts, own classes, LISTS and tuples (index, slices, in, append, pop ..), calls, loops. Paste it whole ahead of your own text; what your proof does not reach may be deleted. -/
namespace L2
open PySem PySem.Spec PyProof.Rows

/-- a key: an int or a str -/
abbrev Key := Sum Int Str
def keyIs : Key → Value → Bool
  | .inl k, v => Value.isInt k v
  | .inr x, v => Value.isStrOf x v
def keyH (w : World) : Key → Int
  | .inl k => hashInt k
  | .inr x => hashStr w x
theorem keyIs_shape : ∀ {k : Key} {v : Value}, keyIs k v = true → (∃ i t, k = Sum.inl i ∧ v = Value.int i t) ∨ (∃ x t, k = Sum.inr x ∧ v = Value.str x t)
  | .inl i, v, h => by
    obtain ⟨t, e⟩ := Value.isInt_shape (k := i) (v := v) h
    exact .inl ⟨i, t, rfl, e⟩
  | .inr x, v, h => by
    obtain ⟨t, e⟩ := Value.isStrOf_shape (x := x) (v := v) h
    exact .inr ⟨x, t, rfl, e⟩
theorem key_ll (a b : Int) : decide ((Sum.inl a : Key) = Sum.inl b) = (a == b) := by
  by_cases e : a = b
  · subst e; simp
  · have h : ¬ (Sum.inl a : Key) = Sum.inl b := fun q => e (Sum.inl.inj q)
    rw [decide_eq_false h]
    exact (beq_eq_false_iff_ne.mpr e).symm
theorem key_rr (a b : Str) : decide ((Sum.inr a : Key) = Sum.inr b) = decide (a = b) := by
  by_cases e : a = b
  · subst e; simp
  · have h : ¬ (Sum.inr a : Key) = Sum.inr b := fun q => e (Sum.inr.inj q)
    rw [decide_eq_false h, decide_eq_false e]
theorem key_lr (a : Int) (b : Str) : decide ((Sum.inl a : Key) = Sum.inr b) = false := decide_eq_false (fun q => nomatch q)
theorem key_rl (a : Str) (b : Int) : decide ((Sum.inr a : Key) = Sum.inl b) = false := decide_eq_false (fun q => nomatch q)

def mixKind (prog : Program) (w : World) : PySem.KeyKind prog w Key where
  is := keyIs
  hash := keyH w
  inj := fun v a b ha hb => by
    rcases keyIs_shape ha with ⟨i, t, rfl, rfl⟩ | ⟨x, t, rfl, rfl⟩
    · rcases keyIs_shape hb with ⟨j, u, rfl, e⟩ | ⟨y, u, rfl, e⟩
      · injection e with e1 _; rw [e1]
      · exact nomatch e
    · rcases keyIs_shape hb with ⟨j, u, rfl, e⟩ | ⟨y, u, rfl, e⟩
      · exact nomatch e
      · injection e with e1 _; rw [e1]
  byValue := fun k v h => by
    rcases keyIs_shape h with ⟨i, t, rfl, rfl⟩ | ⟨x, t, rfl, rfl⟩ <;> rfl
  pyHash := fun hv h => by
    rcases keyIs_shape hv with ⟨i, t, rfl, rfl⟩ | ⟨x, t, rfl, rfl⟩
    · exact wpAny_pyHash_int h
    · exact wpAny_pyHash_str h
  eqBool := fun hu hv h => by
    rcases keyIs_shape hu with ⟨i, t, rfl, rfl⟩ | ⟨x, t, rfl, rfl⟩
    · rcases keyIs_shape hv with ⟨j, u, rfl, rfl⟩ | ⟨y, u, rfl, rfl⟩
      · rw [key_ll] at h; exact wpAny_eqBool_int h
      · rw [key_lr] at h; exact SeqAt.EqAt.int_str i t y u _ _ _ _ h
    · rcases keyIs_shape hv with ⟨j, u, rfl, rfl⟩ | ⟨y, u, rfl, rfl⟩
      · rw [key_rl] at h; exact SeqAt.EqAt.str_int x t j u _ _ _ _ h
      · rw [key_rr] at h; exact wpAny_eqBool_str h
  «strs» := fun k x t v h => by
    rcases keyIs_shape h with ⟨i, u, rfl, e⟩ | ⟨y, u, rfl, e⟩
    · exact nomatch e
    · injection e with e1 _
      subst e1
      cases v <;> rfl

end L2

namespace L2
open PySem PySem.Spec PyProof.Rows

/-- a value, without the heap -/
inductive V where
  | non | bl (b : Bool) | int (i : Int) | str (x : Str) | byt (b : Array UInt8) | flt (b : UInt64) | ref (a : Addr) | ty (n : String)
  deriving DecidableEq

def RelV : V → Value → Prop
  | .non, u => u = Value.none
  | .bl b, u => u = Value.bool b
  | .int i, u => ∃ t, u = Value.int i t
  | .str x, u => ∃ t, u = Value.str x t
  | .byt b, u => ∃ t, u = Value.bytes b t
  | .flt b, u => ∃ t, u = Value.float b t
  | .ref a, u => u = Value.ref a
  | .ty n, u => u = Value.type n

abbrev Vals : List V → List Value → Prop := Paired RelV
theorem Vals.length {xs : List V} {us : List Value} (r : Vals xs us) : xs.length = us.length := Paired.length r
theorem Vals.get : ∀ {xs : List V} {us : List Value} {i : Nat} {x : V}, Vals xs us → xs[i]? = some x → ∃ u, us[i]? = some u ∧ RelV x u
  | _, _, _, _, .nil, e => by simp at e
  | _, _, 0, _, .cons r _, e => by simp at e; subst e; exact ⟨_, rfl, r⟩
  | _, _, i + 1, x, .cons _ t, e => by
    obtain ⟨u, h1, h2⟩ := Vals.get (i := i) (x := x) t (by simpa using e)
    exact ⟨u, by simpa using h1, h2⟩
theorem Vals.set {x : V} {u : Value} (r : RelV x u) : ∀ {xs : List V} {us : List Value} (i : Nat), Vals xs us → Vals (xs.set i x) (us.set i u)
  | _, _, _, .nil => .nil
  | _, _, 0, .cons _ t => .cons r t
  | _, _, i + 1, .cons q t => .cons q (Vals.set r i t)
theorem Vals.append : ∀ {xs ys : List V} {us ws : List Value}, Vals xs us → Vals ys ws → Vals (xs ++ ys) (us ++ ws)
  | _, _, _, _, .nil, s => s
  | _, _, _, _, .cons r t, s => .cons r (Vals.append t s)
theorem Vals.take : ∀ {xs : List V} {us : List Value} (n : Nat), Vals xs us → Vals (xs.take n) (us.take n)
  | _, _, 0, _ => .nil
  | _, _, _ + 1, .nil => .nil
  | _, _, n + 1, .cons r t => .cons r (Vals.take n t)
theorem Vals.drop : ∀ {xs : List V} {us : List Value} (n : Nat), Vals xs us → Vals (xs.drop n) (us.drop n)
  | _, _, 0, r => r
  | _, _, _ + 1, .nil => .nil
  | _, _, n + 1, .cons _ t => Vals.drop n t
theorem Vals.none_of : ∀ {xs : List V} {us : List Value} {i : Nat}, Vals xs us → xs[i]? = none → us[i]? = none := fun {xs us i} r e => by
  have h1 := r.length
  have h2 : xs.length ≤ i := List.getElem?_eq_none_iff.mp e
  exact List.getElem?_eq_none_iff.mpr (by omega)

def RelO : Option V → Option Value → Prop
  | some v, some u => RelV v u
  | none, none => True
  | _, _ => False
def KV {κ : Type} : List (κ × V) → List (κ × Value) → Prop := Paired fun (p : κ × V) (q : κ × Value) => p.1 = q.1 ∧ RelV p.2 q.2

/-- a key of a dict (00_mix): an int or a text -/
def kV : Key → V
  | .inl i => .int i
  | .inr x => .str x

/-- what stands at a tracked address -/
inductive HO where
  /-- a list -/
  | lst (xs : List V)
  /-- a tuple (never changes) -/
  | tup (xs : List V)
  /-- a dict whose keys are ints and texts; one whose keys are tuples of ints and texts (the empty one is both) -/
  | dK (kvs : List (Key × V)) | dT (kvs : List (List Key × V))
  /-- a set of ints: its members, its size -/
  | set (S : Int → Bool) (n : Nat)
  /-- an instance of the class at C, its dict at dx, its attributes -/
  | ins (C dx : Addr) (fs : List (Str × V))
  /-- the dict of the instance at x -/
  | own (x : Addr)
  /-- the dict of an exception -/
  | xd (fs : List (Str × V))
  /-- a bound method, f of x -/
  | met (f x : Addr)
  /-- a range object lo, lo + 1, .. below hi -/
  | rng (lo hi : Int)
  /-- a thing that is known to the object (the script; a dict while a loop walks it): read, never written while it is so -/
  | frz (o : Obj) (u : HO)
  /-- a code object's table -/
  | tbl (ps : Array Value)
  /-- any other thing, by what is true of its one object (a def of one's own: SetO a S n := HO.ext fun h => ..) -/
  | ext (φ : Heap → Prop)

abbrev Hp := Addr → Option HO
def upd (H : Hp) (a : Addr) (o : HO) : Hp := fun b => if b = a then some o else H b
theorem upd_same {H : Hp} {a : Addr} {o : HO} : upd H a o a = some o := by unfold upd; rw [if_pos rfl]
theorem upd_ne {H : Hp} {a b : Addr} {o : HO} (h : b ≠ a) : upd H a o b = H b := by unfold upd; rw [if_neg h]
theorem ne_of_none {H : Hp} {a b : Addr} {o : HO} (h : H a = some o) (h' : H b = none) : a ≠ b := by
  intro e; subst e; rw [h] at h'; cases h'

section
variable (P : Program) (w : World)
def ObjOk (H : Hp) (h : Heap) (a : Addr) : HO → Prop
  | .lst xs => xs.length ≤ sizeLine ∧ ∃ (its : List Value) (n : Nat), Vals xs its ∧ h.get? a = some { cls := .type "list", data := .seq its.toArray n }
  | .tup xs => xs.length ≤ sizeLine ∧ ∃ its : List Value, Vals xs its ∧ IsTup h a its.toArray
  | .dK kvs => kvs.length ≤ sizeLine ∧ (a == sysModules) = false ∧ ∃ vs, KV kvs vs ∧ h.DictOf (mixKind P w) a vs
  | .dT kvs => kvs.length ≤ sizeLine ∧ (a == sysModules) = false ∧ ∃ xs : List (List Key × Addr × Value),
      Paired (fun (p : List Key × V) (q : List Key × Addr × Value) => p.1 = q.1 ∧ H q.2.1 = some (.tup (p.1.map kV)) ∧ RelV p.2 q.2.2) kvs xs ∧
      ∃ o es ep, h.get? a = some o ∧ o.ExactDict ∧ o.data = .dict es ep ∧ es.toList = xs.map (entryOfKey (tupleKind (mixKind P w))) ∧ (xs.map (·.1)).Nodup
  | .set S n => h.SetOf (intKind P w) a S n
  | .ins C dx fs => H dx = some (.own a) ∧ fs.length ≤ 1000 ∧ dx ≠ a ∧ h.get? a = some (PySem.W.instObj C dx) ∧
      ∃ mA, h.Ns1 dx mA ∧ (∀ f, RelO (fs.lookup f) (mA f)) ∧ PySem.Within mA (fs.map (·.1))
  | .own _ => ∃ o, h.get? a = some o
  | .xd fs => ∃ mA, h.Ns1 a mA ∧ ∀ f, RelO (fs.lookup f) (mA f)
  | .rng lo hi => ∃ t u v, h.get? a = some { cls := .type "range", data := .fields #[.int lo t, .int hi u, .int 1 v] }
  | .frz o u => h.get? a = some o ∧ ObjOk H h a u
  | .tbl ps => h.get? a = some { cls := .none, data := .fields ps }
  | .met f x => h.get? a = some (PySem.W.methodObj (.ref f) (.ref x))
  | .ext φ => φ h ∧ (∃ o, h.get? a = some o) ∧ ∀ h1 h2 : Heap, φ h1 → (∀ o, h1.get? a = some o → h2.get? a = some o) → φ h2
/-- the abstract heap is held -/
def HOk (H : Hp) (h : Heap) : Prop := ∀ a o, H a = some o → ObjOk P w H h a o
end

section
variable {P : Program} {w : World} {H H' : Hp} {h h' : Heap} {a : Addr} {o : HO}
theorem ObjOk.lt (x : ObjOk P w H h a o) : a < h.objs.size := by
  cases o with
  | lst xs => obtain ⟨_, _, _, _, e⟩ := x; exact Heap.lt_size e
  | tup xs => obtain ⟨_, _, _, p⟩ := x; exact p.lt
  | dK kvs => obtain ⟨_, _, _, _, o, _, _, e, _⟩ := x; exact Heap.lt_size e
  | dT kvs => obtain ⟨_, _, _, _, o, _, _, e, _⟩ := x; exact Heap.lt_size e
  | set S n => obtain ⟨o, _, _, _, e, _⟩ := x; exact Heap.lt_size e
  | ins C dx fs => obtain ⟨_, _, _, e, _⟩ := x; exact Heap.lt_size e
  | own y => obtain ⟨_, e⟩ := x; exact Heap.lt_size e
  | xd fs => obtain ⟨_, ⟨_, _, _, e, _⟩, _⟩ := x; exact Heap.lt_size e
  | rng lo hi => obtain ⟨_, _, _, e⟩ := x; exact Heap.lt_size e
  | frz ob u => obtain ⟨e, _⟩ := x; exact Heap.lt_size e
  | tbl ps => exact Heap.lt_size (show h.get? a = some _ from x)
  | met f y => exact Heap.lt_size (show h.get? a = some _ from x)
  | ext φ => obtain ⟨_, ⟨_, e⟩, _⟩ := x; exact Heap.lt_size e
theorem Paired.mapP {α β : Type} {F G : α → β → Prop} : ∀ {l₁ : List α} {l₂ : List β}, Paired F l₁ l₂ → (∀ a b, F a b → G a b) → Paired G l₁ l₂
  | _, _, .nil, _ => .nil
  | _, _, .cons r t, f => .cons (f _ _ r) (Paired.mapP t f)
/-- what an object's description leans on: its own object, its own dict, the tuples -/
theorem ObjOk.stay (x : ObjOk P w H h a o) (k : ∀ b u, (b = a ∨ H b = some (.own a)) → h.get? b = some u → h'.get? b = some u)
    (ho : ∀ b, H b = some (.own a) → H' b = some (.own a)) (ht : ∀ b xs, H b = some (.tup xs) → H' b = some (.tup xs)) : ObjOk P w H' h' a o := by
  induction o with
  | lst xs => obtain ⟨z, its, n, r, e⟩ := x; exact ⟨z, its, n, r, k _ _ (.inl rfl) e⟩
  | tup xs => obtain ⟨z, its, r, ob, e, c⟩ := x; exact ⟨z, its, r, ob, k _ _ (.inl rfl) e, c⟩
  | dK kvs => obtain ⟨z, y, vs, r, ob, es, ep, e, c⟩ := x; exact ⟨z, y, vs, r, ob, es, ep, k _ _ (.inl rfl) e, c⟩
  | dT kvs =>
    obtain ⟨z, y, xs, r, ob, es, ep, e, c⟩ := x
    exact ⟨z, y, xs, Paired.mapP r fun p q z => ⟨z.1, ht _ _ z.2.1, z.2.2⟩, ob, es, ep, k _ _ (.inl rfl) e, c⟩
  | set S n => obtain ⟨ob, es, ep, t, e, c⟩ := x; exact ⟨ob, es, ep, t, k _ _ (.inl rfl) e, c⟩
  | ins C dx fs =>
    obtain ⟨d, z, ne, e, mA, ⟨od, es, ep, e2, c⟩, r⟩ := x
    exact ⟨ho _ d, z, ne, k _ _ (.inl rfl) e, mA, ⟨od, es, ep, k _ _ (.inr d) e2, c⟩, r⟩
  | own y => obtain ⟨ob, e⟩ := x; exact ⟨ob, k _ _ (.inl rfl) e⟩
  | xd fs => obtain ⟨mA, ⟨od, es, ep, e, c⟩, r⟩ := x; exact ⟨mA, ⟨od, es, ep, k _ _ (.inl rfl) e, c⟩, r⟩
  | rng lo hi => obtain ⟨t, u, v, e⟩ := x; exact ⟨t, u, v, k _ _ (.inl rfl) e⟩
  | frz ob u ih => obtain ⟨e, q⟩ := x; exact ⟨k _ _ (.inl rfl) e, ih q⟩
  | tbl ps =>
    have e : h.get? a = some { cls := .none, data := .fields ps } := x
    show h'.get? a = some { cls := .none, data := .fields ps }
    exact k a _ (.inl rfl) e
  | met f y =>
    have e : h.get? a = some (PySem.W.methodObj (.ref f) (.ref y)) := x
    show h'.get? a = some (PySem.W.methodObj (.ref f) (.ref y))
    exact k a _ (.inl rfl) e
  | ext φ => obtain ⟨p, ⟨o, e⟩, st⟩ := x; exact ⟨st _ _ p fun o q => k _ _ (.inl rfl) q, ⟨o, k _ _ (.inl rfl) e⟩, st⟩
theorem HOk.lt (x : HOk P w H h) (e : H a = some o) : a < h.objs.size := (x a o e).lt
theorem HOk.fresh (x : HOk P w H h) (e : h.objs.size ≤ a) : H a = none := by
  cases q : H a with
  | none => rfl
  | some u => exact absurd (Nat.lt_of_lt_of_le (x.lt q) e) (Nat.lt_irrefl _)
/-- every object of the heap is kept -/
theorem HOk.kept (x : HOk P w H h) (k : ∀ b u, h.get? b = some u → h'.get? b = some u) : HOk P w H h' := fun a o e =>
  (x a o e).stay (fun b u _ q => k b u q) (fun _ q => q) fun _ _ q => q
/-- a new object is laid and tracked -/
theorem HOk.laid (x : HOk P w H h) (k : ∀ b u, h.get? b = some u → h'.get? b = some u) (hp : h.objs.size ≤ a) (new : ObjOk P w (upd H a o) h' a o) : HOk P w (upd H a o) h' := fun b u e => by
  have hn := x.fresh hp
  by_cases hb : b = a
  · subst hb; rw [upd_same] at e; cases e; exact new
  · rw [upd_ne hb] at e
    exact (x b u e).stay (fun c v _ q => k c v q) (fun c q => by rw [upd_ne (ne_of_none q hn)]; exact q) fun c xs q => by rw [upd_ne (ne_of_none q hn)]; exact q
end

/-- what may be read as u: it is u, or a known u -/
def Rd (H : Hp) (a : Addr) (u : HO) : Prop := H a = some u ∨ ∃ o, H a = some (.frz o u)
theorem Rd.of {H : Hp} {a : Addr} {u : HO} (h : H a = some u) : Rd H a u := .inl h
theorem Rd.ok {P : Program} {w : World} {H : Hp} {h : Heap} {a : Addr} {u : HO} (r : Rd H a u) (x : HOk P w H h) : ObjOk P w H h a u := by
  rcases r with r | ⟨o, r⟩
  · exact x a u r
  · obtain ⟨_, q⟩ := x a _ r
    exact q
/-- what may be written -/
def Mut : Option HO → Prop
  | some (.lst _) => True
  | some (.dK _) => True
  | some (.dT _) => True
  | some (.set _ _) => True
  | some (.ins _ _ _) => True
  | some (.ext _) => True
  | _ => False
section
variable {P : Program} {w : World} {H : Hp} {h h' : Heap} {x e : Addr} {o' : HO}
/-- the object at e is changed: x itself, or the dict of the instance x -/
theorem HOk.write (ok : HOk P w H h) (mu : Mut (H x)) (he : e = x ∨ H e = some (.own x)) (k : ∀ b u, b ≠ e → h.get? b = some u → h'.get? b = some u) (heo : ∃ u, h'.get? e = some u)
    (new : ObjOk P w (upd H x o') h' x o') : HOk P w (upd H x o') h' := fun b u q => by
  have nown : ∀ c y, H c = some (.own y) → c ≠ x := fun c y r z => by subst z; rw [r] at mu; exact mu
  have ntup : ∀ c xs, H c = some (.tup xs) → c ≠ x := fun c xs r z => by subst z; rw [r] at mu; exact mu
  by_cases hb : b = x
  · subst hb; rw [upd_same] at q; cases q; exact new
  · rw [upd_ne hb] at q
    by_cases hbe : b = e
    · have q' : H b = some (.own x) := by
        rcases he with z | z
        · exact absurd (hbe.trans z) hb
        · rw [hbe]; exact z
      rw [q] at q'; cases q'
      obtain ⟨v, hv⟩ := heo
      exact ⟨v, by rw [hbe]; exact hv⟩
    · refine (ok b u q).stay (fun c v hc r => k c v ?_ r) (fun c r => by rw [upd_ne (nown c b r)]; exact r) fun c xs r => by rw [upd_ne (ntup c xs r)]; exact r
      rcases hc with rfl | hc
      · exact hbe
      · rintro rfl
        rcases he with z | z
        · exact nown c b hc z
        · rw [hc] at z; cases z; exact hb rfl
end

/-! ### kept unless tracked; of the frames at fs (the callers') the slots may change (an exception that passes writes there); of the records at ex (iterators) nothing is said -/
structure Un (fs ex : List Addr) (H H' : Hp) (h h' : Heap) : Prop where
  keep : ∀ b o, h.get? b = some o → H b = none → b ∉ fs → b ∉ ex → h'.get? b = some o
  slot : ∀ b o, h.get? b = some o → H b = none → b ∈ fs → b ∉ ex → ∃ sl, h'.get? b = some { o with slots := sl }
  free : ∀ b o, h.get? b = some o → H b = none → b ∉ ex → H' b = none
  there : ∀ b o, h.get? b = some o → b ∉ ex → ∃ o', h'.get? b = some o'
  tups : ∀ b xs, H b = some (.tup xs) → H' b = some (.tup xs)
  frzs : ∀ b o u, H b = some (.frz o u) → H' b = some (.frz o u)
  tbls : ∀ b ps, H b = some (.tbl ps) → ∃ more, H' b = some (.tbl (ps ++ more))
section
variable {fs fs' ex ex' : List Addr} {H H1 H2 : Hp} {h h1 h2 h' : Heap} {a x e : Addr} {o : HO}
theorem Un.any (u : Un fs ex H H1 h h1) {b : Addr} {ob : Obj} (q : h.get? b = some ob) (n : H b = none) (hx : b ∉ ex) : ∃ sl, h1.get? b = some { ob with slots := sl } := by
  by_cases hb : b ∈ fs
  · exact u.slot b ob q n hb hx
  · exact ⟨ob.slots, u.keep b ob q n hb hx⟩
theorem Un.trans (a : Un fs ex H H1 h h1) (b : Un fs ex H1 H2 h1 h2) : Un fs ex H H2 h h2 where
  keep := fun c ob q n hc hx => b.keep c ob (a.keep c ob q n hc hx) (a.free c ob q n hx) hc hx
  slot := fun c ob q n hc hx => by
    obtain ⟨sl, e1⟩ := a.slot c ob q n hc hx
    obtain ⟨sl', e2⟩ := b.slot c _ e1 (a.free c ob q n hx) hc hx
    exact ⟨sl', e2⟩
  free := fun c ob q n hx => by
    obtain ⟨o', e1⟩ := a.there c ob q hx
    exact b.free c o' e1 (a.free c ob q n hx) hx
  there := fun c ob q hx => by
    obtain ⟨o', e1⟩ := a.there c ob q hx
    exact b.there c o' e1 hx
  tups := fun c xs q => b.tups c xs (a.tups c xs q)
  frzs := fun c ob xs q => b.frzs c ob xs (a.frzs c ob xs q)
  tbls := fun c ps q => by
    obtain ⟨m1, e1⟩ := a.tbls c ps q
    obtain ⟨m2, e2⟩ := b.tbls c _ e1
    exact ⟨m1 ++ m2, by rw [e2, Array.append_assoc]⟩
theorem Un.kept (k : ∀ b u, h.get? b = some u → h'.get? b = some u) : Un fs ex H H h h' :=
  ⟨fun b ob q _ _ _ => k b ob q, fun b ob q _ _ _ => ⟨ob.slots, k b ob q⟩, fun _ _ _ n _ => n, fun b ob q _ => ⟨ob, k b ob q⟩, fun _ _ q => q, fun _ _ _ q => q, fun _ ps q => ⟨#[], by rw [q]; simp⟩⟩
theorem Un.refl : Un fs ex H H h h := Un.kept fun _ _ q => q
theorem Un.laid (k : ∀ b u, h.get? b = some u → h'.get? b = some u) (hp : h.objs.size ≤ a) (hn : H a = none) : Un fs ex H (upd H a o) h h' where
  keep := fun b u q _ _ _ => k b u q
  slot := fun b u q _ _ _ => ⟨u.slots, k b u q⟩
  free := fun b u q n _ => by rw [upd_ne (Nat.ne_of_lt (Nat.lt_of_lt_of_le (Heap.lt_size q) hp))]; exact n
  there := fun b u q _ => ⟨u, k b u q⟩
  tups := fun b xs q => by rw [upd_ne (ne_of_none q hn)]; exact q
  frzs := fun b u xs q => by rw [upd_ne (ne_of_none q hn)]; exact q
  tbls := fun b ps q => ⟨#[], by rw [upd_ne (ne_of_none q hn), q]; simp⟩
theorem Un.write (mu : Mut (H x)) (he : e = x ∨ H e = some (.own x)) (k : ∀ b u, b ≠ e → h.get? b = some u → h'.get? b = some u) (heo : ∃ u, h'.get? e = some u) : Un fs ex H (upd H x o) h h' := by
  have hx : ∀ b, H b = none → b ≠ x := fun b n z => by subst z; rw [n] at mu; exact mu
  have hb : ∀ b, H b = none → b ≠ e := fun b n z => by
    subst z
    rcases he with r | r
    · exact hx b n r
    · rw [n] at r; cases r
  have hm : ∀ b u, H b = some u → ¬ Mut (some u) → b ≠ x := fun b u q nm z => by subst z; rw [q] at mu; exact nm mu
  refine ⟨fun b u q n _ _ => k b u (hb b n) q, fun b u q n _ _ => ⟨u.slots, k b u (hb b n) q⟩, fun b u q n _ => by rw [upd_ne (hx b n)]; exact n, fun b u q _ => ?_,
    fun b xs q => by rw [upd_ne (hm b _ q fun z => z)]; exact q, fun b u xs q => by rw [upd_ne (hm b _ q fun z => z)]; exact q, fun b ps q => ⟨#[], by rw [upd_ne (hm b _ q fun z => z), q]; simp⟩⟩
  by_cases hbe : b = e
  · subst hbe; exact heo
  · exact ⟨u, k b u hbe q⟩
theorem Un.mono (u : Un fs ex H H1 h h1) (hs : ∀ b ∈ fs, b ∈ fs') (hx : ∀ b ∈ ex, b ∈ ex') : Un fs' ex' H H1 h h1 :=
  ⟨fun b ob q n hb he => u.keep b ob q n (fun z => hb (hs b z)) fun z => he (hx b z), fun _ _ q n _ he => u.any q n fun z => he (hx _ z), fun b ob q n he => u.free b ob q n fun z => he (hx b z), fun b ob q he => u.there b ob q fun z => he (hx b z), u.tups, u.frzs, u.tbls⟩
end

/-! ### the heap without what is tracked -/
def trk (h : Heap) (H : Hp) : List Addr := (List.range h.objs.size).filter fun a => (H a).isSome
def hidT (h : Heap) (H : Hp) : Heap := PySem.W.hideAll h (trk h H)
theorem hidT_size (h : Heap) (H : Hp) : (hidT h H).objs.size = h.objs.size := PySem.W.hideAll_size _ _
theorem hidT_get {h : Heap} {H : Hp} {b : Addr} {o : Obj} (e : h.get? b = some o) (n : H b = none) : (hidT h H).get? b = some o :=
  PySem.W.hideAll_get _ e fun hm => by
    have q : (H b).isSome = true := (List.mem_filter.mp hm).2
    rw [n] at q; simp at q
theorem of_hidT {h : Heap} {H : Hp} {b : Addr} {o : Obj} (e : (hidT h H).get? b = some o) : h.get? b = some o ∧ H b = none := by
  have e' : h.get? b = some o := PySem.W.of_hideAll (trk h H) e
  refine ⟨e', ?_⟩
  cases q : H b with
  | none => rfl
  | some x =>
    have hm : b ∈ trk h H := List.mem_filter.mpr ⟨List.mem_range.mpr (Heap.lt_size e'), by simp [q]⟩
    have z : (hidT h H).get? b = none := PySem.W.hideAll_none (trk h H) hm
    rw [z] at e; cases e

/-! ### OpenK's ledger, filled with every new object but one -/
def allNews (g h : Heap) (L : Addr) : List (Addr × Obj) := (List.range h.objs.size).filterMap fun a => if a = L ∨ (g.get? a).isSome = true then none else (h.get? a).map fun o => (a, o)
def rest (g h : Heap) (L d : Addr) : List (Addr × Obj) := (allNews g h L).filter fun p => decide (p.1 ≠ d)
end L2

namespace L2
open PySem PySem.Spec PyProof.Rows

/-- the module's facts, over the base: the heap at the law's entry without what is tracked there -/
structure Mod (K : PySem.W.Frag) (mg : Str → Option Value) (base : Heap) : Prop where
  kin : K.In base
  glob : base.Ns mainGlobals mg
  blt : ∃ mb, base.Ns builtinsNs mb ∧ ∀ x : Str, x ≠ "__name__" → mb x = bootBuiltins x
  nolimit : base.NoLimit

/-- the context: a def's body (or a comprehension's block) running. base: fixed through the whole law; s₀, H₀: the entry; outer: the frames whose slots others may change (a def's callers); stack: all frames that run;
   ex: iterators that were made ahead of the entry and are walked here (a comprehension's); fn: the names whose cells were made at the entry (a def: all; a comprehension's block: its own); calm: not within an except suite; pn: pins that every state bears; xe: what is wanted of an exception that leaves the code -/
structure Cx where
  prog : Program
  w : World
  K : PySem.W.Frag
  mg : Str → Option Value
  base : Heap
  A : Around
  N : List Str
  s₀ : Shared
  H₀ : Hp
  env : Env
  outer : List Env
  stack : List Env
  ex : List Addr
  fn : Str → Bool
  calm : Bool
  pn : List (Addr × Obj)
  xe : Value → Shared → Prop
/-- the callers' frames -/
def frs (l : List Env) : List Addr := l.filterMap (·.frame)
abbrev Cx.fs (X : Cx) : List Addr := frs X.outer

def Vis (sc : Scope) (x : Str) : Prop := sc.names.lookup x = some .local ∨ sc.names.lookup x = some .cell ∨ sc.names.lookup x = some .free
def Loc (sc : Scope) (x : Str) : Prop := sc.names.lookup x = some .local ∨ sc.names.lookup x = some .cell
def Look (env : Env) (h : Heap) (m : Str → Option Value) (x : Str) (u : Value) : Prop :=
  (env.kindOf x = some .local ∧ m x = some u) ∨ ((env.kindOf x = some .cell ∨ env.kindOf x = some .free) ∧ ∃ c, env.cells.lookup x = some c ∧ h.IsCell c (some u))

structure Cx.Ok (X : Cx) : Prop where
  mod : Mod X.K X.mg X.base
  kind : X.env.scope.kind = .function
  glob : X.env.globals = mainGlobals
  blt : X.env.builtins = builtinsNs
  above : X.s₀.heap.objs.size ≤ X.env.locals
  inj : ∀ x y c, X.env.cells.lookup x = some c → X.env.cells.lookup y = some c → x = y
  has : ∀ x, (X.env.kindOf x = some .cell ∨ X.env.kindOf x = some .free) → ∃ c, X.env.cells.lookup x = some c
  cab : ∀ x c, X.fn x = true → X.env.cells.lookup x = some c → X.s₀.heap.objs.size ≤ c
  hd : X.calm = true → X.A.handled = none
  frames : X.A.frames = some X.stack
  stk : X.stack = X.outer ∨ (X.stack = X.env :: X.outer ∧ X.env.frame = some X.env.locals)
  exf : ∀ b ∈ X.ex, b ≠ X.env.locals ∧ ∀ x c, X.env.cells.lookup x = some c → c ≠ b
  bs : ∀ b o, X.base.get? b = some o → X.s₀.heap.get? b = some o ∧ X.H₀ b = none
  bsz : X.base.objs.size ≤ X.s₀.heap.objs.size
  noex : ∀ b o, X.base.get? b = some o → b ∉ X.ex
  exfs : ∀ b ∈ X.ex, b ∉ X.fs
  funs : X.s₀.heap.FunFrames X.base X.outer
  frf : ∀ b ∈ X.fs, X.H₀ b = none

structure Inv (X : Cx) (pins : List (Addr × Obj)) (σ : List (Option V)) (H : Hp) (s : Shared) : Prop where
  ok : X.Ok
  os : s.os = X.s₀.os
  bare : AllBare s.gens
  base : Un X.fs X.ex X.H₀ H X.s₀.heap s.heap
  loc : ∃ m, s.heap.Ns X.env.locals m ∧ ∀ (i : Nat) (x : Str) (v : V), X.N[i]? = some x → σ[i]? = some (some v) → Vis X.env.scope x → ∃ u, RelV v u ∧ Look X.env s.heap m x u
  cell : ∀ x c, X.env.cells.lookup x = some c → ∃ v, s.heap.IsCell c v
  free : H X.env.locals = none
  freeC : ∀ x c, X.env.cells.lookup x = some c → H c = none
  pin : ∀ p ∈ X.pn ++ pins, s.heap.get? p.1 = some p.2 ∧ H p.1 = none ∧ p.1 ≠ X.env.locals ∧ p.1 ∉ X.fs ∧ ∀ v, p.2.data ≠ .cell v
  hok : HOk X.prog X.w H s.heap
  len : σ.length = X.N.length

section
variable {X : Cx} {pins : List (Addr × Obj)} {σ : List (Option V)} {H H' : Hp} {s : Shared} {h' : Heap}

theorem Cx.Ok.nofr (ok : X.Ok) {b : Addr} {o : Obj} (e : X.base.get? b = some o) : b ∉ X.fs := fun hb => by
  have := (ok.funs.mem hb).1
  rw [e] at this; cases this
theorem Inv.bs (I : Inv X pins σ H s) : ∀ b o, X.base.get? b = some o → s.heap.get? b = some o ∧ H b = none := fun b o e =>
  ⟨I.base.keep b o (I.ok.bs b o e).1 (I.ok.bs b o e).2 (I.ok.nofr e) (I.ok.noex b o e), I.base.free b o (I.ok.bs b o e).1 (I.ok.bs b o e).2 (I.ok.noex b o e)⟩
theorem Inv.bk (I : Inv X pins σ H s) : ∀ b o, X.base.get? b = some o → s.heap.get? b = some o := fun b o e => (I.bs b o e).1
theorem Inv.mod (I : Inv X pins σ H s) : Mod X.K X.mg X.base := I.ok.mod
theorem Inv.kIn (I : Inv X pins σ H s) : X.K.In s.heap := I.ok.mod.kin.keeps I.bk
theorem Inv.nolimit (I : Inv X pins σ H s) : s.heap.NoLimit := I.ok.mod.nolimit.keeps I.bk
/-- the frame over the base: for OpenK's rules (K.In X.base is I.mod.kin) -/
theorem Inv.fr (I : Inv X pins σ H s) : ∃ m, Fr X.base X.env.locals s.heap m :=
  let ⟨m, hn, _⟩ := I.loc
  ⟨m, hn, I.bk, Nat.le_trans I.ok.bsz I.ok.above⟩
theorem Inv.lt (I : Inv X pins σ H s) : X.env.locals < s.heap.objs.size := let ⟨_, hn, _⟩ := I.loc; hn.lt
theorem Inv.sz (I : Inv X pins σ H s) : X.s₀.heap.objs.size ≤ s.heap.objs.size := Nat.le_trans I.ok.above (Nat.le_of_lt I.lt)
theorem Inv.nofs (I : Inv X pins σ H s) {a : Addr} (h : s.heap.objs.size ≤ a) : a ∉ X.fs := fun hb => by
  obtain ⟨_, o, ho, _⟩ := I.ok.funs.mem hb
  exact absurd (Nat.lt_of_lt_of_le (Heap.lt_size ho) (Nat.le_trans I.sz h)) (Nat.lt_irrefl _)
theorem Inv.cne (I : Inv X pins σ H s) : ∀ x c, X.env.cells.lookup x = some c → c ≠ X.env.locals := fun x c e z => by
  obtain ⟨v, o, ho, hd⟩ := I.cell x c e
  obtain ⟨m, ⟨o', es, ep, ho', hd', _⟩, _⟩ := I.loc
  rw [z, ho'] at ho; cases ho; rw [hd'] at hd; cases hd
theorem Inv.funs (I : Inv X pins σ H s) : s.heap.FunFrames X.base X.outer := by
  have all : ∀ (l : List Env), (∀ b ∈ frs l, b ∈ X.fs) → X.s₀.heap.FunFrames X.base l → s.heap.FunFrames X.base l := by
    intro l
    induction l with
    | nil => intro _ _; trivial
    | cons env r ih =>
      intro hs hl
      obtain ⟨hk, ⟨L, o, hf, hn, ho, hd⟩, hr⟩ := hl
      have hL : L ∈ X.fs := hs L (by unfold frs; rw [List.filterMap_cons, hf]; exact List.mem_cons_self)
      obtain ⟨sl, e⟩ := I.base.slot L o ho (I.ok.frf L hL) hL fun z => I.ok.exfs L z hL
      exact ⟨hk, ⟨L, _, hf, hn, e, hd⟩, ih (fun b hb => hs b (by unfold frs; rw [List.filterMap_cons, hf]; exact List.mem_cons_of_mem _ hb)) hr⟩
  exact all X.outer (fun _ hb => hb) I.ok.funs

/-- the frames that run, for a call -/
theorem Inv.stack (I : Inv X pins σ H s) : s.heap.FunFrames X.base X.stack := by
  rcases I.ok.stk with e | ⟨e, hf⟩
  · rw [e]; exact I.funs
  · rw [e]
    obtain ⟨m, hn, _⟩ := I.loc
    refine .cons (by rw [I.ok.kind]; decide) hf hn ?_ I.funs
    exact Heap.get?_none_of_le (Nat.le_trans I.ok.bsz I.ok.above)
theorem Inv.stkSub (I : Inv X pins σ H s) : ∀ b ∈ frs X.stack, b ∈ X.env.locals :: X.fs := fun b hb => by
  rcases I.ok.stk with e | ⟨e, hf⟩
  · rw [e] at hb; exact List.mem_cons_of_mem _ hb
  · rw [e] at hb
    unfold frs at hb
    rw [List.filterMap_cons, hf] at hb
    exact hb
theorem Inv.stkFree (I : Inv X pins σ H s) : ∀ b ∈ frs X.stack, H b = none := fun b hb => by
  rcases List.mem_cons.mp (I.stkSub b hb) with e | hb
  · rw [e]; exact I.free
  · obtain ⟨_, o, ho, _⟩ := I.ok.funs.mem hb
    exact I.base.free b o ho (I.ok.frf b hb) fun z => I.ok.exfs b z hb

/-- THE STEP: the untracked objects but the frame and the records at ch are kept (the callers' frames up to slots), the frame's map is kept, the new abstract heap is held -/
theorem Inv.step {g' : Array GenState} {t' : Nat} {d' : Drawn} {ch : List Addr} (I : Inv X pins σ H s)
    (hch : ∀ b ∈ ch, (b ∈ X.ex ∨ X.s₀.heap.objs.size ≤ b) ∧ b ≠ X.env.locals ∧ (∀ x c, X.env.cells.lookup x = some c → c ≠ b) ∧ ∀ p ∈ X.pn ++ pins, p.1 ≠ b)
    (keep : ∀ b o, b ≠ X.env.locals → b ∉ X.fs → b ∉ ch → s.heap.get? b = some o → H b = none → h'.get? b = some o)
    (slot : ∀ b o, b ≠ X.env.locals → b ∈ X.fs → b ∉ ch → s.heap.get? b = some o → H b = none → ∃ sl, h'.get? b = some { o with slots := sl }) (free : ∀ b o, b ∉ ch → s.heap.get? b = some o → H b = none → H' b = none)
    (there : ∀ b o, b ∉ ch → s.heap.get? b = some o → ∃ o', h'.get? b = some o')
    (tups : ∀ b xs, H b = some (.tup xs) → H' b = some (.tup xs)) (frzs : ∀ b o u, H b = some (.frz o u) → H' b = some (.frz o u)) (tbls : ∀ b ps, H b = some (.tbl ps) → ∃ more, H' b = some (.tbl (ps ++ more)))
    (ns : ∀ m, s.heap.Ns X.env.locals m → h'.Ns X.env.locals m) (hok : HOk X.prog X.w H' h') (hg : AllBare g') :
    Inv X pins σ H' { s with heap := h', gens := g', drawn := d', toks := t' } := by
  have neL : ∀ b o, X.s₀.heap.get? b = some o → b ≠ X.env.locals := fun b o e => Nat.ne_of_lt (Nat.lt_of_lt_of_le (Heap.lt_size e) I.ok.above)
  have neC : ∀ b o, X.s₀.heap.get? b = some o → b ∉ X.ex → b ∉ ch := fun b o e hx hb => by
    rcases (hch b hb).1 with z | z
    · exact hx z
    · exact absurd (Nat.lt_of_lt_of_le (Heap.lt_size e) z) (Nat.lt_irrefl _)
  have cellK : ∀ x c, X.env.cells.lookup x = some c → ∀ v, s.heap.IsCell c v → h'.IsCell c v := fun x c e v ⟨o, ho, hd⟩ => by
    have nch : c ∉ ch := fun z => (hch c z).2.2.1 x c e rfl
    by_cases hc : c ∈ X.fs
    · obtain ⟨sl, q⟩ := slot c o (I.cne x c e) hc nch ho (I.freeC x c e)
      exact ⟨_, q, hd⟩
    · exact ⟨o, keep c o (I.cne x c e) hc nch ho (I.freeC x c e), hd⟩
  refine ⟨I.ok, I.os, hg, ⟨fun b o e n hb hx => ?_, fun b o e n hb hx => ?_, fun b o e n hx => ?_, fun b o e hx => ?_, fun b xs e => tups b xs (I.base.tups b xs e), fun b o xs e => frzs b o xs (I.base.frzs b o xs e), fun b ps e => ?_⟩, ?_, fun x c e => ?_, ?_, fun x c e => ?_, fun p hp => ?_, hok, I.len⟩
  · exact keep b o (neL b o e) hb (neC b o e hx) (I.base.keep b o e n hb hx) (I.base.free b o e n hx)
  · obtain ⟨sl, e1⟩ := I.base.slot b o e n hb hx
    obtain ⟨sl', e2⟩ := slot b _ (neL b o e) hb (neC b o e hx) e1 (I.base.free b o e n hx)
    exact ⟨sl', e2⟩
  · obtain ⟨o', e1⟩ := I.base.there b o e hx
    exact free b o' (neC b o e hx) e1 (I.base.free b o e n hx)
  · obtain ⟨o', e1⟩ := I.base.there b o e hx
    exact there b o' (neC b o e hx) e1
  · obtain ⟨m1, e1⟩ := I.base.tbls b ps e
    obtain ⟨m2, e2⟩ := tbls b _ e1
    exact ⟨m1 ++ m2, by rw [e2, Array.append_assoc]⟩
  · obtain ⟨m, hn, hl⟩ := I.loc
    refine ⟨m, ns m hn, fun i x v e1 e2 e3 => ?_⟩
    obtain ⟨u, r, l⟩ := hl i x v e1 e2 e3
    refine ⟨u, r, ?_⟩
    rcases l with l | ⟨k, c, e, z⟩
    · exact .inl l
    · exact .inr ⟨k, c, e, cellK x c e _ z⟩
  · obtain ⟨v, z⟩ := I.cell x c e
    exact ⟨v, cellK x c e v z⟩
  · obtain ⟨m, ⟨o, _, _, ho, _⟩, _⟩ := I.loc
    exact free _ o (fun z => (hch _ z).2.1 rfl) ho I.free
  · obtain ⟨v, o, ho, hd⟩ := I.cell x c e
    exact free c o (fun z => (hch c z).2.2.1 x c e rfl) ho (I.freeC x c e)
  · obtain ⟨e, n, ne, nf, d⟩ := I.pin p hp
    have nch : p.1 ∉ ch := fun z => (hch p.1 z).2.2.2 p hp rfl
    exact ⟨keep p.1 p.2 ne nf nch e n, free p.1 p.2 nch e n, ne, nf, d⟩
/-- .. where the frame's own object is kept too -/
theorem Inv.un {t' : Nat} (I : Inv X pins σ H s) (u : Un X.fs [] H H' s.heap h') (hok : HOk X.prog X.w H' h') : Inv X pins σ H' { s with heap := h', toks := t' } := by
  obtain ⟨m, ⟨o, es, ep, ho, r⟩, _⟩ := id I.loc
  obtain ⟨sl, hL⟩ := u.any ho I.free (by simp)
  exact I.step (g' := s.gens) (d' := s.drawn) (ch := []) (fun _ z => nomatch z) (fun b o _ hb _ e n => u.keep b o e n hb (by simp)) (fun b o _ hb _ e n => u.slot b o e n hb (by simp)) (fun b o _ e n => u.free b o e n (by simp)) (fun b o _ e => u.there b o e (by simp)) u.tups u.frzs u.tbls (fun m' hm => by
    obtain ⟨o', es', ep', ho', r'⟩ := hm
    rw [ho] at ho'; cases ho'
    exact ⟨_, es', ep', hL, r'⟩) hok I.bare
/-- behind a call (or a comprehension's block): the slots of this frame may have changed too, the records at ch may have turned -/
theorem Inv.call {g' : Array GenState} {t' : Nat} {d' : Drawn} {ch : List Addr} (I : Inv X pins σ H s) (u : Un (frs X.stack) ch H H' s.heap h') (hok : HOk X.prog X.w H' h') (hg : AllBare g')
    (hch : ∀ b ∈ ch, (b ∈ X.ex ∨ X.s₀.heap.objs.size ≤ b) ∧ b ≠ X.env.locals ∧ (∀ x c, X.env.cells.lookup x = some c → c ≠ b) ∧ ∀ p ∈ X.pn ++ pins, p.1 ≠ b) :
    Inv X pins σ H' { s with heap := h', gens := g', drawn := d', toks := t' } := by
  obtain ⟨m, ⟨o, es, ep, ho, r⟩, _⟩ := id I.loc
  obtain ⟨sl, hL⟩ := u.any ho I.free fun z => (hch _ z).2.1 rfl
  exact I.step (ch := ch) hch (fun b o hL hb hc e n => u.keep b o e n (fun z => (List.mem_cons.mp (I.stkSub b z)).elim hL hb) hc) (fun b o _ _ hc e n => u.any e n hc) (fun b o hc e n => u.free b o e n hc) (fun b o hc e => u.there b o e hc) u.tups u.frzs u.tbls (fun m' hm => by
    obtain ⟨o', es', ep', ho', r'⟩ := hm
    rw [ho] at ho'; cases ho'
    exact ⟨_, es', ep', hL, r'⟩) hok hg
/-- an untracked record of ours (an iterator) has turned -/
theorem Inv.turned {t' : Nat} {it : Addr} (I : Inv X pins σ H s) (k : ∀ b o, b ≠ it → s.heap.get? b = some o → h'.get? b = some o) (hn : H it = none) (hL : it ≠ X.env.locals)
    (h1 : it ∈ X.ex ∨ X.s₀.heap.objs.size ≤ it) (h2 : ∀ x c, X.env.cells.lookup x = some c → c ≠ it) (h3 : ∀ p ∈ X.pn ++ pins, p.1 ≠ it) : Inv X pins σ H { s with heap := h', toks := t' } := by
  have nit : ∀ b u, H b = some u → b ≠ it := fun b u e z => by rw [z, hn] at e; cases e
  refine I.step (g' := s.gens) (d' := s.drawn) (ch := [it]) (fun b hb => ?_) (fun b o _ _ hc e _ => k b o (fun z => hc (by simp [z])) e) (fun b o _ _ hc e _ => ⟨o.slots, k b o (fun z => hc (by simp [z])) e⟩) (fun _ _ _ _ n => n)
    (fun b o hc e => ⟨o, k b o (fun z => hc (by simp [z])) e⟩) (fun _ _ e => e) (fun _ _ _ e => e) (fun b ps e => ⟨#[], by rw [e]; simp⟩) (fun m hm => ?_) (fun b u e => ?_) I.bare
  · have e : b = it := by simpa using hb
    subst e
    exact ⟨h1, hL, h2, h3⟩
  · obtain ⟨o, es, ep, ho, r⟩ := hm
    exact ⟨o, es, ep, k _ o (Ne.symm hL) ho, r⟩
  · refine (I.hok b u e).stay (fun c v hc q => k c v ?_ q) (fun _ q => q) fun _ _ q => q
    rcases hc with z | z
    · rw [z]; exact nit b u e
    · exact nit c _ z
theorem Inv.tok (I : Inv X pins σ H s) (t : Nat) : Inv X pins σ H { s with toks := t } := I.un (h' := s.heap) (t' := t) Un.refl I.hok
/-- all objects kept -/
theorem Inv.kept {t' : Nat} (I : Inv X pins σ H s) (k : ∀ b u, s.heap.get? b = some u → h'.get? b = some u) : Inv X pins σ H { s with heap := h', toks := t' } := I.un (Un.kept k) (I.hok.kept k)
/-- a new object laid and tracked -/
theorem Inv.laid {a : Addr} {o : HO} {t' : Nat} (I : Inv X pins σ H s) (k : ∀ b u, s.heap.get? b = some u → h'.get? b = some u) (hp : s.heap.objs.size ≤ a) (new : ObjOk X.prog X.w (upd H a o) h' a o) :
    Inv X pins σ (upd H a o) { s with heap := h', toks := t' } := I.un (Un.laid k hp (I.hok.fresh hp)) (I.hok.laid k hp new)
/-- an object written -/
theorem Inv.write {x e : Addr} {o : HO} {t' : Nat} (I : Inv X pins σ H s) (mu : Mut (H x)) (he : e = x ∨ H e = some (.own x)) (k : ∀ b u, b ≠ e → s.heap.get? b = some u → h'.get? b = some u) (heo : ∃ u, h'.get? e = some u)
    (new : ObjOk X.prog X.w (upd H x o) h' x o) : Inv X pins σ (upd H x o) { s with heap := h', toks := t' } := I.un (Un.write mu he k heo) (I.hok.write mu he k heo new)
theorem Inv.pins_of {pins' : List (Addr × Obj)} (I : Inv X pins σ H s) (h : ∀ p ∈ pins', s.heap.get? p.1 = some p.2 ∧ H p.1 = none ∧ p.1 ≠ X.env.locals ∧ p.1 ∉ X.fs ∧ ∀ v, p.2.data ≠ .cell v) : Inv X pins' σ H s :=
  ⟨I.ok, I.os, I.bare, I.base, I.loc, I.cell, I.free, I.freeC, fun p hp => (List.mem_append.mp hp).elim (fun z => I.pin p (List.mem_append_left _ z)) (h p), I.hok, I.len⟩

theorem nodup_ix {N : List Str} (hN : N.Nodup) {i j : Nat} {x : Str} (a : N[i]? = some x) (b : N[j]? = some x) : i = j := by
  obtain ⟨h1, e1⟩ := List.getElem?_eq_some_iff.mp a
  obtain ⟨h2, e2⟩ := List.getElem?_eq_some_iff.mp b
  exact (List.getElem_inj hN).mp (e1.trans e2.symm)

/-- a name is stored; what changed -/
theorem store_ok2 {M : Model} {A : Around} {E : Value → Shared → Prop} {i : Nat} {x : Str} {v : V} {u : Value} {Q : Unit → Shared → Prop} (I : Inv X pins σ H s) (hN : X.N.Nodup) (hi : X.N[i]? = some x) (hx : Loc X.env.scope x) (r : RelV v u)
    (h : ∀ s', Inv X pins (σ.set i (some v)) H s' → (∃ a, Heap.SameBut a s.heap s'.heap ∧ (a = X.env.locals ∨ X.env.cells.lookup x = some a)) → Q () s') (hf : X.fn x = true ∨ X.env.scope.names.lookup x = some .local := by first | exact .inl rfl | exact .inr rfl | assumption) : wpAny M A (storeName X.env x u) Q E s := by
  obtain ⟨m, hn, hl⟩ := id I.loc
  have hcls : (X.env.scope.kind == .class || (X.env.scope.kind == .module && X.env.locals != X.env.globals)) = false := by rw [I.ok.kind]; rfl
  have hiσ : i < σ.length := by rw [I.len]; exact (List.getElem?_eq_some_iff.mp hi).1
  have cne := I.cne
  have tracked : ∀ {a : Addr} {h' : Heap}, (∃ o, s.heap.get? a = some o ∧ H a = none) → Heap.SameBut a s.heap h' → HOk X.prog X.w H h' := fun {a h'} ha hs b ob e => by
    obtain ⟨_, _, hfree⟩ := ha
    refine (I.hok b ob e).stay (fun c w' hc q => (hs.2 c ?_).trans q) (fun _ q => q) fun _ _ q => q
    rintro rfl
    rcases hc with rfl | hc
    · rw [hfree] at e; cases e
    · rw [hfree] at hc; cases hc
  rcases hx with hk | hk
  · refine wpAny_storeName_local hk hn (fun h' hn' hs => ?_) hcls
    obtain ⟨oL, _, _, hoL, _⟩ := id hn
    refine h _ ⟨I.ok, I.os, I.bare, ⟨fun b o e n hb hx => ?_, fun b o e n hb hx => ?_, I.base.free, fun b o e hx => ?_, I.base.tups, I.base.frzs, I.base.tbls⟩, ⟨_, hn', fun j y v' e1 e2 e3 => ?_⟩, fun y c e => ?_, I.free, I.freeC, fun p hp => ?_, tracked ⟨oL, hoL, I.free⟩ hs, by simpa using I.len⟩ ⟨_, hs, .inl rfl⟩
    · exact (hs.2 b (Nat.ne_of_lt (Nat.lt_of_lt_of_le (Heap.lt_size e) I.ok.above))).trans (I.base.keep b o e n hb hx)
    · obtain ⟨sl, e1⟩ := I.base.slot b o e n hb hx
      exact ⟨sl, (hs.2 b (Nat.ne_of_lt (Nat.lt_of_lt_of_le (Heap.lt_size e) I.ok.above))).trans e1⟩
    · obtain ⟨o', e1⟩ := I.base.there b o e hx
      exact ⟨o', (hs.2 b (Nat.ne_of_lt (Nat.lt_of_lt_of_le (Heap.lt_size e) I.ok.above))).trans e1⟩
    · by_cases hj : j = i
      · subst hj
        rw [hi] at e1; cases e1
        rw [List.getElem?_set_self hiσ] at e2
        cases e2
        exact ⟨u, r, .inl ⟨hk, by simp⟩⟩
      · rw [List.getElem?_set_ne (Ne.symm hj)] at e2
        obtain ⟨u', r', q⟩ := hl j y v' e1 e2 e3
        refine ⟨u', r', ?_⟩
        rcases q with ⟨k, e⟩ | ⟨k, c, e, z⟩
        · refine .inl ⟨k, ?_⟩
          have : y ≠ x := fun e => hj (nodup_ix hN e1 (e ▸ hi))
          simp [this, e]
        · exact .inr ⟨k, c, e, z.sameBut hs (cne y c e)⟩
    · obtain ⟨w', z⟩ := I.cell y c e
      exact ⟨w', z.sameBut hs (cne y c e)⟩
    · obtain ⟨e, n, ne, nf, d⟩ := I.pin p hp
      exact ⟨(hs.2 p.1 ne).trans e, n, ne, nf, d⟩
  · have hfn : X.fn x = true := by
      rcases hf with z | z
      · exact z
      · rw [z] at hk; cases hk
    obtain ⟨c, hc⟩ := I.ok.has x (.inl hk)
    obtain ⟨w', z⟩ := I.cell x c hc
    refine wpAny_storeName_cell I.ok.kind hk hc z (fun h' hc' hs => ?_)
    obtain ⟨oc, hoc, hocd⟩ := id z
    refine h { s with heap := h' } ⟨I.ok, I.os, I.bare, ⟨fun b o e n hb hx => ?_, fun b o e n hb hx => ?_, I.base.free, fun b o e hx => ?_, I.base.tups, I.base.frzs, I.base.tbls⟩, ⟨m, hn.sameBut hs (Ne.symm (cne x c hc)), fun j y v' e1 e2 e3 => ?_⟩, fun y c' e => ?_, I.free, I.freeC, fun p hp => ?_, tracked ⟨oc, hoc, I.freeC x c hc⟩ hs, by simpa using I.len⟩ ⟨c, hs, .inr hc⟩
    · exact (hs.2 b (Nat.ne_of_lt (Nat.lt_of_lt_of_le (Heap.lt_size e) (I.ok.cab x c hfn hc)))).trans (I.base.keep b o e n hb hx)
    · obtain ⟨sl, e1⟩ := I.base.slot b o e n hb hx
      exact ⟨sl, (hs.2 b (Nat.ne_of_lt (Nat.lt_of_lt_of_le (Heap.lt_size e) (I.ok.cab x c hfn hc)))).trans e1⟩
    · obtain ⟨o', e1⟩ := I.base.there b o e hx
      exact ⟨o', (hs.2 b (Nat.ne_of_lt (Nat.lt_of_lt_of_le (Heap.lt_size e) (I.ok.cab x c hfn hc)))).trans e1⟩
    · by_cases hj : j = i
      · subst hj
        rw [hi] at e1; cases e1
        rw [List.getElem?_set_self hiσ] at e2
        cases e2
        exact ⟨u, r, .inr ⟨.inl hk, c, hc, hc'⟩⟩
      · rw [List.getElem?_set_ne (Ne.symm hj)] at e2
        obtain ⟨u', r', q⟩ := hl j y v' e1 e2 e3
        refine ⟨u', r', ?_⟩
        rcases q with q | ⟨k, c', e, z'⟩
        · exact .inl q
        · refine .inr ⟨k, c', e, z'.sameBut hs ?_⟩
          rintro rfl
          exact hj (nodup_ix hN e1 (I.ok.inj _ _ _ e hc ▸ hi))
    · by_cases hcc : c' = c
      · subst hcc; exact ⟨_, hc'⟩
      · obtain ⟨w2, z2⟩ := I.cell y c' e
        exact ⟨w2, z2.sameBut hs hcc⟩
    · obtain ⟨e, n, ne, nf, d⟩ := I.pin p hp
      refine ⟨(hs.2 p.1 ?_).trans e, n, ne, nf, d⟩
      intro q
      rw [q, hoc] at e
      have q' : oc = p.2 := Option.some.inj e
      exact d w' (by rw [← q']; exact hocd)
theorem store_ok {M : Model} {A : Around} {E : Value → Shared → Prop} {i : Nat} {x : Str} {v : V} {u : Value} {Q : Unit → Shared → Prop} (I : Inv X pins σ H s) (hN : X.N.Nodup) (hi : X.N[i]? = some x) (hx : Loc X.env.scope x) (r : RelV v u)
    (h : ∀ s', Inv X pins (σ.set i (some v)) H s' → Q () s') (hf : X.fn x = true ∨ X.env.scope.names.lookup x = some .local := by first | exact .inl rfl | exact .inr rfl | assumption) : wpAny M A (storeName X.env x u) Q E s :=
  store_ok2 I hN hi hx r (fun s' I' _ => h s' I') hf
/-- behind a call or a block, the state as it is -/
theorem Inv.call' {s' : Shared} {ch : List Addr} (I : Inv X pins σ H s) (ho : s'.os = s.os) (u : Un (frs X.stack) ch H H' s.heap s'.heap) (hok : HOk X.prog X.w H' s'.heap) (hg : AllBare s'.gens)
    (hch : ∀ b ∈ ch, (b ∈ X.ex ∨ X.s₀.heap.objs.size ≤ b) ∧ b ≠ X.env.locals ∧ (∀ x c, X.env.cells.lookup x = some c → c ≠ b) ∧ ∀ p ∈ X.pn ++ pins, p.1 ≠ b) : Inv X pins σ H' s' := by
  obtain ⟨h', g', d', t', o'⟩ := s'
  have e : o' = s.os := ho
  subst e
  exact I.call (g' := g') (t' := t') (d' := d') u hok hg hch
end

/-! ### the judgements -/
/-- an exception: its class, its own dict's address (where it has one), the abstract heap behind it -/
abbrev XK := Value → Option Addr → Hp → Prop
abbrev St := List (Option V)
abbrev VK := V → Hp → Prop
/-- an expression's reading; a test's; an argument list's -/
abbrev TE := St → Hp → VK → Prop
abbrev TT := St → Hp → (Bool → Hp → Prop) → Prop
abbrev TA := St → Hp → (List V → Hp → Prop) → Prop
/-- what is wanted behind a statement -/
structure Ends where
  nx : St → Hp → Prop
  rt : VK
  bk : St → Hp → Prop := fun _ _ => False
  ct : St → Hp → Prop := fun _ _ => False
abbrev TS := Ends → St → Hp → Prop

def EP (X : Cx) (pins : List (Addr × Obj)) (σ : St) (Q : VK) (u : Value) (s' : Shared) : Prop := ∃ v H', Inv X pins σ H' s' ∧ RelV v u ∧ Q v H'
def TP (X : Cx) (pins : List (Addr × Obj)) (σ : St) (Q : Bool → Hp → Prop) (b : Bool) (s' : Shared) : Prop := ∃ H', Inv X pins σ H' s' ∧ Q b H'
def AP (X : Cx) (pins : List (Addr × Obj)) (σ : St) (Q : List V → Hp → Prop) (us : List Value) (s' : Shared) : Prop := ∃ vs H', Inv X pins σ H' s' ∧ Vals vs us ∧ Q vs H'
def SP (X : Cx) (pins : List (Addr × Obj)) (D : Ends) (f : Flow) (s' : Shared) : Prop :=
  match f with
  | .next => ∃ σ' H', Inv X pins σ' H' s' ∧ D.nx σ' H'
  | .brk => ∃ σ' H', Inv X pins σ' H' s' ∧ D.bk σ' H'
  | .cont => ∃ σ' H', Inv X pins σ' H' s' ∧ D.ct σ' H'
  | .ret u => ∃ v σ' H', Inv X pins σ' H' s' ∧ RelV v u ∧ D.rt v H'

def PE (X : Cx) (e : Expr) (t : TE) : Prop :=
  ∀ (pins : List (Addr × Obj)) (s : Shared) (σ : St) (H : Hp) (Q : VK), Inv X pins σ H s → t σ H Q → wpAny (model X.prog X.w) X.A (eval e X.env) (EP X pins σ Q) X.xe s
def PT (X : Cx) (e : Expr) (t : TT) : Prop :=
  ∀ (pins : List (Addr × Obj)) (s : Shared) (σ : St) (H : Hp) (Q : Bool → Hp → Prop), Inv X pins σ H s → t σ H Q → wpAny (model X.prog X.w) X.A (isTrue e X.env (eval e X.env)) (TP X pins σ Q) X.xe s
/-- a test whatever its 'whole' is (and, or) -/
def PW (X : Cx) (e : Expr) (t : TT) : Prop :=
  ∀ (whole : Sem Value) (pins : List (Addr × Obj)) (s : Shared) (σ : St) (H : Hp) (Q : Bool → Hp → Prop), Inv X pins σ H s → t σ H Q → wpAny (model X.prog X.w) X.A (isTrue e X.env whole) (TP X pins σ Q) X.xe s
theorem PW.pt {X : Cx} {e : Expr} {t : TT} (h : PW X e t) : PT X e t := h _
/-- an argument list (no star), from the left -/
def PA (X : Cx) (es : List Expr) (t : TA) : Prop :=
  ∀ (pos : Pos) (pins : List (Addr × Obj)) (s : Shared) (σ : St) (H : Hp) (Q : List V → Hp → Prop), Inv X pins σ H s → t σ H Q → wpAny (model X.prog X.w) X.A (spliced (backTo pos (starEach es X.env))) (AP X pins σ Q) X.xe s
def PS (X : Cx) (st : Stmt) (t : TS) : Prop :=
  ∀ (pins : List (Addr × Obj)) (s : Shared) (σ : St) (H : Hp) (D : Ends), Inv X pins σ H s → t D σ H → wpAny (model X.prog X.w) X.A (exec st X.env) (SP X pins D) X.xe s
def PSs (X : Cx) (st : List Stmt) (t : TS) : Prop :=
  ∀ (pins : List (Addr × Obj)) (s : Shared) (σ : St) (H : Hp) (D : Ends), Inv X pins σ H s → t D σ H → wpAny (model X.prog X.w) X.A (execs st X.env) (SP X pins D) X.xe s
/-- weaken the end -/
theorem thn {α : Type} {t : Sem α} {Q Q' : α → Shared → Prop} {M : Model} {A : Around} {E : Value → Shared → Prop} {s : Shared} (h : wpAny M A t Q E s) (hQ : ∀ a s, Q a s → Q' a s) : wpAny M A t Q' E s := wpAny_mono h hQ fun _ _ x => x
end L2

namespace L2
open PySem PySem.Spec PyProof.Rows
section
variable {X : Cx}

/-! ### names and constants -/
def tVar (i : Nat) : TE := fun σ H Q => ∃ v, σ[i]? = some (some v) ∧ Q v H
def tC (v : V) : TE := fun _ H Q => Q v H
theorem pe_var {i : Nat} {x : Str} {pos : Pos} (hN : X.N[i]? = some x) (hv : Vis X.env.scope x) (hd : (x == ("__debug__" : Str)) = false := by decide) (hcd : (x == ("__classdict__" : Str)) = false := by decide) : PE X (.Name x pos) (tVar i) := by
  intro pins s σ H Q I h
  obtain ⟨v, e, h⟩ := h
  obtain ⟨m, hn, hl⟩ := I.loc
  obtain ⟨u, r, l⟩ := hl i x v hN e hv
  have fin : EP X pins σ Q u s := ⟨v, H, I, r, h⟩
  rcases l with ⟨hk, hm⟩ | ⟨hk, c, hc, hcell⟩
  · exact wpAny_Name (wpAny_loadName_local I.ok.kind hk hn hm fin) hd
  · rcases hk with hk | hk
    · exact wpAny_Name (wpAny_loadName_cell I.ok.kind hk hc hcell fin) hd
    · exact wpAny_Name (wpAny_loadName_free I.ok.kind hk hc hcell fin hcd) hd
theorem pe_int {i j pos} : PE X (.Constant (.int i) j pos) (tC (.int i)) := fun _ _ _ H _ I h => wpAny_Constant_int ⟨.int i, H, I.tok _, ⟨_, rfl⟩, h⟩
theorem pe_bl {b j pos} : PE X (.Constant (.bool b) j pos) (tC (.bl b)) := fun _ _ _ H _ I h => Constant_bool ⟨.bl b, H, I, rfl, h⟩
theorem pe_str {x j pos} : PE X (.Constant (.str x) j pos) (tC (.str x)) := fun _ _ _ H _ I h => Calls.Constant_str ⟨.str x, H, I.tok _, ⟨_, rfl⟩, h⟩

/-- a global name of the def -/
def Gl (X : Cx) (x : Str) : Prop := X.env.kindOf x = some .globalImplicit
theorem ld_glob {E : Value → Shared → Prop} {pins : List (Addr × Obj)} {s : Shared} {σ : St} {H : Hp} {x : Str} {u : Value} {pos : Pos} {Q : Value → Shared → Prop} (I : Inv X pins σ H s) (hg : Gl X x) (hm : X.mg x = some u) (h : Q u s)
    (hd : (x == ("__debug__" : Str)) = false := by decide) : wpAny (model X.prog X.w) X.A (eval (.Name x pos) X.env) Q E s :=
  Calls.Name_function_global I.ok.kind hg (Calls.loadGlobal_global (by rw [I.ok.glob]; exact I.mod.glob.keeps I.bk) hm h) hd
theorem ld_blt {E : Value → Shared → Prop} {pins : List (Addr × Obj)} {s : Shared} {σ : St} {H : Hp} {x : Str} {u : Value} {pos : Pos} {Q : Value → Shared → Prop} (I : Inv X pins σ H s) (hg : Gl X x) (hm : X.mg x = none) (hv : bootBuiltins x = some u) (h : Q u s)
    (hn : x ≠ "__name__" := by decide) (hd : (x == ("__debug__" : Str)) = false := by decide) : wpAny (model X.prog X.w) X.A (eval (.Name x pos) X.env) Q E s := by
  obtain ⟨mb, h1, h2⟩ := I.mod.blt
  exact Calls.Name_function_global I.ok.kind hg (Calls.loadGlobal_builtin (by rw [I.ok.glob]; exact I.mod.glob.keeps I.bk) hm (by rw [I.ok.blt]; exact h1.keeps I.bk) ((h2 x hn).trans hv) h) hd
theorem pe_bltn {x : Str} {v : V} {u : Value} {pos : Pos} (hg : Gl X x) (hm : X.mg x = none) (hv : bootBuiltins x = some u) (r : RelV v u) (hn : x ≠ "__name__" := by decide) (hd : (x == ("__debug__" : Str)) = false := by decide) : PE X (.Name x pos) (tC v) :=
  fun _ _ _ H _ I h => ld_blt I hg hm hv ⟨v, H, I, r, h⟩ hn hd

/-! ### arithmetic -/
variable {a b : Expr} {ta tb : TE} {pos : Pos}
/-! ### comparisons -/
/-! ### and, or, not -/
variable {tA tB' : TT} {rest : List Expr}
def tAnd (t u : TT) : TT := fun σ H Q => t σ H fun c H1 => if c = true then u σ H1 Q else Q false H1
def tOr (t u : TT) : TT := fun σ H Q => t σ H fun c H1 => if c = true then Q true H1 else u σ H1 Q
def tNot (t : TT) : TT := fun σ H Q => t σ H fun c H1 => Q (!c) H1
theorem pw_and1 (ha : PT X a tA) : PW X (.BoolOp .And [a] pos) tA := by
  intro wh pins s σ H Q I h
  refine isTrue_and (thn (ha pins s σ H Q I h) fun c s1 e => ?_)
  cases c with
  | true => exact isTrue_and_nil e
  | false => exact e
theorem pw_or1 (ha : PT X a tA) : PW X (.BoolOp .Or [a] pos) tA := by
  intro wh pins s σ H Q I h
  refine isTrue_or (thn (ha pins s σ H Q I h) fun c s1 e => ?_)
  cases c with
  | false => exact isTrue_or_nil e
  | true => exact e
theorem pw_and (ha : PT X a tA) (hb : PW X (.BoolOp .And (b :: rest) pos) tB') : PW X (.BoolOp .And (a :: b :: rest) pos) (tAnd tA tB') := by
  intro wh pins s σ H Q I h
  refine isTrue_and (thn (ha pins s σ H _ I h) fun c s1 ⟨H1, I1, q1⟩ => ?_)
  cases c with
  | true => exact hb wh pins s1 σ H1 Q I1 q1
  | false => exact ⟨H1, I1, q1⟩
theorem pw_or (ha : PT X a tA) (hb : PW X (.BoolOp .Or (b :: rest) pos) tB') : PW X (.BoolOp .Or (a :: b :: rest) pos) (tOr tA tB') := by
  intro wh pins s σ H Q I h
  refine isTrue_or (thn (ha pins s σ H _ I h) fun c s1 ⟨H1, I1, q1⟩ => ?_)
  cases c with
  | true => exact ⟨H1, I1, q1⟩
  | false => exact hb wh pins s1 σ H1 Q I1 q1
theorem pt_not (ha : PT X a tA) : PT X (.UnaryOp .Not a pos) (tNot tA) := by
  intro pins s σ H Q I h
  exact isTrue_not (ha pins s σ H (fun c H1 => Q (!c) H1) I h)
/-- .. as values (bools) -/
def tAndV (ta tb : TE) : TE := fun σ H Q => ta σ H fun x H1 => ∃ c, x = .bl c ∧ if c = true then tb σ H1 Q else Q (.bl false) H1
def tNotV (ta : TE) : TE := fun σ H Q => ta σ H fun x H1 => ∃ c, x = .bl c ∧ Q (.bl (!c)) H1
theorem pe_one {op} {t : TE} (h : PE X a t) : PE X (.BoolOp op [a] pos) t := fun pins s σ H Q I hw => BoolOp_one (h pins s σ H Q I hw)
theorem pe_and (ha : PE X a ta) (hb : PE X (.BoolOp .And (b :: rest) pos) tb) : PE X (.BoolOp .And (a :: b :: rest) pos) (tAndV ta tb) := by
  intro pins s σ H Q I h
  refine BoolOp_and (thn (ha pins s σ H _ I h) fun v s1 ⟨x, H1, I1, r1, q1⟩ => ?_)
  obtain ⟨c, rfl, q1⟩ := q1
  cases r1
  refine wpAny_truthy_bool ?_
  cases c with
  | true => exact hb pins s1 σ H1 Q I1 q1
  | false => exact ⟨.bl false, H1, I1, rfl, q1⟩
theorem pe_not (ha : PE X a ta) : PE X (.UnaryOp .Not a pos) (tNotV ta) := by
  intro pins s σ H Q I h
  refine UnaryOp_ (thn (ha pins s σ H _ I h) fun v s1 ⟨x, H1, I1, r1, q1⟩ => ?_)
  obtain ⟨c, rfl, q1⟩ := q1
  cases r1
  exact not_of (wpAny_truthy_bool ⟨.bl (!c), H1, I1, rfl, q1⟩)
end
end L2

namespace L2
open PySem PySem.Spec PyProof.Rows

/-! ### a list, a tuple that is read: tracked, frozen, or an object of the module -/
def SqL (K : PySem.W.Frag) (H : Hp) (a : Addr) (xs : List V) : Prop :=
  Rd H a (.lst xs) ∨
    ∃ (o : Obj) (its : Array Value) (n : Nat), K.lookup a = some o ∧ o.cls = .type "list" ∧ o.dict = none ∧ o.data = .seq its n ∧ its.size ≤ sizeLine ∧ Vals xs its.toList
def SqT (K : PySem.W.Frag) (H : Hp) (a : Addr) (xs : List V) : Prop :=
  Rd H a (.tup xs) ∨
    ∃ (o : Obj) (its : Array Value) (n : Nat), K.lookup a = some o ∧ o.cls = .type "tuple" ∧ o.data = .seq its n ∧ its.size ≤ sizeLine ∧ Vals xs its.toList
def absV : Value → Option V
  | .none => some .non
  | .bool b => some (.bl b)
  | .int i _ => some (.int i)
  | .str x _ => some (.str x)
  | .bytes b _ => some (.byt b)
  | .float b _ => some (.flt b)
  | .ref a => some (.ref a)
  | .type n => some (.ty n)
  | _ => none
theorem RelV.abs {x : V} {u : Value} (r : RelV x u) : absV u = some x := by
  cases x with
  | non => cases r; rfl
  | bl _ => cases r; rfl
  | int _ => obtain ⟨t, rfl⟩ := r; rfl
  | str _ => obtain ⟨t, rfl⟩ := r; rfl
  | byt _ => obtain ⟨t, rfl⟩ := r; rfl
  | flt _ => obtain ⟨t, rfl⟩ := r; rfl
  | ref _ => cases r; rfl
  | ty _ => cases r; rfl
theorem RelV.inj {x y : V} {u : Value} (r : RelV x u) (q : RelV y u) : x = y := Option.some.inj (r.abs.symm.trans q.abs)
theorem Vals.inj : ∀ {xs ys : List V} {us : List Value}, Vals xs us → Vals ys us → xs = ys
  | _, _, _, .nil, .nil => rfl
  | _, _, _, .cons r t, .cons r' t' => by rw [r.inj r', Vals.inj t t']
section
variable {X : Cx} {pins : List (Addr × Obj)} {σ : St} {H : Hp} {s : Shared} {a : Addr} {xs ys : List V}
theorem SqL.of {K : PySem.W.Frag} (h : H a = some (.lst xs)) : SqL K H a xs := .inl (.inl h)
theorem SqT.of {K : PySem.W.Frag} (h : H a = some (.tup xs)) : SqT K H a xs := .inl (.inl h)
theorem Inv.list (I : Inv X pins σ H s) (h : SqL X.K H a xs) : ∃ its : List Value, Vals xs its ∧ PlainL s.heap a its.toArray ∧ xs.length ≤ sizeLine := by
  rcases h with h | ⟨o, its, n, hk, hc, hd, hs, hz, r⟩
  · obtain ⟨z, its, n, r, e⟩ := h.ok I.hok
    exact ⟨its, r, ⟨_, n, e, rfl, rfl, rfl⟩, z⟩
  · refine ⟨its.toList, r, ⟨o, n, I.kIn a o hk, hc, hd, by simpa using hs⟩, ?_⟩
    have e := r.length
    simp only [Array.length_toList] at e
    omega
theorem Inv.tuple (I : Inv X pins σ H s) (h : SqT X.K H a xs) : ∃ its : List Value, Vals xs its ∧ IsTup s.heap a its.toArray ∧ xs.length ≤ sizeLine := by
  rcases h with h | ⟨o, its, n, hk, hc, hs, hz, r⟩
  · obtain ⟨z, its, r, p⟩ := h.ok I.hok
    exact ⟨its, r, p, z⟩
  · refine ⟨its.toList, r, ⟨o, I.kIn a o hk, hc, n, by simpa using hs⟩, ?_⟩
    have e := r.length
    simp only [Array.length_toList] at e
    omega
theorem Inv.list_inj (I : Inv X pins σ H s) (h : SqL X.K H a xs) (h' : SqL X.K H a ys) : xs = ys := by
  obtain ⟨its, r, ⟨o, n, e, _, _, d⟩, _⟩ := I.list h
  obtain ⟨its', r', ⟨o', n', e', _, _, d'⟩, _⟩ := I.list h'
  rw [e] at e'; cases e'
  rw [d] at d'
  injection d' with d1 _
  have : its = its' := by simpa using congrArg Array.toList d1
  subst this
  exact r.inj r'
theorem Inv.tuple_inj (I : Inv X pins σ H s) (h : SqT X.K H a xs) (h' : SqT X.K H a ys) : xs = ys := by
  obtain ⟨its, r, ⟨o, e, _, n, d⟩, _⟩ := I.tuple h
  obtain ⟨its', r', ⟨o', e', _, n', d'⟩, _⟩ := I.tuple h'
  rw [e] at e'; cases e'
  rw [d] at d'
  injection d' with d1 _
  have : its = its' := by simpa using congrArg Array.toList d1
  subst this
  exact r.inj r'
end

/-! ### another wish about exceptions -/
abbrev Cx.wish (X : Cx) (E : Value → Shared → Prop) : Cx := { X with xe := E }
/-- no exception leaves -/
abbrev Cx.nox (X : Cx) : Cx := X.wish fun _ _ => False
theorem Cx.Ok.wish {X : Cx} (ok : X.Ok) (E : Value → Shared → Prop) : (X.wish E).Ok :=
  ⟨ok.mod, ok.kind, ok.glob, ok.blt, ok.above, ok.inj, ok.has, ok.cab, ok.hd, ok.frames, ok.stk, ok.exf, ok.bs, ok.bsz, ok.noex, ok.exfs, ok.funs, ok.frf⟩
theorem Cx.Ok.unwish {X : Cx} {E : Value → Shared → Prop} (ok : (X.wish E).Ok) : X.Ok :=
  ⟨ok.mod, ok.kind, ok.glob, ok.blt, ok.above, ok.inj, ok.has, ok.cab, ok.hd, ok.frames, ok.stk, ok.exf, ok.bs, ok.bsz, ok.noex, ok.exfs, ok.funs, ok.frf⟩
section
variable {X : Cx} {pins : List (Addr × Obj)} {σ : St} {H : Hp} {s : Shared} {E : Value → Shared → Prop}
theorem Inv.wish (I : Inv X pins σ H s) (E : Value → Shared → Prop) : Inv (X.wish E) pins σ H s := ⟨I.ok.wish E, I.os, I.bare, I.base, I.loc, I.cell, I.free, I.freeC, I.pin, I.hok, I.len⟩
theorem Inv.unwish (I : Inv (X.wish E) pins σ H s) : Inv X pins σ H s := ⟨I.ok.unwish, I.os, I.bare, I.base, I.loc, I.cell, I.free, I.freeC, I.pin, I.hok, I.len⟩
theorem SP.unwish {D : Ends} {f : Flow} {s' : Shared} (h : SP (X.wish E) pins D f s') : SP X pins D f s' := by
  cases f with
  | next => obtain ⟨σ', H', I, q⟩ := h; exact ⟨σ', H', I.unwish, q⟩
  | brk => obtain ⟨σ', H', I, q⟩ := h; exact ⟨σ', H', I.unwish, q⟩
  | cont => obtain ⟨σ', H', I, q⟩ := h; exact ⟨σ', H', I.unwish, q⟩
  | ret u => obtain ⟨v, σ', H', I, r, q⟩ := h; exact ⟨v, σ', H', I.unwish, r, q⟩
theorem PE.nox {e : Expr} {t : TE} (h : PE X.nox e t) : PE X e t := fun pins s σ H Q I hw =>
  wpAny_mono (h pins s σ H Q (I.wish _) hw) (fun _ _ ⟨v, H', I', r, q⟩ => ⟨v, H', I'.unwish, r, q⟩) fun _ _ z => False.elim z
theorem PT.nox {e : Expr} {t : TT} (h : PT X.nox e t) : PT X e t := fun pins s σ H Q I hw =>
  wpAny_mono (h pins s σ H Q (I.wish _) hw) (fun _ _ ⟨H', I', q⟩ => ⟨H', I'.unwish, q⟩) fun _ _ z => False.elim z
theorem PSs.nox {st : List Stmt} {t : TS} (h : PSs X.nox st t) : PSs X st t := fun pins s σ H D I hw =>
  wpAny_mono (h pins s σ H D (I.wish _) hw) (fun _ _ q => q.unwish) fun _ _ z => False.elim z
end

/-! ### blocks and small statements -/
section
variable {X : Cx} {st : Stmt} {rest : List Stmt} {t u : TS} {e : Expr} {te : TE} {pos : Pos}
def tNext : TS := fun D σ H => D.nx σ H
def tSeq (t u : TS) : TS := fun D σ H => t { D with nx := u D } σ H
theorem pss_nil : PSs X [] tNext := fun _ _ σ H _ I h => wpAny_execs_nil ⟨σ, H, I, h⟩
theorem pss_cons (h1 : PS X st t) (h2 : PSs X rest u) : PSs X (st :: rest) (tSeq t u) := by
  intro pins s σ H D I h
  refine wpAny_execs_cons (thn (h1 pins s σ H { D with nx := u D } I h) fun f s1 q => ?_)
  cases f with
  | next =>
    obtain ⟨σ', H', I', q⟩ := q
    exact h2 pins s1 σ' H' D I' q
  | ret v => exact q
  | brk => exact q
  | cont => exact q
/-- in a def's body nothing is shown -/
theorem Inv.quiet {pins : List (Addr × Obj)} {σ : St} {H : Hp} {s : Shared} (I : Inv X pins σ H s) : interactive X.env = false := by simp [interactive, I.ok.kind]
/-- an expression whose value is dropped -/
def tDrop (te : TE) : TS := fun D σ H => te σ H fun _ H1 => D.nx σ H1
theorem ps_expr (he : PE X e te) (hs : swapsWith e none pos.line X.env = pure false := by rfl) : PS X (.Expr e pos) (tDrop te) := by
  intro pins s σ H D I h
  exact wpAny_Expr_any (thn (he pins s σ H _ I h) fun v s1 ⟨x, H1, I1, r1, q1⟩ => ⟨σ, H1, I1, q1⟩) I.quiet hs
def tRet (te : TE) : TS := fun D σ H => te σ H D.rt
theorem ps_ret (he : PE X e te) : PS X (.Return (some e) pos) (tRet te) := by
  intro pins s σ H D I h
  exact wpAny_Return_some (thn (he pins s σ H _ I h) fun v s1 ⟨x, H1, I1, r1, q1⟩ => ⟨x, σ, H1, I1, r1, q1⟩)
def tIfS (c : TT) (t u : TS) : TS := fun D σ H => c σ H fun b H1 => if b = true then t D σ H1 else u D σ H1
theorem ps_if {c : Expr} {a b : List Stmt} {tc : TT} (hc : PT X c tc) (ha : PSs X a t) (hb : PSs X b u) : PS X (.If c a b pos) (tIfS tc t u) := by
  intro pins s σ H D I h
  refine wpAny_If (thn (hc pins s σ H _ I h) fun d s1 ⟨H1, I1, q1⟩ => ?_)
  cases d with
  | true => exact ha pins s1 σ H1 D I1 q1
  | false => exact hb pins s1 σ H1 D I1 q1
/-- code that the proof never comes to -/
def tNever : TS := fun _ _ _ => False
theorem ps_never : PS X st tNever := fun _ _ _ _ _ _ h => h.elim
end

/-! ### targets -/
abbrev TG := V → St → Hp → (St → Hp → Prop) → Prop
abbrev TGs := List V → St → Hp → (St → Hp → Prop) → Prop
def PG (X : Cx) (target : Expr) (t : TG) : Prop :=
  ∀ (pins : List (Addr × Obj)) (s : Shared) (σ : St) (H : Hp) (v : V) (u : Value) (Q : St → Hp → Prop), Inv X pins σ H s → RelV v u → t v σ H Q →
    wpAny (model X.prog X.w) X.A (assign target X.env u) (fun _ s' => ∃ σ' H', Inv X pins σ' H' s' ∧ Q σ' H') X.xe s
/-- several targets, one after another -/
def PGs (X : Cx) (ts : List Expr) (t : TGs) : Prop :=
  ∀ (pins : List (Addr × Obj)) (s : Shared) (σ : St) (H : Hp) (vs : List V) (us : List Value) (Q : St → Hp → Prop), Inv X pins σ H s → Vals vs us → t vs σ H Q →
    wpAny (model X.prog X.w) X.A (assignInOrder ((assignEach ts X.env).map (·.2)) us) (fun _ s' => ∃ σ' H', Inv X pins σ' H' s' ∧ Q σ' H') X.xe s
/-- o[i] = v, by values -/
abbrev TSet := V → V → V → Hp → (Hp → Prop) → Prop
def PSet (X : Cx) (t : TSet) : Prop :=
  ∀ (pins : List (Addr × Obj)) (s : Shared) (σ : St) (H : Hp) (o i v : V) (ov iv u : Value) (Q : Hp → Prop), Inv X pins σ H s → RelV o ov → RelV i iv → RelV v u → t o i v H Q →
    wpAny (model X.prog X.w) X.A (setItem ov iv u) (fun _ s' => ∃ H', Inv X pins σ H' s' ∧ Q H') X.xe s
section
variable {X : Cx} {pos : Pos}
def gName (i : Nat) : TG := fun v σ H Q => Q (σ.set i (some v)) H
theorem pg_name {i : Nat} {x : Str} (hN : X.N.Nodup) (hi : X.N[i]? = some x) (hx : Loc X.env.scope x) (hf : X.fn x = true ∨ X.env.scope.names.lookup x = some .local := by first | exact .inl rfl | exact .inr rfl | assumption) : PG X (.Name x pos) (gName i) := by
  intro pins s σ H v u Q I r h
  exact wpAny_assign_Name (store_ok I hN hi hx r (fun s' I' => ⟨_, H, I', h⟩) hf)
def gNil : TGs := fun vs σ H Q => vs = [] ∧ Q σ H
def gCons (t : TG) (u : TGs) : TGs := fun vs σ H Q => ∃ v r, vs = v :: r ∧ t v σ H fun σ' H' => u r σ' H' Q
theorem pgs_nil : PGs X [] gNil := by
  intro pins s σ H vs us Q I r h
  obtain ⟨e, h⟩ := h
  subst e
  cases r
  exact assignInOrder_nil ⟨σ, H, I, h⟩
theorem pgs_cons {e : Expr} {es : List Expr} {t : TG} {u : TGs} (h1 : PG X e t) (h2 : PGs X es u)
    (hs : (assignEach (e :: es) X.env).map (·.2) = assign e X.env :: (assignEach es X.env).map (·.2) := by rfl) : PGs X (e :: es) (gCons t u) := by
  intro pins s σ H vs us Q I r h
  obtain ⟨v, vr, e1, h⟩ := h
  subst e1
  cases r with
  | cons r rr =>
    rw [hs]
    refine assignInOrder_cons (thn (h1 pins s σ H _ _ _ I r h) fun _ s1 ⟨σ1, H1, I1, q1⟩ => ?_)
    exact h2 pins s1 σ1 H1 _ _ Q I1 rr q1
/-- (a, b, ..) = a tuple of that length -/
def gTup (K : PySem.W.Frag) (n : Nat) (t : TGs) : TG := fun v σ H Q => ∃ a xs, v = .ref a ∧ SqT K H a xs ∧ xs.length = n ∧ t xs σ H Q
theorem pg_tup {es : List Expr} {k : Nat} {t : TGs} {n : Nat} (hc : X.calm = true) (h : PGs X es t)
    (hn : (assignEach es X.env).length = n := by rfl) (hst : (assignEach es X.env).findIdx? (·.1) = none := by rfl) : PG X (.Tuple es k pos) (gTup X.K n t) := by
  intro pins s σ H v u Q I r hw
  obtain ⟨a, xs, e1, hq, hl, hw⟩ := hw
  subst e1
  cases r
  obtain ⟨its, rv, ht, hz⟩ := I.tuple hq
  refine assign_Tuple_tuple (I.ok.hd hc) ht (by simp [hn, ← hl, rv.length]) hst fun h' hx => ?_
  have I1 : Inv X pins σ H { s with heap := h' } := I.kept (t' := s.toks) fun b o e => hx b o (Nat.ne_of_lt (Heap.lt_size e)) e
  exact h pins _ σ H xs _ Q I1 (by simpa using rv) hw
/-- o[i] = .. -/
def gSub (to ti : TE) (t : TSet) : TG := fun v σ H Q => to σ H fun o H1 => ti σ H1 fun i H2 => t o i v H2 fun H3 => Q σ H3
theorem pg_sub {o i : Expr} {to ti : TE} {t : TSet} (ho : PE X o to) (hi : PE X i ti) (hs : PSet X t)
    (ha : ∀ v, assign (.Subscript o i pos) X.env v = (do
      let ov ← holding [v] (eval o X.env)
      let iv ← holding [v, ov] (eval i X.env)
      standAt pos
      holding [v, ov, iv] (setItem ov iv v)
      release [v, ov, iv] []) := by intro _; rfl) : PG X (.Subscript o i pos) (gSub to ti t) := by
  intro pins s σ H v u Q I r h
  rw [ha]
  refine wpAny_bind (wpAny_holding (thn (ho pins s σ H _ I h) fun ov s1 ⟨x, H1, I1, r1, q1⟩ => ?_))
  refine wpAny_bind (wpAny_holding (thn (hi pins s1 σ H1 _ I1 q1) fun iv s2 ⟨y, H2, I2, r2, q2⟩ => ?_))
  refine wpAny_bind (wpAny_standAt (wpAny_bind (wpAny_holding (thn (hs pins s2 σ H2 x y v ov iv u _ I2 r1 r2 r q2) fun _ s3 ⟨H3, I3, q3⟩ => ?_))))
  exact wpAny_release ⟨σ, H3, I3, q3⟩
/-- target = value -/
def tAsg (te : TE) (g : TG) : TS := fun D σ H => te σ H fun x H1 => g x σ H1 D.nx
theorem ps_asg {tg e : Expr} {te : TE} {g : TG} (he : PE X e te) (hg : PG X tg g) (hs : swapsWithSole [tg] e pos.line X.env = pure false := by rfl) (hw : swappedStores [tg] e X.env = pure none := by rfl)
    (h1 : (assignEach [tg] X.env).map (·.2) = [assign tg X.env] := by rfl) : PS X (.Assign [tg] e pos) (tAsg te g) := by
  intro pins s σ H D I h
  refine wpAny_Assign_stores (thn (he pins s σ H _ I h) fun v s1 ⟨x, H1, I1, r1, q1⟩ => ?_) hs hw
  rw [h1]
  exact thn (hg pins s1 σ H1 x v _ I1 r1 q1) fun _ s2 q => q
/-- name = value -/
theorem ps_set {i : Nat} {x : Str} {e : Expr} {te : TE} {pos' : Pos} (hN : X.N.Nodup) (hi : X.N[i]? = some x) (hx : Loc X.env.scope x) (he : PE X e te) (hs : swapsWith e (some (.Name x pos')) pos.line X.env = pure false := by rfl) (hf : X.fn x = true ∨ X.env.scope.names.lookup x = some .local := by first | exact .inl rfl | exact .inr rfl | assumption) :
    PS X (.Assign [.Name x pos'] e pos) (tAsg te (gName i)) := by
  intro pins s σ H D I h
  refine wpAny_Assign_Name (thn (he pins s σ H _ I h) fun v s1 ⟨y, H1, I1, r1, q1⟩ => ?_) hs
  exact store_ok I1 hN hi hx r1 (fun s2 I2 => ⟨_, H1, I2, q1⟩) hf
end

/-! ### while -/
section
variable {X : Cx} {pos : Pos}
end

/-! ### what a loop or a comprehension walks -/
/-- at turn i: it yields x (the heap may grow), or it stops -/
structure It where
  go : Nat → Hp → Prop
  yld : Nat → Hp → V → Hp → Prop
  stop : Nat → Hp → Prop
/-- the iterator's own objects may turn: they are not the frame's, not pinned, younger than the entry (or a comprehension's own) -/
def FpOk (X : Cx) (pins : List (Addr × Obj)) (H : Hp) (b : Addr) : Prop :=
  H b = none ∧ b ≠ X.env.locals ∧ b ∉ X.fs ∧ (b ∈ X.ex ∨ X.s₀.heap.objs.size ≤ b) ∧ (∀ x c, X.env.cells.lookup x = some c → c ≠ b) ∧ ∀ p ∈ X.pn ++ pins, p.1 ≠ b
theorem Inv.fpOk {X : Cx} {pins : List (Addr × Obj)} {σ : St} {H H' : Hp} {s : Shared} {b : Addr} (I : Inv X pins σ H s) (hb : s.heap.objs.size ≤ b) (hn : H' b = none) : FpOk X pins H' b := by
  refine ⟨hn, Nat.ne_of_gt (Nat.lt_of_lt_of_le I.lt hb), I.nofs hb, .inr (Nat.le_trans I.sz hb), fun x c e z => ?_, fun p hp z => ?_⟩
  · obtain ⟨v, q⟩ := I.cell x c e
    exact absurd (Nat.lt_of_lt_of_le q.lt (by rw [z]; exact hb)) (Nat.lt_irrefl _)
  · exact absurd (Nat.lt_of_lt_of_le (Heap.lt_size (I.pin p hp).1) (by rw [z]; exact hb)) (Nat.lt_irrefl _)
structure Turn (P : Program) (w : World) (K : PySem.W.Frag) (tg : Expr) (J : It) (fp : List Addr) (it : Addr) (tn : Nat → Heap → Prop) : Prop where
  mem : it ∈ fp
  obj : ∀ i h, tn i h → ∀ b ∈ fp, ∃ o, h.get? b = some o ∧ ∀ v, o.data ≠ .cell v
  keep : ∀ i h h', tn i h → (∀ b ∈ fp, ∀ o, h.get? b = some o → h'.get? b = some o) → tn i h'
  item : ∀ (X : Cx), X.prog = P → X.w = w → X.K = K → X.calm = true → ∀ (i : Nat) (pins : List (Addr × Obj)) (s : Shared) (σ : St) (H : Hp) (E : Value → Shared → Prop), Inv X pins σ H s → (∀ b ∈ fp, FpOk X pins H b) → tn i s.heap → J.go i H →
    wpAny (model P w) X.A (pyNext (.ref it)) (fun r s1 => ∃ u, r = some u ∧
      wpAny (model P w) X.A (letOwnedTupleGo tg (.ref it) u) (fun _ s2 => ∃ x H', Inv X pins σ H' s2 ∧ RelV x u ∧ J.yld i H x H' ∧ tn (i + 1) s2.heap ∧ ∀ b ∈ fp, H' b = none) E s1) E s
  done : ∀ (X : Cx), X.prog = P → X.w = w → X.K = K → X.calm = true → ∀ (i : Nat) (pins : List (Addr × Obj)) (s : Shared) (σ : St) (H : Hp) (E : Value → Shared → Prop), Inv X pins σ H s → (∀ b ∈ fp, FpOk X pins H b) → tn i s.heap → J.stop i H →
    wpAny (model P w) X.A (pyNext (.ref it)) (fun r s1 => r = none ∧ Inv X pins σ H s1) E s
  self : ∀ (A : Around) (i : Nat) (s : Shared) (Q : Value → Shared → Prop) (E : Value → Shared → Prop), tn i s.heap → Q (.ref it) s → wpAny (model P w) A (pyIter (.ref it)) Q E s
abbrev TI := St → Hp → (It → Hp → Prop) → Prop
/-- an iterator has come -/
def PIE (X : Cx) (pins : List (Addr × Obj)) (σ : St) (tg : Expr) (R : It → Hp → Prop) (itv : Value) (s2 : Shared) : Prop :=
  ∃ (it : Addr) (fp : List Addr) (tn : Nat → Heap → Prop) (J : It) (H' : Hp), itv = .ref it ∧ Inv X pins σ H' s2 ∧ Turn X.prog X.w X.K tg J fp it tn ∧ tn 0 s2.heap ∧ (∀ b ∈ fp, FpOk X pins H' b) ∧ R J H'
def PI (X : Cx) (tg iter : Expr) (wi : TI) : Prop :=
  ∀ (pins : List (Addr × Obj)) (s : Shared) (σ : St) (H : Hp) (R : It → Hp → Prop), Inv X pins σ H s → wi σ H R →
    wpAny (model X.prog X.w) X.A (eval iter X.env) (fun v s1 => wpAny (model X.prog X.w) X.A (pyIter v) (PIE X pins σ tg R) X.xe s1) X.xe s

/-- the step ahead of the store is nothing for an iterator that keeps no tuple -/
theorem go_of {M : Model} {A : Around} {E : Value → Shared → Prop} {s : Shared} {tg : Expr} {it : Addr} {u : Value} {o : Obj} {n : String} {vs : Array Value} {Q : Unit → Shared → Prop} (ho : s.heap.get? it = some o) (hc : o.cls = .type n) (hd : o.data = .fields vs)
    (hn : ["enumerate", "zip", "dict_itemiterator", "dict_reverseitemiterator", "odict_iterator", "itertools.zip_longest", "itertools.pairwise"].contains n = false) (hQ : Q () s) : wpAny M A (letOwnedTupleGo tg (.ref it) u) Q E s := by
  unfold letOwnedTupleGo
  cases tg <;> first
    | exact wpAny_pure hQ
    | (cases u <;> first
        | exact wpAny_pure hQ
        | (refine wpAny_bind (wpAny_load ho ?_)
           rw [hc, hd]
           show wpAny M A (if (["enumerate", "zip", "dict_itemiterator", "dict_reverseitemiterator", "odict_iterator", "itertools.zip_longest", "itertools.pairwise"].contains n && vs[0]? == some (rawInt _)) = true then _ else _) Q E s
           rw [if_neg (by intro h; rw [hn, Bool.false_and] at h; cases h)]
           exact wpAny_pure hQ))

/-- the list at a, as it stands at each turn (a loop may append to it) -/
def Itl (K : PySem.W.Frag) (a : Addr) : It :=
  ⟨fun i H => ∃ xs x, SqL K H a xs ∧ xs[i]? = some x, fun i H x H' => H' = H ∧ ∀ xs, SqL K H a xs → xs[i]? = some x, fun i H => ∃ xs, SqL K H a xs ∧ xs.length ≤ i⟩
def Itt (K : PySem.W.Frag) (a : Addr) : It :=
  ⟨fun i H => ∃ xs x, SqT K H a xs ∧ xs[i]? = some x, fun i H x H' => H' = H ∧ ∀ xs, SqT K H a xs → xs[i]? = some x, fun i H => ∃ xs, SqT K H a xs ∧ xs.length ≤ i⟩
/-- lo, lo + 1, .. (n of them) -/
def Itr (lo : Int) (n : Nat) : It := ⟨fun i _ => i < n, fun i H x H' => H' = H ∧ x = .int (lo + i), fun i _ => n ≤ i⟩
theorem turn_list {P : Program} {w : World} {K : PySem.W.Frag} {tg : Expr} (a it : Addr) : Turn P w K tg (Itl K a) [it] it (fun i h => h.IsListIter it a i) where
  mem := by simp
  obj := fun i h st b hb => by
    have e : b = it := by simpa using hb
    subst e
    obtain ⟨o, e, c, d⟩ := st
    exact ⟨o, e, fun v z => by rw [d] at z; cases z⟩
  keep := fun i h h' st k => st.at fun o e => k it (by simp) o e
  item := by
    intro X hP hw hK hc i pins s σ H E I hf st hg
    subst hP hw hK
    obtain ⟨xs, x, hq, hx⟩ := hg
    obtain ⟨its, rv, p, hz⟩ := I.list hq
    obtain ⟨u, hu, ru⟩ := rv.get hx
    obtain ⟨f0, f1, f2, f3, f4, f5⟩ := hf it (by simp)
    refine wpAny_pyNext_list_item st p.isList (x := u) (by simpa using hu) fun h' st' sb => ?_
    have I1 : Inv X pins σ H { s with heap := h' } := I.turned (t' := s.toks) (fun b o hb e => (sb.2 b hb).trans e) f0 f1 f3 f4 f5
    obtain ⟨o, e, c, d⟩ := id st'
    exact ⟨u, rfl, go_of (s := { s with heap := h' }) e c d (by decide) ⟨x, H, I1, ru, ⟨rfl, fun ys hy => by rw [I.list_inj hy hq]; exact hx⟩, st', fun b hb => (hf b hb).1⟩⟩
  done := by
    intro X hP hw hK hc i pins s σ H E I hf st hg
    subst hP hw hK
    obtain ⟨xs, hq, hx⟩ := hg
    obtain ⟨its, rv, p, hz⟩ := I.list hq
    obtain ⟨f0, f1, f2, f3, f4, f5⟩ := hf it (by simp)
    have hl := rv.length
    exact wpAny_pyNext_list_end (I.ok.hd hc) st p.isList (by simp; omega) fun h' eb => ⟨rfl, I.turned (t' := s.toks) (fun b o hb e => eb b o hb e) f0 f1 f3 f4 f5⟩
  self := fun _ _ _ _ _ st h => wpAny_pyIter_listiter st h
theorem turn_tuple {P : Program} {w : World} {K : PySem.W.Frag} {tg : Expr} (a it : Addr) : Turn P w K tg (Itt K a) [it] it (fun i h => h.IsTupleIter it a i) where
  mem := by simp
  obj := fun i h st b hb => by
    have e : b = it := by simpa using hb
    subst e
    obtain ⟨o, e, c, d⟩ := st
    exact ⟨o, e, fun v z => by rw [d] at z; cases z⟩
  keep := fun i h h' st k => st.at fun o e => k it (by simp) o e
  item := by
    intro X hP hw hK hc i pins s σ H E I hf st hg
    subst hP hw hK
    obtain ⟨xs, x, hq, hx⟩ := hg
    obtain ⟨its, rv, p, hz⟩ := I.tuple hq
    obtain ⟨u, hu, ru⟩ := rv.get hx
    obtain ⟨f0, f1, f2, f3, f4, f5⟩ := hf it (by simp)
    refine wpAny_pyNext_tuple_item st (show s.heap.IsTuple a its.toArray from p) (x := u) (by simpa using hu) fun h' st' sb => ?_
    have I1 : Inv X pins σ H { s with heap := h' } := I.turned (t' := s.toks) (fun b o hb e => (sb.2 b hb).trans e) f0 f1 f3 f4 f5
    obtain ⟨o, e, c, d⟩ := id st'
    exact ⟨u, rfl, go_of (s := { s with heap := h' }) e c d (by decide) ⟨x, H, I1, ru, ⟨rfl, fun ys hy => by rw [I.tuple_inj hy hq]; exact hx⟩, st', fun b hb => (hf b hb).1⟩⟩
  done := by
    intro X hP hw hK hc i pins s σ H E I hf st hg
    subst hP hw hK
    obtain ⟨xs, hq, hx⟩ := hg
    obtain ⟨its, rv, p, hz⟩ := I.tuple hq
    obtain ⟨f0, f1, f2, f3, f4, f5⟩ := hf it (by simp)
    have hl := rv.length
    exact wpAny_pyNext_tuple_end (I.ok.hd hc) st (show s.heap.IsTuple a its.toArray from p) (by simp; omega) fun h' eb => ⟨rfl, I.turned (t' := s.toks) (fun b o hb e => eb b o hb e) f0 f1 f3 f4 f5⟩
  self := fun _ _ _ _ _ st h => wpAny_pyIter_tupleiter st h
theorem turn_range {P : Program} {w : World} {K : PySem.W.Frag} {tg : Expr} (it : Addr) (lo : Int) (n : Nat) : Turn P w K tg (Itr lo n) [it] it (fun i h => IsRangeIter h it (lo + (i : Nat) * 1) ((n : Int) - (i : Nat)) 1) where
  mem := by simp
  obj := fun i h st b hb => by
    have e : b = it := by simpa using hb
    subst e
    exact ⟨_, st, fun v z => by
      have z' : Data.fields _ = Data.cell v := z
      cases z'⟩
  keep := fun i h h' st k => k it (by simp) _ st
  item := by
    intro X hP hw hK hc i pins s σ H E I hf st hg
    subst hP hw hK
    obtain ⟨f0, f1, f2, f3, f4, f5⟩ := hf it (by simp)
    have W := Walks.range (prog := X.prog) (w := X.w) (I.ok.hd hc) it lo 1 n
    refine W.item i s _ _ hg st fun v h' tk hv st' kk => ?_
    obtain ⟨t, rfl⟩ := hv
    have I1 : Inv X pins σ H { s with heap := h', toks := tk } := I.turned (fun b o hb e => kk b o (by simpa using hb) e) f0 f1 f3 f4 f5
    refine ⟨_, rfl, go_of (s := { s with heap := h', toks := tk }) (n := "range_iterator") st' rfl rfl (by decide) ⟨.int (lo + i), H, I1, ⟨t, ?_⟩, ⟨rfl, rfl⟩, st', fun b hb => (hf b hb).1⟩⟩
    rw [Int.mul_one]
  done := by
    intro X hP hw hK hc i pins s σ H E I hf st hg
    subst hP hw hK
    obtain ⟨f0, f1, f2, f3, f4, f5⟩ := hf it (by simp)
    exact wpAny_pyNext_range_end (I.ok.hd hc) st (by have : n ≤ i := hg; omega) fun h' eb => ⟨rfl, I.turned (t' := s.toks) (fun b o hb e => eb b o hb e) f0 f1 f3 f4 f5⟩
  self := fun _ _ _ _ _ st h => wpAny_pyIter_rangeiter st h
end L2

namespace L2
open PySem PySem.Spec PyProof.Rows
section
variable {X : Cx} {tg : Expr}
/-- a range object just made, walked -/
theorem range_it {pins : List (Addr × Obj)} {σ : St} {H : Hp} {s : Shared} {R : It → Hp → Prop} {E : Value → Shared → Prop} {lo hi : Int} {t u v : Tok} {tk : Nat} (I : Inv X pins σ H s) (h1 : -(2 ^ 62) ≤ lo) (h2 : lo < 2 ^ 62) (h3 : -(2 ^ 62) ≤ hi) (h4 : hi < 2 ^ 62)
    (q : R (Itr lo (hi - lo).toNat) H) : wpAny (model X.prog X.w) X.A (pyIter (.ref s.heap.objs.size)) (PIE X pins σ tg R) E { s with heap := s.heap.push { cls := .type "range", data := .fields #[.int lo t, .int hi u, .int 1 v] }, toks := tk } := by
  refine wpAny_pyIter_range (IsRange.new ..) (small_one h1 h2 h3 h4) ?_
  have I1 : Inv X pins σ H { s with heap := s.heap.push { cls := .type "range", data := .fields #[.int lo t, .int hi u, .int 1 v] }, toks := tk } := I.kept fun b o e => Heap.get?_push_of_some _ e
  refine ⟨(s.heap.push { cls := .type "range", data := .fields #[.int lo t, .int hi u, .int 1 v] }).objs.size, [(s.heap.push { cls := .type "range", data := .fields #[.int lo t, .int hi u, .int 1 v] }).objs.size], _, _, H, rfl,
    I1.kept (t' := tk) fun b o e => Heap.get?_push_of_some _ e, turn_range _ lo (hi - lo).toNat, ?_, fun b hb => ?_, q⟩
  · have e1 : lo + ((0 : Nat) : Int) * 1 = lo := by simp
    have e2 : (((hi - lo).toNat : Nat) : Int) - ((0 : Nat) : Int) = Builtin.Range.rangeSize lo hi 1 := by rw [rangeSize_one]; split <;> omega
    show IsRangeIter _ _ (lo + ((0 : Nat) : Int) * 1) ((((hi - lo).toNat : Nat) : Int) - ((0 : Nat) : Int)) 1
    rw [e1, e2]
    exact Heap.get?_push_size _ rfl
  · have e : b = (s.heap.push { cls := .type "range", data := .fields #[.int lo t, .int hi u, .int 1 v] }).objs.size := by simpa using hb
    subst e
    exact I1.fpOk (Nat.le_refl _) (I1.hok.fresh (Nat.le_refl _))
def iRng1 (ta : TA) : TI := fun σ H R => ta σ H fun vs H1 => ∃ j : Int, vs = [.int j] ∧ -(2 ^ 62) ≤ j ∧ j < 2 ^ 62 ∧ R (Itr 0 j.toNat) H1
def iRng2 (ta : TA) : TI := fun σ H R => ta σ H fun vs H1 => ∃ i j : Int, vs = [.int i, .int j] ∧ (-(2 ^ 62) ≤ i ∧ i < 2 ^ 62 ∧ -(2 ^ 62) ≤ j ∧ j < 2 ^ 62) ∧ R (Itr i (j - i).toNat) H1
theorem pi_range1 {a : Expr} {ta : TA} {p pos : Pos} (hg : Gl X "range") (hm : X.mg "range" = none) (ha : PA X [a] ta) (hs : starEach [a] X.env = [(false, eval a X.env)] := by rfl) : PI X tg (.Call (.Name "range" p) [a] [] pos) (iRng1 ta) := by
  intro pins s σ H R I h
  refine Call_ (ld_blt I hg hm boot_range (PyProof.Rows.callWith_type1 (thn (ha pos pins s σ H _ I h) fun us s1 ⟨vs, H1, I1, r1, q1⟩ => ?_) hs rfl))
  obtain ⟨j, e, q1, q2, q⟩ := q1
  subst e
  cases r1 with
  | cons r rr =>
    cases rr
    obtain ⟨t, rfl⟩ := r
    exact call_range_1 (range_it I1 (by omega) (by omega) q1 q2 (by simpa using q))
/-! ### for -/
/-- W: the invariant by the turn and a measure; N: what the body is to reach -/
def tFor (wi : TI) (g : TG) (tb : TS) : TS := fun D σ H => wi σ H fun J H1 => ∃ W : Nat → Nat → St → Hp → Prop, (∃ m, W 0 m σ H1) ∧ ∀ i m σ H, W i m σ H →
  (J.stop i H ∧ D.nx σ H) ∨ (J.go i H ∧ ∃ N : St → Hp → Prop, (∀ σ' H', N σ' H' → ∃ m', m' < m ∧ W (i + 1) m' σ' H') ∧ ∀ x H', J.yld i H x H' → g x σ H' fun σ2 H2 => tb { D with nx := N, ct := N, bk := D.nx } σ2 H2)
/-- the records at fp as they stand -/
def pinsAt (fp : List Addr) (h : Heap) : List (Addr × Obj) := fp.filterMap fun b => (h.get? b).map fun o => (b, o)
theorem mem_pinsAt {fp : List Addr} {h : Heap} {b : Addr} {o : Obj} (hb : b ∈ fp) (e : h.get? b = some o) : (b, o) ∈ pinsAt fp h := List.mem_filterMap.mpr ⟨b, hb, by rw [e]; rfl⟩
theorem of_pinsAt {fp : List Addr} {h : Heap} {p : Addr × Obj} (hp : p ∈ pinsAt fp h) : p.1 ∈ fp ∧ h.get? p.1 = some p.2 := by
  obtain ⟨b, hb, e⟩ := List.mem_filterMap.mp hp
  cases q : h.get? b with
  | none => rw [q] at e; cases e
  | some o =>
    rw [q] at e
    have e' : (b, o) = p := Option.some.inj e
    subst e'
    exact ⟨hb, q⟩
theorem Inv.pinned {pins : List (Addr × Obj)} {σ : St} {H : Hp} {s : Shared} {fp : List Addr} (I : Inv X pins σ H s) (hf : ∀ b ∈ fp, FpOk X pins H b) (ho : ∀ b ∈ fp, ∃ o, s.heap.get? b = some o ∧ ∀ v, o.data ≠ .cell v) : Inv X (pins ++ pinsAt fp s.heap) σ H s :=
  I.pins_of fun p hp => (List.mem_append.mp hp).elim (fun z => I.pin p (List.mem_append_right _ z)) fun z => by
    obtain ⟨hb, e⟩ := of_pinsAt z
    obtain ⟨f0, f1, f2, _⟩ := hf p.1 hb
    obtain ⟨o, e', d⟩ := ho p.1 hb
    rw [e] at e'; cases e'
    exact ⟨e, f0, f1, f2, d⟩
theorem Inv.unpinned {pins pl : List (Addr × Obj)} {σ : St} {H : Hp} {s : Shared} (I : Inv X (pins ++ pl) σ H s) : Inv X pins σ H s := I.pins_of fun p hp => I.pin p (List.mem_append_right _ (List.mem_append_left _ hp))
theorem ps_for {iter : Expr} {body : List Stmt} {wi : TI} {g : TG} {tb : TS} {pos : Pos} (hp : PassesOwn (model X.prog X.w) X.A X.env X.xe) (hc : X.calm = true) (hi : PI X tg iter wi) (hg : PG X tg g) (hb : PSs X body tb)
    (hs : ∀ x, foldedSetIterable iter X.env x = pure x := by intro _; rfl) : PS X (.For tg iter body [] pos) (tFor wi g tb) := by
  intro pins s σ H D I h
  refine wpAny_For (thn (hi pins s σ H _ I h) fun v s1 h1 => thn h1 fun itv s2 h2 => ?_) hs
  obtain ⟨it, fp, tn, J, H2, e, I2, T, st2, f2, W, ⟨m0, w0⟩, turn⟩ := h2
  subst e
  -- what stays true of the iterator's objects through the loop
  have stat : ∀ {H' : Hp}, (∀ b ∈ fp, H' b = none) → ∀ b ∈ fp, FpOk X pins H' b := fun hn b hb => ⟨hn b hb, (f2 b hb).2⟩
  refine codeAny_forLoop_any (fun n s' => ∃ i σ' H', Inv X pins σ' H' s' ∧ tn i s'.heap ∧ (∀ b ∈ fp, H' b = none) ∧ W i n σ' H') ?_ m0 ⟨0, σ, H2, I2, st2, fun b hb => (f2 b hb).1, w0⟩
  rintro n s3 ⟨i, σ3, H3, I3, st3, fr3, w3⟩
  rcases turn i n σ3 H3 w3 with ⟨stop, qn⟩ | ⟨go, N, hN, step⟩
  · refine wpAny_passesOwn hp (thn (T.done X rfl rfl rfl hc i pins s3 σ3 H3 X.xe I3 (stat fr3) st3 stop) fun r s4 ⟨hr, I4⟩ => ?_)
    subst hr
    exact wpAny_execs_nil ⟨σ3, H3, I4, qn⟩
  · refine wpAny_passesOwn hp (thn (T.item X rfl rfl rfl hc i pins s3 σ3 H3 X.xe I3 (stat fr3) st3 go) fun r s4 ⟨u, hr, h4⟩ => ?_)
    subst hr
    refine wpAny_passesOwn hp (thn h4 fun _ s5 ⟨x, H5, I5, r5, y5, st5, fr5⟩ => ?_)
    have I5' := I5.pinned (stat fr5) (T.obj _ _ st5)
    refine wpAny_passesOwn hp (thn (hg _ s5 σ3 H5 x u _ I5' r5 (step x H5 y5)) fun _ s6 ⟨σ6, H6, I6, q6⟩ => ?_)
    refine wpAny_passesOwn hp (thn (hb _ s6 σ6 H6 _ I6 q6) fun f s7 q7 => ?_)
    have again : ∀ {σ7 : St} {H7 : Hp}, Inv X (pins ++ pinsAt fp s5.heap) σ7 H7 s7 → N σ7 H7 → ∃ m, m < n ∧ ∃ i σ' H', Inv X pins σ' H' s7 ∧ tn i s7.heap ∧ (∀ b ∈ fp, H' b = none) ∧ W i m σ' H' := fun {σ7 H7} I7 n7 => by
      obtain ⟨m', hm, w7⟩ := hN σ7 H7 n7
      refine ⟨m', hm, i + 1, σ7, H7, I7.unpinned, T.keep _ _ _ st5 fun b hb o e => (I7.pin (b, o) (List.mem_append_right _ (List.mem_append_right _ (mem_pinsAt hb e)))).1, fun b hb => ?_, w7⟩
      obtain ⟨o, e, d⟩ := T.obj _ _ st5 b hb
      exact (I7.pin (b, o) (List.mem_append_right _ (List.mem_append_right _ (mem_pinsAt hb e)))).2.1
    cases f with
    | next => obtain ⟨σ7, H7, I7, n7⟩ := q7; exact again I7 n7
    | cont => obtain ⟨σ7, H7, I7, n7⟩ := q7; exact again I7 n7
    | brk => obtain ⟨σ7, H7, I7, q7⟩ := q7; exact ⟨σ7, H7, I7.unpinned, q7⟩
    | ret v => obtain ⟨x7, σ7, H7, I7, r7, q7⟩ := q7; exact ⟨x7, σ7, H7, I7.unpinned, r7, q7⟩
end

/-! ### the forms one uses -/
end L2

namespace L2
open PySem PySem.Spec PyProof.Rows

abbrev R2 := V → V → Hp → VK → Prop
/-- a two-place operation on values: f is binaryOp op, inplaceOp op or compareOp op -/
def OpR (X : Cx) (f : Value → Value → Sem Value) (r : R2) : Prop :=
  ∀ (pins : List (Addr × Obj)) (s : Shared) (σ : St) (H : Hp) (x y : V) (v u : Value) (Q : VK), Inv X pins σ H s → RelV x v → RelV y u → r x y H Q →
    wpAny (model X.prog X.w) X.A (f v u) (EP X pins σ Q) X.xe s
/-- a call of a value that is known (a builtin, a type) with values -/
def CallR (X : Cx) (f : Value) (r : List V → Hp → VK → Prop) : Prop :=
  ∀ (pins : List (Addr × Obj)) (s : Shared) (σ : St) (H : Hp) (xs : List V) (us : List Value) (Q : VK), Inv X pins σ H s → Vals xs us → r xs H Q →
    wpAny (model X.prog X.w) X.A (call f us) (EP X pins σ Q) X.xe s
/-- a value's truth -/
def TruR (X : Cx) (r : V → Hp → (Bool → Hp → Prop) → Prop) : Prop :=
  ∀ (pins : List (Addr × Obj)) (s : Shared) (σ : St) (H : Hp) (x : V) (v : Value) (Q : Bool → Hp → Prop), Inv X pins σ H s → RelV x v → r x H Q →
    wpAny (model X.prog X.w) X.A (truthy v) (TP X pins σ Q) X.xe s

def tOp (r : R2) (ta tb : TE) : TE := fun σ H Q => ta σ H fun x H1 => tb σ H1 fun y H2 => r x y H2 Q
/-- ints in, under C, and a value out -/
def rI (C : Int → Int → Prop) (g : Int → Int → V) : R2 := fun x y H Q => ∃ i j, x = .int i ∧ y = .int j ∧ C i j ∧ Q (g i j) H
def rI0 (g : Int → Int → V) : R2 := fun x y H Q => ∃ i j, x = .int i ∧ y = .int j ∧ Q (g i j) H
section
variable {X : Cx} {a b c : Expr} {ta tb tc : TE} {pos : Pos}

theorem binT (ha : PE X a ta) (hb : PE X b tb) {pins : List (Addr × Obj)} {s : Shared} {σ : St} {H : Hp} {R : V → V → Hp → Prop} (I : Inv X pins σ H s)
    (h : ta σ H fun x H1 => tb σ H1 fun y H2 => R x y H2) {Q : Value → Shared → Prop} {f : Value → Value → Sem Value}
    (hf : ∀ v u s2 x y H2, Inv X pins σ H2 s2 → RelV x v → RelV y u → R x y H2 → wpAny (model X.prog X.w) X.A (f v u) Q X.xe s2) :
    wpAny (model X.prog X.w) X.A (eval a X.env) (fun v s₁ => wpAny (model X.prog X.w) X.A (eval b X.env) (fun u s₂ => wpAny (model X.prog X.w) X.A (f v u) Q X.xe s₂) X.xe s₁) X.xe s := by
  refine thn (ha pins s σ H _ I h) fun v s1 ⟨x, H1, I1, r1, q1⟩ => ?_
  refine thn (hb pins s1 σ H1 _ I1 q1) fun u s2 ⟨y, H2, I2, r2, q2⟩ => ?_
  exact hf v u s2 x y H2 I2 r1 r2 q2

theorem pe_op {op : Operator} {r : R2} (ho : OpR X (binaryOp op) r) (ha : PE X a ta) (hb : PE X b tb) : PE X (.BinOp a op b pos) (tOp r ta tb) := by
  intro pins s σ H Q I h
  exact wpAny_BinOp (binT ha hb I h fun v u s2 x y H2 I2 rx ry q => ho pins s2 σ H2 x y v u Q I2 rx ry q)
/-! ### ints -/
theorem opI {f : Value → Value → Sem Value} {C : Int → Int → Prop} {g : Int → Int → Int}
    (rule : ∀ (i j : Int) (t u : Tok) (s : Shared) (Q : Value → Shared → Prop) (E : Value → Shared → Prop), C i j → Q (.int (g i j) s.toks) { s with toks := s.toks + 1 } → wpAny (model X.prog X.w) X.A (f (.int i t) (.int j u)) Q E s) :
    OpR X f (rI C fun i j => .int (g i j)) := by
  intro pins s σ H x y v u Q I rx ry h
  obtain ⟨i, j, rfl, rfl, hc, q⟩ := h
  obtain ⟨t, rfl⟩ := rx
  obtain ⟨t', rfl⟩ := ry
  exact rule i j t t' s _ _ hc ⟨.int (g i j), H, I.tok _, ⟨_, rfl⟩, q⟩
theorem opI0 {f : Value → Value → Sem Value} {g : Int → Int → Int}
    (rule : ∀ (i j : Int) (t u : Tok) (s : Shared) (Q : Value → Shared → Prop) (E : Value → Shared → Prop), Q (.int (g i j) s.toks) { s with toks := s.toks + 1 } → wpAny (model X.prog X.w) X.A (f (.int i t) (.int j u)) Q E s) :
    OpR X f (rI0 fun i j => .int (g i j)) := by
  intro pins s σ H x y v u Q I rx ry h
  obtain ⟨i, j, rfl, rfl, q⟩ := h
  obtain ⟨t, rfl⟩ := rx
  obtain ⟨t', rfl⟩ := ry
  exact rule i j t t' s _ _ ⟨.int (g i j), H, I.tok _, ⟨_, rfl⟩, q⟩
theorem opB0 {f : Value → Value → Sem Value} {g : Int → Int → Bool}
    (rule : ∀ (i j : Int) (t u : Tok) (s : Shared) (Q : Value → Shared → Prop) (E : Value → Shared → Prop), Q (.bool (g i j)) s → wpAny (model X.prog X.w) X.A (f (.int i t) (.int j u)) Q E s) :
    OpR X f (rI0 fun i j => .bl (g i j)) := by
  intro pins s σ H x y v u Q I rx ry h
  obtain ⟨i, j, rfl, rfl, q⟩ := h
  obtain ⟨t, rfl⟩ := rx
  obtain ⟨t', rfl⟩ := ry
  exact rule i j t t' s _ _ ⟨.bl (g i j), H, I, rfl, q⟩

def CDiv (i j : Int) : Prop := 0 < j ∧ j < 1073741824
def CPow (i j : Int) : Prop := 0 ≤ j ∧ j ≤ 1000000 ∧ i.natAbs < 2 ^ 64
def CMul (i j : Int) : Prop := (-(2 ^ 64) < i ∧ i < 2 ^ 64) ∨ (-(2 ^ 64) < j ∧ j < 2 ^ 64)
theorem CMul.ok {i j : Int} (h : CMul i j) : IntMulOk i j := by
  rcases h with ⟨h1, h2⟩ | ⟨h1, h2⟩
  · exact .of_left (intBits_le_64 h1 h2)
  · exact .of_right (intBits_le_64 h1 h2)
theorem op_add : OpR X (binaryOp .Add) (rI0 fun i j => .int (i + j)) := opI0 fun _ _ _ _ _ _ _ q => add_int q
theorem op_sub : OpR X (binaryOp .Sub) (rI0 fun i j => .int (i - j)) := opI0 fun _ _ _ _ _ _ _ q => sub_int q
theorem op_mul : OpR X (binaryOp .Mult) (rI CMul fun i j => .int (i * j)) := opI fun _ _ _ _ _ _ _ hc q => mul_int q hc.ok
/-- // by a positive divisor -/
theorem op_fdiv : OpR X (binaryOp .FloorDiv) (rI CDiv fun i j => .int (i / j)) := opI fun i j _ _ _ _ _ hc q => by
  have h1 : (0 : Int) < j := hc.1
  have h2 : j < 1073741824 := hc.2
  exact floordiv_int (by omega) (by rw [Int.fdiv_eq_ediv_of_nonneg i (by omega)]; exact q) (.inl (PyProof.noPylong_small (by omega)))
/-- % by a positive divisor of any size -/
theorem op_mod : OpR X (binaryOp .Mod) (rI (fun _ j => 0 < j) fun i j => .int (i % j)) := opI fun i j _ _ _ _ _ hc q => by
  have h1 : (0 : Int) < j := hc
  exact mod_int' (by omega) (by rw [Int.fmod_eq_emod_of_nonneg i (by omega)]; exact q)
theorem op_pow : OpR X (binaryOp .Pow) (rI CPow fun i j => .int (i ^ j.toNat)) := opI fun _ _ _ _ _ _ _ hc q => pow_int_small hc.1 hc.2.1 hc.2.2 q
theorem op_shl : OpR X (binaryOp .LShift) (rI CPow fun i j => .int (i * 2 ^ j.toNat)) := opI fun _ _ _ _ _ _ _ hc q => lshift_int_small hc.1 hc.2.1 hc.2.2 q
/-! ### bools among ints: n += (a < b) -/
end

/-! ### comparisons -/
section
variable {X : Cx} {a b c : Expr} {ta tb tc : TE} {pos : Pos}
theorem fin_bl {pins : List (Addr × Obj)} {σ : St} {H : Hp} {s : Shared} {Q : VK} {k k' : Bool} (I : Inv X pins σ H s) (q : Q (.bl k) H) (e : k = k') : EP X pins σ Q (.bool k') s := by
  subst e
  exact ⟨.bl k, H, I, rfl, q⟩
theorem op_lt : OpR X (compareOp .Lt) (rI0 fun i j => .bl (decide (i < j))) := opB0 fun _ _ _ _ _ _ _ q => lt_int q
theorem op_le : OpR X (compareOp .LtE) (rI0 fun i j => .bl (decide (i ≤ j))) := opB0 fun _ _ _ _ _ _ _ q => le_int q
theorem op_gt : OpR X (compareOp .Gt) (rI0 fun i j => .bl (decide (j < i))) := opB0 fun _ _ _ _ _ _ _ q => gt_int q
theorem op_ge : OpR X (compareOp .GtE) (rI0 fun i j => .bl (decide (j ≤ i))) := opB0 fun _ _ _ _ _ _ _ q => ge_int q
theorem op_notN : OpR X (compareOp .IsNot) (fun x y H Q => y = .non ∧ Q (.bl (!decide (x = .non))) H) := by
  intro pins s σ H x y v u Q I rx ry h
  obtain ⟨rfl, q⟩ := h
  cases ry
  refine isnot_none_gen (fin_bl I q ?_)
  cases x <;> first
    | (cases rx; rfl)
    | (obtain ⟨t, rfl⟩ := rx; rfl)

/-- two rules for one operation: by cases -/
theorem OpR.or {f : Value → Value → Sem Value} {r r' : R2} (h : OpR X f r) (h' : OpR X f r') : OpR X f (fun x y H Q => r x y H Q ∨ r' x y H Q) := by
  intro pins s σ H x y v u Q I rx ry q
  rcases q with q | q
  · exact h pins s σ H x y v u Q I rx ry q
  · exact h' pins s σ H x y v u Q I rx ry q

theorem nomark (b : Expr) {op : CmpOp} (h : op ≠ .In := by decide) (h2 : op ≠ .NotIn := by decide) : behindInMarks op b = false := by
  have e1 : (op == CmpOp.In) = false := by cases op <;> first | rfl | exact absurd rfl h
  have e2 : (op == CmpOp.NotIn) = false := by cases op <;> first | rfl | exact absurd rfl h2
  cases b <;> simp [behindInMarks, e1, e2]
/-- a comparison as a value; hm: nomark b, or (for in, not in) by with_unfolding_all rfl -/
theorem pe_cmpR {op : CmpOp} {r : R2} (ho : OpR X (compareOp op) r) (ha : PE X a ta) (hb : PE X b tb) (hm : behindInMarks op b = false) : PE X (.Compare a [op] [b] pos) (tOp r ta tb) := by
  intro pins s σ H Q I h
  exact wpAny_Compare1 (binT ha hb I h fun v u s2 x y H2 I2 rx ry q => ho pins s2 σ H2 x y v u Q I2 rx ry q) hm
/-- a reading of a value as a test -/
def tTest (t : TE) : TT := fun σ H Q => t σ H fun x H' => ∃ k, x = .bl k ∧ Q k H'
theorem pt_cmpR {op : CmpOp} {r : R2} (ho : OpR X (compareOp op) r) (ha : PE X a ta) (hb : PE X b tb) (hm : behindInMarks op b = false) : PT X (.Compare a [op] [b] pos) (tTest (tOp r ta tb)) := by
  intro pins s σ H Q I h
  refine wpAny_isTrue_Compare1 (thn (ha pins s σ H _ I h) fun v s1 ⟨x, H1, I1, r1, q1⟩ => thn (hb pins s1 σ H1 _ I1 q1) fun u s2 ⟨y, H2, I2, r2, q2⟩ =>
    thn (ho pins s2 σ H2 x y v u _ I2 r1 r2 q2) fun c s3 ⟨z, H3, I3, r3, k, e, q3⟩ => ?_) hm
  subst e
  cases r3
  exact wpAny_truthy_bool ⟨H3, I3, q3⟩
/-- a op1 b op2 c -/
def tChain (r r' : R2) (ta tb tc : TE) : TE := fun σ H Q => ta σ H fun x H1 => tb σ H1 fun y H2 => r x y H2 fun z H3 => ∃ k, z = .bl k ∧
  (if k = true then tc σ H3 fun w' H4 => r' y w' H4 Q else Q (.bl false) H3)
theorem pe_chain {op op' : CmpOp} {r r' : R2} (ho : OpR X (compareOp op) r) (ho' : OpR X (compareOp op') r') (ha : PE X a ta) (hb : PE X b tb) (hc : PE X c tc)
    (hm : lastMarks [op, op'] [b, c] = false := by with_unfolding_all rfl) : PE X (.Compare a [op, op'] [b, c] pos) (tChain r r' ta tb tc) := by
  intro pins s σ H Q I h
  refine Compare_chain (thn (ha pins s σ H _ I h) fun v s1 ⟨x, H1, I1, r1, q1⟩ => chain_link (thn (hb pins s1 σ H1 _ I1 q1) fun u s2 ⟨y, H2, I2, r2, q2⟩ =>
    thn (ho pins s2 σ H2 x y v u _ I2 r1 r2 q2) fun d s3 ⟨z, H3, I3, r3, k, e, q3⟩ => ?_)) hm
  subst e
  cases r3
  refine wpAny_truthy_bool ?_
  cases k with
  | false => exact ite_ff ⟨.bl false, H3, I3, rfl, q3⟩
  | true => exact ite_tt (chain_last (thn (hc pins s3 σ H3 _ I3 q3) fun w' s4 ⟨z', H4, I4, r4, q4⟩ => ho' pins s4 σ H4 y z' u w' Q I4 r2 r4 q4))
theorem pt_chain {op op' : CmpOp} {r r' : R2} (ho : OpR X (compareOp op) r) (ho' : OpR X (compareOp op') r') (ha : PE X a ta) (hb : PE X b tb) (hc : PE X c tc)
    (hm : lastMarks [op, op'] [b, c] = false := by with_unfolding_all rfl) : PT X (.Compare a [op, op'] [b, c] pos) (tTest (tChain r r' ta tb tc)) := by
  intro pins s σ H Q I h
  refine isTrue_chain (thn (ha pins s σ H _ I h) fun v s1 ⟨x, H1, I1, r1, q1⟩ => test_link (thn (hb pins s1 σ H1 _ I1 q1) fun u s2 ⟨y, H2, I2, r2, q2⟩ =>
    thn (ho pins s2 σ H2 x y v u _ I2 r1 r2 q2) fun d s3 ⟨z, H3, I3, r3, k, e, q3⟩ => ?_)) hm
  subst e
  cases r3
  refine wpAny_truthy_bool ?_
  cases k with
  | false =>
    obtain ⟨k', e', q'⟩ := q3
    cases e'
    exact ite_ff ⟨H3, I3, q'⟩
  | true =>
    refine ite_tt (test_last (thn (hc pins s3 σ H3 _ I3 q3) fun w' s4 ⟨z', H4, I4, r4, q4⟩ => thn (ho' pins s4 σ H4 y z' u w' _ I4 r2 r4 q4) fun d' s5 ⟨z2, H5, I5, r5, k2, e2, q5⟩ => ?_))
    subst e2
    cases r5
    exact wpAny_truthy_bool ⟨H5, I5, q5⟩

/-! ### truth -/
/-- a value's truth by the abstract heap -/
def TruV (K : PySem.W.Frag) (x : V) (H : Hp) (k : Bool) : Prop :=
  match x with
  | .non => k = false
  | .bl b => k = b
  | .int i => k = (i != 0)
  | .str y => y.length ≤ sizeLine ∧ k = ((y.length : Int) != 0)
  | .byt y => y.size ≤ sizeLine ∧ k = ((y.size : Int) != 0)
  | .ref p => (∃ xs, SqL K H p xs ∧ k = !xs.isEmpty) ∨ (∃ xs, SqT K H p xs ∧ k = !xs.isEmpty) ∨ ∃ kvs, H p = some (.dK kvs) ∧ k = !kvs.isEmpty
  | _ => False
theorem isEmpty_kv {κ : Type} {kvs : List (κ × V)} {vs : List (κ × Value)} (r : KV kvs vs) : (!vs.isEmpty) = !kvs.isEmpty := by
  cases r <;> rfl
theorem isEmpty_of {xs : List V} {its : List Value} (r : Vals xs its) : (!its.toArray.isEmpty) = !xs.isEmpty := by
  cases r <;> simp
theorem line63 : (sizeLine : Nat) < 2 ^ 63 := by rw [sizeLine_eq]; decide
theorem tru_ok : TruR X (fun x H Q => ∃ k, TruV X.K x H k ∧ Q k H) := by
  intro pins s σ H x v Q I rx h
  obtain ⟨k, e, q⟩ := h
  have hl := line63
  have hs : sizeLine = 16777216 := sizeLine_eq
  cases x with
  | non =>
    cases rx
    have e' : k = false := e
    subst e'
    exact truthy_none ⟨H, I, q⟩
  | bl b =>
    cases rx
    have e' : k = b := e
    subst e'
    exact wpAny_truthy_bool ⟨H, I, q⟩
  | int i =>
    obtain ⟨t, rfl⟩ := rx
    have e' : k = (i != 0) := e
    subst e'
    exact PySem.P.truthy_int ⟨H, I, q⟩
  | str y =>
    obtain ⟨t, rfl⟩ := rx
    obtain ⟨hy, e'⟩ : y.length ≤ sizeLine ∧ k = ((y.length : Int) != 0) := e
    subst e'
    exact PySem.P.truthy_str (by omega) ⟨H, I.tok _, q⟩
  | byt y =>
    obtain ⟨t, rfl⟩ := rx
    obtain ⟨hy, e'⟩ : y.size ≤ sizeLine ∧ k = ((y.size : Int) != 0) := e
    subst e'
    exact PySem.W.truthy_bytes (by omega) ⟨H, I.tok _, q⟩
  | ref p =>
    cases rx
    have e' : (∃ xs, SqL X.K H p xs ∧ k = !xs.isEmpty) ∨ (∃ xs, SqT X.K H p xs ∧ k = !xs.isEmpty) ∨ ∃ kvs, H p = some (.dK kvs) ∧ k = !kvs.isEmpty := e
    rcases e' with ⟨xs, hx, e'⟩ | ⟨xs, hx, e'⟩ | ⟨kvs, hx, e'⟩
    · subst e'
      obtain ⟨its, r, pl, hz⟩ := I.list hx
      have hlen := r.length
      exact wpAny_truthy_list pl.isList (by simp only [List.size_toArray]; omega) ⟨H, I.tok _, by rw [isEmpty_of r]; exact q⟩
    · subst e'
      obtain ⟨its, r, pl, hz⟩ := I.tuple hx
      have hlen := r.length
      exact truthy_tuple pl (by simp only [List.size_toArray]; omega) ⟨H, I.tok _, by rw [isEmpty_of r]; exact q⟩
    · subst e'
      obtain ⟨hz, hS, vs, r, m⟩ : kvs.length ≤ sizeLine ∧ (p == sysModules) = false ∧ ∃ vs, KV kvs vs ∧ s.heap.DictOf (mixKind X.prog X.w) p vs := I.hok p _ hx
      have hlen : kvs.length = vs.length := Paired.length r
      exact wpAny_truthy_dict hS m (by omega) ⟨H, I.tok _, by rw [isEmpty_kv r]; exact q⟩
  | _ => exact (show False from e).elim
/-- any expression whose test is its value's truth (a name, a call, a subscript, a field ..: he by fun _ => rfl) -/
theorem pt_truth (ha : PE X a ta) (he : ∀ whole, isTrue a X.env whole = (do let v ← whole; standAt a.pos; holding [v] (truthy v))) :
    PT X a (fun σ H Q => ta σ H fun x H' => ∃ k, TruV X.K x H' k ∧ Q k H') := by
  intro pins s σ H Q I h
  exact isTrue_plain (thn (ha pins s σ H _ I h) fun v s1 ⟨x, H1, I1, r1, q1⟩ => tru_ok pins s1 σ H1 x v Q I1 r1 q1) (he _)

/-! ### strs and bytes -/
theorem op_add_str : OpR X (binaryOp .Add) (fun x y H Q => ∃ i j, x = .str i ∧ y = .str j ∧ i.length + j.length ≤ sizeLine ∧ Q (.str (i ++ j)) H) := by
  intro pins s σ H x y v u Q I rx ry h
  obtain ⟨i, j, rfl, rfl, hz, q⟩ := h
  obtain ⟨t, rfl⟩ := rx
  obtain ⟨t', rfl⟩ := ry
  exact add_str (fun t' tk => ⟨.str (i ++ j), H, I.tok _, ⟨_, rfl⟩, q⟩) hz
/-! ### scalar builtins, by CallR -/
theorem vals1 {x : V} {us : List Value} (r : Vals [x] us) : ∃ u, us = [u] ∧ RelV x u := by
  cases r with
  | cons r1 r2 => cases r2; exact ⟨_, rfl, r1⟩
theorem vals2 {x y : V} {us : List Value} (r : Vals [x, y] us) : ∃ u w', us = [u, w'] ∧ RelV x u ∧ RelV y w' := by
  cases r with
  | cons r1 r2 =>
    cases r2 with
    | cons r3 r4 => cases r4; exact ⟨_, _, rfl, r1, r3⟩
theorem call_int1 : CallR X (.type "int") (fun xs H Q => (∃ i, xs = [.int i] ∧ Q (.int i) H) ∨ ∃ k, xs = [.bl k] ∧ Q (.int (if k then 1 else 0)) H) := by
  intro pins s σ H xs us Q I r h
  rcases h with ⟨i, rfl, q⟩ | ⟨k, rfl, q⟩
  · obtain ⟨u, rfl, t, rfl⟩ := vals1 r
    exact call_int_int ⟨.int i, H, I, ⟨_, rfl⟩, q⟩
  · obtain ⟨u, rfl, r1⟩ := vals1 r
    cases r1
    exact call_int_bool ⟨.int (if k then 1 else 0), H, I.tok _, ⟨_, rfl⟩, q⟩
end
end L2

namespace L2
open PySem PySem.Spec PyProof.Rows

/-! ### an instance, its attributes a map -/
structure ObjM (h : Heap) (x dx C : Addr) (mA : Str → Option Value) : Prop where
  obj : h.get? x = some (PySem.W.instObj C dx)
  ns : h.Ns1 dx mA
  ne : dx ≠ x

theorem lookIn_ns {h : Heap} {dx : Addr} {mA : Str → Option Value} (n : h.Ns1 dx mA) : ∃ od, h.get? dx = some od ∧ ∀ name, PySem.W.lookIn name od = some (mA name) := by
  obtain ⟨o, es, ep, ho, hd, hk, _, hm⟩ := n
  refine ⟨o, ho, fun name => ?_⟩
  have e := hm name
  unfold nsFind findBy at e
  rw [← Array.find?_toList] at e
  unfold PySem.W.lookIn
  rw [hd]
  dsimp only
  split
  · rename_i y q
    rw [q] at e
    exact congrArg some e
  · rename_i q
    rw [q] at e
    have a : es.toList.any (·.refKey) = false := by
      rw [List.any_eq_false]
      intro y hy
      obtain ⟨z, t, hkey⟩ := hk y (Array.mem_toList_iff.mp hy)
      simp [DictEntry.refKey, hkey]
    have a' : ¬ es.toList.any (·.refKey) = true := by rw [a]; exact Bool.false_ne_true
    rw [if_neg a']
    exact congrArg some e

theorem ObjM.look {h : Heap} {x dx C : Addr} {mA : Str → Option Value} (I : ObjM h x dx C mA) : ∃ od, PySem.W.InstAt h x (PySem.W.instObj C dx) C (some od) ∧ ∀ name, PySem.W.lookIn name od = some (mA name) :=
  let ⟨od, ho, hl⟩ := lookIn_ns I.ns
  ⟨od, ⟨I.obj, rfl, rfl, ho⟩, hl⟩

section
variable {prog : Program} {w : World} {A : Around} {E : Value → Shared → Prop} {s : Shared} {K : PySem.W.Frag} {x dx C f : Addr} {mA : Str → Option Value} {name : Str} {v : Value}

end

/-! ### the attributes as a list of pairs -/
theorem RelO.none_of {o : Option Value} (r : RelO none o) : o = none := by
  cases o with
  | none => rfl
  | some u => exact (show False from r).elim
section
variable {P : Program} {w : World} {H H' : Hp} {h h' : Heap} {a C dx : Addr} {fs fs' : List (Str × V)}
theorem ins_get (hok : HOk P w H h) (e : H a = some (.ins C dx fs)) : ∃ mA, ObjM h a dx C mA ∧ (∀ f, RelO (fs.lookup f) (mA f)) ∧ PySem.Within mA (fs.map (·.1)) ∧ fs.length ≤ 1000 ∧ H dx = some (.own a) := by
  obtain ⟨d, z, ne, ob, mA, n, r, q⟩ := (show ObjOk P w H h a (.ins C dx fs) from hok a _ e)
  exact ⟨mA, ⟨ob, n, ne⟩, r, q, z, d⟩
end

/-! ### what of the text a class must have -/
structure Cls (K : PySem.W.Frag) (C : Addr) : Prop where
  pg : PySem.W.plainGet K C Str.empty = true
  hd : PySem.W.hasDictIn K C = true
  po : PySem.W.plainOver K C = true
  sa : PySem.W.findIn K (.ref C) "__setattr__" = some (some (.builtin "object.__setattr__"))
theorem Cls.get {K : PySem.W.Frag} {C : Addr} (c : Cls K C) (f : Str) : PySem.W.plainGet K C f = true := c.pg
/-- a constant of the class -/
structure Con (K : PySem.W.Frag) (C : Addr) (f : Str) (v : V) (u : Value) : Prop where
  at_ : PySem.W.findIn K (.ref C) f = some (some u)
  rel : RelV v u
  get : PySem.W.specialIn K u "__get__" = some none
  cp : PySem.W.copiedNames.contains f = false
/-- a method: a plain def of the class or of one above it -/
structure Meth (K : PySem.W.Frag) (C : Addr) (m : Str) (f : Addr) : Prop where
  at_ : PySem.W.findIn K (.ref C) m = some (some (.ref f))
  fn : PySem.W.isFn K (.ref f) = true
  kp : PySem.W.keepIn K (.ref f) = true

section
variable {X : Cx} {pins : List (Addr × Obj)} {σ : St} {H : Hp} {s : Shared} {a C dx : Addr} {fs : List (Str × V)} {f : Str} {v : V} {A : Around} {E : Value → Shared → Prop}

/-- a new instance, tracked, without attributes -/
theorem Inv.made (I : Inv X pins σ H s) : Inv X pins σ (upd (upd H s.heap.objs.size (.own (s.heap.objs.size + 1))) (s.heap.objs.size + 1) (.ins C s.heap.objs.size []))
    { s with heap := (s.heap.push PySem.W.emptyDict).push (PySem.W.instObj C s.heap.objs.size) } := by
  have e1 : (s.heap.push PySem.W.emptyDict).get? s.heap.objs.size = some PySem.W.emptyDict := Heap.get?_push_size s.heap rfl
  have e2 : ((s.heap.push PySem.W.emptyDict).push (PySem.W.instObj C s.heap.objs.size)).get? (s.heap.objs.size + 1) = some (PySem.W.instObj C s.heap.objs.size) := by
    have := Heap.get?_push_size (s.heap.push PySem.W.emptyDict) (o := PySem.W.instObj C s.heap.objs.size) rfl
    rwa [Heap.size_push] at this
  have e3 : (s.heap.push PySem.W.emptyDict).Ns s.heap.objs.size (fun _ => none) := ⟨PySem.W.emptyDict, #[], _, e1, rfl, (fun e he => absurd he (by simp)), fun _ => rfl⟩
  have I1 := I.laid (a := s.heap.objs.size) (o := .own (s.heap.objs.size + 1)) (h' := s.heap.push PySem.W.emptyDict) (t' := s.toks) (fun b u q => Heap.get?_push_of_some _ q) (Nat.le_refl _) ⟨_, e1⟩
  refine I1.laid (a := s.heap.objs.size + 1) (o := .ins C s.heap.objs.size []) (t' := s.toks) (fun b u q => Heap.get?_push_of_some _ q) (Nat.le_of_eq (Heap.size_push _ _)) ?_
  have ne : s.heap.objs.size ≠ s.heap.objs.size + 1 := Nat.ne_of_lt (Nat.lt_succ_self _)
  refine ⟨by rw [upd_ne ne, upd_same], Nat.zero_le _, ne, e2, fun _ => none, (Heap.Ns1.of_empty e3).at fun o q => Heap.get?_push_of_some _ q, fun _ => True.intro, fun y hy => absurd rfl hy⟩

end

/-! ### readings and rules -/
section
variable {X : Cx} {o e value : Expr} {f : Str} {pos pos' tpos : Pos} {ta tv : TE}
end

/-! ### isinstance -/
section
variable {X : Cx} {pins : List (Addr × Obj)} {σ : St} {H : Hp} {s : Shared} {A : Around} {E : Value → Shared → Prop} {Q : Value → Shared → Prop} {c : Value} {b : Bool}
/-- the type of a value, as the fragment's deciders take it; for an instance its class -/
inductive TyOf (K : PySem.W.Frag) (H : Hp) : V → Value → Prop where
  | non : TyOf K H .non (.type "NoneType")
  | bl (x : Bool) : TyOf K H (.bl x) (.type "bool")
  | int (i : Int) : TyOf K H (.int i) (.type "int")
  | str (x : Str) : TyOf K H (.str x) (.type "str")
  | flt (x : UInt64) : TyOf K H (.flt x) (.type "float")
  | lst {a : Addr} {xs : List V} (e : H a = some (.lst xs)) : TyOf K H (.ref a) (.type "list")
  | frz {a : Addr} {o : Obj} {xs : List V} (e : H a = some (.frz o (.lst xs))) : TyOf K H (.ref a) (.type "list")
  | tup {a : Addr} {xs : List V} (e : H a = some (.tup xs)) : TyOf K H (.ref a) (.type "tuple")
  | dK {a : Addr} {kvs : List (Key × V)} (e : H a = some (.dK kvs)) : TyOf K H (.ref a) (.type "dict")
  | dT {a : Addr} {kvs : List (List Key × V)} (e : H a = some (.dT kvs)) : TyOf K H (.ref a) (.type "dict")
  | ins {a C dx : Addr} {fs : List (Str × V)} (e : H a = some (.ins C dx fs)) (cl : Cls K C) (ha : PySem.W.findIn K (.ref C) "__class__" = some (some (.builtin "object.__class__")))
      (hn : PySem.W.specialIn K (.builtin "object.__class__") "__get__" = some (some (.builtin "getset_descriptor.__get__"))) (htk : PySem.W.takesIn K (.builtin "object.__class__") = some true)
      (hm : PySem.W.mroIn K C (.type "object") = some true) : TyOf K H (.ref a) (.ref C)
/-- isinstance(x, c) for one class c, a built-in or an own one: kitOne's answer -/
theorem isinst_ok {x : V} {u t : Value} (I : Inv X pins σ H s) (rx : RelV x u) (ty : TyOf X.K H x t) (e : PySem.W.kitOne X.K t c = some b) (h : ∀ tk, Q (.bool b) { s with toks := tk }) :
    wpAny (model X.prog X.w) A (call (.builtin "isinstance") [u, c]) Q E s := by
  cases ty with
  | non => cases (show u = Value.none from rx); exact PySem.W.kia_one PySem.W.kitx_none I.kIn True.intro e (fun z => nomatch z) h
  | bl y => cases (show u = Value.bool y from rx); exact PySem.W.kia_one PySem.W.kitx_bool I.kIn True.intro e (fun z => nomatch z) h
  | int i => obtain ⟨t, q⟩ := (show ∃ t, u = Value.int i t from rx); cases q; exact PySem.W.kia_one PySem.W.kitx_int I.kIn True.intro e (fun z => nomatch z) h
  | str y => obtain ⟨t, q⟩ := (show ∃ t, u = Value.str y t from rx); cases q; exact PySem.W.kia_one PySem.W.kitx_str I.kIn True.intro e (fun z => nomatch z) h
  | flt y => obtain ⟨t, q⟩ := (show ∃ t, u = Value.float y t from rx); cases q; exact PySem.W.kia_one PySem.W.kitx_float I.kIn True.intro e (fun z => nomatch z) h
  | @lst a xs ea =>
    cases (show u = Value.ref a from rx)
    obtain ⟨_, _, n, _, h1⟩ := (show ObjOk X.prog X.w H s.heap a (.lst xs) from I.hok a _ ea)
    exact PySem.W.kia_one PySem.W.kitx_list I.kIn ⟨_, h1, rfl⟩ e (fun z => nomatch z) h
  | @frz a ob xs ea =>
    cases (show u = Value.ref a from rx)
    obtain ⟨_, _, _, n, _, h1⟩ := (show ObjOk X.prog X.w H s.heap a (.frz ob (.lst xs)) from I.hok a _ ea)
    exact PySem.W.kia_one PySem.W.kitx_list I.kIn ⟨_, h1, rfl⟩ e (fun z => nomatch z) h
  | @tup a xs ea =>
    cases (show u = Value.ref a from rx)
    obtain ⟨_, _, _, p⟩ := (show ObjOk X.prog X.w H s.heap a (.tup xs) from I.hok a _ ea)
    obtain ⟨o, h1, h2, _⟩ := p
    exact PySem.W.kia_one PySem.W.kitx_tuple I.kIn ⟨o, h1, h2⟩ e (fun z => nomatch z) h
  | @dK a kvs ea =>
    cases (show u = Value.ref a from rx)
    obtain ⟨_, _, vs, _, p⟩ := (show ObjOk X.prog X.w H s.heap a (.dK kvs) from I.hok a _ ea)
    obtain ⟨o, es, ep, h1, h2, _⟩ := p
    exact PySem.W.kia_one PySem.W.kitx_dict I.kIn ⟨o, h1, h2.1⟩ e (fun z => nomatch z) h
  | @dT a kvs ea =>
    cases (show u = Value.ref a from rx)
    obtain ⟨_, _, xs, _, o, es, ep, h1, h2, _⟩ := (show ObjOk X.prog X.w H s.heap a (.dT kvs) from I.hok a _ ea)
    exact PySem.W.kia_one PySem.W.kitx_dict I.kIn ⟨o, h1, h2.1⟩ e (fun z => nomatch z) h
  | @ins a C dx fs ea cl ha hn htk hm =>
    cases (show u = Value.ref a from rx)
    obtain ⟨mA, O, _⟩ := ins_get I.hok ea
    obtain ⟨od, J, _⟩ := O.look
    exact PySem.W.kia_one (PySem.W.kitx_own (cl.get _) cl.hd ha hn htk hm) I.kIn J e (fun z => nomatch z) h
end
end L2

namespace L2
open PySem PySem.Spec PyProof.Rows

/-! ### room -/
structure Room (k : Nat) (A : Around) : Prop where
  hd : A.handled = none
  dp : A.depth + 3 * k + 5 < recursionLimit
  un : A.units + 16 * k + 200 < cLine
theorem Room.mono {j k : Nat} {A : Around} (r : Room k A) (h : j ≤ k) : Room j A := ⟨r.hd, by have := r.dp; omega, by have := r.un; omega⟩
theorem Room.deeper {k : Nat} {A : Around} (r : Room (k + 1) A) (env : Env) : Room k (A.deeper env) :=
  ⟨r.hd, by have := r.dp; show A.depth + 1 + 3 * k + 5 < _; omega, by have := r.un; show A.units + 3 + 16 * k + 200 < _; omega⟩
theorem Room.in1 {k : Nat} {A : Around} (r : Room (k + 1) A) : Room k A.in1 :=
  ⟨r.hd, by have := r.dp; show A.depth + 3 * k + 5 < _; omega, by have := r.un; show A.units + 1 + 16 * k + 200 < _; omega⟩
theorem make_depth {A : Around} {C : Addr} {us : List Value} {kw : List (Str × Value)} : (A.under (.builtin "type.__call__" ⟨.ref C :: us, kw⟩)).depth = A.depth + 1 := by
  first | rfl | simp [Around.under, Code.weight, Code.isCreation, Code.isGuard, Code.isCaller, Code.frames, Code.isFrame, guardIds]
theorem make_units {A : Around} {C : Addr} {us : List Value} {kw : List (Str × Value)} : (A.under (.builtin "type.__call__" ⟨.ref C :: us, kw⟩)).units = A.units + 1 := by
  first | rfl | simp [Around.under, Code.cUnits, Code.frames, Code.isFrame]
theorem Room.make {k : Nat} {A : Around} (r : Room (k + 1) A) (C : Addr) (us : List Value) (kw : List (Str × Value)) : Room k (A.under (.builtin "type.__call__" ⟨.ref C :: us, kw⟩)) :=
  ⟨r.hd, by have := r.dp; rw [make_depth]; omega, by have := r.un; rw [make_units]; omega⟩
theorem Room.depth {k : Nat} {A : Around} (r : Room k A) : A.depth < recursionLimit := by have := r.dp; omega
theorem Room.units {k : Nat} {A : Around} (r : Room k A) : A.units + 64 < cLine := by have := r.un; omega
/-! ### argument lists and displays -/
def tNil : TA := fun _ H Q => Q [] H
def tCons (ta : TE) (tr : TA) : TA := fun σ H Q => ta σ H fun x H1 => tr σ H1 fun xs H2 => Q (x :: xs) H2
section
variable {X : Cx} {e : Expr} {es : List Expr} {te : TE} {t : TA} {pos : Pos}
theorem pa_nil : PA X [] tNil := fun _ _ _ _ H Q I h => Calls.spliced_nil ⟨[], H, I, .nil, h⟩
theorem pa_cons (ha : PE X e te) (hr : PA X es t) (hs : starEach (e :: es) X.env = (false, eval e X.env) :: starEach es X.env := by rfl) : PA X (e :: es) (tCons te t) := by
  intro pos pins s σ H Q I h
  rw [hs]
  show wpAny _ _ (spliced ((false, eval e X.env) :: backTo pos (starEach es X.env))) _ _ s
  refine Calls.spliced_cons (thn (ha pins s σ H _ I h) fun u s1 ⟨x, H1, I1, r1, q1⟩ => ?_)
  exact thn (hr pos pins s1 σ H1 _ I1 q1) fun us s2 ⟨xs, H2, I2, r2, q2⟩ => ⟨x :: xs, H2, I2, .cons r1 r2, q2⟩

/-- a tuple, a list of written items -/
def tTup (t : TA) : TE := fun σ H Q => t σ H fun xs H1 => xs.length ≤ sizeLine ∧ ∀ p, H1 p = none → Q (.ref p) (upd H1 p (.tup xs))
def tLst (t : TA) : TE := fun σ H Q => t σ H fun xs H1 => xs.length ≤ sizeLine ∧ ∀ p, H1 p = none → Q (.ref p) (upd H1 p (.lst xs))
theorem pe_tup {x1} (h : PA X es t) : PE X (.Tuple es x1 pos) (tTup t) := by
  intro pins s σ H Q I hq
  refine wpAny_Tuple_spliced (thn (h pos pins s σ H _ I hq) fun us s1 ⟨xs, H1, I1, r, z, q⟩ => ⟨by rw [← r.length]; exact z, ?_⟩)
  have hf : H1 s1.heap.objs.size = none := I1.hok.fresh (Nat.le_refl _)
  refine ⟨.ref s1.heap.objs.size, upd H1 s1.heap.objs.size (.tup xs), I1.laid (t' := s1.toks) (fun b u e => Heap.get?_push_of_some _ e) (Nat.le_refl _) ?_, rfl, q _ hf⟩
  exact ⟨z, us, r, ⟨_, Heap.get?_push_size _ rfl, rfl, _, rfl⟩⟩
theorem pe_lst (h : PA X es t) : PE X (.List es pos) (tLst t) := by
  intro pins s σ H Q I hq
  refine wpAny_List_spliced (thn (h pos pins s σ H _ I hq) fun us s1 ⟨xs, H1, I1, r, z, q⟩ => ⟨by rw [← r.length]; exact z, ?_⟩)
  have hf : H1 s1.heap.objs.size = none := I1.hok.fresh (Nat.le_refl _)
  refine ⟨.ref s1.heap.objs.size, upd H1 s1.heap.objs.size (.lst xs), I1.laid (t' := s1.toks) (fun b u e => Heap.get?_push_of_some _ e) (Nat.le_refl _) ?_, rfl, q _ hf⟩
  exact ⟨z, us, 0, r, Heap.get?_push_size _ rfl⟩
end

/-! ### what a def promises -/
/-- a def's promise: the bound arguments in the parameters' order, the heap, the wanted end, the wanted exception -/
abbrev Sp := List V → Hp → VK → XK → Prop
/-- how an exception lies behind a call (file 08 gives it): the callers' frames, abstract heap and state ahead of the call, the wish, the exception, the state -/
abbrev CXT := List Env → Hp → Shared → XK → Value → Shared → Prop

/-- the state at a call -/
structure Env0 (P : Program) (w : World) (K : PySem.W.Frag) (mg : Str → Option Value) (base : Heap) (A : Around) (outer : List Env) (s : Shared) (H : Hp) : Prop where
  frames : A.frames = some outer
  mod : Mod K mg base
  bs : ∀ b o, base.get? b = some o → s.heap.get? b = some o ∧ H b = none
  bsz : base.objs.size ≤ s.heap.objs.size
  funs : s.heap.FunFrames base outer
  frf : ∀ b ∈ frs outer, H b = none
  hok : HOk P w H s.heap
  bare : AllBare s.gens
/-- a call's end -/
def CE (outer : List Env) (P : Program) (w : World) (H : Hp) (s : Shared) (Q : VK) (u : Value) (s' : Shared) : Prop :=
  ∃ v H', s'.os = s.os ∧ AllBare s'.gens ∧ Un (frs outer) [] H H' s.heap s'.heap ∧ HOk P w H' s'.heap ∧ RelV v u ∧ Q v H'
def CR (CX : CXT) (outer : List Env) (P : Program) (w : World) (H : Hp) (s : Shared) (Q : VK) (E : XK) (r : Result) (s' : Shared) : Prop :=
  match r with
  | .ok (.ret u) => CE outer P w H s Q u s'
  | .ok _ => False
  | .error e => CX outer H s E e s'
structure FnOk (P : Program) (w : World) (K : PySem.W.Frag) (mg : Str → Option Value) (base : Heap) (CX : CXT) (k : Nat) (f : Addr) (fd : FuncData) (ps : List Str) (sp : Sp) : Prop where
  len : ∀ vs H Q E, sp vs H Q E → vs.length = ps.length
  run : ∀ (A : Around) (outer : List Env) (s : Shared) (H : Hp) (args : Args) (us : List Value) (vs : List V) (Q : VK) (E : XK), Room k A → Env0 P w K mg base A outer s H → BindsTo s fd args (ps.zip us) → Vals vs us → sp vs H Q E →
    codeAny (model P w) A (.call (.ref f) args) (CR CX outer P w H s Q E) s
theorem FnOk.mono {P : Program} {w : World} {K : PySem.W.Frag} {mg : Str → Option Value} {base : Heap} {CX : CXT} {j k : Nat} {f : Addr} {fd : FuncData} {ps : List Str} {sp : Sp} (F : FnOk P w K mg base CX j f fd ps sp) (h : j ≤ k) :
    FnOk P w K mg base CX k f fd ps sp := ⟨F.len, fun A outer s H args us vs Q E hr => F.run A outer s H args us vs Q E (hr.mono h)⟩
/-- a weaker promise -/
theorem FnOk.imp {P : Program} {w : World} {K : PySem.W.Frag} {mg : Str → Option Value} {base : Heap} {CX : CXT} {k : Nat} {f : Addr} {fd : FuncData} {ps : List Str} {sp sp' : Sp} (F : FnOk P w K mg base CX k f fd ps sp)
    (h : ∀ vs H Q E, sp' vs H Q E → sp vs H Q E) : FnOk P w K mg base CX k f fd ps sp' :=
  ⟨fun vs H Q E q => F.len vs H Q E (h _ _ _ _ q), fun A outer s H args us vs Q E hr he hb hv hs => F.run A outer s H args us vs Q E hr he hb hv (h _ _ _ _ hs)⟩

theorem Env0.make {P : Program} {w : World} {K : PySem.W.Frag} {mg : Str → Option Value} {base : Heap} {A : Around} {outer : List Env} {s : Shared} {H : Hp} (e : Env0 P w K mg base A outer s H) (C : Addr) (us : List Value) (kw : List (Str × Value)) :
    Env0 P w K mg base (A.under (.builtin "type.__call__" ⟨.ref C :: us, kw⟩)) outer s H := ⟨by first | exact e.frames | (simpa [Around.under, Code.envs, Code.isFrame, pushEnvs] using e.frames), e.mod, e.bs, e.bsz, e.funs, e.frf, e.hok, e.bare⟩
theorem Env0.in1 {P : Program} {w : World} {K : PySem.W.Frag} {mg : Str → Option Value} {base : Heap} {A : Around} {outer : List Env} {s : Shared} {H : Hp} (e : Env0 P w K mg base A outer s H) :
    Env0 P w K mg base A.in1 outer s H := ⟨e.frames, e.mod, e.bs, e.bsz, e.funs, e.frf, e.hok, e.bare⟩

section
variable {X : Cx} {pins : List (Addr × Obj)} {σ : St} {H : Hp} {s s' : Shared}
/-- from a body: what a callee wants -/
theorem Inv.env0 (I : Inv X pins σ H s) : Env0 X.prog X.w X.K X.mg X.base X.A X.stack s H :=
  ⟨I.ok.frames, I.ok.mod, I.bs, Nat.le_trans I.ok.bsz I.sz, I.stack, I.stkFree, I.hok, I.bare⟩
/-- behind a call -/
theorem Inv.after {Q : VK} {u : Value} (I : Inv X pins σ H s) (h : CE X.stack X.prog X.w H s Q u s') : EP X pins σ Q u s' := by
  obtain ⟨v, H', os, bare, un, hok, r, q⟩ := h
  obtain ⟨hh, g, d, t, os'⟩ := s'
  obtain rfl : os' = s.os := os
  exact ⟨v, H', I.call (h' := hh) (g' := g) (d' := d) (t' := t) (ch := []) un hok bare (fun b z => absurd z (by simp)), r, q⟩
end

/-! ### calls -/
/-- f(..): the written arguments, then the defaults dvs; E: what is wanted of an exception -/
def tCall (sp : Sp) (dvs : List V) (E : XK) (t : TA) : TE := fun σ H Q => t σ H fun vs H1 => sp (vs ++ dvs) H1 Q E
/-- how the parameters are bound: us the positional arguments, kw the keywords' values by name, ds the defaults that fill up -/
def Binds (K : PySem.W.Frag) (fd : FuncData) (ps : List Str) (ds : List Value) : Prop :=
  ∀ (s : Shared) (us : List Value), K.In s.heap → (us ++ ds).length = ps.length → BindsTo s fd ⟨us, []⟩ (ps.zip (us ++ ds))
/-- every parameter is given -/
theorem Binds.all {K : PySem.W.Frag} {fd : FuncData} {ps : List Str} (h : ∀ us : List Value, us.length = ps.length → bindArgs fd ⟨us, []⟩ = pure (ps.zip us)) : Binds K fd ps [] := fun s us _ hl => by
  rw [List.append_nil] at hl ⊢
  exact .of_eq (h us hl)

/-- an exception of a callee reaches what this body wants of exceptions -/
def Passes (CX : CXT) (X : Cx) (E : XK) : Prop := ∀ (pins : List (Addr × Obj)) (σ : St) (H : Hp) (s : Shared) (e : Value) (s' : Shared), Inv X pins σ H s → CX X.stack H s E e s' → X.xe e s'

section
variable {X : Cx} {CX : CXT} {k : Nat} {f C : Addr} {fd : FuncData} {ps : List Str} {sp : Sp} {dvs : List V} {ds : List Value} {E : XK} {x m : Str} {p pos apos : Pos} {e o : Expr} {es : List Expr} {ta : TE} {t : TA}

/-- the callee runs -/
theorem run_fn {pins : List (Addr × Obj)} {σ : St} {H : Hp} {s : Shared} {Q : VK} {us : List Value} {vs : List V} (F : FnOk X.prog X.w X.K X.mg X.base CX k f fd ps sp) (hr : Room k X.A) (hb : Binds X.K fd ps ds) (hd : Vals dvs ds) (hx : Passes CX X E)
    (I : Inv X pins σ H s) (r : Vals vs us) (h : sp (vs ++ dvs) H Q E) : wpAny (model X.prog X.w) X.A (call (.ref f) us) (EP X pins σ Q) X.xe s := by
  have r2 : Vals (vs ++ dvs) (us ++ ds) := r.append hd
  have hl : (us ++ ds).length = ps.length := by rw [← r2.length]; exact F.len _ _ _ _ h
  refine wpAny_call (codeAny_mono (F.run X.A X.stack s H ⟨us, []⟩ (us ++ ds) (vs ++ dvs) Q E hr I.env0 (hb s us I.kIn hl) r2 h) fun r s' hq => ?_)
  cases r with
  | error e => exact hx pins σ H s e s' I hq
  | ok fl =>
    cases fl with
    | ret u => exact I.after hq
    | next => exact False.elim hq
    | brk => exact False.elim hq
    | cont => exact False.elim hq

theorem pe_call (F : FnOk X.prog X.w X.K X.mg X.base CX k f fd ps sp) (hr : Room k X.A) (hg : Gl X x) (hm : X.mg x = some (.ref f)) (hk : PySem.W.keepIn X.K (.ref f) = true) (hb : Binds X.K fd ps ds) (hd : Vals dvs ds) (hx : Passes CX X E)
    (ha : PA X (e :: es) t) (hdb : (x == ("__debug__" : Str)) = false := by decide) (he : starEach (e :: es) X.env = (false, eval e X.env) :: starEach es X.env := by rfl) (hpl : (backTo pos (starEach es X.env)).any (·.1) = false := by rfl) :
    PE X (.Call (.Name x p) (e :: es) [] pos) (tCall sp dvs E t) := by
  intro pins s σ H Q I h
  refine wpAny_Call_Name_kw (ld_glob I hg hm ?_ hdb)
  refine PySem.W.callWith_K (h₀ := X.base) I.ok.mod.kin hk (thn (ha pos pins s σ H _ I h) fun us s1 ⟨vs, H1, I1, r, q⟩ => ⟨I1.kIn, ?_⟩) he hpl
  exact run_fn F hr hb hd hx I1 r q
/-- what a class must have to be made -/
structure Mk (K : PySem.W.Frag) (C f : Addr) : Prop where
  makes : PySem.W.makesIn K C = true
  init : PySem.W.findIn K (.ref C) "__init__" = some (some (.ref f))
  fn : PySem.W.isFn K (.ref f) = true
  kp : PySem.W.keepIn K (.ref C) = true

end

/-! ### keywords -/
section
variable {X : Cx} {CX : CXT} {k : Nat} {f C : Addr} {fd : FuncData} {ps ks : List Str} {sp : Sp} {E : XK} {x m : Str} {p pos apos kpos : Pos} {e o : Expr} {es : List Expr} {kws : List Keyword} {te ta : TE} {t tk : TA} {nm : Option Str}
/-- how a call with keywords binds: g puts the positional values us and the keywords' values ws (names ks) in the parameters' order, defaults among them -/
structure KBinds (K : PySem.W.Frag) (fd : FuncData) (ps ks : List Str) (g : List Value → List Value → List Value) (gV : List V → List V → List V) : Prop where
  to : ∀ (s : Shared) (us ws : List Value), K.In s.heap → (g us ws).length = ps.length → BindsTo s fd ⟨us, ks.zip ws⟩ (ps.zip (g us ws))
  rel : ∀ {vs : List V} {us : List Value} {zs : List V} {ws : List Value}, Vals vs us → Vals zs ws → Vals (gV vs zs) (g us ws)
variable {g : List Value → List Value → List Value} {gV : List V → List V → List V}
end

/-! ### a def's body keeps its promise -/
/-- names: the parameters first -/
structure FnScope (N P : List Str) (sc : Scope) : Prop where
  kind : sc.kind = .function
  co : sc.isCoroutine = false
  gen : sc.isGenerator = false
  nd : N.Nodup
  pre : N.take P.length = P
  par : ∀ x ∈ P, sc.names.lookup x = some .local ∨ sc.names.lookup x = some .cell
  nofree : ∀ y ∈ sc.names, y.2 ≠ .free

theorem bindL_out {kindOf : Str → Option NameKind} {x : Str} : ∀ {binds : List (Str × Value)} {m : Str → Option Value}, (∀ v, (x, v) ∉ binds) → bindL kindOf binds m x = m x
  | [], _, _ => rfl
  | (n, v) :: r, m, h => by
    unfold bindL
    rw [bindL_out fun w hw => h w (List.mem_cons_of_mem _ hw)]
    split
    · have : x ≠ n := by rintro rfl; exact h v List.mem_cons_self
      simp [this]
    · rfl
theorem bindC_out {kindOf : Str → Option NameKind} {x : Str} : ∀ {binds : List (Str × Value)} {m : Str → Option Value}, (∀ v, (x, v) ∉ binds) → bindC kindOf binds m x = m x
  | [], _, _ => rfl
  | (n, v) :: r, m, h => by
    unfold bindC
    rw [bindC_out fun w hw => h w (List.mem_cons_of_mem _ hw)]
    split
    · rfl
    · have : x ≠ n := by rintro rfl; exact h v List.mem_cons_self
      simp [this]
theorem bindL_get {kindOf : Str → Option NameKind} {x : Str} {v : Value} : ∀ {P : List Str} {vs : List Value} {i : Nat} {m : Str → Option Value}, P.Nodup → P[i]? = some x → vs[i]? = some v → kindOf x = some .local →
    bindL kindOf (P.zip vs) m x = some v
  | [], _, _, _, _, h, _, _ => by simp at h
  | _ :: _, [], _, _, _, _, h, _ => by simp at h
  | p :: P, w :: vs, 0, m, nd, h1, h2, hk => by
    simp at h1 h2; subst h1; subst h2
    show bindL kindOf ((p, w) :: P.zip vs) m p = _
    unfold bindL
    rw [bindL_out fun v hv => (List.nodup_cons.mp nd).1 (List.of_mem_zip hv).1, if_pos hk]
    simp
  | p :: P, w :: vs, i + 1, m, nd, h1, h2, hk => by
    show bindL kindOf ((p, w) :: P.zip vs) m x = _
    unfold bindL
    exact bindL_get (i := i) (List.nodup_cons.mp nd).2 (by simpa using h1) (by simpa using h2) hk
theorem bindC_get {kindOf : Str → Option NameKind} {x : Str} {v : Value} : ∀ {P : List Str} {vs : List Value} {i : Nat} {m : Str → Option Value}, P.Nodup → P[i]? = some x → vs[i]? = some v → kindOf x ≠ some .local →
    bindC kindOf (P.zip vs) m x = some v
  | [], _, _, _, _, h, _, _ => by simp at h
  | _ :: _, [], _, _, _, _, h, _ => by simp at h
  | p :: P, w :: vs, 0, m, nd, h1, h2, hk => by
    simp at h1 h2; subst h1; subst h2
    show bindC kindOf ((p, w) :: P.zip vs) m p = _
    unfold bindC
    rw [bindC_out fun v hv => (List.nodup_cons.mp nd).1 (List.of_mem_zip hv).1, if_neg hk]
    simp
  | p :: P, w :: vs, i + 1, m, nd, h1, h2, hk => by
    show bindC kindOf ((p, w) :: P.zip vs) m x = _
    unfold bindC
    exact bindC_get (i := i) (List.nodup_cons.mp nd).2 (by simpa using h1) (by simpa using h2) hk

/-- the names' values at the entry -/
def start (N : List Str) (vs : List V) : St := vs.map some ++ List.replicate (N.length - vs.length) none

/-- the context of a def's body, at its entry; an exception leaves the frame, then lies as CX says -/
def cxOf (CX : CXT) (P : Program) (w : World) (K : PySem.W.Frag) (mg : Str → Option Value) (base : Heap) (N : List Str) (qual : Str) (scope : Scope) (f : Addr) (cd : Value) (A : Around) (outer : List Env) (s : Shared) (H : Hp) (E : XK) : Cx where
  prog := P
  w := w
  K := K
  mg := mg
  base := base
  A := A.deeper (envOfC qual scope s.heap.objs.size f cd)
  N := N
  s₀ := s
  H₀ := H
  env := envOfC qual scope s.heap.objs.size f cd
  outer := outer
  stack := envOfC qual scope s.heap.objs.size f cd :: outer
  ex := []
  calm := true
  fn := fun _ => true
  pn := []
  xe := fun e s' => wpAny (model P w) (A.deeper (envOfC qual scope s.heap.objs.size f cd)) (leaving (envOfC qual scope s.heap.objs.size f cd) e) (fun _ s'' => CX outer H s E e s'') (fun e' s'' => CX outer H s E e' s'') s'

theorem cell_has {sc : Scope} {n : Nat} {x : Str} (h : sc.names.lookup x = some .cell) : ∃ c, (cellsFrom n sc.names []).lookup x = some c := by
  have q := PySem.W.cellsFrom_some sc.names n [] (.inl h)
  exact Option.isSome_iff_exists.mp q

theorem inv_start {CX : CXT} {P : Program} {w : World} {K : PySem.W.Frag} {mg : Str → Option Value} {base : Heap} {N ps : List Str} {qual : Str} {scope : Scope} {f : Addr} {cd : Value} {A : Around} {outer : List Env} {s s1 : Shared} {H : Hp} {E : XK} {us : List Value} {vs : List V}
    (S : FnScope N ps scope) (hd : A.handled = none) (e0 : Env0 P w K mg base A outer s H) (hl : vs.length = ps.length) (r : Vals vs us)
    (x : InCallC s s.heap.objs.size (bindL (envOfC qual scope s.heap.objs.size f cd).kindOf (ps.zip us) fun _ => none) (cellsFrom (s.heap.objs.size + 1) scope.names []) (bindC (envOfC qual scope s.heap.objs.size f cd).kindOf (ps.zip us) fun _ => none) s1) :
    Inv (cxOf CX P w K mg base N qual scope f cd A outer s H E) [] (start N vs) H s1 := by
  have hpl : ps.length ≤ N.length := by have := congrArg List.length S.pre; rw [List.length_take] at this; omega
  obtain ⟨h1, tk, rfl, hk⟩ := x.done
  have noA : ∀ b : Addr, b ∉ (cxOf CX P w K mg base N qual scope f cd A outer s H E).ex := fun b z => absurd (show b ∈ ([] : List Addr) from z) (by simp)
  refine ⟨⟨e0.mod, S.kind, rfl, rfl, Nat.le_refl _, fun y z c h1 h2 => ?_, fun y hy => ?_, fun y c _ h => ?_, fun _ => hd, Around.frames_deeper e0.frames, .inr ⟨rfl, rfl⟩, fun b z => absurd z (noA b), e0.bs, e0.bsz, fun b _ _ => noA b, fun b z => absurd z (noA b), e0.funs, e0.frf⟩,
    rfl, e0.bare, Un.kept hk, ⟨_, x.toInCall.ns, fun i y v h1 h2 h3 => ?_⟩, fun y c h => ⟨_, x.cell y c h⟩, e0.hok.fresh (Nat.le_refl _), fun y c h => ?_, fun p hp => absurd (show p ∈ ([] : List (Addr × Obj)) from hp) (by simp), e0.hok.kept hk, ?_⟩
  · exact name_of_addr x.apart (PySem.mem_of_lookup h1) (PySem.mem_of_lookup h2)
  · have hy : scope.names.lookup y = some .cell ∨ scope.names.lookup y = some .free := hy
    rcases hy with hy | hy
    · exact cell_has hy
    · exact absurd rfl (S.nofree _ (PySem.mem_of_lookup hy))
  · exact Nat.le_of_lt (x.above y c (PySem.mem_of_lookup h))
  · have hi : i < vs.length := by
      unfold start at h2
      by_cases hi : i < vs.length
      · exact hi
      · rw [List.getElem?_append_right (by simpa using hi)] at h2
        rw [List.getElem?_replicate] at h2
        split at h2 <;> cases h2
    have ha : vs[i]? = some v := by
      unfold start at h2
      rw [List.getElem?_append_left (by simpa using hi), List.getElem?_map] at h2
      cases e : vs[i]? with
      | none => rw [e] at h2; cases h2
      | some a => rw [e] at h2; cases h2; rfl
    obtain ⟨u, hu, rv⟩ := r.get ha
    have hp : ps[i]? = some y := by
      rw [← S.pre, List.getElem?_take_of_lt (by omega)]; exact h1
    have ndP : ps.Nodup := by rw [← S.pre]; exact S.nd.sublist (List.take_sublist _ _)
    refine ⟨u, rv, ?_⟩
    rcases S.par y (List.mem_of_getElem? hp) with k | k
    · exact .inl ⟨k, bindL_get ndP hp hu k⟩
    · obtain ⟨c, e⟩ := cell_has (n := s.heap.objs.size + 1) k
      refine .inr ⟨.inl k, c, e, ?_⟩
      have q := x.cell y c e
      rw [bindC_get ndP hp hu (by show scope.names.lookup y ≠ _; rw [k]; decide)] at q
      exact q
  · exact e0.hok.fresh (Nat.le_of_lt (x.above y c (PySem.mem_of_lookup h)))
  · unfold start
    show _ = N.length
    rw [List.length_append, List.length_map, List.length_replicate]
    omega

/-- THE RULE: a def (or a method) of the text, by its body. The body's reading t is chosen for each entry; it is run at the parameters' values -/
theorem fn_of {CX : CXT} {P : Program} {w : World} {K : PySem.W.Frag} {mg : Str → Option Value} {base : Heap} {k : Nat} {f : Addr} {name qual : Str} {params : Arguments} {body : List Stmt} {scope : Scope} {dV kV doc pm cdv ct oc : Value} {an od : Option Addr}
    {osl : Array (Option Value)} {N ps : List Str} {sp : Sp} (lk : K.lookup f = some ⟨oc, od, .func (PySem.W.fnOf name qual params body scope dV kV doc pm an cdv ct), osl⟩) (hcd : PySem.W.codeIn K cdv qual = true) (S : FnScope N ps scope)
    (len : ∀ vs H Q E, sp vs H Q E → vs.length = ps.length)
    (hbody : ∀ (A : Around) (outer : List Env) (s : Shared) (H : Hp) (vs : List V) (Q : VK) (E : XK), Room k (A.deeper (envOfC qual scope s.heap.objs.size f cdv)) → sp vs H Q E →
      ∃ t, PSs (cxOf CX P w K mg base N qual scope f cdv A outer s H E) body t ∧ t { nx := fun _ H' => Q .non H', rt := Q } (start N vs) H) :
    FnOk P w K mg base CX (k + 1) f (PySem.W.fnOf name qual params body scope dV kV doc pm an cdv ct) ps sp := by
  refine ⟨len, fun A outer s H args us vs Q E hr e0 hb r hsp => ?_⟩
  have hl := len _ _ _ _ hsp
  have KX : K.In s.heap := e0.mod.kin.keeps fun b o e => (e0.bs b o e).1
  have lim : s.heap.NoLimit := e0.mod.nolimit.keeps fun b o e => (e0.bs b o e).1
  have hkind : ∀ y ∈ ps.zip us, scope.names.lookup y.1 = some .local ∨ (scope.names.lookup y.1 = some .cell ∧ ((cellsFrom (s.heap.objs.size + 1) scope.names []).lookup y.1).isSome = true) := fun ⟨n, v⟩ hy => by
    rcases S.par n (List.of_mem_zip hy).1 with q | q
    · exact .inl q
    · exact .inr ⟨q, PySem.W.cellsFrom_some _ _ _ (.inl q)⟩
  refine codeAny_call_function hr.depth (KX _ _ lk) rfl S.co S.gen rfl (PySem.W.codeRec_of KX hcd) (hb _ _ _ _ ?_)
  refine wpAny_newFunctionEnv_cells S.kind hkind fun env he s1 x => ?_
  subst he
  refine ⟨lim.keeps x.toInCall.keep, codeAny_func ?_⟩
  obtain ⟨t, ht, hq⟩ := hbody A outer s H vs Q E (hr.deeper _) hsp
  have I : Inv (cxOf CX P w K mg base N qual scope f cdv A outer s H E) [] (start N vs) H s1 := inv_start S hr.hd e0 hl r x
  refine wpAny_mono (ht [] s1 (start N vs) H _ I hq) (fun fl s' hs => ?_) fun e s' hs => hs
  have fin : ∀ {σ' : St} {H' : Hp} {v : V} {u : Value}, Inv (cxOf CX P w K mg base N qual scope f cdv A outer s H E) [] σ' H' s' → RelV v u → Q v H' → CE outer P w H s Q u s' :=
    fun {σ' H' v u} J rv q => ⟨v, H', J.os, J.bare, J.base, J.hok, rv, q⟩
  cases fl with
  | ret u =>
    obtain ⟨v, σ', H', J, rv, q⟩ := hs
    exact fin J rv q
  | next =>
    obtain ⟨σ', H', J, q⟩ := hs
    exact fin (v := V.non) (u := Value.none) J rfl q
  | brk =>
    obtain ⟨_, _, _, q⟩ := hs
    exact False.elim q
  | cont =>
    obtain ⟨_, _, _, q⟩ := hs
    exact False.elim q
end L2

namespace L2
open PySem PySem.Spec PyProof.Rows
section
variable {X : Cx} {x : Str} {p pos : Pos} {e : Expr} {es : List Expr} {t : TA} {id T : String} {r : List V → Hp → VK → Prop}

def tCB (r : List V → Hp → VK → Prop) (t : TA) : TE := fun σ H Q => t σ H fun vs H1 => r vs H1 Q
/-- f(e, ..), f a built-in function -/
theorem pe_callB (hc : CallR X (.builtin id) r) (hg : Gl X x) (hm : X.mg x = none) (hv : bootBuiltins x = some (.builtin id)) (ha : PA X (e :: es) t) (hn : x ≠ "__name__" := by decide) (hdb : (x == ("__debug__" : Str)) = false := by decide)
    (he : starEach (e :: es) X.env = (false, eval e X.env) :: starEach es X.env := by rfl) (hpl : (backTo pos (starEach es X.env)).any (·.1) = false := by rfl) : PE X (.Call (.Name x p) (e :: es) [] pos) (tCB r t) := by
  intro pins s σ H Q I h
  refine wpAny_Call_Name_kw (ld_blt I hg hm hv ?_ hn hdb)
  exact PyProof.Rows.callWith_builtin1 (thn (ha pos pins s σ H _ I h) fun us s1 ⟨vs, H1, I1, r1, q1⟩ => hc pins s1 σ H1 vs us Q I1 r1 q1) he hpl
/-- T(e, ..), T a built-in type -/
theorem pe_callTy (hc : CallR X (.type T) r) (hg : Gl X x) (hm : X.mg x = none) (hv : bootBuiltins x = some (.type T)) (ha : PA X (e :: es) t) (hn : x ≠ "__name__" := by decide) (hdb : (x == ("__debug__" : Str)) = false := by decide)
    (he : starEach (e :: es) X.env = (false, eval e X.env) :: starEach es X.env := by rfl) (hpl : (backTo pos (starEach es X.env)).any (·.1) = false := by rfl) : PE X (.Call (.Name x p) (e :: es) [] pos) (tCB r t) := by
  intro pins s σ H Q I h
  refine wpAny_Call_Name_kw (ld_blt I hg hm hv ?_ hn hdb)
  exact PyProof.Rows.callWith_type1 (thn (ha pos pins s σ H _ I h) fun us s1 ⟨vs, H1, I1, r1, q1⟩ => hc pins s1 σ H1 vs us Q I1 r1 q1) he hpl
end
end L2

namespace HT
open PySem PyProof.Rows

section
open PySem.SeqAt
open PySem.AutoSeq1 (wpAny_loadPart')
open PySem.MeetsSeq PySem.MeetsSeq2 PySem.MeetsSeq3

end

section
variable {prog : Program} {w : World} {A : Around} {E : Value → Shared → Prop} {s : Shared}

/-- t + u, t not empty -/
theorem cat_tup {t b : Addr} {vs ws : List Value} {Q : Value → Shared → Prop} (ht : IsTup s.heap t vs.toArray) (hb : IsTup s.heap b ws.toArray) (hv : vs ≠ [])
    (h1 : ws = [] → Q (.ref t) s) (h2 : ws ≠ [] → Q (.ref s.heap.objs.size) { s with heap := s.heap.push { cls := .type "tuple", data := .seq (vs ++ ws).toArray } })
    (hsz : vs.length + ws.length ≤ sizeLine) : wpAny (model prog w) A (binaryOp .Add (.ref t) (.ref b)) Q E s := by
  obtain ⟨⟨cls, dd, data, sl⟩, ho, hc, n, hd⟩ := id ht
  obtain ⟨⟨cls2, dd2, data2, sl2⟩, ho2, hc2, n2, hd2⟩ := id hb
  simp only at hc hd hc2 hd2
  subst hc hd hc2 hd2
  have e : vs.toArray ++ ws.toArray = (vs ++ ws).toArray := by simp
  by_cases hw : ws = []
  · exact concat_meets ⟨_, ho, rfl⟩ ⟨_, ho2, rfl⟩ noFill_tuple_add seq_tuple_add PySem.F.slot_tuple_add PySem.F.entry_tuple_add (PySem.F.args_tuple_add_2 _ _)
      (tuple_addW1 t b vs.toArray ws.toArray n n2 dd dd2 sl sl2 (by simpa using hv) (by simp [hw])) ⟨ho, ho2, h1 hw⟩
  · refine concat_meets ⟨_, ho, rfl⟩ ⟨_, ho2, rfl⟩ noFill_tuple_add seq_tuple_add PySem.F.slot_tuple_add PySem.F.entry_tuple_add (PySem.F.args_tuple_add_2 _ _)
      (tuple_addW2 t b vs.toArray ws.toArray n n2 dd dd2 sl sl2 (by simpa using hv) (by simpa using hw) (by rw [List.size_toArray, List.size_toArray]; exact hsz)) ⟨ho, ho2, ?_⟩
    rw [e]
    exact h2 hw

/-! ### t[a:b], not the whole -/
/-- a slice's bound as a place among n (d where it is left out) -/
def sIx (n d : Nat) : Option Int → Nat
  | none => d
  | some v => if v < 0 then (v + (n : Int)).toNat else min v.toNat n
end
end HT

namespace L2
open PySem PySem.Spec PyProof.Rows

/-! ### the parts of a slice -/
abbrev TO := St → Hp → (Option Int → Hp → Prop) → Prop
/-- a slice's part (left out, or an int) -/
def PO (X : Cx) (e : Option Expr) (t : TO) : Prop :=
  ∀ (pins : List (Addr × Obj)) (s : Shared) (σ : St) (H : Hp) (Q : Option Int → Hp → Prop), Inv X pins σ H s → t σ H Q →
    wpAny (model X.prog X.w) X.A (evalPart e X.env) (fun u s' => ∃ o H', Inv X pins σ H' s' ∧ IsPart u o ∧ Q o H') X.xe s
def tNoPart : TO := fun _ H Q => Q none H
def tPart (t : TE) : TO := fun σ H Q => t σ H fun x H1 => ∃ i, x = .int i ∧ Q (some i) H1

theorem intsAre_of {ns : List Int} : ∀ {us : List Value}, Vals (ns.map V.int) us → IntsAre us ns := by
  induction ns with
  | nil => intro us r; rw [List.map_nil] at r; cases r; exact .nil
  | cons n ns ih =>
    intro us r
    rw [List.map_cons] at r
    cases r with
    | cons r1 r2 =>
      obtain ⟨t, e⟩ := r1
      subst e
      exact .cons n t (ih r2)

section
variable {X : Cx} {e : Expr} {te : TE} {lo hi : Option Expr} {tl th : TO} {pos p2 : Pos}

theorem po_none : PO X none tNoPart := by
  intro pins s σ H Q I h
  rw [evalPart_none]
  exact wpAny_pure ⟨none, H, I, .none, h⟩
theorem po_some (h : PE X e te) : PO X (some e) (tPart te) := by
  intro pins s σ H Q I hw
  rw [evalPart_some]
  refine thn (h pins s σ H _ I hw) fun u s1 ⟨x, H1, I1, r1, q1⟩ => ?_
  obtain ⟨i, rfl, q⟩ := q1
  obtain ⟨t, rfl⟩ := r1
  exact ⟨some i, H1, I1, .int i t, q⟩

/-- what a slice of a value is, by values: the slice object stands at sl -/
def SlR (X : Cx) (r : V → Option Int → Option Int → Hp → VK → Prop) : Prop :=
  ∀ (pins : List (Addr × Obj)) (s : Shared) (σ : St) (H : Hp) (x : V) (v vl vu : Value) (lo hi : Option Int) (sl : Addr) (Q : VK), Inv X pins σ H s → RelV x v → s.heap.IsSliceOf sl vl vu .none → IsPart vl lo → IsPart vu hi → r x lo hi H Q →
    ∃ T id, typeLookup (.type T) "__getitem__" = pure (some (.builtin id)) ∧ s.TypeIs v T ∧ wpAny (model X.prog X.w) X.A (getItem v (.ref sl)) (EP X pins σ Q) X.xe s
theorem SlR.or {r r' : V → Option Int → Option Int → Hp → VK → Prop} (h : SlR X r) (h' : SlR X r') : SlR X (fun x lo hi H Q => r x lo hi H Q ∨ r' x lo hi H Q) := by
  intro pins s σ H x v vl vu lo hi sl Q I rx hs pl pu q
  rcases q with q | q
  · exact h pins s σ H x v vl vu lo hi sl Q I rx hs pl pu q
  · exact h' pins s σ H x v vl vu lo hi sl Q I rx hs pl pu q
def tSl (r : V → Option Int → Option Int → Hp → VK → Prop) (te : TE) (tl th : TO) : TE := fun σ H Q => te σ H fun x H1 => tl σ H1 fun l H2 => th σ H2 fun u H3 => r x l u H3 Q
/-- a[lo:hi], any a -/
theorem pe_slice {r : V → Option Int → Option Int → Hp → VK → Prop} (hr : SlR X r) (he : PE X e te) (hl : PO X lo tl) (hu : PO X hi th) : PE X (.Subscript e (.Slice lo hi none p2) pos) (tSl r te tl th) := by
  intro pins s σ H Q I h
  refine Subscript_ (thn (he pins s σ H _ I h) fun v s1 ⟨x, H1, I1, r1, q1⟩ => ?_)
  refine wpAny_Slice (thn (hl pins s1 σ H1 _ I1 q1) fun vl s2 ⟨l, H2, I2, pl, q2⟩ => thn (hu pins s2 σ H2 _ I2 q2) fun vu s3 ⟨u, H3, I3, pu, q3⟩ => ?_)
  rw [evalPart_none]
  refine wpAny_pure ?_
  have I4 : Inv X pins σ H3 { s3 with heap := s3.heap.push { cls := .type "slice", data := .fields #[vl, vu, .none] } } := I3.kept (t' := s3.toks) fun b ob q => Heap.get?_push_of_some _ q
  obtain ⟨T, id, hT, ht, hg⟩ := hr pins { s3 with heap := s3.heap.push { cls := .type "slice", data := .fields #[vl, vu, .none] } } σ H3 x v vl vu l u s3.heap.objs.size Q I4 r1 (Heap.IsSliceOf.new ..) pl pu q3
  show wpAny (model X.prog X.w) X.A (subscriptTail e (.Slice lo hi none p2) v (.ref s3.heap.objs.size)) (EP X pins σ Q) X.xe { s3 with heap := s3.heap.push { cls := .type "slice", data := .fields #[vl, vu, .none] } }
  exact tail_any (ops := [.ref s3.heap.objs.size, v]) ht hT hg (by with_unfolding_all rfl)

/-- the items of xs[lo:hi] -/
def cutV (xs : List V) (lo hi : Option Int) : List V := (xs.drop (HT.sIx xs.length 0 lo)).take (HT.sIx xs.length xs.length hi - HT.sIx xs.length 0 lo)
theorem cutV_length (xs : List V) (lo hi : Option Int) : (cutV xs lo hi).length ≤ xs.length := by
  unfold cutV
  rw [List.length_take, List.length_drop]
  omega
/-! ### t < u, t + u -/
/-- t + u, t not empty: u empty gives t itself -/
def rCatT (K : PySem.W.Frag) : R2 := fun x y H Q => ∃ a b xs ys, x = .ref a ∧ y = .ref b ∧ SqT K H a xs ∧ SqT K H b ys ∧ xs ≠ [] ∧ xs.length + ys.length ≤ sizeLine ∧
  (ys = [] → Q (.ref a) H) ∧ (ys ≠ [] → ∀ p, H p = none → Q (.ref p) (upd H p (.tup (xs ++ ys))))
theorem Vals.nil_iff {xs : List V} {us : List Value} (r : Vals xs us) : us = [] ↔ xs = [] := by
  cases r with
  | nil => simp
  | cons _ _ => simp
theorem op_catT : OpR X (binaryOp .Add) (rCatT X.K) := by
  intro pins s σ H x y v u Q I rx ry h
  obtain ⟨a, b, xs, ys, rfl, rfl, ha, hb, hx, hz, q1, q2⟩ := h
  cases rx
  cases ry
  obtain ⟨its, r1, p1, _⟩ := I.tuple ha
  obtain ⟨its2, r2, p2, _⟩ := I.tuple hb
  refine HT.cat_tup p1 p2 (fun z => hx (r1.nil_iff.mp z)) (fun z => ⟨.ref a, H, I, rfl, q1 (r2.nil_iff.mp z)⟩) (fun z => ?_) (by rw [← r1.length, ← r2.length]; exact hz)
  refine ⟨.ref s.heap.objs.size, _, I.laid (t' := s.toks) (o := .tup (xs ++ ys)) (fun b ob q => Heap.get?_push_of_some _ q) (Nat.le_refl _) ?_, rfl, q2 (fun w => z (r2.nil_iff.mpr w)) _ (I.hok.fresh (Nat.le_refl _))⟩
  exact ⟨by rw [List.length_append]; exact hz, _, r1.append r2, IsTup.new _ _⟩
end
end L2

namespace L2
open PySem PySem.Spec PyProof.Rows

/-! ### places -/
/-- the place that an index of any sign means -/
def ixN (n : Nat) (i : Int) : Option Nat := if 0 ≤ i then (if i < n then some i.toNat else none) else if -(n : Int) ≤ i then some (i + n).toNat else none
def atI {α : Type} (xs : List α) (i : Int) : Option α := (ixN xs.length i).bind fun j => xs[j]?
theorem ixN_seq {n : Nat} {i : Int} {j : Nat} (h : ixN n i = some j) : seqIndex? i n = some j ∧ j < n ∧ -(n : Int) ≤ i ∧ i < n := by
  unfold ixN at h
  by_cases h0 : 0 ≤ i
  · rw [if_pos h0] at h
    by_cases h1 : i < n
    · rw [if_pos h1] at h
      have e : i.toNat = j := Option.some.inj h
      exact ⟨by rw [seqIndex_of h0 h1, e], by omega, by omega, h1⟩
    · rw [if_neg h1] at h; cases h
  · rw [if_neg h0] at h
    by_cases h1 : -(n : Int) ≤ i
    · rw [if_pos h1] at h
      have e : (i + n).toNat = j := Option.some.inj h
      exact ⟨by rw [seqIndex_neg (by omega) h1, e], by omega, h1, by omega⟩
    · rw [if_neg h1] at h; cases h
theorem atI_get {α : Type} {xs : List α} {i : Int} {v : α} (h : atI xs i = some v) : ∃ j, seqIndex? i xs.length = some j ∧ xs[j]? = some v ∧ j < xs.length ∧ -(xs.length : Int) ≤ i ∧ i < xs.length := by
  unfold atI at h
  cases e : ixN xs.length i with
  | none => rw [e] at h; cases h
  | some j =>
    rw [e] at h
    obtain ⟨h1, h2, h3, h4⟩ := ixN_seq e
    exact ⟨j, h1, h, h2, h3, h4⟩
/-! ### what may be subscripted -/
/-- what stands as an index of a plain subscript -/
def PlainIx (b : Expr) : Prop := ∀ o i, subscripted b false o i = operate [o, i] (getItem o i)
/-- a subscript by values -/
def IxR (X : Cx) (r : R2) : Prop :=
  ∀ (value slice : Expr) (pins : List (Addr × Obj)) (s : Shared) (σ : St) (H : Hp) (x y : V) (v u : Value) (Q : VK), Inv X pins σ H s → RelV x v → RelV y u → r x y H Q →
    subscripted slice false v u = operate [v, u] (getItem v u) → wpAny (model X.prog X.w) X.A (subscriptTail value slice v u) (EP X pins σ Q) X.xe s
/-- a call of a builtin's method by values: the receiver, the arguments -/
def MtR (X : Cx) (id : String) (r : V → List V → Hp → VK → Prop) : Prop :=
  ∀ (pins : List (Addr × Obj)) (s : Shared) (σ : St) (H : Hp) (x : V) (xs : List V) (v : Value) (us : List Value) (Q : VK), Inv X pins σ H s → RelV x v → Vals xs us → r x xs H Q →
    wpAny (model X.prog X.w) X.A (call (.builtin id) (v :: us)) (EP X pins σ Q) X.xe s
section
variable {X : Cx} {a b : Expr} {ta tb : TE} {pos : Pos}
theorem IxR.or {r r' : R2} (h : IxR X r) (h' : IxR X r') : IxR X (fun x y H Q => r x y H Q ∨ r' x y H Q) := by
  intro value slice pins s σ H x y v u Q I rx ry q hs
  rcases q with q | q
  · exact h value slice pins s σ H x y v u Q I rx ry q hs
  · exact h' value slice pins s σ H x y v u Q I rx ry q hs
theorem MtR.or {id : String} {r r' : V → List V → Hp → VK → Prop} (h : MtR X id r) (h' : MtR X id r') : MtR X id (fun x xs H Q => r x xs H Q ∨ r' x xs H Q) := by
  intro pins s σ H x xs v us Q I rx rs q
  rcases q with q | q
  · exact h pins s σ H x xs v us Q I rx rs q
  · exact h' pins s σ H x xs v us Q I rx rs q
/-- a[b] -/
theorem pe_ix {r : R2} (hr : IxR X r) (ha : PE X a ta) (hb : PE X b tb) (hs : PlainIx b) : PE X (.Subscript a b pos) (tOp r ta tb) := by
  intro pins s σ H Q I h
  exact Subscript_ (binT ha hb I h fun v u s2 x y H2 I2 rx ry q => hr a b pins s2 σ H2 x y v u Q I2 rx ry q (hs _ _))

def rIxL (K : PySem.W.Frag) : R2 := fun x y H Q => ∃ p xs i v, x = .ref p ∧ y = .int i ∧ SqL K H p xs ∧ atI xs i = some v ∧ Q v H
def rIxT (K : PySem.W.Frag) : R2 := fun x y H Q => ∃ p xs i v, x = .ref p ∧ y = .int i ∧ SqT K H p xs ∧ atI xs i = some v ∧ Q v H
def rIxS : R2 := fun x y H Q => ∃ z i c, x = .str z ∧ y = .int i ∧ z.length ≤ sizeLine ∧ atI z.cps.toList i = some c ∧ Q (.str ⟨#[c]⟩) H
theorem ix_list : IxR X (rIxL X.K) := by
  intro value slice pins s σ H x y v u Q I rx ry h hs
  obtain ⟨p, xs, i, z, rfl, rfl, hq, he, q⟩ := h
  cases rx
  obtain ⟨t, rfl⟩ := ry
  obtain ⟨its, r, pl, hz⟩ := I.list hq
  obtain ⟨j, h1, h2, h3, h4, h5⟩ := atI_get he
  obtain ⟨w, ew, rw'⟩ := r.get h2
  have hl := r.length
  have hn := line63
  have fin : EP X pins σ Q w s := ⟨z, H, I, rw', q⟩
  by_cases h0 : 0 ≤ i
  · have hj : i.toNat = j := by
      rw [seqIndex_of h0 h5] at h1
      exact Option.some.inj h1
    exact item_listR pl.isList h0 (by omega) (by rw [hj]; simpa using ew) fin hs
  · have hj : (i + (its.toArray.size : Int)).toNat = j := by
      rw [seqIndex_neg (by omega) h4] at h1
      rw [List.size_toArray, ← hl]
      exact Option.some.inj h1
    exact subscriptTail_builtinR (x := w) pl.isList.typeIs slot_list_getitem.lookup
      (wpAny_getItem_list_neg (Q := fun r s' => r = w ∧ EP X pins σ Q r s') pl.isList (by omega) (by rw [List.size_toArray] <;> omega) (by omega) (by rw [hj]; simpa using ew) ⟨rfl, fin⟩) hs
theorem ix_tup : IxR X (rIxT X.K) := by
  intro value slice pins s σ H x y v u Q I rx ry h hs
  obtain ⟨p, xs, i, z, rfl, rfl, hq, he, q⟩ := h
  cases rx
  obtain ⟨t, rfl⟩ := ry
  obtain ⟨its, r, pl, hz⟩ := I.tuple hq
  obtain ⟨j, h1, h2, h3, h4, h5⟩ := atI_get he
  obtain ⟨w, ew, rw'⟩ := r.get h2
  have hl := r.length
  have hn := line63
  have fin : EP X pins σ Q w s := ⟨z, H, I, rw', q⟩
  exact subscriptTail_builtinR (x := w) pl.typeIs slot_tuple_getitem.lookup
    (getItem_tuple (j := j) (Q := fun r s' => r = w ∧ EP X pins σ Q r s') pl (by omega) (by omega) (by rw [List.size_toArray, ← hl]; exact h1) (by simpa using ew) ⟨rfl, fin⟩) hs
theorem ix_str : IxR X rIxS := by
  intro value slice pins s σ H x y v u Q I rx ry h hs
  obtain ⟨z, i, c, rfl, rfl, hz, he, q⟩ := h
  obtain ⟨t, rfl⟩ := rx
  obtain ⟨t', rfl⟩ := ry
  obtain ⟨j, h1, h2, h3, h4, h5⟩ := atI_get he
  have hl : z.cps.toList.length = z.length := by simp [Str.length]
  rw [hl] at h1 h4 h5
  have hn := line63
  exact tail_any (typeIs_str s z t) slot_str_getitem.lookup (getItem_str (c := c) (by
    have e1 : decide (i < -(2 ^ 63 : Int)) = false := decide_eq_false (by omega)
    have e2 : decide (i ≥ 2 ^ 63) = false := decide_eq_false (by omega)
    rw [e1, e2, Bool.or_false]) (by rw [h1]; simpa using h2) ⟨.str ⟨#[c]⟩, H, I.tok _, ⟨_, rfl⟩, q⟩) hs
/-- list, tuple or str -/
def rIx (K : PySem.W.Frag) : R2 := fun x y H Q => rIxL K x y H Q ∨ rIxT K x y H Q ∨ rIxS x y H Q
theorem ix_seq : IxR X (rIx X.K) := ix_list.or (ix_tup.or ix_str)

/-! ### xs[i] = v, any sign -/
/-- the list's object behind a store -/
theorem mapSeq_set (its : List Value) (n j : Nat) (u : Value) : Obj.mapSeq (·.setIfInBounds j u) { cls := .type "list", data := .seq its.toArray n } = { cls := .type "list", data := .seq (its.set j u).toArray n } := by
  simp [Obj.mapSeq]
theorem Inv.lst {pins : List (Addr × Obj)} {σ : St} {H : Hp} {s : Shared} {p : Addr} {xs : List V} (I : Inv X pins σ H s) (h : H p = some (.lst xs)) :
    ∃ (its : List Value) (n : Nat), Vals xs its ∧ s.heap.get? p = some { cls := .type "list", data := .seq its.toArray n } ∧ xs.length ≤ sizeLine := by
  obtain ⟨z, its, n, r, e⟩ := I.hok p _ h
  exact ⟨its, n, r, e, z⟩
/-- the list at p is written by an update of its object -/
theorem Inv.lstUpd {pins : List (Addr × Obj)} {σ : St} {H : Hp} {s : Shared} {p : Addr} {xs ys : List V} {its its' : List Value} {n n' : Nat} {f : Obj → Obj} (I : Inv X pins σ H s) (h : H p = some (.lst xs))
    (ho : s.heap.get? p = some { cls := .type "list", data := .seq its.toArray n }) (hf : f { cls := .type "list", data := .seq its.toArray n } = { cls := .type "list", data := .seq its'.toArray n' }) (r : Vals ys its') (hz : ys.length ≤ sizeLine) (t : Nat) :
    Inv X pins σ (upd H p (.lst ys)) { s with heap := s.heap.update p f, toks := t } := by
  have e : (s.heap.update p f).get? p = some { cls := .type "list", data := .seq its'.toArray n' } := by
    rw [Heap.get?_update_self f ho (by rw [hf] <;> rfl), hf]
  refine I.write (x := p) (e := p) (by rw [h]; trivial) (.inl rfl) (fun b u hb q => (Heap.get?_update_other _ _ (Ne.symm hb)).trans q) ⟨_, e⟩ ?_
  exact ⟨hz, its', n', r, e⟩
def rSetL : V → V → V → Hp → (Hp → Prop) → Prop := fun o i v H Q => ∃ p xs k j, o = .ref p ∧ i = .int k ∧ H p = some (.lst xs) ∧ ixN xs.length k = some j ∧ Q (upd H p (.lst (xs.set j v)))
theorem set_list : PSet X rSetL := by
  intro pins s σ H o i v ov iv u Q I ro ri rv h
  obtain ⟨p, xs, k, j, rfl, rfl, hp, hj, q⟩ := h
  cases ro
  obtain ⟨t, rfl⟩ := ri
  obtain ⟨its, n, r, ho, hz⟩ := I.lst hp
  obtain ⟨h1, h2, h3, h4⟩ := ixN_seq hj
  have hl := r.length
  have hn := line63
  have I' : Inv X pins σ (upd H p (.lst (xs.set j v))) { s with heap := s.heap.update p (Obj.mapSeq (·.setIfInBounds j u)) } :=
    I.lstUpd hp ho (mapSeq_set its n j u) (r.set rv j) (by rw [List.length_set]; exact hz) s.toks
  by_cases h0 : 0 ≤ k
  · have hk : k.toNat = j := by
      rw [seqIndex_of h0 h4] at h1
      exact Option.some.inj h1
    exact PySem.W.ki_setAt ho h0 (by omega) (by rw [List.size_toArray, ← hl]; exact h4) (by rw [hk]; exact ⟨_, I', q⟩)
  · have hk : (k + (its.toArray.size : Int)).toNat = j := by
      rw [seqIndex_neg (by omega) h3] at h1
      rw [List.size_toArray, ← hl]
      exact Option.some.inj h1
    exact PySem.W.ki_setBack ho (by omega) (by rw [List.size_toArray, ← hl]; exact h3) (by omega) (by rw [hk]; exact ⟨_, I', q⟩)

/-! ### slices -/
theorem slice_bounds (lo hi : Option Int) (n : Nat) : (sliceBounds lo hi none n).1 = ((HT.sIx n 0 lo : Nat) : Int) ∧ (sliceBounds lo hi none n).2.1 = ((HT.sIx n n hi : Nat) : Int) ∧ (sliceBounds lo hi none n).2.2 = 1 := by
  refine ⟨?_, ?_, rfl⟩
  · cases lo with
    | none => simp [sliceBounds, HT.sIx]
    | some i =>
      simp only [sliceBounds, HT.sIx, Option.getD_none, show (1 : Int) > 0 by decide, if_true]
      by_cases h : i < 0
      · simp only [h, if_true] <;> omega
      · simp only [h, if_false] <;> omega
  · cases hi with
    | none => simp [sliceBounds, HT.sIx]
    | some i =>
      simp only [sliceBounds, HT.sIx, Option.getD_none, show (1 : Int) > 0 by decide, if_true]
      by_cases h : i < 0
      · simp only [h, if_true] <;> omega
      · simp only [h, if_false] <;> omega
theorem slicePick_cut (its : List Value) (lo hi : Option Int) : slicePick its.toArray lo hi none = ((its.drop (HT.sIx its.length 0 lo)).take (HT.sIx its.length its.length hi - HT.sIx its.length 0 lo)).toArray := by
  obtain ⟨h1, h2, h3⟩ := slice_bounds lo hi its.toArray.size
  unfold slicePick
  rw [h1, h2, h3]
  simp only [sliceRange_one, pick_run, List.size_toArray] <;> rfl
/-- xs[lo:hi] of a list: a new list -/
def rSlL (K : PySem.W.Frag) : V → Option Int → Option Int → Hp → VK → Prop := fun x lo hi H Q => ∃ a xs, x = .ref a ∧ SqL K H a xs ∧ ∀ p, H p = none → Q (.ref p) (upd H p (.lst (cutV xs lo hi)))
theorem sl_list : SlR X (rSlL X.K) := by
  intro pins s σ H x v vl vu lo hi sl Q I rx hs pl pu h
  obtain ⟨a, xs, rfl, hx, q⟩ := h
  cases rx
  obtain ⟨its, r, ht, hz⟩ := I.list hx
  have hlen := r.length
  refine ⟨"list", _, slot_list_getitem.lookup, ht.isList.typeIs, ?_⟩
  refine wpAny_getItem_list_slice ht.isList hs pl pu .none (by simp) ?_ (by rw [List.size_toArray] <;> omega)
  rw [slicePick_cut, ← hlen]
  refine ⟨.ref s.heap.objs.size, _, I.laid (t' := s.toks) (o := .lst (cutV xs lo hi)) (fun b ob q => Heap.get?_push_of_some _ q) (Nat.le_refl _) ?_, rfl, q _ (I.hok.fresh (Nat.le_refl _))⟩
  exact ⟨Nat.le_trans (cutV_length xs lo hi) hz, _, 0, (r.drop (HT.sIx xs.length 0 lo)).take (HT.sIx xs.length xs.length hi - HT.sIx xs.length 0 lo), Heap.get?_push_size _ rfl⟩

/-! ### in, not in: flat items -/
def flatV : V → Bool
  | .non => true
  | .bl _ => true
  | .int _ => true
  | .str _ => true
  | _ => false
/-- == of flat values -/
def eqV : V → V → Bool
  | .non, .non => true
  | .bl a, .bl b => a == b
  | .bl a, .int b => (if a then 1 else 0) == b
  | .int a, .bl b => a == (if b then 1 else 0)
  | .int a, .int b => a == b
  | .str a, .str b => a == b
  | _, _ => false
theorem eqAt_V {A : Around} {s : Shared} {y x : V} {u v : Value} (ry : RelV y u) (rx : RelV x v) (fy : flatV y = true) (fx : flatV x = true) : SeqAt.EqAt A s u v (eqV y x) := by
  cases y with
  | non =>
    cases ry
    cases x with
    | non => cases rx; exact SeqAt.EqAt.same _
    | bl b => cases rx; exact SeqAt.EqAt.none_bool b
    | int b => obtain ⟨t, rfl⟩ := rx; exact SeqAt.EqAt.none_int b t
    | str b => obtain ⟨t, rfl⟩ := rx; exact SeqAt.EqAt.none_str b t
    | _ => exact absurd (show false = true from fx) Bool.false_ne_true
  | bl a =>
    cases ry
    cases x with
    | non => cases rx; exact SeqAt.EqAt.bool_none a
    | bl b => cases rx; exact SeqAt.EqAt.bool_bool a b
    | int b => obtain ⟨t, rfl⟩ := rx; exact SeqAt.EqAt.bool_int a b t
    | str b => obtain ⟨t, rfl⟩ := rx; exact SeqAt.EqAt.bool_str a b t
    | _ => exact absurd (show false = true from fx) Bool.false_ne_true
  | int a =>
    obtain ⟨t', rfl⟩ := ry
    cases x with
    | non => cases rx; exact SeqAt.EqAt.int_none a t'
    | bl b => cases rx; exact SeqAt.EqAt.int_bool a t' b
    | int b => obtain ⟨t, rfl⟩ := rx; exact SeqAt.EqAt.int_int a t' b t
    | str b => obtain ⟨t, rfl⟩ := rx; exact SeqAt.EqAt.int_str a t' b t
    | _ => exact absurd (show false = true from fx) Bool.false_ne_true
  | str a =>
    obtain ⟨t', rfl⟩ := ry
    cases x with
    | non => cases rx; exact SeqAt.EqAt.str_none a t'
    | bl b => cases rx; exact SeqAt.EqAt.str_bool a t' b
    | int b => obtain ⟨t, rfl⟩ := rx; exact SeqAt.EqAt.str_int a t' b t
    | str b => obtain ⟨t, rfl⟩ := rx; exact SeqAt.EqAt.str_str a t' b t
    | _ => exact absurd (show false = true from fx) Bool.false_ne_true
  | _ => exact absurd (show false = true from fy) Bool.false_ne_true
/-- the items' answers, read off the values (a value's own answer does not lean on its token) -/
def eqU (x : V) (u : Value) : Bool := match u with
  | .none => eqV .non x
  | .bool b => eqV (.bl b) x
  | .int i _ => eqV (.int i) x
  | .str z _ => eqV (.str z) x
  | _ => false
theorem eqU_of {x y : V} {u : Value} (r : RelV y u) (f : flatV y = true) : eqU x u = eqV y x := by
  cases y with
  | non => cases r; rfl
  | bl b => cases r; rfl
  | int i => obtain ⟨t, rfl⟩ := r; rfl
  | str z => obtain ⟨t, rfl⟩ := r; rfl
  | _ => exact absurd (show false = true from f) Bool.false_ne_true
theorem any_eqU {x : V} : ∀ {xs : List V} {us : List Value}, Vals xs us → xs.all flatV = true → us.any (eqU x) = xs.any fun y => eqV y x
  | _, _, .nil, _ => rfl
  | y :: xs, u :: us, .cons r t, f => by
    rw [List.all_cons, Bool.and_eq_true] at f
    rw [List.any_cons, List.any_cons, eqU_of r f.1, any_eqU t f.2]
theorem mem_eqAt {A : Around} {s : Shared} {x : V} {v : Value} (rx : RelV x v) (fx : flatV x = true) : ∀ {xs : List V} {us : List Value}, Vals xs us → xs.all flatV = true → ∀ u ∈ us, SeqAt.EqAt A s u v (eqU x u)
  | _, _, .nil, _ => fun u hu => by cases hu
  | y :: xs, u :: us, .cons r t, f => fun u' hu => by
    rw [List.all_cons, Bool.and_eq_true] at f
    rcases List.mem_cons.mp hu with rfl | hu
    · rw [eqU_of r f.1]; exact eqAt_V r rx f.1 fx
    · exact mem_eqAt rx fx t f.2 u' hu
def inV (x : V) (xs : List V) : Bool := xs.any fun y => eqV y x
/-- x in a list or tuple of flat items -/
def rIn (K : PySem.W.Frag) (neg : Bool) : R2 := fun x y H Q => ∃ p xs, y = .ref p ∧ (SqL K H p xs ∨ SqT K H p xs) ∧ flatV x = true ∧ xs.all flatV = true ∧ Q (.bl (if neg then !inV x xs else inV x xs)) H
theorem op_in_seq : OpR X (compareOp .In) (rIn X.K false) := by
  intro pins s σ H x y v u Q I rx ry h
  obtain ⟨p, xs, rfl, hq, fx, fs, q⟩ := h
  cases ry
  rcases hq with hq | hq
  · obtain ⟨its, r, pl, hz⟩ := I.list hq
    refine SeqAt.in_listAt (eqU x) pl.isList (fun w hw => mem_eqAt rx fx r fs w (by simpa using hw)) ⟨.bl _, H, I, rfl, ?_⟩
    rw [show its.toArray.any (eqU x) = its.any (eqU x) by simp, any_eqU r fs]
    exact q
  · obtain ⟨its, r, pl, hz⟩ := I.tuple hq
    refine SeqAt.in_tupleAt (eqU x) pl (fun w hw => mem_eqAt rx fx r fs w (by simpa using hw)) ⟨.bl _, H, I, rfl, ?_⟩
    rw [show its.toArray.any (eqU x) = its.any (eqU x) by simp, any_eqU r fs]
    exact q
/-! ### len, list(x), tuple(x) of any list or tuple that is read -/
theorem call_len_seq : CallR X (.builtin "len") (fun xs H Q => ∃ p ys, xs = [.ref p] ∧ (SqL X.K H p ys ∨ SqT X.K H p ys) ∧ Q (.int ys.length) H) := by
  intro pins s σ H xs us Q I r h
  obtain ⟨p, ys, rfl, hq, q⟩ := h
  obtain ⟨u, rfl, rx⟩ := vals1 r
  cases rx
  have hn := line63
  rcases hq with hq | hq
  · obtain ⟨its, r', pl, hz⟩ := I.list hq
    have hlen := r'.length
    exact Calls.call_len_list pl.isList (by simp only [List.size_toArray] <;> omega) ⟨.int ys.length, H, I.tok _, ⟨s.toks + 1, by rw [List.size_toArray, hlen]⟩, q⟩
  · obtain ⟨its, r', pl, hz⟩ := I.tuple hq
    have hlen := r'.length
    exact len_tuple pl (by simp only [List.size_toArray] <;> omega) ⟨.int ys.length, H, I.tok _, ⟨s.toks + 1, by rw [List.size_toArray, hlen]⟩, q⟩
theorem call_len_str : CallR X (.builtin "len") (fun xs H Q => ∃ z, xs = [.str z] ∧ z.length ≤ sizeLine ∧ Q (.int z.length) H) := by
  intro pins s σ H xs us Q I r h
  obtain ⟨z, rfl, hz, q⟩ := h
  obtain ⟨u, rfl, t, rfl⟩ := vals1 r
  have hn := line63
  exact len_str (by omega) ⟨.int z.length, H, I.tok _, ⟨_, rfl⟩, q⟩
theorem CallR.or {f : Value} {r r' : List V → Hp → VK → Prop} (h : CallR X f r) (h' : CallR X f r') : CallR X f (fun xs H Q => r xs H Q ∨ r' xs H Q) := by
  intro pins s σ H xs us Q I rs q
  rcases q with q | q
  · exact h pins s σ H xs us Q I rs q
  · exact h' pins s σ H xs us Q I rs q
theorem call_tuple_of : CallR X (.type "tuple") (fun xs H Q => ∃ p ys, xs = [.ref p] ∧ ((SqL X.K H p ys ∧ ∀ l, H l = none → Q (.ref l) (upd H l (.tup ys))) ∨ (SqT X.K H p ys ∧ Q (.ref p) H))) := by
  intro pins s σ H xs us Q I r h
  obtain ⟨p, ys, rfl, h⟩ := h
  obtain ⟨u, rfl, rx⟩ := vals1 r
  cases rx
  rcases h with ⟨hq, q⟩ | ⟨hq, q⟩
  · obtain ⟨its, r', pl, hz⟩ := I.list hq
    have hlen := r'.length
    refine call_tuple_list pl.isList (fun h' kp => ?_) (by simp only [List.size_toArray] <;> omega)
    have I1 : Inv X pins σ H { s with heap := h' } := I.kept (t' := s.toks) kp
    have I2 : Inv X pins σ (upd H h'.objs.size (.tup ys)) { s with heap := h'.push { cls := .type "tuple", data := .seq its.toArray } } :=
      I1.laid (t' := s.toks) (fun b o e => Heap.get?_push_of_some _ e) (Nat.le_refl _) (show ObjOk X.prog X.w _ _ _ (.tup ys) from ⟨hz, its, r', IsTup.new _ _⟩)
    exact ⟨.ref h'.objs.size, _, I2, rfl, q _ (I1.hok.fresh (Nat.le_refl _))⟩
  · obtain ⟨its, r', pl, hz⟩ := I.tuple hq
    exact call_tuple_same pl ⟨.ref p, H, I, rfl, q⟩

/-! ### the call of a builtin's method: o.m(..) -/
/-- the value is of that builtin type -/
def tyV (K : PySem.W.Frag) (T : String) (x : V) (H : Hp) : Prop := match x with
  | .str _ => T = "str"
  | .int _ => T = "int"
  | .ref p => (T = "list" ∧ ∃ xs, SqL K H p xs) ∨ (T = "tuple" ∧ ∃ o, K.lookup p = some o ∧ o.cls = .type "tuple" ∧ o.dict = none) ∨
      (T = "dict" ∧ ((∃ kvs, H p = some (.dK kvs)) ∨ ∃ kvs, H p = some (.dT kvs))) ∨ (T = "set" ∧ ∃ S n, H p = some (.set S n))
  | _ => False
theorem tyV_is {pins : List (Addr × Obj)} {σ : St} {H : Hp} {s : Shared} {T : String} {x : V} {v : Value} (I : Inv X pins σ H s) (r : RelV x v) (ty : tyV X.K T x H) :
    s.TypeIs v T ∧ ∀ a, v = .ref a → ∃ ob, s.heap.get? a = some ob ∧ ob.dict = none := by
  cases x with
  | str z =>
    obtain ⟨t, rfl⟩ := r
    cases (show T = "str" from ty)
    exact ⟨typeIs_str s z t, fun _ e => nomatch e⟩
  | int i =>
    obtain ⟨t, rfl⟩ := r
    cases (show T = "int" from ty)
    exact ⟨typeIs_int s i t, fun _ e => nomatch e⟩
  | ref p =>
    cases r
    rcases ty with ⟨rfl, xs, hq⟩ | ⟨rfl, o, hk, hc, hd⟩ | ⟨rfl, hk⟩ | ⟨rfl, S, n, hk⟩
    · obtain ⟨its, _, pl, _⟩ := I.list hq
      refine ⟨pl.isList.typeIs, fun a e => ?_⟩
      cases e
      obtain ⟨o, n, e, c, hd, _⟩ := pl
      exact ⟨o, e, hd⟩
    · refine ⟨⟨o, I.kIn p o hk, hc⟩, fun a e => ?_⟩
      cases e
      exact ⟨o, I.kIn _ o hk, hd⟩
    · have z : ∃ o, s.heap.get? p = some o ∧ o.ExactDict := by
        rcases hk with ⟨kvs, hk⟩ | ⟨kvs, hk⟩
        · obtain ⟨_, _, _, _, o, _, _, e, ex, _⟩ := I.hok p _ hk
          exact ⟨o, e, ex⟩
        · obtain ⟨_, _, _, _, o, _, _, e, ex, _⟩ := I.hok p _ hk
          exact ⟨o, e, ex⟩
      obtain ⟨o, e, ex⟩ := z
      refine ⟨⟨o, e, ex.1⟩, fun a e2 => ?_⟩
      cases e2
      exact ⟨o, e, ex.2.1⟩
    · obtain ⟨o, _, _, _, e, ex, _⟩ := I.hok p _ hk
      refine ⟨⟨o, e, ex.1⟩, fun a e2 => ?_⟩
      cases e2
      exact ⟨o, e, ex.2.1⟩
  | _ => exact False.elim ty
def tBM0 (K : PySem.W.Frag) (T : String) (r : V → List V → Hp → VK → Prop) (to : TE) : TE := fun σ H Q => to σ H fun x H1 => tyV K T x H1 ∧ r x [] H1 Q
def tBM (K : PySem.W.Frag) (T : String) (r : V → List V → Hp → VK → Prop) (to : TE) (t : TA) : TE := fun σ H Q => to σ H fun x H1 => tyV K T x H1 ∧ t σ H1 fun xs H2 => r x xs H2 Q
variable {o e : Expr} {es : List Expr} {to : TE} {t : TA} {name : Str} {apos cpos : Pos} {T id : String} {r : V → List V → Hp → VK → Prop}
theorem pe_bm0 (pa : PlainAttrs T) (slot : Slot T name id) (hty : typeOf (.builtin id) = pure (.type "method_descriptor")) (hm : MtR X id r) (ho : PE X o to)
    (hbase : attributeBase o name X.env (eval o X.env) = eval o X.env := by rfl) (hline : (apos.endLine == cpos.line) = true := by rfl) : PE X (.Call (.Attribute o name apos) [] [] cpos) (tBM0 X.K T r to) := by
  intro pins s σ H Q I h
  refine wpAny_Call_method0_late hbase hline (thn (ho pins s σ H _ I h) fun v s1 ⟨x, H1, I1, r1, ty, q1⟩ => ?_)
  obtain ⟨h1, h2⟩ := tyV_is I1 r1 ty
  exact ⟨T, id, pa, slot, hty, h1, h2, Calls.callWith_builtin rfl (PySem.evalArgs_none (hm pins s1 σ H1 x [] v [] Q I1 r1 .nil q1))⟩
theorem pe_bm (pa : PlainAttrs T) (slot : Slot T name id) (hty : typeOf (.builtin id) = pure (.type "method_descriptor")) (hm : MtR X id r) (ho : PE X o to) (ha : PA X (e :: es) t)
    (hbase : attributeBase o name X.env (eval o X.env) = eval o X.env := by rfl)
    (hfew : ((backTo cpos (starEach (e :: es) X.env)).all (fun x => !x.1) && (backToKw cpos (keywordEach [] X.env)).all (fun x => x.1.isSome)
      && decide ((e :: es).length + ([] : List Keyword).length + (if ([] : List Keyword).isEmpty then 0 else 1) < 30)) = true := by rfl)
    (hline : (apos.endLine == cpos.line) = true := by rfl) (hs : starEach (e :: es) X.env = (false, eval e X.env) :: starEach es X.env := by rfl) (hplain : (backTo cpos (starEach es X.env)).any (·.1) = false := by rfl) :
    PE X (.Call (.Attribute o name apos) (e :: es) [] cpos) (tBM X.K T r to t) := by
  intro pins s σ H Q I h
  refine wpAny_Call_method_late hbase hfew hline rfl (thn (ho pins s σ H _ I h) fun v s1 ⟨x, H1, I1, r1, ty, q1⟩ => ?_)
  obtain ⟨h1, h2⟩ := tyV_is I1 r1 ty
  refine ⟨T, id, pa, slot, hty, h1, h2, ?_⟩
  have hA := ha cpos pins s1 σ H1 _ I1 q1
  rw [hs] at hA ⊢
  refine Calls.callWith_builtin (by show (false || (backTo cpos (starEach es X.env)).any (·.1)) = false; rw [hplain] <;> rfl) (Calls.evalArgs_plain ?_)
  exact thn hA fun us s2 ⟨vs, H2, I2, r2, q2⟩ => hm pins s2 σ H2 x vs v us Q I2 r1 r2 q2
/- xs.append(e), list.index on a module's tuple .. are MtR facts of 06m -/
end
end L2

namespace L2
open PySem PySem.Spec PyProof.Rows

def MtM (X : Cx) (id : String) (r : V → List V → Hp → VK → Prop) : Prop :=
  ∀ (pins : List (Addr × Obj)) (s : Shared) (σ : St) (H : Hp) (x : V) (xs : List V) (v : Value) (us : List Value) (Q : VK), Inv X pins σ H s → RelV x v → Vals xs us → r x xs H Q →
    wpAny (model X.prog X.w) X.A (call (.builtin id) (v :: us)) (EP X pins σ Q) X.xe s

/-! ### lists of values -/
theorem Vals.one : ∀ {x : V} {us : List Value}, Vals [x] us → ∃ u, us = [u] ∧ RelV x u
  | _, _, .cons r .nil => ⟨_, rfl, r⟩
theorem Vals.two : ∀ {x y : V} {us : List Value}, Vals [x, y] us → ∃ u v, us = [u, v] ∧ RelV x u ∧ RelV y v
  | _, _, _, .cons r (.cons q .nil) => ⟨_, _, rfl, r, q⟩
theorem Vals.zero : ∀ {us : List Value}, Vals [] us → us = []
  | _, .nil => rfl
theorem Vals.dropLast {xs : List V} {us : List Value} (h : Vals xs us) : Vals xs.dropLast us.dropLast := by
  induction h with
  | nil => exact .nil
  | cons r t ih =>
    cases t with
    | nil => exact .nil
    | cons q t' => exact .cons r ih
theorem Vals.reverse {xs : List V} {us : List Value} (h : Vals xs us) : Vals xs.reverse us.reverse := by
  induction h with
  | nil => exact .nil
  | cons r t ih => rw [List.reverse_cons, List.reverse_cons]; exact Vals.append ih (.cons r .nil)
section
variable {X : Cx} {pins : List (Addr × Obj)} {σ : St} {H : Hp} {s : Shared} {l b : Addr} {xs ys zs : List V}

/-! ### the two steps: a tracked list is rewritten, a new list is laid -/
theorem Inv.lset {its its' : List Value} {n : Nat} {f : Array Value → Array Value} {t' : Nat} (I : Inv X pins σ H s) (hH : H l = some (.lst xs))
    (e : s.heap.get? l = some { cls := .type "list", data := .seq its.toArray n }) (hf : f its.toArray = its'.toArray) (hv : Vals ys its') (hz : ys.length ≤ sizeLine) :
    Inv X pins σ (upd H l (.lst ys)) { s with heap := s.heap.update l (Obj.mapSeq f), toks := t' } := by
  have q := PySem.IsL.update e f
  rw [hf] at q
  refine I.write (x := l) (e := l) (by rw [hH]; exact trivial) (.inl rfl) (fun b' u hb hu => (Heap.get?_update_other s.heap (Obj.mapSeq f) (Ne.symm hb)).trans hu) ⟨_, q⟩ ?_
  exact ⟨hz, its', _, hv, q⟩
theorem Inv.lnew {its : List Value} {t' : Nat} (I : Inv X pins σ H s) (hv : Vals ys its) (hz : ys.length ≤ sizeLine) :
    Inv X pins σ (upd H s.heap.objs.size (.lst ys)) { s with heap := s.heap.push { cls := .type "list", data := .seq its.toArray }, toks := t' } :=
  I.laid (fun _ _ q => Heap.get?_push_of_some _ q) (Nat.le_refl _) ⟨hz, its, 0, hv, Heap.get?_push_size _ rfl⟩
theorem Inv.fresh (I : Inv X pins σ H s) : H s.heap.objs.size = none := I.hok.fresh (Nat.le_refl _)
theorem Inv.lstM (I : Inv X pins σ H s) (hH : H l = some (.lst xs)) : xs.length ≤ sizeLine ∧ ∃ (its : List Value) (n : Nat), Vals xs its ∧ xs.length = its.length ∧ s.heap.get? l = some { cls := .type "list", data := .seq its.toArray n } := by
  obtain ⟨z, its, n, r, e⟩ := I.hok l _ hH
  exact ⟨z, its, n, r, r.length, e⟩

theorem notLongL {n : Nat} (h : n ≤ sizeLine) : Builtin.List.listTooLong n = false := by
  unfold Builtin.List.listTooLong
  exact decide_eq_false (by omega)
end

section
variable {X : Cx}

/-! ### methods -/
def rAppend : V → List V → Hp → VK → Prop := fun x vs H Q => ∃ l xs y, x = .ref l ∧ vs = [y] ∧ H l = some (.lst xs) ∧ xs.length < sizeLine ∧ Q .non (upd H l (.lst (xs ++ [y])))
theorem mt_append : MtM X "list.append" rAppend := by
  intro pins s σ H x vs v us Q I rx rv h
  obtain ⟨l, xs, y, rfl, rfl, hH, hz, q⟩ := h
  cases rx
  obtain ⟨u, rfl, ru⟩ := rv.one
  obtain ⟨z, its, n, r, hl, e⟩ := I.lstM hH
  refine call_meets F.slot_list_append ⟨_, e, rfl⟩ F.entry_list_append (F.args_list_append_2 _ _) (PySem.list_append l its.toArray n u (by rw [List.size_toArray]; omega)) ⟨e, ?_⟩
  refine ⟨.non, _, I.lset (its' := its ++ [u]) hH e (by simp) (r.append (.cons ru .nil)) ?_, rfl, q⟩
  rw [List.length_append, List.length_singleton]
  omega

def rClear : V → List V → Hp → VK → Prop := fun x vs H Q => ∃ l xs, x = .ref l ∧ vs = [] ∧ H l = some (.lst xs) ∧ Q .non (upd H l (.lst []))
theorem mt_clear : MtM X "list.clear" rClear := by
  intro pins s σ H x vs v us Q I rx rv h
  obtain ⟨l, xs, rfl, rfl, hH, q⟩ := h
  cases rx
  have hus := rv.zero
  subst hus
  obtain ⟨z, its, n, r, hl, e⟩ := I.lstM hH
  refine call_meets F.slot_list_clear ⟨_, e, rfl⟩ F.entry_list_clear (F.args_list_clear_1 _) (AutoSeq1.list_clear_list_0 l its.toArray n (by rw [List.size_toArray]; omega)) ⟨e, ?_⟩
  exact ⟨.non, _, I.lset (its' := []) (ys := []) hH e rfl .nil (Nat.zero_le _), rfl, q⟩

/-! ### list + list, list += list, list * int -/
def rCat : R2 := fun x y H Q => ∃ l b xs zs, x = .ref l ∧ y = .ref b ∧ H l = some (.lst xs) ∧ H b = some (.lst zs) ∧ xs.length + zs.length ≤ sizeLine ∧ ∀ p, H p = none → Q (.ref p) (upd H p (.lst (xs ++ zs)))
theorem op_cat : OpR X (binaryOp .Add) rCat := by
  intro pins s σ H x y v u Q I rx ry h
  obtain ⟨l, b, xs, zs, rfl, rfl, hH, hB, hz, q⟩ := h
  cases rx
  cases ry
  obtain ⟨z, its, n, r, hl, e⟩ := I.lstM hH
  obtain ⟨z2, its2, n2, r2, hl2, e2⟩ := I.lstM hB
  refine PySem.P.add_list e e2 ?_ (by rw [List.size_toArray, List.size_toArray]; omega)
  have ea : its.toArray ++ its2.toArray = (its ++ its2).toArray := by simp
  rw [ea]
  exact ⟨.ref _, _, I.lnew (t' := s.toks) (r.append r2) (by rw [List.length_append]; omega), rfl, q _ I.fresh⟩
/-! ### del xs[i] -/
end

/-! ### xs[a:b] = ys -/
section
variable {prog : Program} {w : World} {A : Around} {E : Value → Shared → Prop} {s : Shared}
theorem bounds_run {a c n : Nat} (hac : a ≤ c) (hc : c ≤ n) : sliceBounds (some (a : Int)) (some (c : Int)) none n = ((a : Int), (c : Int), 1) := by
  simp only [sliceBounds, Option.getD_none]
  have h1 : ¬ ((a : Int) < 0) := by omega
  have h2 : ¬ ((c : Int) < 0) := by omega
  simp only [h1, h2, if_false, show (1 : Int) > 0 by decide, if_true]
  congr 1
  · omega
  · congr 1; omega
set_option maxRecDepth 100000 in
/-- list.__setitem__ with a slice of step one and another list -/
theorem setItem_slice {l b sl : Addr} {items new : Array Value} {n n2 : Nat} {vl vu : Value} {a c : Nat} {Q : Unit → Shared → Prop}
    (e : s.heap.get? l = some { cls := .type "list", data := .seq items n }) (e2 : s.heap.get? b = some { cls := .type "list", data := .seq new n2 }) (hne : l ≠ b)
    (hs : s.heap.IsSliceOf sl vl vu .none) (pl : IsPart vl (some (a : Int))) (pu : IsPart vu (some (c : Int))) (hac : a ≤ c) (hc : c ≤ items.size)
    (hsz : items.size + new.size ≤ sizeLine) (h : Q () { s with heap := s.heap.update l (Obj.mapSeq fun xs => xs.extract 0 a ++ new ++ xs.extract c xs.size) }) :
    wpAny (model prog w) A (setItem (.ref l) (.ref sl) (.ref b)) Q E s := by
  have hl : s.heap.IsList l items := PySem.IsL.isList e
  have hb : s.heap.IsList b new := PySem.IsL.isList e2
  obtain ⟨os, hos, hcs, hds⟩ := id hs
  have hTs : s.TypeIs (.ref sl) "slice" := ⟨os, hos, hcs⟩
  have hstep : ¬ ((rawPart none == rawInt 0) = true) := Bool.false_ne_true
  have hsame : Builtin.List.listSameRef (.ref l) (.ref b) = false := by
    unfold Builtin.List.listSameRef
    exact beq_eq_false_iff_ne.mpr hne
  have hmax : (max (a : Int) (c : Int)).toNat = c := by omega
  have hz' : ((fun xs : Array Value => xs.extract 0 a ++ new ++ xs.extract c xs.size) items).size ≤ sizeLine + 1 := by
    simp only [Array.size_append, Array.size_extract]
    omega
  unfold setItem
  try with_reducible refine wpAny_holding ?_
  first | refine wpAny_bind (wpAny_pure ?_) | skip
  refine wpAny_bind (wpAny_sequenceKey hl.typeIs (by decide) ?_)
  refine wpAny_bind (wpAny_callSpecial?_slot (name := Str.ofString "__setitem__") hl.typeIs slot_list_setitem
    (wpAny_call_entry slot_list_setitem hl.typeIs entry_list_setitem ?_ (args_list_setitem _ _ _)))
  show wpAny _ _ (Builtin.List.listSubscript? (.ref sl) >>= _) _ _ s
  refine wpAny_bind ?_
  unfold Builtin.List.listSubscript?
  refine wpAny_bind (wpAny_specialOf hTs slice_no_index ?_)
  simp only [Option.isNone_none, if_true]
  refine wpAny_pure ?_
  show wpAny _ _ (typeOf (.ref sl) >>= _) _ _ s
  refine wpAny_bind (wpAny_typeOf hTs ?_)
  first
    | rw [if_neg (by decide)]
    | refine PySem.W.KFB.if_not (by decide) ?_
  rw [listSliceParts_eq]
  refine wpAny_bind (wpAny_bind (wpAny_field hos hds (x := .none) rfl (wpAny_bind (wpAny_listPart .none ?_))))
  rw [if_neg hstep]
  refine wpAny_bind (wpAny_field hos hds (x := vl) rfl (wpAny_bind (wpAny_listPart pl ?_)))
  refine wpAny_bind (wpAny_field hos hds (x := vu) rfl (wpAny_bind (wpAny_listPart pu (wpAny_pure ?_))))
  first
    | simp only [hsame, Bool.false_eq_true, if_false]
    | refine PySem.W.KFB.if_not hsame ?_
    | (dsimp only
       rw [if_neg (by rw [hsame]; exact Bool.false_ne_true)])
  refine wpAny_bind (m := Builtin.List.listAllItems (.ref b) "must assign iterable to extended slice") ?_
  unfold Builtin.List.listAllItems
  refine wpAny_bind (wpAny_typeOf hb.typeIs ?_)
  first
    | refine PySem.W.KFB.if_so (by decide) ?_
    | rw [if_pos (by decide)]
    | simp only [beq_self_eq_true, Bool.true_or, if_true]
  unfold Builtin.List.listItems
  refine wpAny_bind (wpAny_seqItems e2 rfl (wpAny_pure ?_))
  refine wpAny_bind (wpAny_bind (wpAny_seqItems e rfl (wpAny_pure ?_)))
  refine wpAny_bind (wpAny_of_eq ((sliceIndices_raw (some (a : Int)) (some (c : Int)) none items.size (by simp)).trans (congrArg (pure : Int × Int × Int → Sem (Int × Int × Int)) (bounds_run hac hc))) ?_)
  show wpAny _ _ (if ((1 : Int) == 1) = true then _ else _) _ _ s
  rw [if_pos (by decide)]
  refine wpAny_bind (wpAny_rule ?_)
  first
    | simp only [notLongL hsz, Bool.false_eq_true, if_false]
    | refine PySem.W.KFB.if_not (notLongL hsz) ?_
  first | refine wpAny_bind (wpAny_pure ?_) | skip
  show wpAny _ _ (updateSeq l (fun xs => xs.extract 0 ((a : Int)).toNat ++ new ++ xs.extract (max (a : Int) (c : Int)).toNat xs.size) >>= _) _ _ s
  rw [hmax, Int.toNat_natCast]
  refine wpAny_bind (wpAny_updateSeq (hz := Nat.le_trans (Nat.le_add_right _ _) hsz) (_hz' := hz') e rfl ?_)
  refine wpAny_bind (wpAny_letGo ?_)
  first
    | exact wpAny_bind (wpAny_pure (wpAny_pure ⟨.none, rfl, wpAny_pure h⟩))
    | exact wpAny_pure ⟨.none, rfl, wpAny_pure h⟩
end

section
variable {X : Cx}
end
end L2

namespace Att
open PySem PySem.W PySem.Calls PyProof.Rows

/-! ### the script -/
theorem ints_of_wellAll {P : Params} {h : Heap} : ∀ (ns : List Int) (vs : List Value), WellAll P h vs (ns.map WData.int) → IntsAre vs ns := by
  intro ns
  induction ns with
  | nil =>
    intro vs w
    rw [List.map_nil] at w
    cases w
    exact .nil
  | cons n ns ih =>
    intro vs w
    rw [List.map_cons] at w
    cases w with
    | cons a b =>
      cases a
      exact .cons _ _ (ih _ b)

theorem script_of {l : OpenLaw} {n : Nat} (hn : l.most = some n) {P : Params} {h : Heap} {args : List WData} {vals : List Value}
    (hpre : l.row.toRowW.claim.pre args = true) (hwl : WellAll P h vals args) :
    ∃ a vs ns, vals = [Value.ref a] ∧ args = [WData.list (ns.map WData.int)] ∧ h.get? a = some { cls := .type "list", data := .seq vs.toArray } ∧ IntsAre vs ns ∧ ns.length ≤ n := by
  have hsh : WShape.hasAll [] args [.list .int] = true := (pre_splitW hpre).1
  have hc : l.pre.holds [] { args := args } = true := (pre_splitW hpre).2
  obtain ⟨d, r, rfl, h1, h2⟩ := hasAllW_cons hsh
  obtain rfl := hasAllW_nil h2
  obtain ⟨xs, rfl, h3⟩ := hasW_list h1
  obtain ⟨ns, rfl⟩ := items_int h3
  have hlen : ns.length ≤ n := by
    unfold OpenLaw.pre at hc
    have h4 : (WTm.not (.lt (.lit (.int (n : Int))) (.len (.arg 0)))).holds [] { args := [.list (ns.map .int)] } = true := by
      have h4 := (holds_andW hc).1
      rw [hn] at h4
      exact h4
    have h5 := condW_of h4 (w_not (w_lt w_lit (w_len_list (w_arg rfl))))
    rw [List.length_map] at h5
    refine Nat.le_of_not_lt fun q => ?_
    have q' : (n : Int) < ((ns.length : Nat) : Int) := by omega
    first
      | (rw [decide_eq_true q'] at h5; exact absurd h5 (by decide))
      | (simp at h5; omega)
  cases hwl with
  | cons w1 w2 =>
    cases w2
    cases w1 with
    | list ho hall => exact ⟨_, _, ns, rfl, rfl, ho, ints_of_wellAll ns _ hall, hlen⟩

theorem post_true (l : OpenLaw) (args : List WData) : l.row.toRowW.claim.post args (.bool true) args = true :=
  postW_of (r := l.row.toRowW) (X := (true == true))
    (show WShape.has [] (.bool true) .bool = true by first | rfl | decide | simp [WShape.has, WShape.arms, WShape.armsAll])
    (show (WTm.eq .res (.lit (.bool true))).value [] { args := args, res := some (.bool true), after := args } = some (.bool (true == true)) from w_eq_bool (w_res rfl) w_lit) rfl

/-! ### the attachment: holds_open's last premise (the goal 'hc' behind k_head) from a wpAny of the law's body -/
/-- the same from a codeAny of the CALL (for a layer whose function contracts speak of calls) -/
theorem attach_call {l : OpenLaw} {n : Nat} {q : Program} {loose : List Str} {XP : (Str → Option Value) → Heap → Prop} {YP : World → Heap → Prop} {d : DefRec}
    (hn : l.most = some n) (hdf : d.params.defaults = [])
    (call : ∀ (w : World) (s₀ s₁ : Shared) (mg mb : Str → Option Value) (fa : Addr) (o : Obj) (pm cd doc : Value) (a : Addr) (vs : List Value) (ns : List Int),
      Ground q loose [] XP w s₀ mg mb s₁.heap → YP w s₁.heap →
      s₁.heap.get? fa = some o → o.data = .func (docDef d.name d.params d.body d.scope pm cd doc) → s₁.heap.CodeRec cd d.name → mg d.name = some (.ref fa) →
      s₁.heap.get? a = some { cls := .type "list", data := .seq vs.toArray } → IntsAre vs ns → ns.length ≤ n → s₁.gens = #[] →
      codeAny (model l.prog w) callerA (.call (.ref fa) ⟨[.ref a], []⟩) (fun r s' => r = .ok (.ret (.bool true)) ∧ OldK s₁.heap s'.heap ∧ s'.os = s₁.os ∧ AllBare s'.gens) s₁) :
    WalkO q loose XP YP l.row.toRowW d [] (fun f vs => PySem.call f vs) := by
  intro w s₀ s₁ mg mb G Y fa o pm cd doc dV kV ho hd hcd hD hmg hg args vals as hpre hlay hrd hwl hlo
  obtain rfl : dV = .none := Dflts.none hD hdf
  obtain rfl : kV = .none := Dflts.noKw hD
  obtain ⟨a, vs, ns, rfl, rfl, hobj, hints, hlen⟩ := script_of hn hpre hwl
  refine enter_call (codeAny_mono (call w s₀ s₁ mg mb fa o pm cd doc a vs ns G Y ho (fd_plain hd) hcd hmg hobj hints hlen hg) fun r s' hq => ?_)
  obtain ⟨rfl, h2, h3, h4⟩ := hq
  exact ⟨.inl ⟨.bool true, .bool true, [], rfl, fun _ => rfl, .bool true, post_true l _, fun _ => ⟨List.Pairwise.nil, fun _ hm => (nomatch hm)⟩⟩, h2, h3, h4⟩

/-! ### rules over ANY heap (no ledger) from facts about the written part K: the library's own take a ledger (News) for what they write -/
section
variable {prog : Program} {w : World} {A : Around} {E : Value → Shared → Prop} {s : Shared} {K : Frag}

/-! the whole heap as the ledger: makes every rule that writes through a ledger a rule over any heap -/
def ledger (h : Heap) (L d : Addr) : List (Addr × Obj) := (List.range h.objs.size).filterMap fun a => if a = L ∨ a = d then none else (h.get? a).map fun o => (a, o)
end
end Att

namespace L2
open PySem PySem.Spec PyProof.Rows

theorem vals_ints : ∀ {vs : List Value} {ns : List Int}, IntsAre vs ns → Vals (ns.map V.int) vs
  | _, _, .nil => .nil
  | _, _, .cons n t h => .cons ⟨t, rfl⟩ (vals_ints h)

/-- nothing is tracked but the script, known to the object (or it is an object of the module) -/
def Only (H : Hp) : Prop := ∀ b, H b = none ∨ ∃ o xs, H b = some (.frz o (.lst xs))

/-- THE HEAD: the law's promise, at the heap behind the top. F, the promise of the law's def, may use that base is part of the heap (so K.In base, base.Ns mainGlobals mg stand in Mod) -/
theorem law_call {P : Program} {w : World} {K : PySem.W.Frag} {mg mb : Str → Option Value} {CX : CXT} {k : Nat} {fa a : Addr} {fd : FuncData} {x : Str} {sp : Sp} {s₁ : Shared} {vs : List Value} {ns : List Int}
    (KX : K.In s₁.heap) (hns : s₁.heap.Ns mainGlobals mg) (hb : s₁.heap.Ns builtinsNs mb) (hbb : ∀ x : Str, x ≠ "__name__" → mb x = bootBuiltins x) (hlim : s₁.heap.NoLimit) (hg : s₁.gens = #[])
    (ha : s₁.heap.get? a = some { cls := .type "list", data := .seq vs.toArray }) (hi : IntsAre vs ns) (hl : ns.length ≤ sizeLine) (hr : Room k callerA)
    (F : ∀ base : Heap, K.In base → base.Ns mainGlobals mg → FnOk P w K mg base CX k fa fd [x] sp) (hbind : ∀ (s : Shared) (u : Value), BindsTo s fd ⟨[u], []⟩ [(x, u)])
    (hsp : ∀ H : Hp, Only H → SqL K H a (ns.map V.int) → sp [.ref a] H (fun v _ => v = .bl true) fun _ _ _ => False)
    (hCX : ∀ H e s', CX [] H s₁ (fun _ _ _ => False) e s' → False) :
    codeAny (model P w) callerA (.call (.ref fa) ⟨[.ref a], []⟩) (fun r s' => r = .ok (.ret (.bool true)) ∧ OldK s₁.heap s'.heap ∧ s'.os = s₁.os ∧ AllBare s'.gens) s₁ := by
  have rv := vals_ints hi
  have lenV := hi.length
  -- from an abstract heap in which nothing but the script may be tracked
  have core : ∀ H : Hp, Only H → SqL K H a (ns.map V.int) → HOk P w H s₁.heap → (∀ b, H b ≠ none → b = a) → (H a ≠ none → K.lookup a = none) →
      codeAny (model P w) callerA (.call (.ref fa) ⟨[.ref a], []⟩) (fun r s' => r = .ok (.ret (.bool true)) ∧ OldK s₁.heap s'.heap ∧ s'.os = s₁.os ∧ AllBare s'.gens) s₁ := by
    intro H hO hS hok hA hK
    have base_of : ∀ {b : Addr} {o : Obj}, s₁.heap.get? b = some o → H b = none → (hidT s₁.heap H).get? b = some o := fun e n => hidT_get e n
    have noA : ∀ {b : Addr} {o : Obj} {es : Array DictEntry} {ep : Nat}, s₁.heap.get? b = some o → o.data = .dict es ep → H b = none := fun {b o es ep} e d => by
      cases q : H b with
      | none => rfl
      | some u =>
        have e' : b = a := hA b (by rw [q]; simp)
        subst e'
        rw [ha] at e; cases e
        have d' : Data.seq vs.toArray _ = Data.dict es ep := d
        cases d'
    have nsK : ∀ {b : Addr} {m : Str → Option Value}, s₁.heap.Ns b m → (hidT s₁.heap H).Ns b m := fun {b m} ⟨o, es, ep, e, d, r⟩ => ⟨o, es, ep, base_of e (noA e d), d, r⟩
    have hKb : K.In (hidT s₁.heap H) := fun b o e => base_of (KX b o e) (by
      cases q : H b with
      | none => rfl
      | some u =>
        have e' : b = a := hA b (by rw [q]; simp)
        subst e'
        rw [hK (by rw [q]; simp)] at e; cases e)
    have hM : Mod K mg (hidT s₁.heap H) := ⟨hKb, nsK hns, ⟨mb, nsK hb, hbb⟩, let ⟨mc, h1, h2⟩ := hlim; ⟨mc, nsK h1, h2⟩⟩
    have e0 : Env0 P w K mg (hidT s₁.heap H) callerA [] s₁ H := ⟨rfl, hM, fun b o e => of_hidT e, Nat.le_of_eq (hidT_size _ _), trivial, fun b hb => absurd (show b ∈ ([] : List Addr) from hb) (by simp), hok, .of_eq hg⟩
    refine codeAny_mono ((F _ hKb (nsK hns)).run callerA [] s₁ H ⟨[.ref a], []⟩ [.ref a] [.ref a] _ _ hr e0 (hbind s₁ (.ref a)) (.cons rfl .nil) (hsp H hO hS)) fun r s' h => ?_
    cases r with
    | error e => exact (hCX H e s' h).elim
    | ok fl =>
      cases fl with
      | next => exact False.elim h
      | brk => exact False.elim h
      | cont => exact False.elim h
      | ret u =>
        obtain ⟨v, H', os, bare, un, hok', r', q⟩ := h
        have q' : v = .bl true := q
        subst q'
        obtain rfl : u = Value.bool true := r'
        refine ⟨rfl, OldK.of_keep fun b o e => ?_, os, bare⟩
        cases q : H b with
        | none => exact un.keep b o e q (by intro z; exact absurd (show b ∈ ([] : List Addr) from z) (by simp)) (by simp)
        | some u =>
          rcases hO b with z | ⟨ob, xs, z⟩
          · rw [q] at z; cases z
          · have z2 := un.frzs b ob _ z
            obtain ⟨e1, _⟩ := hok b _ z
            obtain ⟨e2, _⟩ := hok' b _ z2
            rw [e] at e1; cases e1
            exact e2
  cases hk : K.lookup a with
  | some o =>
    -- the script is one of the module's own objects
    have e := KX a o hk
    rw [ha] at e
    cases e
    refine core (fun _ => none) (fun _ => .inl rfl) (.inr ⟨_, vs.toArray, _, hk, rfl, rfl, rfl, by rw [List.size_toArray, lenV]; exact hl, by simpa using rv⟩) (fun b u z => by have z' : (none : Option HO) = some u := z; cases z') (fun b z => absurd rfl z) fun z => absurd rfl z
  | none =>
    refine core (fun b => if b = a then some (.frz { cls := .type "list", data := .seq vs.toArray } (.lst (ns.map V.int))) else none) (fun b => ?_) (.inl (.inr ⟨{ cls := .type "list", data := .seq vs.toArray }, if_pos rfl⟩)) (fun b u z => ?_) (fun b z => ?_) fun _ => hk
    · by_cases hb : b = a
      · exact .inr ⟨_, _, if_pos hb⟩
      · exact .inl (if_neg hb)
    · by_cases hb : b = a
      · have z' := (if_pos hb).symm.trans z
        cases z'
        subst hb
        exact ⟨ha, by rw [List.length_map]; exact hl, vs, _, rv, ha⟩
      · have z' := (if_neg hb).symm.trans z
        cases z'
    · by_cases hb : b = a
      · exact hb
      · exact absurd (if_neg hb) z
end L2

namespace L2
open PySem PySem.Spec PyProof.Rows

abbrev KOf {K : PySem.W.Frag} {h : Heap} (_ : K.In h) : PySem.W.Frag := K

/-- the goal that k_head leaves (case hc), from the law's promise. F gives the function object fd (K's own) once, then the promise over every base -/
theorem walk_of {l : PySem.W.OpenLaw} {n k : Nat} {q : Program} {loose : List Str} {XP : (Str → Option Value) → Heap → Prop} {YP : World → Heap → Prop} {d : DefRec} {K : Params → PySem.W.Frag} {CX : World → CXT} {sp : World → Sp} {x : Str}
    (hn : l.most = some n) (hn2 : n ≤ sizeLine) (hdf : d.params.defaults = []) (hr : Room k callerA)
    (hY : ∀ (w : World) (h : Heap), YP w h → (K w.params).In h)
    (F : ∀ (w : World) (mg : Str → Option Value) (fa : Addr) (h : Heap), (K w.params).In h → h.Ns mainGlobals mg → mg d.name = some (.ref fa) →
      ∃ fd : FuncData, (∀ (s : Shared) (u : Value), BindsTo s fd ⟨[u], []⟩ [(x, u)]) ∧
        ∀ base : Heap, (K w.params).In base → base.Ns mainGlobals mg → FnOk l.prog w (K w.params) mg base (CX w) k fa fd [x] (sp w))
    (hsp : ∀ (w : World) (H : Hp) (a : Addr) (ns : List Int), ns.length ≤ n → Only H → SqL (K w.params) H a (ns.map V.int) → sp w [.ref a] H (fun v _ => v = .bl true) fun _ _ _ => False)
    (hCX : ∀ (w : World) (H : Hp) (s : Shared) (e : Value) (s' : Shared), CX w [] H s (fun _ _ _ => False) e s' → False) :
    PySem.W.WalkO q loose XP YP l.row.toRowW d [] (fun f vs => PySem.call f vs) := by
  refine Att.attach_call hn hdf fun w s₀ s₁ mg mb fa o pm cd doc a vs ns G Y ho hd hcd hmg hobj hints hlen hg => ?_
  have KX := hY w _ Y
  obtain ⟨fd, hb, hF⟩ := F w mg fa _ KX G.T.g hmg
  exact law_call KX G.T.g G.T.b G.T.builtins G.T.nolimit hg hobj hints (Nat.le_trans hlen hn2) hr hF hb (fun H hO hS => hsp w H a ns hlen hO hS) fun H e s' => hCX w H s₁ e s'
/-- the same where the promise hangs on the written part alone: (sp := My.sp_law), no hole under a binder -/
theorem walk_ofK {l : PySem.W.OpenLaw} {n k : Nat} {q : Program} {loose : List Str} {XP : (Str → Option Value) → Heap → Prop} {YP : World → Heap → Prop} {d : DefRec} {K : Params → PySem.W.Frag} {CX : CXT} {sp : PySem.W.Frag → Sp} {x : Str}
    (hn : l.most = some n) (hn2 : n ≤ sizeLine) (hdf : d.params.defaults = []) (hr : Room k callerA)
    (hY : ∀ (w : World) (h : Heap), YP w h → (K w.params).In h)
    (F : ∀ (w : World) (mg : Str → Option Value) (fa : Addr) (h : Heap), (K w.params).In h → h.Ns mainGlobals mg → mg d.name = some (.ref fa) →
      ∃ fd : FuncData, (∀ (s : Shared) (u : Value), BindsTo s fd ⟨[u], []⟩ [(x, u)]) ∧
        ∀ base : Heap, (K w.params).In base → base.Ns mainGlobals mg → FnOk l.prog w (K w.params) mg base CX k fa fd [x] (sp (K w.params)))
    (hsp : ∀ (K : PySem.W.Frag) (H : Hp) (a : Addr) (ns : List Int), ns.length ≤ n → Only H → SqL K H a (ns.map V.int) → sp K [.ref a] H (fun v _ => v = .bl true) fun _ _ _ => False)
    (hCX : ∀ (H : Hp) (s : Shared) (e : Value) (s' : Shared), CX [] H s (fun _ _ _ => False) e s' → False) :
    PySem.W.WalkO q loose XP YP l.row.toRowW d [] (fun f vs => PySem.call f vs) :=
  walk_of (K := K) (CX := fun _ => CX) (sp := fun w => sp (K w.params)) hn hn2 hdf hr hY F (fun w H a ns h1 h2 h3 => hsp (K w.params) H a ns h1 h2 h3) fun _ H s e s' => hCX H s e s'
end L2

/- THE LAST THEOREM (shape; LID, My.* are yours):
   My.Adr: a structure of the addresses that your layer names (classes, functions); My.Txt K t: a structure (Prop) of the equations over K;
   My.txt_mk : {K} {implicit addresses ..} (e1 : nsIn K mainGlobals "law" = some (some (.ref f))) (e2 : K.lookup f = some ⟨oc, od, .func (fnOf "law" "law" params body scope dV kV doc pm an cdv ct), sl⟩) (e3 : codeIn K cdv "law" = true) .. : ∃ t, My.Txt K t

set_option maxRecDepth 100000 in
set_option maxHeartbeats 0 in
theorem PySem.Challenge.cw_LID_holds : PySem.Challenge.rw_LID.Holds := by
  w_on; o_law; k_head; (case hw => w_witness2)
  k_fill
  refine L2.walk_of (l := PySem.Challenge.rw_LID) (n := 63) (k := 40) (x := "script") (CX := fun w => ..) (sp := fun _ => My.sp_law) rfl (by decide) rfl ⟨rfl, by decide, by decide⟩ (fun w h Y => PySem.W.kIn_of Y) ?F ?S ?C
  case F =>
    intro w mg fa h KX G hmg
    have T : ∃ t, My.Txt (L2.KOf KX) t := by
      dsimp only [L2.KOf]                          -- K must stand as «<heap const> w.params» for k_is
      refine' My.txt_mk ?e1 ?e2 ?e3 ..
      (case e1 => PySem.W.k_is)                    -- in the order: a name -> its address -> its object -> its parts
      (case e2 => PySem.W.k_is)
      ..
    obtain ⟨t, T⟩ := T
    have e0 := hmg.symm.trans (PySem.W.mg_of KX G T.law)
    cases e0                                       -- fa is the law's own address
    exact ⟨_, fun s u => .of_eq rfl, fun base kb nb => My.law_fn T kb nb⟩     -- if «.of_eq rfl» comes too early: refine' ⟨_, ?b, fun base kb nb => My.law_fn T kb nb⟩; exact fun s u => .of_eq rfl
  case S => exact fun w H a ns hl hO hS => ..
  case C => exact ..
(the tactic k_is has no namespace: write k_is) -/

/-! SHORT WORDS over the layer: a def of the text, its body, what a loop and a test want. -/
namespace L2
open PySem PySem.Spec PyProof.Rows

/-! ### the text by places -/
def defArgs (s : Stmt) : Arguments := match s with
  | .FunctionDef _ a _ _ _ _ _ _ _ _ => a
  | _ => { posonlyargs := [], args := [], vararg := none, kwonlyargs := [], kw_defaults := [], kwarg := none, defaults := [] }
def defBody (s : Stmt) : List Stmt := match s with
  | .FunctionDef _ _ b _ _ _ _ _ _ _ => b
  | _ => []
def defScope (s : Stmt) : Scope := match s with
  | .FunctionDef _ _ _ _ _ _ sc _ _ _ => sc
  | _ => { kind := .function, names := [], isGenerator := false, isCoroutine := false }

/-! ### no exception leaves a def -/
abbrev CX0 : CXT := fun _ _ _ _ _ _ => False
abbrev E0 : XK := fun _ _ _ => False
theorem pass0 {X : Cx} : Passes CX0 X E0 := fun _ _ _ _ _ _ _ h => h.elim

/-! ### a def (or method) of the text as it stands behind the top -/
structure Fun (K : PySem.W.Frag) (x qual : Str) (st : Stmt) (f : Addr) (fd : FuncData) : Prop where
  ex : ∃ (oc : Value) (od : Option Addr) (kV doc pm : Value) (an : Option Addr) (cdv ct : Value) (osl : Array (Option Value)),
    fd = PySem.W.fnOf x qual (defArgs st) (defBody st) (defScope st) .none kV doc pm an cdv ct ∧ K.lookup f = some ⟨oc, od, .func fd, osl⟩ ∧ PySem.W.codeIn K cdv qual = true
  kp : PySem.W.keepIn K (.ref f) = true
section
variable {P : Program} {w : World} {K : PySem.W.Frag} {mg : Str → Option Value} {base : Heap}
/-- THE RULE for a def: its body as a term of rules, and the reading of that term -/
theorem Fun.ok {x qual : Str} {st : Stmt} {f : Addr} {fd : FuncData} {N ps : List Str} {k : Nat} {sp : Sp} (F : Fun K x qual st f fd) (S : FnScope N ps (defScope st)) (len : ∀ vs H Q E, sp vs H Q E → vs.length = ps.length)
    (hbody : ∀ (cdv : Value) (A : Around) (outer : List Env) (s : Shared) (H : Hp) (vs : List V) (Q : VK) (E : XK), Room k (A.deeper (envOfC qual (defScope st) s.heap.objs.size f cdv)) → sp vs H Q E →
      ∃ t, PSs (cxOf CX0 P w K mg base N qual (defScope st) f cdv A outer s H E).nox (defBody st) t ∧ t { nx := fun _ H' => Q .non H', rt := Q } (start N vs) H) : FnOk P w K mg base CX0 (k + 1) f fd ps sp := by
  obtain ⟨oc, od, kV, doc, pm, an, cdv, ct, osl, rfl, lk, hcd⟩ := F.ex
  refine fn_of lk hcd S len fun A outer s H vs Q E hr hsp => ?_
  obtain ⟨t, h, q⟩ := hbody cdv A outer s H vs Q E hr hsp
  exact ⟨t, h.nox, q⟩
/-- how its arguments bind (no defaults): h is «fun _ _ _ _ _ _ us hl => match us, hl with | [_, _], _ => rfl», one _ a parameter -/
theorem Fun.binds {x qual : Str} {st : Stmt} {f : Addr} {fd : FuncData} {ps : List Str} (F : Fun K x qual st f fd)
    (h : ∀ (kV doc pm : Value) (an : Option Addr) (cdv ct : Value) (us : List Value), us.length = ps.length → bindArgs (PySem.W.fnOf x qual (defArgs st) (defBody st) (defScope st) .none kV doc pm an cdv ct) ⟨us, []⟩ = pure (ps.zip us)) : Binds K fd ps [] := by
  obtain ⟨oc, od, kV, doc, pm, an, cdv, ct, osl, rfl, lk, hcd⟩ := F.ex
  exact .all (h kV doc pm an cdv ct)
theorem fun_mk {x qual : Str} {st : Stmt} {f : Addr} {oc : Value} {od an : Option Addr} {osl : Array (Option Value)} {kV doc pm cdv ct : Value} (l : K.lookup f = some ⟨oc, od, .func (PySem.W.fnOf x qual (defArgs st) (defBody st) (defScope st) .none kV doc pm an cdv ct), osl⟩)
    (c : PySem.W.codeIn K cdv qual = true) (k : PySem.W.keepIn K (.ref f) = true) : Fun K x qual st f (PySem.W.fnOf x qual (defArgs st) (defBody st) (defScope st) .none kV doc pm an cdv ct) := ⟨⟨oc, od, kV, doc, pm, an, cdv, ct, osl, rfl, l, c⟩, k⟩
end
/-! ### expressions in short: the name that stands in the i-th slot -/
section
variable {X : Cx}
theorem pv (i : Nat) {x : Str} {pos : Pos} (hN : X.N[i]? = some x := by rfl) (hv : Vis X.env.scope x := by first | exact Or.inl rfl | exact Or.inr (Or.inl rfl) | exact Or.inr (Or.inr rfl)) (hd : (x == ("__debug__" : Str)) = false := by decide)
    (hcd : (x == ("__classdict__" : Str)) = false := by decide) : PE X (.Name x pos) (tVar i) := pe_var hN hv hd hcd
end

/-! ### tests -/
/-! ### heaps -/
/-- all that was tracked is as it was -/
def Same (H H' : Hp) : Prop := ∀ b o, H b = some o → H' b = some o
theorem Same.refl (H : Hp) : Same H H := fun _ _ h => h
theorem Same.trans {H H1 H2 : Hp} (a : Same H H1) (b : Same H1 H2) : Same H H2 := fun c o h => b c o (a c o h)
theorem Same.free {H H' : Hp} (e : Same H H') {l : Addr} (h : H' l = Option.none) : H l = Option.none := by
  cases q : H l with
  | none => rfl
  | some o =>
    rw [e l o q] at h
    cases h
theorem Same.seq {K : PySem.W.Frag} {H H' : Hp} {a : Addr} {xs : List V} (e : Same H H') (h : SqL K H a xs) : SqL K H' a xs := by
  rcases h with (h | ⟨o, h⟩) | h
  · exact .inl (.inl (e _ _ h))
  · exact .inl (.inr ⟨o, e _ _ h⟩)
  · exact .inr h

end L2
/-! A small language of values: tuples stand as data, lists in a store; programs are functions in M. -/
namespace MM
open PySem

/-- a value: a list is a place of the store, but one that is only read (lit) -/
inductive D where
  | non | bl (b : Bool) | int (i : Int) | str (x : Str) | tup (ds : List D) | lit (ds : List D) | ref (n : Nat)
/-- what stands in the store: a list -/
inductive MO where
  | lst (ds : List D)
abbrev Sto := List MO
/-- an error: the number of its class, its fields -/
structure Exn where
  cls : Nat
  args : List D
inductive Rs (α : Type) where
  | ok (a : α) (s : Sto) | exc (x : Exn) (s : Sto) | bad
def M (α : Type) := Sto → Rs α
section
variable {α β : Type}
def ret (a : α) : M α := fun s => .ok a s
def bnd (m : M α) (f : α → M β) : M β := fun s => match m s with
  | .ok a s' => f a s'
  | .exc x s' => .exc x s'
  | .bad => .bad
def bad : M α := fun _ => .bad
def chk (c : Prop) [Decidable c] (m : M α) : M α := if c then m else bad
end
abbrev Loc := List (Option D)
abbrev CE := Loc → M D
abbrev CT := Loc → M Bool
abbrev CA := Loc → M (List D)
inductive Flw where
  | next (l : Loc) | ret (d : D) | brk (l : Loc) | cnt (l : Loc)
abbrev CS := Loc → M Flw
/-- sizes that are never met -/
def lim : Nat := 2 ^ 24

/-! ### the store -/
def alloc (o : MO) : M D := fun s => .ok (.ref s.length) (s ++ [o])
/-- the items of a list -/
def getL (n : Nat) : M (List D) := fun s => match s[n]? with
  | some (.lst ds) => .ok ds s
  | none => .bad
def putL (n : Nat) (ds : List D) : M Unit := fun s => match s[n]? with
  | some (.lst _) => .ok () (s.set n (.lst ds))
  | none => .bad
/-- the items of a tuple or a list -/
def seqOf : D → M (List D)
  | .tup ds => ret ds
  | .lit ds => ret ds
  | .ref n => getL n
  | _ => bad

/-! ### operations -/
def ixN (n : Nat) (i : Int) : Option Nat := if 0 ≤ i then (if i < n then some i.toNat else none) else (if -(n : Int) ≤ i then some (i + n).toNat else none)
def addD : D → D → M D
  | .int i, .int j => ret (.int (i + j))
  | .str x, .str y => chk (x.length + y.length ≤ lim) (ret (.str (x ++ y)))
  | .tup x, .tup y => chk (x.length + y.length ≤ lim) (ret (.tup (x ++ y)))
  | .ref a, .ref b => bnd (getL a) fun x => bnd (getL b) fun y => chk (x.length + y.length ≤ lim) (alloc (.lst (x ++ y)))
  | _, _ => bad
def subD : D → D → M D
  | .int i, .int j => ret (.int (i - j))
  | _, _ => bad
def mulOk (i j : Int) : Prop := (-(2 ^ 64) < i ∧ i < 2 ^ 64) ∨ (-(2 ^ 64) < j ∧ j < 2 ^ 64)
instance (i j : Int) : Decidable (mulOk i j) := by unfold mulOk; infer_instance
def mulD : D → D → M D
  | .int i, .int j => chk (mulOk i j) (ret (.int (i * j)))
  | _, _ => bad
def fdivD : D → D → M D
  | .int i, .int j => chk (0 < j ∧ j < 1073741824) (ret (.int (i / j)))
  | _, _ => bad
def modD : D → D → M D
  | .int i, .int j => chk (0 < j) (ret (.int (i % j)))
  | _, _ => bad
def powD : D → D → M D
  | .int i, .int j => chk (0 ≤ j ∧ j ≤ 1000000 ∧ i.natAbs < 2 ^ 64) (ret (.int (i ^ j.toNat)))
  | _, _ => bad
def shlD : D → D → M D
  | .int i, .int j => chk (0 ≤ j ∧ j ≤ 1000000 ∧ i.natAbs < 2 ^ 64) (ret (.int (i * 2 ^ j.toNat)))
  | _, _ => bad
def negD : D → M D
  | .int i => ret (.int (-i))
  | _ => bad
def cmpI (p : Int → Int → Bool) : D → D → M D
  | .int i, .int j => ret (.bl (p i j))
  | _, _ => bad
def ltD := cmpI fun i j => decide (i < j)
def leD := cmpI fun i j => decide (i ≤ j)
def gtD := cmpI fun i j => decide (j < i)
def geD := cmpI fun i j => decide (j ≤ i)
/-- == item by item -/
def allF (f : D → D → Option Bool) : List D → List D → Option Bool
  | [], [] => some true
  | x :: xs, y :: ys => match f x y with
    | some true => allF f xs ys
    | some false => (allF f xs ys).map fun _ => false
    | none => none
  | _ :: _, [] => some false
  | [], _ :: _ => some false
def eqS (g : List D → List D → Option Bool) : D → D → Option Bool
  | .non, .non => some true
  | .non, .bl _ => some false
  | .non, .int _ => some false
  | .non, .str _ => some false
  | .non, .tup _ => some false
  | .bl _, .non => some false
  | .bl a, .bl b => some (a == b)
  | .bl a, .int b => some ((if a then 1 else 0) == b)
  | .bl _, .str _ => some false
  | .bl _, .tup _ => some false
  | .int _, .non => some false
  | .int a, .bl b => some (a == (if b then 1 else 0))
  | .int a, .int b => some (a == b)
  | .int _, .str _ => some false
  | .int _, .tup _ => some false
  | .str _, .non => some false
  | .str _, .bl _ => some false
  | .str _, .int _ => some false
  | .str a, .str b => some (a == b)
  | .str _, .tup _ => some false
  | .tup _, .non => some false
  | .tup _, .bl _ => some false
  | .tup _, .int _ => some false
  | .tup _, .str _ => some false
  | .tup xs, .tup ys => g xs ys
  | _, _ => none
/-- == of data without lists, not deeper than the fuel -/
def eqF : Nat → D → D → Option Bool
  | 0, d, e => eqS (fun _ _ => none) d e
  | n + 1, d, e => eqS (allF (eqF n)) d e
def eqB (d e : D) : M Bool := match d, e with
  | .ref a, .ref b => bnd (getL a) fun x => bnd (getL b) fun y => match (if x.length = y.length then allF (eqF 50) x y else some false) with
    | some r => ret r
    | none => bad
  | .ref a, .non => bnd (getL a) fun _ => ret false
  | .non, .ref a => bnd (getL a) fun _ => ret false
  | d, e => match eqF 50 d e with
    | some r => ret r
    | none => bad
def eqD (d e : D) : M D := bnd (eqB d e) fun b => ret (.bl b)
def neD (d e : D) : M D := bnd (eqB d e) fun b => ret (.bl !b)
def isND : D → M D
  | .non => ret (.bl true)
  | _ => ret (.bl false)
def notND : D → M D
  | .non => ret (.bl false)
  | _ => ret (.bl true)
def itemD (ds : List D) (i : Int) : M D := match ixN ds.length i with
  | some k => match ds[k]? with
    | some d => ret d
    | none => bad
  | none => bad
def subsD : D → D → M D
  | .tup ds, .int i => itemD ds i
  | .lit ds, .int i => itemD ds i
  | .ref n, .int i => bnd (getL n) fun ds => itemD ds i
  | .str x, .int i => chk (x.length ≤ lim) (match ixN x.length i with
    | some k => match x.cps.toList[k]? with
      | some c => ret (.str ⟨#[c]⟩)
      | none => bad
    | none => bad)
  | _, _ => bad
def truD : D → M Bool
  | .non => ret false
  | .bl b => ret b
  | .int i => ret (i != 0)
  | .str x => chk (x.length ≤ lim) (ret ((x.length : Int) != 0))
  | .tup ds => ret (!ds.isEmpty)
  | .lit ds => ret (!ds.isEmpty)
  | .ref n => bnd (getL n) fun ds => ret (!ds.isEmpty)

/-! ### expressions -/
def cVar (i : Nat) : CE := fun l => match l[i]? with
  | some (some d) => ret d
  | _ => bad
def cCon (d : D) : CE := fun _ => ret d
def c1 (g : D → M D) (a : CE) : CE := fun l => bnd (a l) g
def c2 (g : D → D → M D) (a b : CE) : CE := fun l => bnd (a l) fun x => bnd (b l) fun y => g x y
def cNil : CA := fun _ => ret []
def cCons (a : CE) (r : CA) : CA := fun l => bnd (a l) fun x => bnd (r l) fun xs => ret (x :: xs)
def cTup (a : CA) : CE := fun l => bnd (a l) fun xs => chk (xs.length ≤ lim) (ret (.tup xs))
/-- a op1 b op2 c -/
def cChain (f g : D → D → M D) (a b c : CE) : CE := fun l => bnd (a l) fun x => bnd (b l) fun y => bnd (f x y) fun z => match z with
  | .bl true => bnd (c l) fun w => g y w
  | .bl false => ret (.bl false)
  | _ => bad
/-- and, or, not as values, of bools -/
def cAnd (a b : CE) : CE := fun l => bnd (a l) fun x => match x with
  | .bl true => b l
  | .bl false => ret (.bl false)
  | _ => bad
def cOr (a b : CE) : CE := fun l => bnd (a l) fun x => match x with
  | .bl true => ret (.bl true)
  | .bl false => b l
  | _ => bad
def cNot (a : CE) : CE := fun l => bnd (a l) fun x => match x with
  | .bl b => ret (.bl !b)
  | _ => bad
def cIfE (t : CT) (a b : CE) : CE := fun l => bnd (t l) fun c => if c = true then a l else b l
/-- a call of a def -/
def cCall (g : List D → M D) (a : CA) : CE := fun l => bnd (a l) g

/-! ### tests -/
/-- a value as a test -/
def tVal (a : CE) : CT := fun l => bnd (a l) truD
/-- a comparison as a test -/
def tCmpB (a : CE) : CT := fun l => bnd (a l) fun x => match x with
  | .bl b => ret b
  | _ => bad
def tAndB (a b : CT) : CT := fun l => bnd (a l) fun c => if c = true then b l else ret false
def tOrB (a b : CT) : CT := fun l => bnd (a l) fun c => if c = true then ret true else b l
def tNotB (a : CT) : CT := fun l => bnd (a l) fun c => ret !c

/-! ### what is walked: the items, and what must stay as it is meanwhile -/
structure Wk where
  ds : List D
  same : Sto → Prop
abbrev CI := Loc → M Wk
open Classical in
noncomputable def chkS (p : Sto → Prop) : M Unit := fun s => if p s then .ok () s else .bad
def anySt : Sto → Prop := fun _ => True
/-- the list at n is walked -/
def sameL (n : Nat) (ds : List D) : Sto → Prop := fun s => s[n]? = some (.lst ds)
def iSeq (a : CE) : CI := fun l => bnd (a l) fun x => match x with
  | .tup ds => ret ⟨ds, anySt⟩
  | .lit ds => ret ⟨ds, anySt⟩
  | .ref n => bnd (getL n) fun ds => ret ⟨ds, sameL n ds⟩
  | _ => bad
def rngD (lo : Int) (n : Nat) : List D := (List.range n).map fun k => .int (lo + (k : Nat))
def iRng1 (a : CE) : CI := fun l => bnd (a l) fun x => match x with
  | .int j => chk (-(2 ^ 62) ≤ j ∧ j < 2 ^ 62) (ret ⟨rngD 0 j.toNat, anySt⟩)
  | _ => bad
def iRng2 (a b : CE) : CI := fun l => bnd (a l) fun x => bnd (b l) fun y => match x, y with
  | .int i, .int j => chk ((-(2 ^ 62) ≤ i ∧ i < 2 ^ 62) ∧ (-(2 ^ 62) ≤ j ∧ j < 2 ^ 62)) (ret ⟨rngD i (j - i).toNat, anySt⟩)
  | _, _ => bad
/-- a temporary list -/
def iTmp (a : CA) : CI := fun l => bnd (a l) fun ds => ret ⟨ds, anySt⟩

/-- what enumerate walks -/
def iEnum (a : CE) : CI := fun l => bnd (a l) fun x => match x with
  | .tup ds => ret ⟨(rngD 0 ds.length).zipWith (fun i d => .tup [i, d]) ds, anySt⟩
  | _ => bad

/-! ### targets -/
abbrev CG := D → Loc → M Loc
def gVar (i : Nat) : CG := fun d l => ret (l.set i (some d))
def gsNil : List D → Loc → M Loc
  | [], l => ret l
  | _, _ => bad
def gsCons (g : CG) (r : List D → Loc → M Loc) : List D → Loc → M Loc
  | d :: ds, l => bnd (g d l) fun l' => r ds l'
  | _, _ => bad
def gTupD (n : Nat) (r : List D → Loc → M Loc) : CG := fun d l => match d with
  | .tup ds => chk (ds.length = n) (r ds l)
  | _ => bad

/-! ### comprehensions: the names of its own first (n of them), then those that it draws from around -/
def capt (n : Nat) (caps : List Nat) (l : Loc) : Loc := List.replicate n none ++ caps.map fun i => (l[i]?).join
noncomputable def collect (g : CG) (t : CT) (e : CE) (same : Sto → Prop) : List D → Loc → M (List D)
  | [], _ => bnd (chkS same) fun _ => ret []
  | d :: ds, l => bnd (chkS same) fun _ => bnd (g d l) fun l' => bnd (t l') fun b => if b = true then bnd (e l') fun x => bnd (collect g t e same ds l') fun xs => ret (x :: xs) else collect g t e same ds l'
noncomputable def aComp (n : Nat) (caps : List Nat) (i : CI) (g : CG) (t : CT) (e : CE) : CA := fun l => bnd (i l) fun w => chk (w.ds.length ≤ lim) (collect g t e w.same w.ds (capt n caps l))
/-- a slice's bound among n -/
def sIx (n d : Nat) : Option Int → Nat
  | none => d
  | some v => if v < 0 then (v + (n : Int)).toNat else min v.toNat n
def cutD (xs : List D) (lo hi : Option Int) : List D := (xs.drop (sIx xs.length 0 lo)).take (sIx xs.length xs.length hi - sIx xs.length 0 lo)
abbrev CO := Loc → M (Option Int)
def oNone : CO := fun _ => ret none
def oSome (a : CE) : CO := fun l => bnd (a l) fun x => match x with
  | .int i => ret (some i)
  | _ => bad
/-- a list's slice, not kept -/
def aSlice (a : CE) (lo hi : CO) : CA := fun l => bnd (a l) fun x => bnd (lo l) fun i => bnd (hi l) fun j => match x with
  | .lit ds => ret (cutD ds i j)
  | .ref n => bnd (getL n) fun ds => ret (cutD ds i j)
  | _ => bad
def tTrue : CT := fun _ => ret true
/-- a list that is kept -/
def cKeep (a : CA) : CE := fun l => bnd (a l) fun ds => alloc (.lst ds)
def aDisp (a : CA) : CA := fun l => bnd (a l) fun xs => chk (xs.length ≤ lim) (ret xs)

/-- an item of a list that is not kept -/
def cTmpSub (a : CA) (b : CE) : CE := fun l => bnd (a l) fun ds => bnd (b l) fun i => match i with
  | .int k => itemD ds k
  | _ => bad
/-- a function of a list that is not kept -/
def cTmp (g : List D → M D) (a : CA) : CE := fun l => bnd (a l) g

/-! ### statements -/
def sNext : CS := fun l => ret (.next l)
def sSeq (a b : CS) : CS := fun l => bnd (a l) fun f => match f with
  | .next l' => b l'
  | f => ret f
def sAsg (g : CG) (a : CE) : CS := fun l => bnd (a l) fun d => bnd (g d l) fun l' => ret (.next l')
def sRet (a : CE) : CS := fun l => bnd (a l) fun d => ret (.ret d)
def sExp (a : CE) : CS := fun l => bnd (a l) fun _ => ret (.next l)
def sIf (t : CT) (a b : CS) : CS := fun l => bnd (t l) fun c => if c = true then a l else b l
def sBad : CS := fun _ => bad
noncomputable def forD (g : CG) (b : CS) (same : Sto → Prop) : List D → CS
  | [], l => bnd (chkS same) fun _ => ret (.next l)
  | d :: ds, l => bnd (chkS same) fun _ => bnd (g d l) fun l' => bnd (b l') fun f => match f with
    | .next l2 => forD g b same ds l2
    | .cnt l2 => forD g b same ds l2
    | .brk l2 => ret (.next l2)
    | .ret d => ret (.ret d)
noncomputable def sFor (i : CI) (g : CG) (b : CS) : CS := fun l => bnd (i l) fun w => forD g b w.same w.ds l
def flwD : Flw → M D
  | .ret d => ret d
  | .next _ => ret .non
  | _ => bad
/-- a def: n names, the parameters first -/
def runDef (n : Nat) (body : CS) (ds : List D) : M D := bnd (body (ds.map some ++ List.replicate (n - ds.length) none)) flwD
/-- x[i] = v -/
def setItemD (o i v : D) : M Unit := match o, i with
  | .ref n, .int k => bnd (getL n) fun ds => match ixN ds.length k with
    | some j => putL n (ds.set j v)
    | none => bad
  | _, _ => bad
/-- o[i] = .. -/
def gSubD (o i : CE) : CG := fun v l => bnd (o l) fun y => bnd (i l) fun z => bnd (setItemD y z v) fun _ => ret l
/-! ### calls of Python's own -/
def lenD : D → M D
  | .tup ds => ret (.int ds.length)
  | .lit ds => ret (.int ds.length)
  | .ref n => bnd (getL n) fun ds => ret (.int ds.length)
  | .str x => chk (x.length ≤ lim) (ret (.int x.length))
  | _ => bad
def appendL (n : Nat) (v : D) : M D := bnd (getL n) fun ds => chk (ds.length < lim) (bnd (putL n (ds ++ [v])) fun _ => ret .non)
/-- xs.append(v) -/
def cAppend (a b : CE) : CE := fun l => bnd (a l) fun x => match x with
  | .ref n => bnd (b l) fun v => appendL n v
  | _ => bad
/-- xs.clear() -/
def cClear (a : CE) : CE := fun l => bnd (a l) fun x => match x with
  | .ref n => bnd (putL n []) fun _ => ret .non
  | _ => bad
def intD : D → M D
  | .int i => ret (.int i)
  | .bl b => ret (.int (if b then 1 else 0))
  | _ => bad
/-- tuple(x) -/
def tupleD : D → M D
  | .tup ds => ret (.tup ds)
  | .lit ds => ret (.tup ds)
  | .ref n => bnd (getL n) fun ds => ret (.tup ds)
  | _ => bad
def isTy : D → Option (List String)
  | .non => some ["NoneType"]
  | .bl _ => some ["bool", "int"]
  | .int _ => some ["int"]
  | .str _ => some ["str"]
  | .tup _ => some ["tuple"]
  | .lit _ => some ["list"]
  | .ref _ => some ["list"]
def numsL : List D → Option (List Int)
  | [] => some []
  | .int i :: ds => (numsL ds).map (i :: ·)
  | _ => none
def boolsL : List D → Option (List Bool)
  | [] => some []
  | .bl b :: ds => (boolsL ds).map (b :: ·)
  | _ => none
def maxD (ds : List D) : M D := match numsL ds with
  | some (n :: ns) => ret (.int (ns.foldl max n))
  | _ => bad
def allD (ds : List D) : M D := match boolsL ds with
  | some bs => ret (.bl (bs.all id))
  | _ => bad
def tupL (ds : List D) : M D := ret (.tup ds)
def lenL (ds : List D) : M D := ret (.int ds.length)
def isInst (ts : List String) (d : D) : M D := match isTy d with
  | some us => ret (.bl (ts.any fun t => us.contains t))
  | none => bad

/-! ### more forms -/
/-- x is y, of truths and None -/
def isD : D → D → M D
  | .bl a, .bl b => ret (.bl (a == b))
  | x, .non => isND x
  | _, _ => bad
def isntD : D → D → M D
  | .bl a, .bl b => ret (.bl !(a == b))
  | x, .non => notND x
  | _, _ => bad
/-- no tuples, no lists -/
def flatD : D → Bool
  | .non => true
  | .bl _ => true
  | .int _ => true
  | .str _ => true
  | _ => false
/-- == of such -/
def eqFl : D → D → Bool
  | .non, .non => true
  | .bl a, .bl b => a == b
  | .bl a, .int b => (if a then 1 else 0) == b
  | .int a, .bl b => a == (if b then 1 else 0)
  | .int a, .int b => a == b
  | .str a, .str b => a == b
  | _, _ => false
/-- x in a row of items -/
def inL (x : D) (ds : List D) : M D := chk (flatD x = true ∧ ds.all flatD = true) (ret (.bl (ds.any fun d => eqFl d x)))
def inD (x y : D) : M D := bnd (seqOf y) (inL x)
/-- x in [..], of a list that is not kept -/
def cInTmp (g : D → List D → M D) (a : CE) (b : CA) : CE := fun l => bnd (a l) fun x => bnd (b l) fun ds => g x ds
def min2D : D → D → M D
  | .int i, .int j => ret (.int (min i j))
  | _, _ => bad
def max2D : D → D → M D
  | .int i, .int j => ret (.int (max i j))
  | _, _ => bad
/-- list(x) -/
def listD (d : D) : M D := bnd (seqOf d) fun ds => alloc (.lst ds)
/-- xs.pop() -/
def cPop (a : CE) : CE := fun l => bnd (a l) fun x => match x with
  | .ref n => bnd (getL n) fun ds => match ds.getLast? with
    | some d => bnd (putL n ds.dropLast) fun _ => ret d
    | none => bad
  | _ => bad
/-- xs.reverse() -/
def cReverse (a : CE) : CE := fun l => bnd (a l) fun x => match x with
  | .ref n => bnd (getL n) fun ds => bnd (putL n ds.reverse) fun _ => ret .non
  | _ => bad
/-- xs[::-1] -/
def aBack (a : CE) : CA := fun l => bnd (a l) fun x => match x with
  | .ref n => getL n |> fun m => bnd m fun ds => ret ds.reverse
  | _ => bad
end MM
namespace MM
open PySem PySem.Spec PyProof.Rows L2

abbrev St := L2.St
/-! ### what stands for a value -/
/-- a list that is only read -/
def FzL (K : PySem.W.Frag) (H : Hp) (a : Addr) (xs : List V) : Prop :=
  (∃ o, H a = some (.frz o (.lst xs))) ∨
    ∃ (o : Obj) (its : Array Value) (n : Nat), K.lookup a = some o ∧ o.cls = .type "list" ∧ o.dict = none ∧ o.data = .seq its n ∧ its.size ≤ sizeLine ∧ Vals xs its.toList
theorem FzL.seq {K : PySem.W.Frag} {H : Hp} {a : Addr} {xs : List V} (h : FzL K H a xs) : SqL K H a xs := by
  rcases h with ⟨o, h⟩ | h
  · exact .inl (.inr ⟨o, h⟩)
  · exact .inr h
mutual
inductive Rep (K : PySem.W.Frag) (ρ : List Addr) (H : Hp) : V → D → Prop
  | non : Rep K ρ H .non .non
  | bl (b : Bool) : Rep K ρ H (.bl b) (.bl b)
  | int (i : Int) : Rep K ρ H (.int i) (.int i)
  | str (x : Str) : Rep K ρ H (.str x) (.str x)
  | tup {a : Addr} {vs : List V} {ds : List D} (h : SqT K H a vs) (r : Reps K ρ H vs ds) : Rep K ρ H (.ref a) (.tup ds)
  | lit {a : Addr} {vs : List V} {ds : List D} (h : FzL K H a vs) (r : Reps K ρ H vs ds) : Rep K ρ H (.ref a) (.lit ds)
  | ref {a : Addr} {n : Nat} (h : ρ[n]? = some a) : Rep K ρ H (.ref a) (.ref n)
inductive Reps (K : PySem.W.Frag) (ρ : List Addr) (H : Hp) : List V → List D → Prop
  | nil : Reps K ρ H [] []
  | cons {v : V} {d : D} {vs : List V} {ds : List D} (r : Rep K ρ H v d) (t : Reps K ρ H vs ds) : Reps K ρ H (v :: vs) (d :: ds)
end
/-- an object of the store -/
def ObR (K : PySem.W.Frag) (ρ : List Addr) (H : Hp) (a : Addr) : MO → Prop
  | .lst ds => ∃ vs, H a = some (.lst vs) ∧ Reps K ρ H vs ds
structure SR (K : PySem.W.Frag) (ρ : List Addr) (H : Hp) (st : Sto) : Prop where
  len : ρ.length = st.length
  nd : ρ.Nodup
  ob : ∀ (n : Nat) (a : Addr) (o : MO), ρ[n]? = some a → st[n]? = some o → ObR K ρ H a o
def LR (K : PySem.W.Frag) (ρ : List Addr) (H : Hp) (σ : St) (l : Loc) : Prop :=
  σ.length = l.length ∧ ∀ (i : Nat) (d : D), l[i]? = some (some d) → ∃ v, σ[i]? = some (some v) ∧ Rep K ρ H v d
/-- what a piece of code leaves as it was: all but the store's lists; new places of the store are new objects -/
structure Ex (ρ : List Addr) (H : Hp) (ρ' : List Addr) (H' : Hp) : Prop where
  pre : ∃ τ, ρ' = ρ ++ τ ∧ ∀ a ∈ τ, H a = none
  fix : ∀ a o, (∀ xs, o ≠ HO.lst xs) → H a = some o → H' a = some o
  lst : ∀ a xs, a ∉ ρ → H a = some (.lst xs) → H' a = some (.lst xs)
  trk : ∀ a o, H a = some o → H' a ≠ none

structure Up (ρ : List Addr) (H : Hp) (ρ' : List Addr) (H' : Hp) : Prop where
  pre : ∃ τ, ρ' = ρ ++ τ
  fix : ∀ a o, (∀ xs, o ≠ HO.lst xs) → H a = some o → H' a = some o
section
variable {K : PySem.W.Frag} {ρ ρ1 ρ2 : List Addr} {H H1 H2 : Hp} {st st1 : Sto} {v : V} {d : D} {vs : List V} {ds : List D} {a : Addr}
theorem Ex.up (x : Ex ρ H ρ1 H1) : Up ρ H ρ1 H1 := ⟨let ⟨τ, e, _⟩ := x.pre; ⟨τ, e⟩, x.fix⟩
theorem Up.grow {τ : List Addr} : Up ρ H (ρ ++ τ) H := ⟨⟨τ, rfl⟩, fun _ _ _ e => e⟩
theorem Ex.refl : Ex ρ H ρ H := ⟨⟨[], by simp, by simp⟩, fun _ _ _ e => e, fun _ _ _ e => e, fun _ _ e z => by rw [e] at z; cases z⟩
theorem Ex.trans (x : Ex ρ H ρ1 H1) (y : Ex ρ1 H1 ρ2 H2) : Ex ρ H ρ2 H2 := by
  obtain ⟨τ1, rfl, f1⟩ := x.pre
  obtain ⟨τ2, rfl, f2⟩ := y.pre
  refine ⟨⟨τ1 ++ τ2, by simp, fun a ha => ?_⟩, fun a o no e => y.fix a o no (x.fix a o no e), fun a xs na e => ?_, fun a o e => ?_⟩
  · rcases List.mem_append.mp ha with ha | ha
    · exact f1 a ha
    · cases q : H a with
      | none => rfl
      | some o => exact absurd (f2 a ha) (x.trk a o q)
  · refine y.lst a xs (fun z => ?_) (x.lst a xs na e)
    rcases List.mem_append.mp z with z | z
    · exact na z
    · rw [f1 a z] at e; cases e
  · cases q : H1 a with
    | none => exact absurd q (x.trk a o e)
    | some u => exact y.trk a u q
/-- a new object that is no place of the store -/
theorem Ex.new {o : HO} (h : H a = none) : Ex ρ H ρ (upd H a o) :=
  ⟨⟨[], by simp, by simp⟩, fun b u _ e => by rw [upd_ne (ne_of_none e h)]; exact e, fun b u _ e => by rw [upd_ne (ne_of_none e h)]; exact e,
    fun b u e => by rw [upd_ne (ne_of_none e h), e]; exact fun z => nomatch z⟩
/-- a new list of the store -/
theorem Ex.newL {vs : List V} (h : H a = none) : Ex ρ H (ρ ++ [a]) (upd H a (.lst vs)) :=
  ⟨⟨[a], rfl, fun b hb => by rw [List.mem_singleton] at hb; rw [hb]; exact h⟩, (Ex.new (ρ := ρ) h).fix, (Ex.new (ρ := ρ) h).lst, (Ex.new (ρ := ρ) h).trk⟩
theorem SqT.mono (x : Up ρ H ρ1 H1) (h : SqT K H a vs) : SqT K H1 a vs := by
  rcases h with h | h
  · rcases h with h | ⟨o, h⟩
    · exact .inl (.inl (x.fix a _ (fun xs z => by cases z) h))
    · exact .inl (.inr ⟨o, x.fix a _ (fun xs z => by cases z) h⟩)
  · exact .inr h
theorem FzL.mono (x : Up ρ H ρ1 H1) (h : FzL K H a vs) : FzL K H1 a vs := by
  rcases h with ⟨o, h⟩ | h
  · exact .inl ⟨o, x.fix a _ (fun xs z => by cases z) h⟩
  · exact .inr h
theorem get_app {α : Type} {l τ : List α} {n : Nat} {a : α} (h : l[n]? = some a) : (l ++ τ)[n]? = some a := by
  rw [List.getElem?_append_left (List.getElem?_eq_some_iff.mp h).1]; exact h
mutual
theorem Rep.up (x : Up ρ H ρ1 H1) : ∀ {v : V} {d : D}, Rep K ρ H v d → Rep K ρ1 H1 v d
  | _, _, .non => .non
  | _, _, .bl b => .bl b
  | _, _, .int i => .int i
  | _, _, .str y => .str y
  | _, _, .tup h r => .tup (SqT.mono x h) (Reps.up x r)
  | _, _, .lit h r => .lit (FzL.mono x h) (Reps.up x r)
  | _, _, .ref h => by
    obtain ⟨τ, e⟩ := x.pre
    exact .ref (by rw [e]; exact get_app h)
theorem Reps.up (x : Up ρ H ρ1 H1) : ∀ {vs : List V} {ds : List D}, Reps K ρ H vs ds → Reps K ρ1 H1 vs ds
  | _, _, .nil => .nil
  | _, _, .cons r t => .cons (Rep.up x r) (Reps.up x t)
end
theorem Rep.mono (r : Rep K ρ H v d) (x : Ex ρ H ρ1 H1) : Rep K ρ1 H1 v d := r.up x.up
theorem Reps.mono (r : Reps K ρ H vs ds) (x : Ex ρ H ρ1 H1) : Reps K ρ1 H1 vs ds := r.up x.up
theorem Reps.length : ∀ {vs : List V} {ds : List D}, Reps K ρ H vs ds → vs.length = ds.length
  | _, _, .nil => rfl
  | _, _, .cons _ t => by simp [Reps.length t]
theorem Reps.get : ∀ {vs : List V} {ds : List D} {i : Nat} {d : D}, Reps K ρ H vs ds → ds[i]? = some d → ∃ v, vs[i]? = some v ∧ Rep K ρ H v d
  | _, _, _, _, .nil, e => by simp at e
  | _, _, 0, _, .cons r _, e => by simp at e; subst e; exact ⟨_, rfl, r⟩
  | _, _, i + 1, _, .cons _ t, e => by
    obtain ⟨v, h1, h2⟩ := Reps.get (i := i) t (by simpa using e)
    exact ⟨v, by simpa using h1, h2⟩
theorem Reps.app : ∀ {vs ws : List V} {ds es : List D}, Reps K ρ H vs ds → Reps K ρ H ws es → Reps K ρ H (vs ++ ws) (ds ++ es)
  | _, _, _, _, .nil, s => s
  | _, _, _, _, .cons r t, s => .cons r (Reps.app t s)
theorem Reps.set : ∀ {vs : List V} {ds : List D} {v : V} {d : D} (i : Nat), Reps K ρ H vs ds → Rep K ρ H v d → Reps K ρ H (vs.set i v) (ds.set i d)
  | _, _, _, _, _, .nil, _ => .nil
  | _, _, _, _, 0, .cons _ t, r => .cons r t
  | _, _, _, _, i + 1, .cons q t, r => .cons q (Reps.set i t r)
theorem Reps.take : ∀ {vs : List V} {ds : List D} (n : Nat), Reps K ρ H vs ds → Reps K ρ H (vs.take n) (ds.take n)
  | _, _, 0, _ => .nil
  | _, _, _ + 1, .nil => .nil
  | _, _, n + 1, .cons r t => .cons r (Reps.take n t)
theorem Reps.drop : ∀ {vs : List V} {ds : List D} (n : Nat), Reps K ρ H vs ds → Reps K ρ H (vs.drop n) (ds.drop n)
  | _, _, 0, r => r
  | _, _, _ + 1, .nil => .nil
  | _, _, n + 1, .cons _ t => Reps.drop n t
theorem LR.mono {σ : St} {l : Loc} (x : Ex ρ H ρ1 H1) (h : LR K ρ H σ l) : LR K ρ1 H1 σ l :=
  ⟨h.1, fun i d e => let ⟨v, e1, r⟩ := h.2 i d e; ⟨v, e1, r.mono x⟩⟩
/-- the list of the store at n -/
theorem SR.at (s : SR K ρ H st) {n : Nat} {o : MO} (e : st[n]? = some o) : ∃ a, ρ[n]? = some a ∧ ObR K ρ H a o := by
  have hl : n < ρ.length := by rw [s.len]; exact (List.getElem?_eq_some_iff.mp e).1
  have q : ρ[n]? = some ρ[n] := List.getElem?_eq_getElem hl
  exact ⟨_, q, s.ob n _ o q e⟩
theorem SR.seq (s : SR K ρ H st) {n : Nat} (e : st[n]? = some (.lst ds)) : ∃ a vs, ρ[n]? = some a ∧ H a = some (.lst vs) ∧ Reps K ρ H vs ds := by
  obtain ⟨a, h, vs, q, r⟩ := s.at e
  exact ⟨a, vs, h, q, r⟩
theorem SR.fresh (s : SR K ρ H st) (h : H a = none) : a ∉ ρ := fun z => by
  obtain ⟨n, hn⟩ := List.getElem?_of_mem z
  have hl : n < st.length := by rw [← s.len]; exact (List.getElem?_eq_some_iff.mp hn).1
  have q := s.ob n a _ hn (List.getElem?_eq_getElem hl)
  cases o : st[n] with
  | lst ds =>
    rw [o] at q
    obtain ⟨vs, q, _⟩ := q
    rw [h] at q; cases q
theorem getL_ok {n : Nat} {xs : List D} {s' : Sto} (h : getL n st = .ok xs s') : s' = st ∧ st[n]? = some (.lst xs) := by
  unfold getL at h
  cases e : st[n]? with
  | none => rw [e] at h; cases h
  | some o =>
    rw [e] at h
    cases o with
    | lst ds => cases h; exact ⟨rfl, rfl⟩
/-- an object of the store stays, its list too -/
theorem ObR.mono {o : MO} (x : Up ρ H ρ1 H1) (h : ObR K ρ H a o) (hk : ∀ vs, H a = some (.lst vs) → H1 a = some (.lst vs)) : ObR K ρ1 H1 a o := by
  cases o with
  | lst ds =>
    obtain ⟨vs, q, r⟩ := h
    exact ⟨vs, hk vs q, r.up x⟩
/-- the heap grows by an object that is no place of the store -/
theorem SR.new {o : HO} (s : SR K ρ H st) (h : H a = none) : SR K ρ (upd H a o) st :=
  ⟨s.len, s.nd, fun n b ob e1 e2 => (s.ob n b ob e1 e2).mono (Ex.new (ρ := ρ) h).up fun vs q => by rw [upd_ne (ne_of_none q h)]; exact q⟩
/-- a list that stands in the heap becomes one of the store -/
theorem SR.keep (s : SR K ρ H st) (h : H a = some (.lst vs)) (na : a ∉ ρ) (r : Reps K ρ H vs ds) : SR K (ρ ++ [a]) H (st ++ [.lst ds]) := by
  have hl := s.len
  have old : ∀ (n : Nat) (b : Addr), (ρ ++ [a])[n]? = some b → (n < ρ.length ∧ ρ[n]? = some b) ∨ (n = ρ.length ∧ b = a) := fun n b e => by
    by_cases hn : n < ρ.length
    · rw [List.getElem?_append_left hn] at e; exact .inl ⟨hn, e⟩
    · rw [List.getElem?_append_right (by omega)] at e
      have hz : n - ρ.length = 0 := by
        cases q : n - ρ.length with
        | zero => rfl
        | succ k => rw [q] at e; simp at e
      rw [hz] at e
      simp at e
      exact .inr ⟨by omega, e.symm⟩
  refine ⟨by simp [hl], List.nodup_append.mpr ⟨s.nd, by simp, fun x hx y hy => ?_⟩, fun n b o e1 e2 => ?_⟩
  · rw [List.mem_singleton] at hy
    subst hy
    exact fun z => na (z ▸ hx)
  · rcases old n b e1 with ⟨hn, f1⟩ | ⟨hn, f1⟩
    · rw [List.getElem?_append_left (by omega)] at e2
      exact (s.ob n b o f1 e2).mono Up.grow fun _ q => q
    · subst f1
      have : o = .lst ds := by
        rw [hn, hl, List.getElem?_append_right (Nat.le_refl _)] at e2
        simp at e2; exact e2.symm
      subst this
      exact ⟨vs, h, r.up Up.grow⟩
/-- a list of the store is written -/
theorem SR.put (s : SR K ρ H st) {n : Nat} (hl : n < st.length) (ha : ρ[n]? = some a) (r : Reps K ρ H vs ds) :
    SR K ρ (upd H a (.lst vs)) (st.set n (.lst ds)) ∧ Ex ρ H ρ (upd H a (.lst vs)) := by
  obtain ⟨ws, hw⟩ : ∃ ws, H a = some (.lst ws) := by
    have q := s.ob n a _ ha (List.getElem?_eq_getElem hl)
    cases o : st[n] with
    | lst ds' => rw [o] at q; obtain ⟨vs', q, _⟩ := q; exact ⟨vs', q⟩
  have x : Ex ρ H ρ (upd H a (.lst vs)) := by
    refine ⟨⟨[], by simp, by simp⟩, fun b o no q => ?_, fun b xs nb q => ?_, fun b o q => ?_⟩
    · have : b ≠ a := fun z => by subst z; rw [hw] at q; cases q; exact no _ rfl
      rw [upd_ne this]; exact q
    · have : b ≠ a := fun z => by subst z; exact nb (List.mem_of_getElem? ha)
      rw [upd_ne this]; exact q
    · by_cases z : b = a
      · subst z; rw [upd_same]; exact fun w => nomatch w
      · rw [upd_ne z, q]; exact fun w => nomatch w
  refine ⟨⟨by simp [s.len], s.nd, fun m b o e1 e2 => ?_⟩, x⟩
  by_cases z : m = n
  · subst z
    rw [ha] at e1; cases e1
    rw [List.getElem?_set_self hl] at e2; cases e2
    exact ⟨vs, upd_same, r.mono x⟩
  · rw [List.getElem?_set_ne (Ne.symm z)] at e2
    refine (s.ob m b o e1 e2).mono x.up fun us q => ?_
    have : b ≠ a := fun w => by
      subst w
      exact z ((List.getElem?_inj (List.getElem?_eq_some_iff.mp e1).1 s.nd).mp (e1.trans ha.symm))
    rw [upd_ne this]; exact q

/-! ### judgements -/
def Post {α : Type} (K : PySem.W.Frag) (ρ : List Addr) (H : Hp) (r : Rs α) (R : α → Sto → List Addr → Hp → Prop) : Prop := match r with
  | .ok a st => ∀ ρ' H', Ex ρ H ρ' H' → SR K ρ' H' st → R a st ρ' H'
  | _ => False
theorem Post.left {α : Type} {r : Rs α} {R : α → Sto → List Addr → Hp → Prop} (x : Ex ρ H ρ1 H1) (h : Post K ρ H r R) : Post K ρ1 H1 r R := by
  cases r with
  | ok a st => exact fun ρ' H' y s => h ρ' H' (x.trans y) s
  | exc _ _ => exact h
  | bad => exact h
theorem Post.imp {α : Type} {r : Rs α} {R R' : α → Sto → List Addr → Hp → Prop} (h : Post K ρ H r R) (f : ∀ a st ρ' H', Ex ρ H ρ' H' → SR K ρ' H' st → R a st ρ' H' → R' a st ρ' H') : Post K ρ H r R' := by
  cases r with
  | ok a st => exact fun ρ' H' y s => f a st ρ' H' y s (h ρ' H' y s)
  | exc _ _ => exact h
  | bad => exact h
theorem Post.bnd {α β : Type} {m : M α} {f : α → M β} {R : β → Sto → List Addr → Hp → Prop} (h : Post K ρ H (bnd m f st) R) : Post K ρ H (m st) fun a st' ρ' H' => Post K ρ' H' (f a st') R := by
  unfold MM.bnd at h
  cases e : m st with
  | ok a s' =>
    rw [e] at h
    exact fun ρ' H' y s => h.left y
  | exc _ _ => rw [e] at h; exact h
  | bad => rw [e] at h; exact h
theorem Post.ret {α : Type} {a : α} {R : α → Sto → List Addr → Hp → Prop} (h : Post K ρ H (MM.ret a st) R) (s : SR K ρ H st) : R a st ρ H := h ρ H Ex.refl s
theorem Post.chk {α : Type} {c : Prop} [Decidable c] {m : M α} {R : α → Sto → List Addr → Hp → Prop} (h : Post K ρ H (MM.chk c m st) R) : c ∧ Post K ρ H (m st) R := by
  unfold MM.chk at h
  by_cases hc : c
  · rw [if_pos hc] at h; exact ⟨hc, h⟩
  · rw [if_neg hc] at h; exact h.elim
theorem Post.getL {n : Nat} {R : List D → Sto → List Addr → Hp → Prop} (h : Post K ρ H (MM.getL n st) R) (s : SR K ρ H st) : ∃ xs, st[n]? = some (.lst xs) ∧ R xs st ρ H := by
  cases e : MM.getL n st with
  | ok xs s' =>
    obtain ⟨rfl, q⟩ := getL_ok e
    rw [e] at h
    exact ⟨xs, q, h ρ H Ex.refl s⟩
  | exc _ _ => rw [e] at h; exact h.elim
  | bad => rw [e] at h; exact h.elim

/-- readings -/
def tOf (K : PySem.W.Frag) (f : CE) : TE := fun σ H Q => ∃ ρ l st, LR K ρ H σ l ∧ SR K ρ H st ∧ Post K ρ H (f l st) fun d _ ρ' H' => ∀ v, Rep K ρ' H' v d → Q v H'
def ttOf (K : PySem.W.Frag) (f : CT) : TT := fun σ H Q => ∃ ρ l st, LR K ρ H σ l ∧ SR K ρ H st ∧ Post K ρ H (f l st) fun b _ _ H' => Q b H'
def taOf (K : PySem.W.Frag) (f : CA) : TA := fun σ H Q => ∃ ρ l st, LR K ρ H σ l ∧ SR K ρ H st ∧ Post K ρ H (f l st) fun ds _ ρ' H' => ∀ vs, Reps K ρ' H' vs ds → Q vs H'
/-- a temporary list: no place of the store -/
def tlOf (K : PySem.W.Frag) (f : CA) : TE := fun σ H Q => ∃ ρ l st, LR K ρ H σ l ∧ SR K ρ H st ∧ Post K ρ H (f l st) fun ds _ ρ' H' => ∀ a vs, H a = none → a ∉ ρ' → H' a = some (.lst vs) → Reps K ρ' H' vs ds → Q (.ref a) H'
def tsOf (K : PySem.W.Frag) (c : CS) : TS := fun G σ H => ∃ ρ l st, LR K ρ H σ l ∧ SR K ρ H st ∧ Post K ρ H (c l st) fun f _ ρ' H' => match f with
  | .next l' => ∀ σ', LR K ρ' H' σ' l' → G.nx σ' H'
  | .ret d => ∀ v, Rep K ρ' H' v d → G.rt v H'
  | .brk l' => ∀ σ', LR K ρ' H' σ' l' → G.bk σ' H'
  | .cnt l' => ∀ σ', LR K ρ' H' σ' l' → G.ct σ' H'
def tgOf (K : PySem.W.Frag) (g : CG) : TG := fun v σ H Q => ∃ ρ l st d, LR K ρ H σ l ∧ SR K ρ H st ∧ Rep K ρ H v d ∧ Post K ρ H (g d l st) fun l' _ ρ' H' => ∀ σ', LR K ρ' H' σ' l' → Q σ' H'
def tgsOf (K : PySem.W.Frag) (g : List D → Loc → M Loc) : TGs := fun vs σ H Q => ∃ ρ l st ds, LR K ρ H σ l ∧ SR K ρ H st ∧ Reps K ρ H vs ds ∧ Post K ρ H (g ds l st) fun l' _ ρ' H' => ∀ σ', LR K ρ' H' σ' l' → Q σ' H'
/-- a two-place operation -/
def rOf (K : PySem.W.Frag) (g : D → D → M D) : R2 := fun x y H Q => ∃ ρ st d e, SR K ρ H st ∧ Rep K ρ H x d ∧ Rep K ρ H y e ∧ Post K ρ H (g d e st) fun r _ ρ' H' => ∀ v, Rep K ρ' H' v r → Q v H'
def uOf (K : PySem.W.Frag) (g : D → M D) : V → Hp → VK → Prop := fun x H Q => ∃ ρ st d, SR K ρ H st ∧ Rep K ρ H x d ∧ Post K ρ H (g d st) fun r _ ρ' H' => ∀ v, Rep K ρ' H' v r → Q v H'
def kOf (K : PySem.W.Frag) (g : List D → M D) : List V → Hp → VK → Prop := fun xs H Q => ∃ ρ st ds, SR K ρ H st ∧ Reps K ρ H xs ds ∧ Post K ρ H (g ds st) fun r _ ρ' H' => ∀ v, Rep K ρ' H' v r → Q v H'
/-- a def's promise -/
def spOf (K : PySem.W.Frag) (n : Nat) (g : List D → M D) : Sp := fun vs H Q _ => vs.length = n ∧ kOf K g vs H Q
end

section
variable {X : Cx} {a b c : Expr} {pos : Pos}
abbrev SE (X : Cx) (e : Expr) (f : CE) : Prop := PE X e (tOf X.K f)
abbrev SL (X : Cx) (e : Expr) (f : CA) : Prop := PE X e (tlOf X.K f)
abbrev ST (X : Cx) (e : Expr) (f : CT) : Prop := PT X e (ttOf X.K f)
abbrev SA (X : Cx) (es : List Expr) (f : CA) : Prop := PA X es (taOf X.K f)
abbrev SS (X : Cx) (s : Stmt) (f : CS) : Prop := PS X s (tsOf X.K f)
abbrev SSs (X : Cx) (s : List Stmt) (f : CS) : Prop := PSs X s (tsOf X.K f)
theorem _root_.L2.PE.of {e : Expr} {t t' : TE} (h : PE X e t) (f : ∀ σ H Q, t' σ H Q → t σ H Q) : PE X e t' := fun pins s σ H Q I q => h pins s σ H Q I (f σ H Q q)
theorem _root_.L2.PT.of {e : Expr} {t t' : TT} (h : PT X e t) (f : ∀ σ H Q, t' σ H Q → t σ H Q) : PT X e t' := fun pins s σ H Q I q => h pins s σ H Q I (f σ H Q q)
theorem _root_.L2.PA.of {e : List Expr} {t t' : TA} (h : PA X e t) (f : ∀ σ H Q, t' σ H Q → t σ H Q) : PA X e t' := fun pos pins s σ H Q I q => h pos pins s σ H Q I (f σ H Q q)
theorem _root_.L2.PS.of {e : Stmt} {t t' : TS} (h : PS X e t) (f : ∀ D σ H, t' D σ H → t D σ H) : PS X e t' := fun pins s σ H D I q => h pins s σ H D I (f D σ H q)
theorem _root_.L2.PSs.of {e : List Stmt} {t t' : TS} (h : PSs X e t) (f : ∀ D σ H, t' D σ H → t D σ H) : PSs X e t' := fun pins s σ H D I q => h pins s σ H D I (f D σ H q)
theorem _root_.L2.PG.of {e : Expr} {t t' : TG} (h : PG X e t) (f : ∀ v σ H Q, t' v σ H Q → t v σ H Q) : PG X e t' := fun pins s σ H v u Q I r q => h pins s σ H v u Q I r (f v σ H Q q)
theorem _root_.L2.PGs.of {e : List Expr} {t t' : TGs} (h : PGs X e t) (f : ∀ v σ H Q, t' v σ H Q → t v σ H Q) : PGs X e t' := fun pins s σ H v u Q I r q => h pins s σ H v u Q I r (f v σ H Q q)
theorem _root_.L2.OpR.of {f : Value → Value → Sem Value} {r r' : R2} (h : OpR X f r) (g : ∀ x y H Q, r' x y H Q → r x y H Q) : OpR X f r' := fun pins s σ H x y v u Q I rx ry q => h pins s σ H x y v u Q I rx ry (g x y H Q q)
theorem _root_.L2.CallR.of {f : Value} {r r' : List V → Hp → VK → Prop} (h : CallR X f r) (g : ∀ x H Q, r' x H Q → r x H Q) : CallR X f r' := fun pins s σ H x u Q I rx q => h pins s σ H x u Q I rx (g x H Q q)

/-! ### expressions -/
variable {fa fb fc : CE}
theorem se_var (i : Nat) {x : Str} (h : PE X (.Name x pos) (tVar i)) : SE X (.Name x pos) (cVar i) := h.of fun σ H Q ⟨ρ, l, st, lr, sr, p⟩ => by
  unfold cVar at p
  cases e : l[i]? with
  | none => rw [e] at p; exact p.elim
  | some o =>
    rw [e] at p
    cases o with
    | none => exact p.elim
    | some d =>
      obtain ⟨v, e1, r⟩ := lr.2 i d e
      exact ⟨v, e1, p.ret sr v r⟩
theorem se_int {i : Int} {j : Nat} : SE X (.Constant (.int i) j pos) (cCon (.int i)) := (pe_int (i := i) (j := j) (pos := pos)).of fun σ H Q ⟨ρ, l, st, lr, sr, p⟩ => p.ret sr _ (.int i)
theorem se_bl {i : Bool} {j : Nat} : SE X (.Constant (.bool i) j pos) (cCon (.bl i)) := (pe_bl (b := i) (j := j) (pos := pos)).of fun σ H Q ⟨ρ, l, st, lr, sr, p⟩ => p.ret sr _ (.bl i)
theorem se_str {i : Str} {j : Nat} : SE X (.Constant (.str i) j pos) (cCon (.str i)) := (pe_str (x := i) (j := j) (pos := pos)).of fun σ H Q ⟨ρ, l, st, lr, sr, p⟩ => p.ret sr _ (.str i)
/-- two in a row -/
theorem tOp_of {g : D → D → M D} {r : R2} (hr : ∀ x y H Q, rOf X.K g x y H Q → r x y H Q) : ∀ σ H Q, tOf X.K (c2 g fa fb) σ H Q → tOp r (tOf X.K fa) (tOf X.K fb) σ H Q := fun σ H Q ⟨ρ, l, st, lr, sr, p⟩ =>
  ⟨ρ, l, st, lr, sr, p.bnd.imp fun d st1 ρ1 H1 x1 s1 p1 v rv => ⟨ρ1, l, st1, lr.mono x1, s1, p1.bnd.imp fun e st2 ρ2 H2 x2 s2 p2 u ru => hr _ _ _ _ ⟨ρ2, st2, d, e, s2, rv.mono x2, ru, p2⟩⟩⟩
theorem se_op {op : Operator} {g : D → D → M D} (ho : OpR X (binaryOp op) (rOf X.K g)) (ha : SE X a fa) (hb : SE X b fb) : SE X (.BinOp a op b pos) (c2 g fa fb) :=
  (pe_op ho ha hb).of (tOp_of fun _ _ _ _ h => h)
theorem se_cmp {op : CmpOp} {g : D → D → M D} (ho : OpR X (compareOp op) (rOf X.K g)) (ha : SE X a fa) (hb : SE X b fb) (hm : behindInMarks op b = false) : SE X (.Compare a [op] [b] pos) (c2 g fa fb) :=
  (pe_cmpR ho ha hb hm).of (tOp_of fun _ _ _ _ h => h)
end
end MM
namespace MM
open PySem PySem.Spec PyProof.Rows L2

/-! ### a comprehension's block -/
abbrev NoE : Value → Shared → Prop := fun _ _ => False
def tests (ifs : List Expr) (env : Env) : Sem Bool := forIn ifs true fun c r => if r = true then do let ok ← isTrue c env (eval c env); pure (ForInStep.yield ok) else pure (ForInStep.yield r)
section
variable {prog : Program} {w : World} {A : Around} {R : Result → Shared → Prop} {s : Shared}
theorem comp_loop {elt target iter : Expr} {ifs : List Expr} {scope : Scope} {pos : Pos} {it acc : Value} {env : Env} (I : Nat → Shared → Prop)
    (turn : ∀ n s, I n s → wpAny (model prog w) A (pyNext it) (fun r s₁ => match r with
      | none => R (.ok .next) s₁
      | some v => wpAny (model prog w) A (letOwnedTupleGo target it v) (fun _ s₁' => wpAny (model prog w) A (assign target env v) (fun _ s₂ =>
          wpAny (model prog w) A (tests ifs env) (fun ok s₃ =>
            if ok = true then wpAny (model prog w) A (eval elt env) (fun x s₄ =>
              wpAny (model prog w) A (call (.builtin "list.append") [acc, x]) (fun _ s₅ => ∃ m, m < n ∧ I m s₅) NoE s₄) NoE s₃
            else ∃ m, m < n ∧ I m s₃) NoE s₂) NoE s₁') NoE s₁) NoE s)
    (n : Nat) (h : I n s) : codeAny (model prog w) A (.compLoop (.ListComp elt [⟨target, iter, ifs, 0⟩] scope pos) 0 it acc env) R s := by
  refine codeAny_loop rfl I (fun n s hI => ?_) n h
  show wpAny _ A ((compTurn (.ListComp elt [⟨target, iter, ifs, 0⟩] scope pos) 0 it acc env).onRaise (fun x => do noteFrame x env; theTreesLotGoes x)) _ _ s
  refine wpAny_noted ?_
  rw [compTurn_list]
  refine wpAny_bind (wpAny_standAt (wpAny_bind (wpAny_mono (turn n s hI) (fun r s₁ h₁ => ?_) fun _ _ h' => h'.elim)))
  cases r with
  | none => exact wpAny_pure h₁
  | some v =>
    refine wpAny_bind (wpAny_mono h₁ (fun _ s₁' h₁' => ?_) fun _ _ h' => h'.elim)
    refine wpAny_bind (wpAny_mono h₁' (fun _ s₂ h₂ => wpAny_bind (wpAny_mono h₂ (fun ok s₃ h₃ => ?_) fun _ _ h' => h'.elim)) fun _ _ h' => h'.elim)
    cases ok with
    | false => exact wpAny_pure ⟨rfl, h₃⟩
    | true =>
      exact wpAny_bind (wpAny_bind (wpAny_mono h₃ (fun x s₄ h₄ => wpAny_bind (wpAny_mono h₄ (fun _ s₅ h₅ => wpAny_pure (wpAny_pure ⟨rfl, h₅⟩)) fun _ _ h' => h'.elim)) fun _ _ h' => h'.elim))
end
/-- the cells that it draws from around -/
def clOf : List (Str × NameKind) → List (Str × Addr) → List (Str × Addr) → List (Str × Addr)
  | [], _, acc => acc
  | (n, k) :: r, cells, acc => clOf r cells (if k == .free then (match cells.lookup n with | some c => (n, c) :: acc | none => acc) else acc)
theorem closure_loop {env : Env} : ∀ (names : List (Str × NameKind)) (acc : List (Str × Addr)), (∀ x, (x, NameKind.free) ∈ names → ∃ c, env.cells.lookup x = some c) →
    (forIn names acc fun (x : Str × NameKind) r => if (x.2 == NameKind.free) = true then (do let a ← cellOf env x.1; pure (ForInStep.yield ((x.1, a) :: r)) : Sem _) else pure (ForInStep.yield r)) = (pure (clOf names env.cells acc) : Sem _)
  | [], acc, _ => rfl
  | (n, k) :: r, acc, h => by
    rw [List.forIn_cons]
    by_cases hk : (k == NameKind.free) = true
    · have e : k = .free := by simpa using hk
      subst e
      obtain ⟨c, hc⟩ := h n List.mem_cons_self
      have q : cellOf env n = pure c := by unfold cellOf; rw [hc]
      simp only [beq_self_eq_true, if_true, q]
      unfold clOf
      simp only [beq_self_eq_true, if_true, hc]
      exact closure_loop r ((n, c) :: acc) fun x hx => h x (List.mem_cons_of_mem _ hx)
    · simp only [hk, if_false]
      unfold clOf
      simp only [hk, if_false]
      exact closure_loop r acc fun x hx => h x (List.mem_cons_of_mem _ hx)
theorem closureFor_eq {scope : Scope} {env : Env} (h : ∀ x, (x, NameKind.free) ∈ scope.names → ∃ c, env.cells.lookup x = some c) : closureFor scope env = pure (clOf scope.names env.cells []) := by
  have q := closure_loop (env := env) scope.names [] h
  simp only [closureFor]
  exact congrArg (fun m => m >>= fun cs => pure cs) q
theorem lookup_cons_ne {α : Type} {x y : Str} {v : α} {r : List (Str × α)} (h : x ≠ y) : List.lookup x ((y, v) :: r) = r.lookup x := by
  rw [List.lookup_cons]
  have : (x == y) = false := beq_eq_false_iff_ne.mpr h
  rw [this]
theorem lookup_cons_self {α : Type} {x : Str} {v : α} {r : List (Str × α)} : List.lookup x ((x, v) :: r) = some v := by
  rw [List.lookup_cons, beq_self_eq_true]
theorem clOf_of {cells : List (Str × Addr)} {x : Str} {c : Addr} : ∀ (names : List (Str × NameKind)) (acc : List (Str × Addr)), (clOf names cells acc).lookup x = some c → cells.lookup x = some c ∨ acc.lookup x = some c
  | [], acc, h => .inr h
  | (n, k) :: r, acc, h => by
    unfold clOf at h
    rcases clOf_of r _ h with q | q
    · exact .inl q
    · split at q
      · split at q
        · rename_i c' hc
          by_cases hx : x = n
          · subst hx
            rw [lookup_cons_self] at q
            cases q
            exact .inl hc
          · rw [lookup_cons_ne hx] at q; exact .inr q
        · exact .inr q
      · exact .inr q
theorem clOf_has {cells : List (Str × Addr)} {x : Str} {c : Addr} (hc : cells.lookup x = some c) : ∀ (names : List (Str × NameKind)) (acc : List (Str × Addr)), ((x, NameKind.free) ∈ names ∨ acc.lookup x = some c) → (∀ d, acc.lookup x = some d → d = c) → (clOf names cells acc).lookup x = some c
  | [], acc, h, _ => by
    rcases h with h | h
    · cases h
    · exact h
  | (n, k) :: r, acc, h, ha => by
    unfold clOf
    by_cases hx : x = n
    · subst hx
      by_cases hk : (k == NameKind.free) = true
      · rw [if_pos hk, hc]
        exact clOf_has hc r _ (.inr lookup_cons_self) fun d hd => by rw [lookup_cons_self] at hd; cases hd; rfl
      · rw [if_neg hk]
        refine clOf_has hc r _ ?_ ha
        rcases h with h | h
        · rcases List.mem_cons.mp h with e | e
          · cases e; exact absurd rfl hk
          · exact .inl e
        · exact .inr h
    · have step : ∀ acc', acc'.lookup x = acc.lookup x → (clOf r cells acc').lookup x = some c := fun acc' e => by
        refine clOf_has hc r acc' ?_ (by rw [e]; exact ha)
        rcases h with h | h
        · rcases List.mem_cons.mp h with z | z
          · cases z; exact absurd rfl hx
          · exact .inl z
        · exact .inr (by rw [e]; exact h)
      refine step _ ?_
      split
      · split
        · exact lookup_cons_ne hx
        · rfl
      · rfl
/-- own cells -/
theorem cellsFrom_of {x : Str} {c : Addr} : ∀ (names : List (Str × NameKind)) (n : Nat) (acc : List (Str × Addr)), (cellsFrom n names acc).lookup x = some c → n ≤ c ∨ acc.lookup x = some c
  | [], _, _, h => .inr h
  | (y, k) :: r, n, acc, h => by
    unfold cellsFrom at h
    split at h
    · rcases cellsFrom_of r (n + 1) _ h with q | q
      · exact .inl (by omega)
      · by_cases hx : x = y
        · subst hx; rw [lookup_cons_self] at q; cases q; exact .inl (Nat.le_refl _)
        · rw [lookup_cons_ne hx] at q; exact .inr q
    · exact cellsFrom_of r n acc h
theorem cellsFrom_inj : ∀ (names : List (Str × NameKind)) (n : Nat) (acc : List (Str × Addr)), (∀ x y c, acc.lookup x = some c → acc.lookup y = some c → x = y) → (∀ x c, acc.lookup x = some c → c < n) →
    ∀ x y c, (cellsFrom n names acc).lookup x = some c → (cellsFrom n names acc).lookup y = some c → x = y
  | [], _, _, hi, _ => hi
  | (z, k) :: r, n, acc, hi, hb => by
    unfold cellsFrom
    split
    · refine cellsFrom_inj r (n + 1) _ (fun x y c h1 h2 => ?_) (fun x c h => ?_)
      · by_cases hx : x = z
        · subst hx
          rw [lookup_cons_self] at h1; cases h1
          by_cases hy : y = x
          · exact hy.symm
          · rw [lookup_cons_ne hy] at h2
            exact absurd (hb y _ h2) (Nat.lt_irrefl _)
        · rw [lookup_cons_ne hx] at h1
          by_cases hy : y = z
          · subst hy
            rw [lookup_cons_self] at h2; cases h2
            exact absurd (hb x _ h1) (Nat.lt_irrefl _)
          · rw [lookup_cons_ne hy] at h2; exact hi x y c h1 h2
      · by_cases hx : x = z
        · subst hx; rw [lookup_cons_self] at h; cases h; exact Nat.lt_succ_self _
        · rw [lookup_cons_ne hx] at h; exact Nat.lt_succ_of_lt (hb x c h)
    · exact cellsFrom_inj r n acc hi hb
theorem cellsFrom_cell {x : Str} {c : Addr} : ∀ (names : List (Str × NameKind)) (h : Heap) (acc : List (Str × Addr)), (cellsFrom h.objs.size names acc).lookup x = some c → acc.lookup x = some c ∨ ((pushCells h names).IsCell c none ∧ h.objs.size ≤ c)
  | [], _, _, q => .inl q
  | (y, k) :: r, h, acc, q => by
    unfold cellsFrom at q
    unfold pushCells
    split at q
    · rename_i hk
      rw [if_pos hk]
      rw [← Heap.size_push h { cls := .type "cell", data := .cell none }] at q
      rcases cellsFrom_cell r _ _ q with z | z
      · by_cases hx : x = y
        · subst hx; rw [lookup_cons_self] at z; cases z
          refine .inr ⟨?_, Nat.le_refl _⟩
          refine ⟨{ cls := .type "cell", data := .cell none }, pushCells_keeps r _ _ _ (Heap.get?_push_size _ rfl), rfl⟩
        · rw [lookup_cons_ne hx] at z; exact .inl z
      · refine .inr ⟨z.1, ?_⟩
        have := z.2
        rw [Heap.size_push] at this
        omega
    · rename_i hk
      rw [if_neg hk]
      exact cellsFrom_cell r h acc q
theorem cellsFrom_skip {x : Str} : ∀ (names : List (Str × NameKind)) (n : Nat) (acc : List (Str × Addr)), (x, NameKind.cell) ∉ names → (cellsFrom n names acc).lookup x = acc.lookup x
  | [], _, _, _ => rfl
  | (y, k) :: r, n, acc, h => by
    unfold cellsFrom
    split
    · rename_i hk
      have e : k = .cell := by simpa using hk
      subst e
      have hx : x ≠ y := fun z => h (by rw [z]; exact List.mem_cons_self)
      rw [cellsFrom_skip r (n + 1) _ fun z => h (List.mem_cons_of_mem _ z), lookup_cons_ne hx]
    · exact cellsFrom_skip r n acc fun z => h (List.mem_cons_of_mem _ z)
theorem lookup_map_key {α β : Type} (f : Str → α → β) (x : Str) : ∀ (l : List (Str × α)), (l.map fun p => (p.1, f p.1 p.2)).lookup x = (l.lookup x).map (f x)
  | [] => rfl
  | (y, v) :: r => by
    by_cases hx : x = y
    · subst hx
      rw [List.map_cons, lookup_cons_self, lookup_cons_self]; rfl
    · rw [List.map_cons, lookup_cons_ne hx, lookup_cons_ne hx]; exact lookup_map_key f x r
theorem relabel_lookup (scope : Scope) (env : Env) (x : Str) :
    (relabel scope env).names.lookup x = (scope.names.lookup x).map fun k => if (k == NameKind.free && env.scope.kind == .function && env.kindOf x == some .cell) = true then .cell else k := by
  have e : (relabel scope env).names = scope.names.map fun p => (p.1, (fun (n : Str) k => if (k == NameKind.free && env.scope.kind == .function && env.kindOf n == some .cell) = true then NameKind.cell else k) p.1 p.2) := by
    show scope.names.map _ = _
    congr 1
    funext p
    obtain ⟨n, k⟩ := p
    dsimp only
    split <;> rfl
  rw [e]
  exact lookup_map_key (fun (n : Str) k => if (k == NameKind.free && env.scope.kind == .function && env.kindOf n == some .cell) = true then NameKind.cell else k) x scope.names
theorem newEnv_comp {M : Model} {A : Around} {E : Value → Shared → Prop} {s : Shared} {scope : Scope} {globals : Addr} {cl : List (Str × Addr)} {qual : Str} {env : Env} {Q : Env → Shared → Prop}
    (h : Q { scope := scope, locals := s.heap.objs.size, globals := globals, cells := cellsFrom (s.heap.objs.size + 1) scope.names cl, qual := qual, func := none, code := env.code, frame := env.frame, builtins := env.builtins }
      { s with heap := pushCells (s.heap.push { cls := .type "dict", data := .dict #[] }) scope.names }) : wpAny M A (newFunctionEnv scope globals cl [] qual none .none (some env)) Q E s := by
  simp only [newFunctionEnv, Option.isSome_some, if_true]
  refine wpAny_bind (wpAny_alloc ?_)
  refine wpAny_bind (wpAny_layCells _ (fun name kind cells => by cases hkc : kind == NameKind.cell <;> simp [hkc]) _ _ _ _ ?_)
  rw [show ({ s with heap := s.heap.push { cls := .type "dict", data := .dict #[] } } : Shared).heap.objs.size = s.heap.objs.size + 1 from Heap.size_push ..]
  exact wpAny_bind (wpAny_pure (wpAny_pure h))

/-- the block's context: s, H as they are when its names are laid; fp: the iterator's objects -/
def cxC (X : Cx) (N : List Str) (scope : Scope) (fp : List Addr) (s : Shared) (H : Hp) : Cx where
  prog := X.prog
  w := X.w
  K := X.K
  mg := X.mg
  base := X.base
  A := X.A
  N := N
  s₀ := s
  H₀ := H
  env := compEnvC scope (cellsFrom (s.heap.objs.size + 1) scope.names (clOf scope.names X.env.cells [])) s.heap.objs.size X.env
  outer := X.stack
  stack := X.stack
  ex := fp
  fn := fun x => decide (scope.names.lookup x = some .local ∨ scope.names.lookup x = some .cell)
  calm := X.calm
  pn := []
  xe := NoE
/-- what is asked of its table of names -/
structure CompScope (X : Cx) (scope : Scope) : Prop where
  kind : scope.kind = .function
  names : ∀ x ∈ scope.names, x.2 = .local → scope.names.lookup x.1 = some .local
  free : ∀ x, (x, NameKind.free) ∈ scope.names → X.env.kindOf x = some .cell ∨ X.env.kindOf x = some .free
  once : ∀ x, (x, NameKind.free) ∈ scope.names → (x, NameKind.cell) ∉ scope.names
  own : ∀ x, (x, NameKind.free) ∈ scope.names → scope.names.lookup x ≠ some .local
def capV (n : Nat) (ix : List Nat) (σ : St) : St := List.replicate n none ++ ix.map fun i => (σ[i]?).join
structure CompNames (X : Cx) (scope : Scope) (N : List Str) (n : Nat) (ix : List Nat) : Prop where
  len : N.length = n + ix.length
  cap : ∀ (j i : Nat) (x : Str), ix[j]? = some i → N[n + j]? = some x → X.N[i]? = some x ∧ scope.names.lookup x = some .free

theorem clOf_mem {cells : List (Str × Addr)} {x : Str} {c : Addr} : ∀ (names : List (Str × NameKind)) (acc : List (Str × Addr)), (clOf names cells acc).lookup x = some c → (x, NameKind.free) ∈ names ∨ acc.lookup x = some c
  | [], acc, h => .inr h
  | (n, k) :: r, acc, h => by
    unfold clOf at h
    rcases clOf_mem r _ h with q | q
    · exact .inl (List.mem_cons_of_mem _ q)
    · split at q
      · rename_i hk
        have e : k = .free := by simpa using hk
        subst e
        split at q
        · by_cases hx : x = n
          · subst hx; exact .inl List.mem_cons_self
          · rw [lookup_cons_ne hx] at q; exact .inr q
        · exact .inr q
      · exact .inr q
theorem clOf_free {X : Cx} {scope : Scope} {cells : List (Str × Addr)} {x : Str} {c : Addr} (h : (clOf scope.names cells []).lookup x = some c) (hf : scope.names.lookup x = some .local ∨ scope.names.lookup x = some .cell) (S : CompScope X scope) : False := by
  rcases clOf_mem _ _ h with q | q
  · rcases hf with z | z
    · exact S.own x q z
    · exact S.once x q (PySem.mem_of_lookup z)
  · cases q
section
variable {X : Cx} {pins : List (Addr × Obj)} {σ : St} {H : Hp} {s : Shared} {scope : Scope} {N : List Str} {fp : List Addr}
theorem closure_below (I : Inv X pins σ H s) {x : Str} {c : Addr} (h : (clOf scope.names X.env.cells []).lookup x = some c) : X.env.cells.lookup x = some c ∧ c < s.heap.objs.size ∧ (∃ v, s.heap.IsCell c v) ∧ H c = none := by
  rcases clOf_of _ _ h with q | q
  · obtain ⟨v, z⟩ := I.cell x c q
    exact ⟨q, z.lt, ⟨v, z⟩, I.freeC x c q⟩
  · cases q
theorem cxC_ok (I : Inv X pins σ H s) (S : CompScope X scope) (hfp : ∀ b ∈ fp, FpOk X pins H b) (hlt : ∀ b ∈ fp, b < s.heap.objs.size) : (cxC X N scope fp s H).Ok := by
  have inj : ∀ x y c, (cellsFrom (s.heap.objs.size + 1) scope.names (clOf scope.names X.env.cells [])).lookup x = some c → (cellsFrom (s.heap.objs.size + 1) scope.names (clOf scope.names X.env.cells [])).lookup y = some c → x = y :=
    cellsFrom_inj scope.names _ _ (fun x y c h1 h2 => I.ok.inj x y c (closure_below I h1).1 (closure_below I h2).1) fun x c h => Nat.lt_succ_of_lt (closure_below I h).2.1
  refine ⟨I.ok.mod, S.kind, I.ok.glob, I.ok.blt, Nat.le_refl _, inj, fun x hx => ?_, fun x c hf hc => ?_, I.ok.hd, I.ok.frames, .inl rfl, fun b hb => ?_, I.bs, Nat.le_trans I.ok.bsz I.sz, fun b o e hb => ?_, fun b hb z => ?_, I.stack, I.stkFree⟩
  · have hx' : (relabel scope X.env).names.lookup x = some .cell ∨ (relabel scope X.env).names.lookup x = some .free := hx
    rw [relabel_lookup] at hx'
    cases e : scope.names.lookup x with
    | none => rw [e] at hx'; rcases hx' with z | z <;> cases z
    | some k =>
      refine Option.isSome_iff_exists.mp (PySem.W.cellsFrom_some scope.names _ _ ?_)
      cases k with
      | cell => exact .inl e
      | free =>
        have hm := PySem.mem_of_lookup e
        obtain ⟨c, hc⟩ := I.ok.has x (S.free x hm)
        exact .inr (by rw [clOf_has hc scope.names [] (.inl hm) fun d hd => by cases hd]; rfl)
      | _ =>
        rw [e] at hx'
        rcases hx' with z | z <;> (simp at z)
  · have hc' : (cellsFrom (s.heap.objs.size + 1) scope.names (clOf scope.names X.env.cells [])).lookup x = some c := hc
    rcases cellsFrom_of _ _ _ hc' with q | q
    · exact Nat.le_of_succ_le q
    · exfalso
      have hf' : scope.names.lookup x = some .local ∨ scope.names.lookup x = some .cell := of_decide_eq_true hf
      -- a name that is drawn is free
      exact clOf_free q hf' S
  · obtain ⟨f0, f1, f2, f3, f4, f5⟩ := hfp b hb
    refine ⟨Nat.ne_of_lt (hlt b hb), fun x c hc z => ?_⟩
    have hc' : (cellsFrom (s.heap.objs.size + 1) scope.names (clOf scope.names X.env.cells [])).lookup x = some c := hc
    rcases cellsFrom_of _ _ _ hc' with q | q
    · rw [z] at q
      exact absurd (Nat.lt_of_lt_of_le (Nat.lt_succ_of_lt (hlt b hb)) q) (Nat.lt_irrefl _)
    · exact f4 x c (closure_below I q).1 z
  · obtain ⟨f0, f1, f2, f3, f4, f5⟩ := hfp b hb
    rcases f3 with z | z
    · exact I.ok.noex b o e z
    · exact absurd (Nat.lt_of_lt_of_le (Nat.lt_of_lt_of_le (Heap.lt_size e) I.ok.bsz) z) (Nat.lt_irrefl _)
  · obtain ⟨f0, f1, f2, f3, f4, f5⟩ := hfp b hb
    rcases List.mem_cons.mp (I.stkSub b z) with q | q
    · exact f1 q
    · exact f2 q
/-- the heap when the block's names are laid -/
abbrev heapC (h : Heap) (scope : Scope) : Heap := pushCells (h.push { cls := .type "dict", data := .dict #[] }) scope.names
theorem heapC_keeps (h : Heap) (scope : Scope) : ∀ b o, h.get? b = some o → (heapC h scope).get? b = some o := fun b o e => pushCells_keeps _ _ b o (Heap.get?_push_of_some _ e)
theorem cxC_inv {n : Nat} {ix : List Nat} (I : Inv X pins σ H s) (S : CompScope X scope) (T : CompNames X scope N n ix) (hfp : ∀ b ∈ fp, FpOk X pins H b) (hlt : ∀ b ∈ fp, b < s.heap.objs.size) :
    Inv (cxC X N scope fp s H) [] (capV n ix σ) H { s with heap := heapC s.heap scope } := by
  have kp := heapC_keeps s.heap scope
  have hns : (heapC s.heap scope).Ns s.heap.objs.size fun _ => none := (Heap.Ns.new s.heap (.type "dict")).keeps (pushCells_keeps _ _)
  have cells : ∀ x c, (cellsFrom (s.heap.objs.size + 1) scope.names (clOf scope.names X.env.cells [])).lookup x = some c →
      (∃ v, (heapC s.heap scope).IsCell c v) ∧ H c = none := fun x c h => by
    have h' : (cellsFrom (s.heap.push { cls := .type "dict", data := .dict #[] }).objs.size scope.names (clOf scope.names X.env.cells [])).lookup x = some c := by rw [Heap.size_push]; exact h
    rcases cellsFrom_cell _ _ _ h' with q | ⟨q, z⟩
    · obtain ⟨_, _, ⟨v, hv⟩, hn⟩ := closure_below I q
      exact ⟨⟨v, hv.keeps kp⟩, hn⟩
    · refine ⟨⟨none, q⟩, I.hok.fresh ?_⟩
      rw [Heap.size_push] at z
      omega
  refine ⟨cxC_ok I S hfp hlt, rfl, I.bare, Un.kept kp, ⟨_, hns, fun i x v h1 h2 h3 => ?_⟩, fun x c h => (cells x c h).1, I.hok.fresh (Nat.le_refl _), fun x c h => (cells x c h).2, fun p hp => absurd (show p ∈ ([] : List (Addr × Obj)) from hp) (by simp), I.hok.kept kp, ?_⟩
  · have h1' : N[i]? = some x := h1
    have h2' : (List.replicate n none ++ ix.map fun i => (σ[i]?).join)[i]? = some (some v) := h2
    have hi : n ≤ i := Nat.le_of_not_lt fun z => by
      rw [List.getElem?_append_left (by simpa using z), List.getElem?_replicate] at h2'
      split at h2' <;> cases h2'
    rw [List.getElem?_append_right (by simpa using hi), List.length_replicate, List.getElem?_map] at h2'
    cases e : ix[i - n]? with
    | none => rw [e] at h2'; cases h2'
    | some k =>
      rw [e] at h2'
      have hj : (σ[k]?).join = some v := Option.some.inj h2'
      have hk : σ[k]? = some (some v) := by
        cases q : σ[k]? with
        | none => rw [q] at hj; cases hj
        | some o => rw [q] at hj; exact congrArg some hj
      obtain ⟨hN, hfr⟩ := T.cap (i - n) k x e (by rw [show n + (i - n) = i by omega]; exact h1')
      have hm := PySem.mem_of_lookup hfr
      have kx := S.free x hm
      obtain ⟨m, hn, hl⟩ := I.loc
      obtain ⟨u, ru, lk⟩ := hl k x v hN hk (by
        rcases kx with z | z
        · exact .inr (.inl z)
        · exact .inr (.inr z))
      have lk2 : ∃ c, X.env.cells.lookup x = some c ∧ s.heap.IsCell c (some u) := by
        rcases lk with ⟨z, _⟩ | ⟨_, c, hc, q⟩
        · rcases kx with y | y <;> (rw [y] at z; cases z)
        · exact ⟨c, hc, q⟩
      obtain ⟨c, hc, q⟩ := lk2
      refine ⟨u, ru, .inr ⟨?_, c, ?_, q.keeps kp⟩⟩
      · show (relabel scope X.env).names.lookup x = some .cell ∨ (relabel scope X.env).names.lookup x = some .free
        rw [relabel_lookup, hfr, Option.map_some]
        by_cases hq : (NameKind.free == NameKind.free && X.env.scope.kind == .function && X.env.kindOf x == some .cell) = true
        · rw [if_pos hq]; exact .inl rfl
        · rw [if_neg hq]; exact .inr rfl
      · show (cellsFrom (s.heap.objs.size + 1) scope.names (clOf scope.names X.env.cells [])).lookup x = some c
        rw [cellsFrom_skip _ _ _ (S.once x hm)]
        exact clOf_has hc scope.names [] (.inl hm) fun d hd => by cases hd
  · show (List.replicate n none ++ ix.map fun i => (σ[i]?).join).length = N.length
    rw [List.length_append, List.length_replicate, List.length_map, T.len]

/-! ### the rule -/
def tComp (wi : TI) (n : Nat) (ix : List Nat) (g : TG) (tt : TT) (te : TE) : TE := fun σ H Q => wi σ H fun J H1 => ∀ l, H1 l = none → ∃ W : Nat → Nat → St → Hp → Prop, (∃ m, W 0 m (capV n ix σ) (upd H1 l (.lst []))) ∧
  ∀ i m σ' H', W i m σ' H' → (J.stop i H' ∧ Q (.ref l) H') ∨ (J.go i H' ∧ ∀ x H2, J.yld i H' x H2 → g x σ' H2 fun σ2 H3 => tt σ2 H3 fun b H4 =>
    if b = true then te σ2 H4 fun v H5 => ∃ ys, H5 l = some (.lst ys) ∧ ys.length < sizeLine ∧ ∃ m', m' < m ∧ W (i + 1) m' σ2 (upd H5 l (.lst (ys ++ [v]))) else ∃ m', m' < m ∧ W (i + 1) m' σ2 H4)
/-- the tests of a clause: none, or one -/
def PIfs (X : Cx) (ifs : List Expr) (tt : TT) : Prop :=
  ∀ (pins : List (Addr × Obj)) (s : Shared) (σ : St) (H : Hp) (Q : Bool → Hp → Prop), Inv X pins σ H s → tt σ H Q → wpAny (model X.prog X.w) X.A (tests ifs X.env) (TP X pins σ Q) X.xe s
theorem pifs_nil : PIfs X [] (fun _ H Q => Q true H) := fun pins s σ H Q I h => wpAny_tests_nil ⟨H, I, h⟩
/-- the block's own dict, as it is let go -/
structure CFree (X : Cx) (pins : List (Addr × Obj)) (C : Addr) (H : Hp) (s : Shared) : Prop where
  ns : ∃ m, s.heap.Ns C m
  free : H C = none
  loc : C ≠ X.env.locals
  cell : ∀ x c, X.env.cells.lookup x = some c → c ≠ C
  sz : X.s₀.heap.objs.size ≤ C
  pin : ∀ p ∈ X.pn ++ pins, p.1 ≠ C
theorem CFree.go {C : Addr} {h' : Heap} (c : CFree X pins C H s) (I : Inv X pins σ H s) (hs : Heap.SameBut C s.heap h') : Inv X pins σ H { s with heap := h' } :=
  I.turned (t' := s.toks) (fun b o hb e => (hs.2 b hb).trans e) c.free c.loc (.inr c.sz) c.cell c.pin
theorem comp_core {elt target iter : Expr} {ifs : List Expr} {pos : Pos} {n : Nat} {ix : List Nat} {wi : TI} {g : TG} {tt : TT} {te : TE} {use : Option (Value → Sem Unit)} {Q : Value → Shared → Prop} {QH : VK}
    (hc : X.calm = true) (S : CompScope X scope) (T : CompNames X scope N n ix) (hi : PI X target iter wi)
    (blk : ∀ (fp : List Addr) (s : Shared) (H : Hp), PG (cxC X N scope fp s H) target g ∧ PIfs (cxC X N scope fp s H) ifs tt ∧ PE (cxC X N scope fp s H) elt te)
    (hs : ∀ x, foldedSetIterable iter X.env x = pure x) (I : Inv X pins σ H s) (h : tComp wi n ix g tt te σ H QH)
    (fin : ∀ (l C : Addr) (H' : Hp) (s' : Shared), Inv X pins σ H' s' → QH (.ref l) H' → CFree X pins C H' s' → compPost (model X.prog X.w) X.A X.xe use Q (.ref l) C (.ok .next) s') :
    wpAny (model X.prog X.w) X.A (comprehension (.ListComp elt [⟨target, iter, ifs, 0⟩] scope pos) scope X.env (firstIterPos [⟨target, iter, ifs, 0⟩] pos) (newList []) false (eval iter X.env) use) Q X.xe s := by
  have hclos : closureFor scope X.env = pure (clOf scope.names X.env.cells []) := closureFor_eq fun x hx => I.ok.has x (S.free x hx)
  refine wpAny_comprehension_free rfl hs hclos S.kind S.names ?_
  refine thn (hi pins s σ H _ I h) fun v s1 h1 => thn h1 fun itv s2 h2 => ?_
  obtain ⟨it, fp, tn, J, H2, rfl, I2, TT, st2, f2, rest⟩ := h2
  -- the new list
  refine wpAny_newObj_type (hd := by size_fits) ?_
  have hf2 : H2 s2.heap.objs.size = none := I2.hok.fresh (Nat.le_refl _)
  obtain ⟨W, ⟨m0, w0⟩, turn⟩ := rest _ hf2
  have fl : ∀ b ∈ fp, b < s2.heap.objs.size := fun b hb => by
    obtain ⟨o, e, _⟩ := TT.obj _ _ st2 b hb
    exact Heap.lt_size e
  have f3 : ∀ b ∈ fp, FpOk X pins (upd H2 s2.heap.objs.size (.lst [])) b := fun b hb => by
    obtain ⟨f0, fr⟩ := f2 b hb
    refine ⟨?_, fr⟩
    rw [upd_ne (Nat.ne_of_lt (fl b hb))]
    exact f0
  have I3 : Inv X pins σ (upd H2 s2.heap.objs.size (.lst [])) { s2 with heap := s2.heap.push { cls := .type "list", dict := none, data := .seq ([] : List Value).toArray } } :=
    I2.laid (t' := s2.toks) (fun b o e => Heap.get?_push_of_some _ e) (Nat.le_refl _) ⟨Nat.zero_le _, [], 0, .nil, Heap.get?_push_size _ rfl⟩
  have tn3 : tn 0 (s2.heap.push { cls := .type "list", dict := none, data := .seq ([] : List Value).toArray }) := TT.keep _ _ _ st2 fun b hb o e => Heap.get?_push_of_some _ e
  have fl3 : ∀ b ∈ fp, b < (s2.heap.push { cls := .type "list", dict := none, data := .seq ([] : List Value).toArray }).objs.size := fun b hb => by
    rw [Heap.size_push]; exact Nat.lt_succ_of_lt (fl b hb)
  generalize s2.heap.objs.size = l at *
  generalize hs3 : ({ s2 with heap := s2.heap.push { cls := .type "list", dict := none, data := .seq ([] : List Value).toArray } } : Shared) = s3 at *
  have e3 : s2.heap.push { cls := .type "list", dict := none, data := .seq ([] : List Value).toArray } = s3.heap := by rw [← hs3]
  rw [e3] at tn3 fl3
  generalize upd H2 l (.lst []) = H3 at *
  -- the block's names
  refine newEnv_comp ?_
  have I4 := cxC_inv (N := N) (n := n) (ix := ix) I3 S T f3 fl3
  obtain ⟨bg, bt, be⟩ := blk fp s3 H3
  have tn4 : tn 0 (heapC s3.heap scope) := TT.keep _ _ _ tn3 fun b hb o e => heapC_keeps _ _ _ _ e
  have fr4 : ∀ b ∈ fp, H3 b = none := fun b hb => (f3 b hb).1
  show codeAny (model X.prog X.w) X.A (.compStart (.ListComp elt [⟨target, iter, ifs, 0⟩] scope pos) 0 (.ref it) (.ref l) (cxC X N scope fp s3 H3).env) (compPost (model X.prog X.w) X.A X.xe use Q (.ref l) s3.heap.objs.size) { s3 with heap := heapC s3.heap scope }
  have fpx : ∀ {σ' : St} {H' : Hp} {s' : Shared}, Inv (cxC X N scope fp s3 H3) [] σ' H' s' → (∀ b ∈ fp, H' b = none) → ∀ b ∈ fp, FpOk (cxC X N scope fp s3 H3) [] H' b := fun I' hn b hb => by
    have q := I'.ok.exf b hb
    exact ⟨hn b hb, q.1, I'.ok.exfs b hb, .inl hb, q.2, fun p hp => absurd (show p ∈ ([] : List (Addr × Obj)) from hp) (by simp)⟩
  have hc' : (cxC X N scope fp s3 H3).calm = true := hc
  have loop : codeAny (model X.prog X.w) X.A (.compLoop (.ListComp elt [⟨target, iter, ifs, 0⟩] scope pos) 0 (.ref it) (.ref l) (cxC X N scope fp s3 H3).env) (compPost (model X.prog X.w) X.A X.xe use Q (.ref l) s3.heap.objs.size) { s3 with heap := heapC s3.heap scope } := by
    refine comp_loop (fun k s' => ∃ i σ' H', Inv (cxC X N scope fp s3 H3) [] σ' H' s' ∧ tn i s'.heap ∧ (∀ b ∈ fp, H' b = none) ∧ W i k σ' H') ?_ m0 ⟨0, _, H3, I4, tn4, fr4, w0⟩
    rintro k s5 ⟨i, σ5, H5, I5, tn5, fr5, w5⟩
    rcases turn i k σ5 H5 w5 with ⟨stop, q⟩ | ⟨go, step⟩
    · refine thn (TT.done (cxC X N scope fp s3 H3) rfl rfl rfl hc' i [] s5 σ5 H5 NoE I5 (fpx I5 fr5) tn5 stop) fun r s6 ⟨hr, I6⟩ => ?_
      subst hr
      have J6 : Inv X pins σ H5 s6 := I3.call' I6.os I6.base I6.hok I6.bare fun b hb => by
        obtain ⟨g0, g1, g2, g3, g4, g5⟩ := f3 b hb
        exact ⟨g3, g1, g4, g5⟩
      obtain ⟨m, hn, _⟩ := I6.loc
      refine fin l s3.heap.objs.size H5 s6 J6 q ⟨⟨m, hn⟩, I6.free, Nat.ne_of_gt I3.lt, fun x c e => ?_, I3.sz, fun p hp => ?_⟩
      · obtain ⟨v, z⟩ := I3.cell x c e
        exact Nat.ne_of_lt z.lt
      · exact Nat.ne_of_lt (Heap.lt_size (I3.pin p hp).1)
    · refine thn (TT.item (cxC X N scope fp s3 H3) rfl rfl rfl hc' i [] s5 σ5 H5 NoE I5 (fpx I5 fr5) tn5 go) fun r s6 ⟨u, hr, h6⟩ => ?_
      subst hr
      refine thn h6 fun _ s7 ⟨x, H7, I7, r7, y7, tn7, fr7⟩ => ?_
      have I7' := I7.pinned (fpx I7 fr7) (TT.obj _ _ tn7)
      refine thn (bg _ s7 σ5 H7 x u _ I7' r7 (step x H7 y7)) fun _ s8 ⟨σ8, H8, I8, q8⟩ => ?_
      refine thn (bt _ s8 σ8 H8 _ I8 q8) fun ok s9 ⟨H9, I9, q9⟩ => ?_
      have again : ∀ {s' : Shared} {H' : Hp}, Inv (cxC X N scope fp s3 H3) ([] ++ pinsAt fp s7.heap) σ8 H' s' → (∃ m', m' < k ∧ W (i + 1) m' σ8 H') →
          ∃ m, m < k ∧ ∃ i σ' H', Inv (cxC X N scope fp s3 H3) [] σ' H' s' ∧ tn i s'.heap ∧ (∀ b ∈ fp, H' b = none) ∧ W i m σ' H' := fun {s' H'} I' ⟨m', hm, w'⟩ => by
        refine ⟨m', hm, i + 1, σ8, H', I'.unpinned, TT.keep _ _ _ tn7 fun b hb o e => (I'.pin (b, o) (List.mem_append_right _ (List.mem_append_right _ (mem_pinsAt hb e)))).1, fun b hb => ?_, w'⟩
        obtain ⟨o, e, d⟩ := TT.obj _ _ tn7 b hb
        exact (I'.pin (b, o) (List.mem_append_right _ (List.mem_append_right _ (mem_pinsAt hb e)))).2.1
      cases ok with
      | false => exact again I9 q9
      | true =>
        refine thn (be _ s9 σ8 H9 _ I9 q9) fun xv s10 ⟨v, H10, I10, r10, ys, hy, hz, q10⟩ => ?_
        refine thn (mt_append (X := cxC X N scope fp s3 H3) _ s10 σ8 H10 (.ref l) [v] (.ref l) [xv] (fun _ H' => H' = upd H10 l (.lst (ys ++ [v]))) I10 rfl (.cons r10 .nil) ⟨l, ys, v, rfl, rfl, hy, hz, rfl⟩) fun _ s11 ⟨_, H11, I11, _, e⟩ => ?_
        subst e
        exact again I11 q10
  exact codeAny_compStart_list loop (TT.self _ 0 _ _ _ tn4 loop)
theorem pe_comp {elt target iter : Expr} {ifs : List Expr} {pos : Pos} {n : Nat} {ix : List Nat} {wi : TI} {g : TG} {tt : TT} {te : TE}
    (hc : X.calm = true) (S : CompScope X scope) (T : CompNames X scope N n ix) (hi : PI X target iter wi)
    (blk : ∀ (fp : List Addr) (s : Shared) (H : Hp), PG (cxC X N scope fp s H) target g ∧ PIfs (cxC X N scope fp s H) ifs tt ∧ PE (cxC X N scope fp s H) elt te)
    (hs : ∀ x, foldedSetIterable iter X.env x = pure x := by intro _; rfl) : PE X (.ListComp elt [⟨target, iter, ifs, 0⟩] scope pos) (tComp wi n ix g tt te) := by
  intro pins s σ H Q I h
  rw [eval_ListComp]
  refine comp_core (use := none) hc S T hi blk hs I h fun l C H' s' I' q c => ?_
  obtain ⟨m, hn⟩ := c.ns
  exact ⟨m, hn, fun h' hs' => ⟨.ref l, H', c.go I' hs', rfl, q⟩⟩
/-- name = [..] -/
theorem ps_compSet {elt target iter : Expr} {ifs : List Expr} {pos pos' spos : Pos} {n i : Nat} {ix : List Nat} {wi : TI} {g : TG} {tt : TT} {te : TE} {x : Str}
    (hN : X.N.Nodup) (hi' : X.N[i]? = some x) (hx : L2.Loc X.env.scope x) (hf : X.fn x = true ∨ X.env.scope.names.lookup x = some .local)
    (hc : X.calm = true) (S : CompScope X scope) (T : CompNames X scope N n ix) (hi : PI X target iter wi)
    (blk : ∀ (fp : List Addr) (s : Shared) (H : Hp), PG (cxC X N scope fp s H) target g ∧ PIfs (cxC X N scope fp s H) ifs tt ∧ PE (cxC X N scope fp s H) elt te)
    (hsw : swapsWith (.ListComp elt [⟨target, iter, ifs, 0⟩] scope pos) (some (.Name x pos')) spos.line X.env = pure true)
    (hs : ∀ x, foldedSetIterable iter X.env x = pure x := by intro _; rfl) : PS X (.Assign [.Name x pos'] (.ListComp elt [⟨target, iter, ifs, 0⟩] scope pos) spos) (tAsg (tComp wi n ix g tt te) (gName i)) := by
  intro pins s σ H D I h
  rw [exec_Assign_Name_used _ _ _ _ hsw]
  refine wpAny_bind (wpAny_standAt (wpAny_bind ?_))
  show wpAny _ _ (comprehension (.ListComp elt [⟨target, iter, ifs, 0⟩] scope pos) scope X.env _ (newList []) false (eval iter X.env) (some (assign (.Name x pos') X.env)) >>= fun _ => pure ()) _ _ s
  refine wpAny_bind (wpAny_mono (comp_core (use := some (assign (.Name x pos') X.env)) (Q := fun _ s' => SP X pins D .next s') hc S T hi blk hs I h fun l C H' s' I' q c => ?_) (fun _ s' hq => wpAny_pure (wpAny_pure hq)) fun _ _ e => e)
  obtain ⟨m, hn⟩ := c.ns
  refine wpAny_assign_Name (store_ok2 I' hN hi' hx (v := .ref l) rfl (fun s2 I2 ⟨b, hb, hb2⟩ => ?_) hf)
  have hbC : b ≠ C := by
    rcases hb2 with z | z
    · rw [z]; exact c.loc.symm
    · exact c.cell x b z
  refine ⟨m, hn.sameBut hb hbC.symm, fun h' hs' => ⟨_, H', ?_, q⟩⟩
  exact CFree.go ⟨⟨m, hn.sameBut hb hbC.symm⟩, c.free, c.loc, c.cell, c.sz, c.pin⟩ I2 hs'
end
end MM
namespace MM
open PySem PySem.Spec PyProof.Rows L2

section
variable {X : Cx} {a b c e : Expr} {es : List Expr} {pos : Pos} {fa fb fc : CE} {ca cb : CA} {K : PySem.W.Frag} {ρ : List Addr} {H : Hp} {st : Sto}

/-! ### operations -/
theorem od_sub : OpR X (binaryOp .Sub) (rOf X.K subD) := op_sub.of fun x y H Q ⟨ρ, st, d, e, sr, rx, ry, p⟩ => by
  cases rx <;> cases ry <;> first | exact p.elim | exact ⟨_, _, rfl, rfl, p.ret sr _ (.int _)⟩
theorem od_mul : OpR X (binaryOp .Mult) (rOf X.K mulD) := op_mul.of fun x y H Q ⟨ρ, st, d, e, sr, rx, ry, p⟩ => by
  cases rx <;> cases ry <;> first | exact p.elim | exact ⟨_, _, rfl, rfl, p.chk.1, p.chk.2.ret sr _ (.int _)⟩
theorem od_fdiv : OpR X (binaryOp .FloorDiv) (rOf X.K fdivD) := op_fdiv.of fun x y H Q ⟨ρ, st, d, e, sr, rx, ry, p⟩ => by
  cases rx <;> cases ry <;> first | exact p.elim | exact ⟨_, _, rfl, rfl, p.chk.1, p.chk.2.ret sr _ (.int _)⟩
theorem od_mod : OpR X (binaryOp .Mod) (rOf X.K modD) := op_mod.of fun x y H Q ⟨ρ, st, d, e, sr, rx, ry, p⟩ => by
  cases rx <;> cases ry <;> first | exact p.elim | exact ⟨_, _, rfl, rfl, p.chk.1, p.chk.2.ret sr _ (.int _)⟩
theorem od_pow : OpR X (binaryOp .Pow) (rOf X.K powD) := op_pow.of fun x y H Q ⟨ρ, st, d, e, sr, rx, ry, p⟩ => by
  cases rx <;> cases ry <;> first | exact p.elim | exact ⟨_, _, rfl, rfl, p.chk.1, p.chk.2.ret sr _ (.int _)⟩
theorem od_shl : OpR X (binaryOp .LShift) (rOf X.K shlD) := op_shl.of fun x y H Q ⟨ρ, st, d, e, sr, rx, ry, p⟩ => by
  cases rx <;> cases ry <;> first | exact p.elim | exact ⟨_, _, rfl, rfl, p.chk.1, p.chk.2.ret sr _ (.int _)⟩
theorem od_lt : OpR X (compareOp .Lt) (rOf X.K ltD) := op_lt.of fun x y H Q ⟨ρ, st, d, e, sr, rx, ry, p⟩ => by
  cases rx <;> cases ry <;> first | exact p.elim | exact ⟨_, _, rfl, rfl, p.ret sr _ (.bl _)⟩
theorem od_le : OpR X (compareOp .LtE) (rOf X.K leD) := op_le.of fun x y H Q ⟨ρ, st, d, e, sr, rx, ry, p⟩ => by
  cases rx <;> cases ry <;> first | exact p.elim | exact ⟨_, _, rfl, rfl, p.ret sr _ (.bl _)⟩
theorem od_gt : OpR X (compareOp .Gt) (rOf X.K gtD) := op_gt.of fun x y H Q ⟨ρ, st, d, e, sr, rx, ry, p⟩ => by
  cases rx <;> cases ry <;> first | exact p.elim | exact ⟨_, _, rfl, rfl, p.ret sr _ (.bl _)⟩
theorem od_ge : OpR X (compareOp .GtE) (rOf X.K geD) := op_ge.of fun x y H Q ⟨ρ, st, d, e, sr, rx, ry, p⟩ => by
  cases rx <;> cases ry <;> first | exact p.elim | exact ⟨_, _, rfl, rfl, p.ret sr _ (.bl _)⟩

/-! ### argument lists, displays -/
theorem sa_nil : SA X [] cNil := pa_nil.of fun σ H Q ⟨ρ, l, st, lr, sr, p⟩ => p.ret sr [] .nil
theorem sa_cons (ha : SE X e fa) (hr : SA X es ca) (hs : starEach (e :: es) X.env = (false, eval e X.env) :: starEach es X.env := by rfl) : SA X (e :: es) (cCons fa ca) :=
  (pa_cons ha hr hs).of fun σ H Q ⟨ρ, l, st, lr, sr, p⟩ => ⟨ρ, l, st, lr, sr, p.bnd.imp fun d st1 ρ1 H1 x1 s1 p1 v rv => ⟨ρ1, l, st1, lr.mono x1, s1, p1.bnd.imp fun ds st2 ρ2 H2 x2 s2 p2 vs rvs => p2.ret s2 _ (.cons (rv.mono x2) rvs)⟩⟩
theorem se_tup {k : Nat} (h : SA X es ca) : SE X (.Tuple es k pos) (cTup ca) := (pe_tup h).of fun σ H Q ⟨ρ, l, st, lr, sr, p⟩ => ⟨ρ, l, st, lr, sr, p.bnd.imp fun ds st1 ρ1 H1 x1 s1 p1 vs rvs => by
  obtain ⟨hl, p2⟩ := p1.chk
  refine ⟨by rw [rvs.length]; exact hl, fun q hq => ?_⟩
  exact p2 ρ1 _ (Ex.new hq) (s1.new hq) _ (.tup (SqT.of upd_same) (rvs.mono (Ex.new hq)))⟩
/-- a written list that is not kept -/
theorem sl_lst (h : SA X es ca) : SL X (.List es pos) (aDisp ca) := (pe_lst h).of fun σ H Q ⟨ρ, l, st, lr, sr, p⟩ => ⟨ρ, l, st, lr, sr, p.bnd.imp fun ds st1 ρ1 H1 x1 s1 p1 vs rvs => by
  obtain ⟨hl, p2⟩ := p1.chk
  refine ⟨by rw [rvs.length]; exact hl, fun q hq => ?_⟩
  have hn : H q = none := by
    cases z : H q with
    | none => rfl
    | some o => exact absurd hq (x1.trk q o z)
  exact p2 ρ1 _ (Ex.new hq) (s1.new hq) q vs hn (s1.fresh hq) upd_same (rvs.mono (Ex.new hq))⟩

theorem Post.bnd0 {α β : Type} {m : M α} {f : α → M β} {R : β → Sto → List Addr → Hp → Prop} (h : Post K ρ H (MM.bnd m f st) R) : Post K ρ H (m st) fun a st' _ _ => Post K ρ H (f a st') R := by
  unfold MM.bnd at h
  cases e : m st with
  | ok a s' =>
    rw [e] at h
    exact fun ρ' H' y s => h
  | exc _ _ => rw [e] at h; exact h
  | bad => rw [e] at h; exact h
/-- a list that is kept -/
theorem se_keep (h : SL X e ca) : SE X e (cKeep ca) := h.of fun σ H Q ⟨ρ, l, st, lr, sr, p⟩ => ⟨ρ, l, st, lr, sr, p.bnd0.imp fun ds st1 ρ1 H1 x1 s1 p1 a vs ha na hv rvs => by
  have x : Ex ρ H (ρ1 ++ [a]) H1 := by
    obtain ⟨τ, e, f⟩ := x1.pre
    refine ⟨⟨τ ++ [a], by rw [e, List.append_assoc], fun b hb => ?_⟩, x1.fix, x1.lst, x1.trk⟩
    rcases List.mem_append.mp hb with hb | hb
    · exact f b hb
    · rw [List.mem_singleton] at hb; rw [hb]; exact ha
  refine p1 (ρ1 ++ [a]) H1 x (s1.keep hv na rvs) _ (.ref ?_)
  rw [← s1.len]; simp⟩

/-! ### items -/
theorem _root_.L2.IxR.of {r r' : R2} (h : IxR X r) (g : ∀ x y H Q, r' x y H Q → r x y H Q) : IxR X r' := fun value slice pins s σ H x y v u Q I rx ry q hs => h value slice pins s σ H x y v u Q I rx ry (g x y H Q q) hs
theorem Post.item {ds : List D} {i : Int} {R : D → Sto → List Addr → Hp → Prop} (h : Post K ρ H (itemD ds i st) R) (s : SR K ρ H st) : ∃ k d, L2.ixN ds.length i = some k ∧ ds[k]? = some d ∧ R d st ρ H := by
  unfold itemD at h
  cases e : MM.ixN ds.length i with
  | none => rw [e] at h; exact h.elim
  | some k =>
    rw [e] at h
    cases e2 : ds[k]? with
    | none => dsimp only at h; rw [e2] at h; exact h.elim
    | some d => dsimp only at h; rw [e2] at h; exact ⟨k, d, e, e2, h.ret s⟩
theorem atI_of {vs : List V} {ds : List D} {i : Int} {k : Nat} {d : D} (r : Reps K ρ H vs ds) (h1 : L2.ixN ds.length i = some k) (h2 : ds[k]? = some d) : ∃ v, atI vs i = some v ∧ Rep K ρ H v d := by
  obtain ⟨v, e, rv⟩ := r.get h2
  refine ⟨v, ?_, rv⟩
  unfold atI
  rw [r.length, h1]
  exact e
theorem ixd : IxR X (rOf X.K subsD) := ix_seq.of fun x y H Q ⟨ρ, st, d, e, sr, rx, ry, p⟩ => by
  cases ry with
  | int i =>
    cases rx with
    | tup h r =>
      obtain ⟨k, d, h1, h2, q⟩ := Post.item p sr
      obtain ⟨v, h3, rv⟩ := atI_of r h1 h2
      exact .inr (.inl ⟨_, _, i, v, rfl, rfl, h, h3, q v rv⟩)
    | lit h r =>
      obtain ⟨k, d, h1, h2, q⟩ := Post.item p sr
      obtain ⟨v, h3, rv⟩ := atI_of r h1 h2
      exact .inl ⟨_, _, i, v, rfl, rfl, h.seq, h3, q v rv⟩
    | ref h =>
      obtain ⟨xs, e, p1⟩ := Post.getL (Post.bnd p) sr
      obtain ⟨a, vs, ha, hv, r⟩ := sr.seq e
      rw [h] at ha; cases ha
      obtain ⟨k, d, h1, h2, q⟩ := Post.item p1 sr
      obtain ⟨v, h3, rv⟩ := atI_of r h1 h2
      exact .inl ⟨_, _, i, v, rfl, rfl, SqL.of hv, h3, q v rv⟩
    | str z =>
      obtain ⟨hz, p1⟩ := Post.chk p
      cases e : MM.ixN z.length i with
      | none => rw [e] at p1; exact p1.elim
      | some k =>
        rw [e] at p1
        cases e2 : z.cps.toList[k]? with
        | none => dsimp only at p1; rw [e2] at p1; exact p1.elim
        | some c =>
          dsimp only at p1
          rw [e2] at p1
          refine .inr (.inr ⟨z, i, c, rfl, rfl, hz, ?_, p1.ret sr _ (.str _)⟩)
          unfold atI
          rw [show z.cps.toList.length = z.length by simp [Str.length]]
          show (L2.ixN z.length i).bind _ = _
          rw [show L2.ixN z.length i = some k from e]
          exact e2
    | _ => exact p.elim
  | _ => cases rx <;> exact p.elim
theorem se_sub (ha : SE X a fa) (hb : SE X b fb) (hs : PlainIx b) : SE X (.Subscript a b pos) (c2 subsD fa fb) := (pe_ix ixd ha hb hs).of (tOp_of fun _ _ _ _ h => h)
theorem se_tmpSub (ha : SL X a ca) (hb : SE X b fb) (hs : PlainIx b) : SE X (.Subscript a b pos) (cTmpSub ca fb) := (pe_ix ix_list ha hb hs).of fun σ H Q ⟨ρ, l, st, lr, sr, p⟩ =>
  ⟨ρ, l, st, lr, sr, p.bnd.imp fun ds st1 ρ1 H1 x1 s1 p1 a vs ha na hv rvs => ⟨ρ1, l, st1, lr.mono x1, s1, p1.bnd.imp fun e st2 ρ2 H2 x2 s2 p2 u ru => by
    cases ru with
    | int i =>
      obtain ⟨k, d, h1, h2, q⟩ := Post.item p2 s2
      obtain ⟨v, h3, rv⟩ := atI_of (rvs.mono x2) h1 h2
      exact ⟨a, vs, i, v, rfl, rfl, SqL.of (x2.lst a vs na hv), h3, q v rv⟩
    | _ => exact p2.elim⟩⟩

/-! ### calls -/
theorem se_call {CX : CXT} {k n : Nat} {f : Addr} {fd : FuncData} {ps : List Str} {g : List D → M D} {x : Str} {p : Pos} (F : FnOk X.prog X.w X.K X.mg X.base CX k f fd ps (spOf X.K n g)) (hr : Room k X.A) (hg : Gl X x) (hm : X.mg x = some (.ref f))
    (hk : PySem.W.keepIn X.K (.ref f) = true) (hb : Binds X.K fd ps []) (hx : Passes CX X E0) (ha : SA X (e :: es) ca) (hn : ∀ l st ds st', ca l st = .ok ds st' → ds.length = n) (hdb : (x == ("__debug__" : Str)) = false := by decide)
    (he : starEach (e :: es) X.env = (false, eval e X.env) :: starEach es X.env := by rfl) (hpl : (backTo pos (starEach es X.env)).any (·.1) = false := by rfl) : SE X (.Call (.Name x p) (e :: es) [] pos) (cCall g ca) :=
  (pe_call F hr hg hm hk hb .nil hx ha hdb he hpl).of fun σ H Q ⟨ρ, l, st, lr, sr, p⟩ => ⟨ρ, l, st, lr, sr, by
    have q := Post.bnd p
    cases ec : ca l st with
    | bad => rw [ec] at q; exact q
    | exc _ _ => rw [ec] at q; exact q
    | ok ds st1 =>
      rw [ec] at q
      intro ρ1 H1 x1 s1 vs rvs
      refine ⟨by rw [List.append_nil, rvs.length]; exact hn l st ds st1 ec, ρ1, st1, ds, s1, by rw [List.append_nil]; exact rvs, q ρ1 H1 x1 s1⟩⟩

/-! ### tests -/
variable {ta tb : CT}
theorem tru_of {d : D} {v : V} {R : Bool → Sto → List Addr → Hp → Prop} (p : Post K ρ H (truD d st) R) (sr : SR K ρ H st) (rv : Rep K ρ H v d) : ∃ k, TruV K v H k ∧ R k st ρ H := by
  cases rv with
  | non => exact ⟨false, rfl, p.ret sr⟩
  | bl b => exact ⟨b, rfl, p.ret sr⟩
  | int i => exact ⟨_, rfl, p.ret sr⟩
  | str x => exact ⟨_, ⟨(Post.chk p).1, rfl⟩, (Post.chk p).2.ret sr⟩
  | @tup a vs ds h r =>
    refine ⟨!vs.isEmpty, .inr (.inl ⟨vs, h, rfl⟩), ?_⟩
    have : vs.isEmpty = ds.isEmpty := by
      have := r.length
      cases vs <;> cases ds <;> simp_all
    rw [this]; exact p.ret sr
  | @lit a vs ds h r =>
    refine ⟨!vs.isEmpty, .inl ⟨vs, h.seq, rfl⟩, ?_⟩
    have : vs.isEmpty = ds.isEmpty := by
      have := r.length
      cases vs <;> cases ds <;> simp_all
    rw [this]; exact p.ret sr
  | ref h =>
    obtain ⟨ds, e, p1⟩ := Post.getL (Post.bnd p) sr
    obtain ⟨a, vs, ha, hv, r⟩ := sr.seq e
    rw [h] at ha; cases ha
    refine ⟨!vs.isEmpty, .inl ⟨vs, SqL.of hv, rfl⟩, ?_⟩
    have : vs.isEmpty = ds.isEmpty := by
      have := r.length
      cases vs <;> cases ds <;> simp_all
    rw [this]; exact p1.ret sr
theorem st_val (ha : SE X a fa) (he : ∀ whole, isTrue a X.env whole = (do let v ← whole; standAt a.pos; holding [v] (truthy v)) := by intro _; rfl) : ST X a (tVal fa) :=
  (pt_truth ha he).of fun σ H Q ⟨ρ, l, st, lr, sr, p⟩ => ⟨ρ, l, st, lr, sr, p.bnd.imp fun d st1 ρ1 H1 x1 s1 p1 v rv => tru_of p1 s1 rv⟩
theorem st_cmp {op : CmpOp} {g : D → D → M D} (ho : OpR X (compareOp op) (rOf X.K g)) (ha : SE X a fa) (hb : SE X b fb) (hm : behindInMarks op b = false) : ST X (.Compare a [op] [b] pos) (tCmpB (c2 g fa fb)) :=
  (pt_cmpR ho ha hb hm).of fun σ H Q ⟨ρ, l, st, lr, sr, p⟩ => tOp_of (X := X) (fun _ _ _ _ h => h) _ _ _ ⟨ρ, l, st, lr, sr, p.bnd.imp fun d st1 ρ1 H1 x1 s1 p1 v rv => by
    cases rv with
    | bl k => exact ⟨k, rfl, p1.ret s1⟩
    | _ => exact p1.elim⟩
theorem st_and1 (ha : ST X a ta) : PW X (.BoolOp .And [a] pos) (ttOf X.K ta) := pw_and1 ha
theorem st_or1 (ha : ST X a ta) : PW X (.BoolOp .Or [a] pos) (ttOf X.K ta) := pw_or1 ha
theorem _root_.L2.PW.of {e : Expr} {t t' : TT} (h : PW X e t) (f : ∀ σ H Q, t' σ H Q → t σ H Q) : PW X e t' := fun whole pins s σ H Q I q => h whole pins s σ H Q I (f σ H Q q)
theorem st_and {rest : List Expr} (ha : ST X a ta) (hb : PW X (.BoolOp .And (b :: rest) pos) (ttOf X.K tb)) : PW X (.BoolOp .And (a :: b :: rest) pos) (ttOf X.K (tAndB ta tb)) :=
  (pw_and ha hb).of fun σ H Q ⟨ρ, l, st, lr, sr, p⟩ => ⟨ρ, l, st, lr, sr, p.bnd.imp fun c st1 ρ1 H1 x1 s1 p1 => by
    cases c with
    | true => exact ⟨ρ1, l, st1, lr.mono x1, s1, p1⟩
    | false => exact p1.ret s1⟩
theorem st_or {rest : List Expr} (ha : ST X a ta) (hb : PW X (.BoolOp .Or (b :: rest) pos) (ttOf X.K tb)) : PW X (.BoolOp .Or (a :: b :: rest) pos) (ttOf X.K (tOrB ta tb)) :=
  (pw_or ha hb).of fun σ H Q ⟨ρ, l, st, lr, sr, p⟩ => ⟨ρ, l, st, lr, sr, p.bnd.imp fun c st1 ρ1 H1 x1 s1 p1 => by
    cases c with
    | true => exact p1.ret s1
    | false => exact ⟨ρ1, l, st1, lr.mono x1, s1, p1⟩⟩
theorem st_not (ha : ST X a ta) : ST X (.UnaryOp .Not a pos) (tNotB ta) := (pt_not ha).of fun σ H Q ⟨ρ, l, st, lr, sr, p⟩ => ⟨ρ, l, st, lr, sr, p.bnd.imp fun c st1 ρ1 H1 x1 s1 p1 => p1.ret s1⟩
/-- .. as values -/
theorem se_one {op : BoolOp} (h : SE X a fa) : SE X (.BoolOp op [a] pos) fa := pe_one h
theorem se_and {rest : List Expr} (ha : SE X a fa) (hb : SE X (.BoolOp .And (b :: rest) pos) fb) : SE X (.BoolOp .And (a :: b :: rest) pos) (cAnd fa fb) :=
  (pe_and ha hb).of fun σ H Q ⟨ρ, l, st, lr, sr, p⟩ => ⟨ρ, l, st, lr, sr, p.bnd.imp fun d st1 ρ1 H1 x1 s1 p1 v rv => by
    cases rv with
    | bl c =>
      refine ⟨c, rfl, ?_⟩
      cases c with
      | true => exact ⟨ρ1, l, st1, lr.mono x1, s1, p1⟩
      | false => exact p1.ret s1 _ (.bl false)
    | _ => exact p1.elim⟩
theorem se_not (ha : SE X a fa) : SE X (.UnaryOp .Not a pos) (cNot fa) := (pe_not ha).of fun σ H Q ⟨ρ, l, st, lr, sr, p⟩ => ⟨ρ, l, st, lr, sr, p.bnd.imp fun d st1 ρ1 H1 x1 s1 p1 v rv => by
    cases rv with
    | bl c => exact ⟨c, rfl, p1.ret s1 _ (.bl _)⟩
    | _ => exact p1.elim⟩
/-- a op1 b op2 c -/
theorem chain_of {f g : D → D → M D} : ∀ σ H Q, tOf X.K (cChain f g fa fb fc) σ H Q → tChain (rOf X.K f) (rOf X.K g) (tOf X.K fa) (tOf X.K fb) (tOf X.K fc) σ H Q := fun σ H Q ⟨ρ, l, st, lr, sr, p⟩ =>
  ⟨ρ, l, st, lr, sr, p.bnd.imp fun d st1 ρ1 H1 x1 s1 p1 v rv => ⟨ρ1, l, st1, lr.mono x1, s1, p1.bnd.imp fun e st2 ρ2 H2 x2 s2 p2 u ru => ⟨ρ2, st2, d, e, s2, rv.mono x2, ru, p2.bnd.imp fun z st3 ρ3 H3 x3 s3 p3 w rw' => by
    cases rw' with
    | bl k =>
      refine ⟨k, rfl, ?_⟩
      cases k with
      | true => exact ⟨ρ3, l, st3, (lr.mono x1).mono (x2.trans x3), s3, p3.bnd.imp fun t st4 ρ4 H4 x4 s4 p4 q rq => ⟨ρ4, st4, e, t, s4, (ru.mono x3).mono x4, rq, p4⟩⟩
      | false => exact p3.ret s3 _ (.bl false)
    | _ => exact p3.elim⟩⟩⟩
theorem se_chain {op op' : CmpOp} {f g : D → D → M D} (ho : OpR X (compareOp op) (rOf X.K f)) (ho' : OpR X (compareOp op') (rOf X.K g)) (ha : SE X a fa) (hb : SE X b fb) (hc : SE X c fc)
    (hm : lastMarks [op, op'] [b, c] = false := by with_unfolding_all rfl) : SE X (.Compare a [op, op'] [b, c] pos) (cChain f g fa fb fc) := (pe_chain ho ho' ha hb hc hm).of chain_of
theorem st_chain {op op' : CmpOp} {f g : D → D → M D} (ho : OpR X (compareOp op) (rOf X.K f)) (ho' : OpR X (compareOp op') (rOf X.K g)) (ha : SE X a fa) (hb : SE X b fb) (hc : SE X c fc)
    (hm : lastMarks [op, op'] [b, c] = false := by with_unfolding_all rfl) : ST X (.Compare a [op, op'] [b, c] pos) (tCmpB (cChain f g fa fb fc)) :=
  (pt_chain ho ho' ha hb hc hm).of fun σ H Q ⟨ρ, l, st, lr, sr, p⟩ => chain_of _ _ _ ⟨ρ, l, st, lr, sr, p.bnd.imp fun d st1 ρ1 H1 x1 s1 p1 v rv => by
    cases rv with
    | bl k => exact ⟨k, rfl, p1.ret s1⟩
    | _ => exact p1.elim⟩
end
end MM
namespace MM
open PySem PySem.Spec PyProof.Rows L2

theorem LR.set {K : PySem.W.Frag} {ρ : List Addr} {H : Hp} {σ : St} {l : Loc} {v : V} {d : D} (h : LR K ρ H σ l) (i : Nat) (r : Rep K ρ H v d) : LR K ρ H (σ.set i (some v)) (l.set i (some d)) := by
  refine ⟨by simp [h.1], fun j e q => ?_⟩
  by_cases z : i = j
  · subst z
    by_cases hl : i < l.length
    · rw [List.getElem?_set_self hl] at q
      cases q
      exact ⟨v, by rw [List.getElem?_set_self (by rw [h.1]; exact hl)], r⟩
    · rw [List.getElem?_eq_none (by simp; omega)] at q; cases q
  · rw [List.getElem?_set_ne z] at q
    obtain ⟨w, e1, r1⟩ := h.2 j e q
    exact ⟨w, by rw [List.getElem?_set_ne z]; exact e1, r1⟩
theorem LR.start {K : PySem.W.Frag} {ρ : List Addr} {H : Hp} {N : List Str} {vs : List V} {ds : List D} (r : Reps K ρ H vs ds) : LR K ρ H (L2.start N vs) (ds.map some ++ List.replicate (N.length - ds.length) none) := by
  have hl := r.length
  unfold L2.start
  refine ⟨by simp [hl], fun i d e => ?_⟩
  by_cases hi : i < ds.length
  · rw [List.getElem?_append_left (by simpa using hi), List.getElem?_map] at e
    cases q : ds[i]? with
    | none => rw [q] at e; cases e
    | some d' =>
      rw [q] at e
      have e' : d' = d := Option.some.inj (Option.some.inj e)
      subst e'
      obtain ⟨v, hv, rv⟩ := r.get q
      refine ⟨v, ?_, rv⟩
      rw [List.getElem?_append_left (by simp; omega), List.getElem?_map, hv]; rfl
  · rw [List.getElem?_append_right (by simpa using hi), List.getElem?_replicate] at e
    split at e <;> cases e

section
variable {X : Cx} {a b c e tg : Expr} {es : List Expr} {s : Stmt} {ss : List Stmt} {pos : Pos} {fa fb fc : CE} {ca cb : CA} {ta tb : CT} {cs cr : CS} {K : PySem.W.Frag} {ρ : List Addr} {H : Hp} {st : Sto}
abbrev SG (X : Cx) (e : Expr) (g : CG) : Prop := PG X e (tgOf X.K g)
abbrev SGs (X : Cx) (e : List Expr) (g : List D → Loc → M Loc) : Prop := PGs X e (tgsOf X.K g)
/-! ### targets -/
theorem sg_var {i : Nat} {x : Str} (h : PG X (.Name x pos) (gName i)) : SG X (.Name x pos) (gVar i) := h.of fun v σ H Q ⟨ρ, l, st, d, lr, sr, rv, p⟩ => p.ret sr _ (lr.set i rv)
theorem sgs_nil : SGs X [] gsNil := pgs_nil.of fun vs σ H Q ⟨ρ, l, st, ds, lr, sr, rvs, p⟩ => by
  cases rvs with
  | nil => exact ⟨rfl, p.ret sr σ lr⟩
  | cons _ _ => exact p.elim
theorem sgs_cons {g : CG} {r : List D → Loc → M Loc} (h1 : SG X e g) (h2 : SGs X es r) (hs : (assignEach (e :: es) X.env).map (·.2) = assign e X.env :: (assignEach es X.env).map (·.2) := by rfl) : SGs X (e :: es) (gsCons g r) :=
  (pgs_cons h1 h2 hs).of fun vs σ H Q ⟨ρ, l, st, ds, lr, sr, rvs, p⟩ => by
    cases rvs with
    | nil => exact p.elim
    | cons rv rt => exact ⟨_, _, rfl, ρ, l, st, _, lr, sr, rv, (Post.bnd p).imp fun l1 st1 ρ1 H1 x1 s1 p1 σ1 lr1 => ⟨ρ1, l1, st1, _, lr1, s1, rt.mono x1, p1⟩⟩
theorem sg_tup {k n : Nat} {r : List D → Loc → M Loc} (hc : X.calm = true) (h : SGs X es r) (hn : (assignEach es X.env).length = n := by rfl) (hst : (assignEach es X.env).findIdx? (·.1) = none := by rfl) : SG X (.Tuple es k pos) (gTupD n r) :=
  (pg_tup hc h hn hst).of fun v σ H Q ⟨ρ, l, st, d, lr, sr, rv, p⟩ => by
    cases rv with
    | tup h r => exact ⟨_, _, rfl, h, by rw [r.length]; exact (Post.chk p).1, ρ, l, st, _, lr, sr, r, (Post.chk p).2⟩
    | _ => exact p.elim

/-! ### statements -/
theorem sss_nil : SSs X [] sNext := pss_nil.of fun G σ H ⟨ρ, l, st, lr, sr, p⟩ => p.ret sr σ lr
theorem sss_cons (h1 : SS X s cs) (h2 : SSs X ss cr) : SSs X (s :: ss) (sSeq cs cr) := (pss_cons h1 h2).of fun G σ H ⟨ρ, l, st, lr, sr, p⟩ => ⟨ρ, l, st, lr, sr, p.bnd.imp fun f st1 ρ1 H1 x1 s1 p1 => by
  cases f with
  | next l' => exact fun σ' lr' => ⟨ρ1, l', st1, lr', s1, p1⟩
  | ret d => exact p1.ret s1
  | brk l' => exact p1.ret s1
  | cnt l' => exact p1.ret s1⟩
theorem ss_never : SS X s sBad := ps_never.of fun G σ H ⟨ρ, l, st, lr, sr, p⟩ => p.elim
theorem ss_ret (h : SE X e fa) : SS X (.Return (some e) pos) (sRet fa) := (ps_ret h).of fun G σ H ⟨ρ, l, st, lr, sr, p⟩ => ⟨ρ, l, st, lr, sr, p.bnd.imp fun d st1 ρ1 H1 x1 s1 p1 v rv => p1.ret s1 v rv⟩
theorem ss_expr (h : SE X e fa) (hs : swapsWith e none pos.line X.env = pure false := by rfl) : SS X (.Expr e pos) (sExp fa) := (ps_expr h hs).of fun G σ H ⟨ρ, l, st, lr, sr, p⟩ =>
  ⟨ρ, l, st, lr, sr, p.bnd.imp fun d st1 ρ1 H1 x1 s1 p1 v rv => p1.ret s1 σ (lr.mono x1)⟩
theorem ss_if (hc : ST X c ta) (ha : SSs X ss cs) {sr : List Stmt} (hb : SSs X sr cr) : SS X (.If c ss sr pos) (sIf ta cs cr) := (ps_if hc ha hb).of fun G σ H ⟨ρ, l, st, lr, sr, p⟩ =>
  ⟨ρ, l, st, lr, sr, p.bnd.imp fun k st1 ρ1 H1 x1 s1 p1 => by
    cases k with
    | true => exact ⟨ρ1, l, st1, lr.mono x1, s1, p1⟩
    | false => exact ⟨ρ1, l, st1, lr.mono x1, s1, p1⟩⟩
theorem asg_of {g : CG} {te : TE} {tg : TG} (he : ∀ σ H Q, tOf X.K fa σ H Q → te σ H Q) (hg : ∀ v σ H Q, tgOf X.K g v σ H Q → tg v σ H Q) : ∀ G σ H, tsOf X.K (sAsg g fa) G σ H → tAsg te tg G σ H := fun G σ H ⟨ρ, l, st, lr, sr, p⟩ =>
  he _ _ _ ⟨ρ, l, st, lr, sr, p.bnd.imp fun d st1 ρ1 H1 x1 s1 p1 v rv => hg _ _ _ _ ⟨ρ1, l, st1, d, lr.mono x1, s1, rv, p1.bnd.imp fun l2 st2 ρ2 H2 x2 s2 p2 σ2 lr2 => p2.ret s2 σ2 lr2⟩⟩
theorem gname_of {i : Nat} : ∀ v σ H Q, tgOf X.K (gVar i) v σ H Q → gName i v σ H Q := fun v σ H Q ⟨ρ, l, st, d, lr, sr, rv, p⟩ => p.ret sr _ (lr.set i rv)
theorem ss_set {i : Nat} {x : Str} {pos' : Pos} (hN : X.N.Nodup) (hi : X.N[i]? = some x) (hx : L2.Loc X.env.scope x) (he : SE X e fa) (hs : swapsWith e (some (.Name x pos')) pos.line X.env = pure false := by rfl)
    (hf : X.fn x = true ∨ X.env.scope.names.lookup x = some .local := by first | exact .inl rfl | exact .inr rfl | assumption) : SS X (.Assign [.Name x pos'] e pos) (sAsg (gVar i) fa) :=
  (ps_set hN hi hx he hs hf).of (asg_of (fun _ _ _ h => h) gname_of)
theorem ss_asg {g : CG} (he : SE X e fa) (hg : SG X tg g) (hs : swapsWithSole [tg] e pos.line X.env = pure false := by rfl) (hw : swappedStores [tg] e X.env = pure none := by rfl)
    (h1 : (assignEach [tg] X.env).map (·.2) = [assign tg X.env] := by rfl) : SS X (.Assign [tg] e pos) (sAsg g fa) := (ps_asg he hg hs hw h1).of (asg_of (fun _ _ _ h => h) fun _ _ _ _ h => h)
theorem sg_sub {to ti : CE} {o i : Expr} (ho : SE X o to) (hi : SE X i ti)
    (ha : ∀ v, assign (.Subscript o i pos) X.env v = (do
      let ov ← holding [v] (eval o X.env)
      let iv ← holding [v, ov] (eval i X.env)
      standAt pos
      holding [v, ov, iv] (setItem ov iv v)
      release [v, ov, iv] []) := by intro _; rfl) : SG X (.Subscript o i pos) (gSubD to ti) :=
  (pg_sub ho hi set_list ha).of fun v σ H Q ⟨ρ, l, st, d, lr, sr, rv, p⟩ => ⟨ρ, l, st, lr, sr, p.bnd.imp fun y st1 ρ1 H1 x1 s1 p1 u ru => ⟨ρ1, l, st1, lr.mono x1, s1, p1.bnd.imp fun z st2 ρ2 H2 x2 s2 p2 w rw' => by
    have ru2 := ru.mono x2
    cases ru2 with
    | ref h =>
      cases rw' with
      | int k =>
        obtain ⟨ds, e, p3⟩ := Post.getL (Post.bnd (Post.bnd p2)) s2
        obtain ⟨a, vs, ha, hv, r⟩ := s2.seq e
        rw [h] at ha; cases ha
        cases e2 : MM.ixN ds.length k with
        | none => rw [e2] at p3; exact p3.elim
        | some j =>
          rw [e2] at p3
          have hl := (List.getElem?_eq_some_iff.mp e).1
          have rd : Rep X.K ρ2 H2 v d := (rv.mono x1).mono x2
          obtain ⟨s3, x3⟩ := s2.put hl h (r.set j rd)
          refine ⟨_, vs, k, j, rfl, rfl, hv, by rw [r.length]; exact e2, ?_⟩
          have p4 : Post X.K ρ2 H2 (putL _ (ds.set j d) st2) _ := p3
          unfold putL at p4
          rw [e] at p4
          exact (p4 ρ2 _ x3 s3).ret s3 σ (((lr.mono x1).mono x2).mono x3)
      | _ => exact (Post.bnd p2).elim
    | _ => exact (Post.bnd p2).elim⟩⟩

/-! ### a def -/
theorem fn_ok {P : Program} {w : World} {K : PySem.W.Frag} {mg : Str → Option Value} {base : Heap} {x qual : Str} {sd : Stmt} {f : Addr} {fd : FuncData} {N ps : List Str} {k : Nat} {body : CS} (F : Fun K x qual sd f fd) (S : FnScope N ps (defScope sd))
    (hbody : ∀ (cdv : Value) (A : Around) (outer : List Env) (s : Shared) (H : Hp) (E : XK), Room k (A.deeper (envOfC qual (defScope sd) s.heap.objs.size f cdv)) → SSs (cxOf CX0 P w K mg base N qual (defScope sd) f cdv A outer s H E).nox (defBody sd) body) :
    FnOk P w K mg base CX0 (k + 1) f fd ps (spOf K ps.length (runDef N.length body)) := by
  refine F.ok S (fun vs H Q E h => h.1) (fun cdv A outer s H vs Q E hr h => ⟨_, hbody cdv A outer s H E hr, ?_⟩)
  obtain ⟨hl, ρ, st, ds, sr, rvs, p⟩ := h
  refine ⟨ρ, _, st, LR.start rvs, sr, ?_⟩
  unfold runDef at p
  exact p.bnd.imp fun f st1 ρ1 H1 x1 s1 p1 => by
    cases f with
    | next l => exact fun σ' _ => p1.ret s1 _ .non
    | ret d => exact fun v rv => p1.ret s1 v rv
    | brk l => exact p1.elim
    | cnt l => exact p1.elim

/-! ### what is walked -/
def ItR (K : PySem.W.Frag) (ρ0 : List Addr) (H0 : Hp) (w : Wk) (J : It) : Prop := ∀ ρ H st, Ex ρ0 H0 ρ H → SR K ρ H st → w.same st → J.stop w.ds.length H ∧ ∀ (i : Nat) (d : D), w.ds[i]? = some d → J.go i H ∧ ∀ x H', J.yld i H x H' → Ex ρ H ρ H' ∧ SR K ρ H' st ∧ Rep K ρ H' x d
def tiOf (K : PySem.W.Frag) (f : CI) : TI := fun σ H R => ∃ ρ l st, LR K ρ H σ l ∧ SR K ρ H st ∧ Post K ρ H (f l st) fun w _ ρ' H' => ∀ J, ItR K ρ' H' w J → R J H'
abbrev SI (X : Cx) (tg e : Expr) (f : CI) : Prop := PI X tg e (tiOf X.K f)
theorem _root_.L2.PI.of {tg e : Expr} {t t' : TI} (h : PI X tg e t) (f : ∀ σ H R, t' σ H R → t σ H R) : PI X tg e t' := fun pins s σ H R I q => h pins s σ H R I (f σ H R q)
theorem itr_list {ρ0 : List Addr} {H0 : Hp} {ds : List D} {p : Sto → Prop} {a : Addr} (h : ∀ ρ H st, Ex ρ0 H0 ρ H → SR K ρ H st → p st → ∃ vs, SqL K H a vs ∧ Reps K ρ H vs ds) : ItR K ρ0 H0 ⟨ds, p⟩ (Itl K a) := fun ρ H st x s q => by
  obtain ⟨vs, hv, r⟩ := h ρ H st x s q
  refine ⟨⟨vs, hv, by rw [r.length]; exact Nat.le_refl _⟩, fun i d e => ?_⟩
  obtain ⟨v, e1, rv⟩ := r.get e
  refine ⟨⟨vs, v, hv, e1⟩, fun y H' ⟨e2, e3⟩ => ?_⟩
  subst e2
  have := e3 vs hv
  rw [e1] at this; cases this
  exact ⟨Ex.refl, s, rv⟩
theorem itr_tup {ρ0 : List Addr} {H0 : Hp} {ds : List D} {p : Sto → Prop} {a : Addr} (h : ∀ ρ H st, Ex ρ0 H0 ρ H → SR K ρ H st → p st → ∃ vs, SqT K H a vs ∧ Reps K ρ H vs ds) : ItR K ρ0 H0 ⟨ds, p⟩ (Itt K a) := fun ρ H st x s q => by
  obtain ⟨vs, hv, r⟩ := h ρ H st x s q
  refine ⟨⟨vs, hv, by rw [r.length]; exact Nat.le_refl _⟩, fun i d e => ?_⟩
  obtain ⟨v, e1, rv⟩ := r.get e
  refine ⟨⟨vs, v, hv, e1⟩, fun y H' ⟨e2, e3⟩ => ?_⟩
  subst e2
  have := e3 vs hv
  rw [e1] at this; cases this
  exact ⟨Ex.refl, s, rv⟩
theorem itr_range {ρ0 : List Addr} {H0 : Hp} {lo : Int} {n : Nat} : ItR K ρ0 H0 ⟨rngD lo n, anySt⟩ (Itr lo n) := fun ρ H st x s _ => by
  refine ⟨by show n ≤ (rngD lo n).length; unfold rngD; simp, fun i d e => ?_⟩
  have hi : i < n := by
    have := (List.getElem?_eq_some_iff.mp e).1
    simpa [rngD] using this
  refine ⟨hi, fun y H' ⟨e2, e3⟩ => ?_⟩
  subst e2 e3
  have : d = .int (lo + (i : Nat)) := by
    unfold rngD at e
    rw [List.getElem?_map, List.getElem?_range hi] at e
    exact (Option.some.inj e).symm
  subst this
  exact ⟨Ex.refl, s, .int _⟩
/-- lists and tuples: by the value -/
theorem pi_seq {l : Expr} {tl : TE} (hl : PE X l tl) : PI X tg l (fun σ H R => tl σ H fun x H1 => ∃ a, x = .ref a ∧ ((∃ xs, SqL X.K H1 a xs) ∧ R (Itl X.K a) H1 ∨ (∃ xs, SqT X.K H1 a xs) ∧ R (Itt X.K a) H1)) := by
  intro pins s σ H R I h
  refine thn (hl pins s σ H _ I h) fun v s1 ⟨x, H1, I1, r1, a, e, q⟩ => ?_
  subst e
  cases r1
  rcases q with ⟨⟨xs, hq⟩, q⟩ | ⟨⟨xs, hq⟩, q⟩
  · obtain ⟨its, rv, p, hz⟩ := I1.list hq
    refine wpAny_pyIter_list p.isList ?_
    refine ⟨s1.heap.objs.size, [s1.heap.objs.size], _, _, H1, rfl, I1.kept (t' := s1.toks) fun b o e => Heap.get?_push_of_some _ e, turn_list a _, ⟨_, Heap.get?_push_size _ rfl, rfl, rfl⟩, fun b hb => ?_, q⟩
    have e : b = s1.heap.objs.size := by simpa using hb
    subst e
    exact I1.fpOk (Nat.le_refl _) (I1.hok.fresh (Nat.le_refl _))
  · obtain ⟨its, rv, p, hz⟩ := I1.tuple hq
    refine wpAny_pyIter_tuple (show s1.heap.IsTuple a its.toArray from p) ?_
    refine ⟨s1.heap.objs.size, [s1.heap.objs.size], _, _, H1, rfl, I1.kept (t' := s1.toks) fun b o e => Heap.get?_push_of_some _ e, turn_tuple a _, ⟨_, Heap.get?_push_size _ rfl, rfl, rfl⟩, fun b hb => ?_, q⟩
    have e : b = s1.heap.objs.size := by simpa using hb
    subst e
    exact I1.fpOk (Nat.le_refl _) (I1.hok.fresh (Nat.le_refl _))
theorem si_seq (h : SE X e fa) : SI X tg e (iSeq fa) := (pi_seq h).of fun σ H R ⟨ρ, l, st, lr, sr, p⟩ => ⟨ρ, l, st, lr, sr, p.bnd.imp fun d st1 ρ1 H1 x1 s1 p1 v rv => by
  cases rv with
  | @tup a vs ds h r => exact ⟨a, rfl, .inr ⟨⟨vs, h⟩, p1.ret s1 _ (itr_tup fun ρ H st x s _ => ⟨vs, SqT.mono x.up h, r.mono x⟩)⟩⟩
  | @lit a vs ds h r => exact ⟨a, rfl, .inl ⟨⟨vs, h.seq⟩, p1.ret s1 _ (itr_list fun ρ H st x s _ => ⟨vs, (FzL.mono x.up h).seq, r.mono x⟩)⟩⟩
  | @ref a n h =>
    obtain ⟨ds, e, p2⟩ := Post.getL (Post.bnd p1) s1
    obtain ⟨a', vs, ha, hv, r⟩ := s1.seq e
    rw [h] at ha; cases ha
    refine ⟨a, rfl, .inl ⟨⟨vs, SqL.of hv⟩, p2.ret s1 _ (itr_list fun ρ H st x s q => ?_)⟩⟩
    obtain ⟨a2, ws, ha2, hw, rw'⟩ := s.seq q
    obtain ⟨τ, eτ, _⟩ := x.pre
    rw [eτ, get_app h] at ha2; cases ha2
    exact ⟨ws, SqL.of hw, rw'⟩
  | _ => exact p1.elim⟩
theorem si_range1 {p : Pos} (hg : Gl X "range") (hm : X.mg "range" = none) (h : SE X a fa) (hs : starEach [a] X.env = [(false, eval a X.env)] := by rfl) : SI X tg (.Call (.Name "range" p) [a] [] pos) (MM.iRng1 fa) :=
  (pi_range1 (tg := tg) (p := p) (pos := pos) hg hm (sa_cons h sa_nil hs) hs).of fun σ H R ⟨ρ, l, st, lr, sr, p⟩ => ⟨ρ, l, st, lr, sr, by
    have q := Post.bnd p
    unfold cCons
    show Post X.K ρ H (bnd (fa l) _ st) _
    unfold MM.bnd
    cases e : fa l st with
    | bad => rw [e] at q; exact q
    | exc _ _ => rw [e] at q; exact q
    | ok d st1 =>
      rw [e] at q
      show ∀ ρ' H', Ex ρ H ρ' H' → SR X.K ρ' H' st1 → _
      intro ρ1 H1 x1 s1 vs rvs
      have p1 := q ρ1 H1 x1 s1
      cases rvs with
      | cons rv rt =>
        cases rt
        cases rv with
        | int j =>
          obtain ⟨⟨h1, h2⟩, p2⟩ := Post.chk p1
          exact ⟨j, rfl, h1, h2, p2.ret s1 _ itr_range⟩
        | _ => exact p1.elim⟩
/-! ### for -/
theorem Post.chkS {p : Sto → Prop} {R : Unit → Sto → List Addr → Hp → Prop} (h : Post K ρ H (MM.chkS p st) R) (s : SR K ρ H st) : p st ∧ R () st ρ H := by
  unfold MM.chkS at h
  by_cases hp : p st
  · rw [if_pos hp] at h; exact ⟨hp, h ρ H Ex.refl s⟩
  · rw [if_neg hp] at h; exact h.elim
theorem ss_for {iter : Expr} {body : List Stmt} {ci : CI} {g : CG} {cb : CS} (hp : PassesOwn (model X.prog X.w) X.A X.env X.xe) (hc : X.calm = true) (hi : SI X tg iter ci) (hg : SG X tg g) (hb : SSs X body cb)
    (hs : ∀ x, foldedSetIterable iter X.env x = pure x := by intro _; rfl) : SS X (.For tg iter body [] pos) (sFor ci g cb) := (ps_for hp hc hi hg hb hs).of fun G σ H ⟨ρ, l, st, lr, sr, p⟩ =>
  ⟨ρ, l, st, lr, sr, p.bnd.imp fun w st1 ρ1 H1 x1 s1 p1 J hJ => by
    refine ⟨fun i m σ' H' => m = w.ds.length - i ∧ i ≤ w.ds.length ∧ ∃ ρ' l' st', Ex ρ1 H1 ρ' H' ∧ LR X.K ρ' H' σ' l' ∧ SR X.K ρ' H' st' ∧ Post X.K ρ' H' (forD g cb w.same (w.ds.drop i) l' st') fun f _ ρ' H' => match f with
      | .next l' => ∀ σ', LR X.K ρ' H' σ' l' → G.nx σ' H'
      | .ret d => ∀ v, Rep X.K ρ' H' v d → G.rt v H'
      | .brk l' => ∀ σ', LR X.K ρ' H' σ' l' → G.bk σ' H'
      | .cnt l' => ∀ σ', LR X.K ρ' H' σ' l' → G.ct σ' H', ⟨w.ds.length, by simp, Nat.zero_le _, ρ1, l, st1, Ex.refl, lr.mono x1, s1, p1⟩, ?_⟩
    rintro i m σ2 H2 ⟨rfl, hi, ρ2, l2, st2, x2, lr2, s2, p2⟩
    by_cases hlt : i < w.ds.length
    · have ed : w.ds.drop i = w.ds[i] :: w.ds.drop (i + 1) := List.drop_eq_getElem_cons hlt
      rw [ed] at p2
      unfold forD at p2
      obtain ⟨sm, p3⟩ := Post.chkS (Post.bnd p2) s2
      obtain ⟨_, go⟩ := hJ ρ2 H2 st2 x2 s2 sm
      obtain ⟨g1, g2⟩ := go i w.ds[i] (List.getElem?_eq_getElem hlt)
      refine .inr ⟨g1, fun σ3 H3 => ∃ ρ3 l3 st3, Ex ρ1 H1 ρ3 H3 ∧ LR X.K ρ3 H3 σ3 l3 ∧ SR X.K ρ3 H3 st3 ∧ Post X.K ρ3 H3 (forD g cb w.same (w.ds.drop (i + 1)) l3 st3) fun f _ ρ' H' => match f with
        | .next l' => ∀ σ', LR X.K ρ' H' σ' l' → G.nx σ' H'
        | .ret d => ∀ v, Rep X.K ρ' H' v d → G.rt v H'
        | .brk l' => ∀ σ', LR X.K ρ' H' σ' l' → G.bk σ' H'
        | .cnt l' => ∀ σ', LR X.K ρ' H' σ' l' → G.ct σ' H', fun σ3 H3 q => ⟨_, by omega, rfl, hlt, q⟩, fun y H3 hy => ?_⟩
      obtain ⟨x3, s3, rv⟩ := g2 y H3 hy
      refine ⟨ρ2, l2, st2, _, lr2.mono x3, s3, rv, (Post.left x3 (Post.bnd p3)).imp fun l4 st4 ρ4 H4 x4 s4 p4 σ4 lr4 => ⟨ρ4, l4, st4, lr4, s4, (Post.bnd p4).imp fun f st5 ρ5 H5 x5 s5 p5 => ?_⟩⟩
      have x5' : Ex ρ1 H1 ρ5 H5 := (x2.trans x3).trans (x4.trans x5)
      cases f with
      | next l5 => exact fun σ5 lr5 => ⟨ρ5, l5, st5, x5', lr5, s5, p5⟩
      | cnt l5 => exact fun σ5 lr5 => ⟨ρ5, l5, st5, x5', lr5, s5, p5⟩
      | brk l5 => exact fun σ5 lr5 => p5.ret s5 σ5 lr5
      | ret d => exact fun v rv => p5.ret s5 v rv
    · have e : i = w.ds.length := by omega
      subst e
      rw [List.drop_length] at p2
      unfold forD at p2
      obtain ⟨sm, p3⟩ := Post.chkS (Post.bnd p2) s2
      obtain ⟨g1, _⟩ := hJ ρ2 H2 st2 x2 s2 sm
      exact .inl ⟨g1, p3.ret s2 σ2 lr2⟩⟩
end
end MM
namespace MM
open PySem PySem.Spec PyProof.Rows L2

section
variable {X : Cx} {a b c e tg : Expr} {es : List Expr} {pos : Pos} {fa fb fc : CE} {ca cb : CA} {ta tb : CT} {K : PySem.W.Frag} {ρ : List Addr} {H : Hp} {st : Sto} {x : Str} {p : Pos} {id T : String}
/-! ### comprehensions -/
theorem cap_lr {n : Nat} {ix : List Nat} {σ : St} {l : Loc} (h : LR K ρ H σ l) : LR K ρ H (capV n ix σ) (capt n ix l) := by
  unfold capV capt
  refine ⟨by simp, fun i d e => ?_⟩
  have hi : n ≤ i := Nat.le_of_not_lt fun z => by
    rw [List.getElem?_append_left (by simpa using z), List.getElem?_replicate] at e
    split at e <;> cases e
  rw [List.getElem?_append_right (by simpa using hi), List.length_replicate, List.getElem?_map] at e
  cases q : ix[i - n]? with
  | none => rw [q] at e; cases e
  | some k =>
    rw [q] at e
    have hj : (l[k]?).join = some d := Option.some.inj e
    have hk : l[k]? = some (some d) := by
      cases z : l[k]? with
      | none => rw [z] at hj; cases hj
      | some o => rw [z] at hj; exact congrArg some hj
    obtain ⟨v, hv, rv⟩ := h.2 k d hk
    refine ⟨v, ?_, rv⟩
    rw [List.getElem?_append_right (by simpa using hi), List.length_replicate, List.getElem?_map, q]
    show some ((σ[k]?).join) = some (some v)
    rw [hv]; rfl
/-- the tests of a clause -/
abbrev SIfs (X : Cx) (ifs : List Expr) (t : CT) : Prop := PIfs X ifs (ttOf X.K t)
theorem sifs_nil : SIfs X [] tTrue := fun pins s σ H Q I ⟨ρ, l, st, lr, sr, p⟩ => pifs_nil pins s σ H Q I (p.ret sr)
theorem Ex.own {ρ' : List Addr} {H' : Hp} {q : Addr} {ws : List V} (x : Ex ρ H ρ' H') (h : H q = none) : Ex ρ H ρ' (upd H' q (.lst ws)) := by
  have ne : ∀ b o, H b = some o → b ≠ q := fun b o e z => by rw [z, h] at e; cases e
  exact ⟨x.pre, fun b o no e => by rw [upd_ne (ne b o e)]; exact x.fix b o no e, fun b xs nb e => by rw [upd_ne (ne b _ e)]; exact x.lst b xs nb e, fun b o e => by rw [upd_ne (ne b o e)]; exact x.trk b o e⟩
theorem Up.own {ρ' : List Addr} {H' : Hp} {q : Addr} {vs ws : List V} (h : H' q = some (.lst vs)) : Up ρ' H' ρ' (upd H' q (.lst ws)) :=
  ⟨⟨[], by simp⟩, fun b o no e => by rw [upd_ne fun z => by subst z; rw [h] at e; cases e; exact no _ rfl]; exact e⟩
theorem LR.up {ρ' : List Addr} {H' : Hp} {σ : St} {l : Loc} (x : Up ρ H ρ' H') (h : LR K ρ H σ l) : LR K ρ' H' σ l := ⟨h.1, fun i d e => let ⟨v, e1, r⟩ := h.2 i d e; ⟨v, e1, r.up x⟩⟩
theorem SR.own {q : Addr} {vs ws : List V} (s : SR K ρ H st) (h : H q = some (.lst vs)) (nq : q ∉ ρ) : SR K ρ (upd H q (.lst ws)) st :=
  ⟨s.len, s.nd, fun n b o e1 e2 => (s.ob n b o e1 e2).mono (Up.own h) fun us e => by rw [upd_ne (fun (z : b = q) => nq (by rw [← z]; exact List.mem_of_getElem? e1))]; exact e⟩
theorem comp_of {ci : CI} {g : CG} {n : Nat} {ix : List Nat} : ∀ σ H Q, tlOf K (aComp n ix ci g ta fa) σ H Q → tComp (tiOf K ci) n ix (tgOf K g) (ttOf K ta) (tOf K fa) σ H Q := fun σ H Q ⟨ρ, l, st, lr, sr, p⟩ =>
  ⟨ρ, l, st, lr, sr, p.bnd0.imp fun w st1 ρ1 H1 x1 s1 p1 J hJ q hq => by
    obtain ⟨hz, p2⟩ := Post.chk p1
    have hn : H q = none := by
      cases z : H q with
      | none => rfl
      | some o => exact absurd hq (x1.trk q o z)
    -- what is collected so far stands in the list at q
    refine ⟨fun i m σ' H' => m = w.ds.length - i ∧ i ≤ w.ds.length ∧ ∃ ρ' l' st' done vs, Ex ρ H ρ' H' ∧ Ex ρ1 H1 ρ' H' ∧ LR K ρ' H' σ' l' ∧ SR K ρ' H' st' ∧ q ∉ ρ' ∧ H' q = some (.lst vs) ∧ Reps K ρ' H' vs done ∧ done.length ≤ i ∧
      Post K ρ H (collect g ta fa w.same (w.ds.drop i) l' st') (fun rest st2 ρ2 H2 => ∀ a ws, H a = none → a ∉ ρ2 → H2 a = some (.lst ws) → Reps K ρ2 H2 ws (done ++ rest) → Q (.ref a) H2),
      ⟨w.ds.length, by simp, Nat.zero_le _, ρ1, capt n ix l, st1, [], [], x1.trans (Ex.new hq), Ex.new hq, cap_lr ((lr.mono x1).mono (Ex.new hq)), s1.new hq, s1.fresh hq, upd_same, .nil, Nat.zero_le _, p2⟩, ?_⟩
    rintro i m σ2 H2 ⟨rfl, hi, ρ2, l2, st2, done, vs, x2, y2, lr2, s2, nq, hv, rvs, hd, p3⟩
    by_cases hlt : i < w.ds.length
    · have ed : w.ds.drop i = w.ds[i] :: w.ds.drop (i + 1) := List.drop_eq_getElem_cons hlt
      rw [ed] at p3
      unfold collect at p3
      obtain ⟨sm, p4⟩ := Post.chkS (p3.bnd0.left x2) s2
      obtain ⟨_, go⟩ := hJ ρ2 H2 st2 y2 s2 sm
      obtain ⟨g1, g2⟩ := go i w.ds[i] (List.getElem?_eq_getElem hlt)
      refine .inr ⟨g1, fun y H3 hy => ?_⟩
      obtain ⟨x3, s3, rv⟩ := g2 y H3 hy
      refine ⟨ρ2, l2, st2, _, lr2.mono x3, s3, rv, (p4.bnd0.left (x2.trans x3)).imp fun l4 st4 ρ4 H4 x4 s4 p5 σ4 lr4 => ⟨ρ4, l4, st4, lr4, s4, (p5.bnd0.left (x2.trans (x3.trans x4))).imp fun b st5 ρ5 H5 x5 s5 p6 => ?_⟩⟩
      have y5 : Ex ρ2 H2 ρ5 H5 := x3.trans (x4.trans x5)
      have out : ∀ {ρ' : List Addr} {H' : Hp}, Ex ρ2 H2 ρ' H' → q ∉ ρ' := fun z hm => by
        obtain ⟨τ, e, f⟩ := z.pre
        rw [e] at hm
        rcases List.mem_append.mp hm with hm | hm
        · exact nq hm
        · rw [f q hm] at hv; cases hv
      cases b with
      | false => exact ⟨_, by omega, rfl, hlt, ρ5, l4, st5, done, vs, x2.trans y5, y2.trans y5, lr4.mono x5, s5, out y5, y5.lst q vs nq hv, rvs.mono y5, Nat.le_succ_of_le hd, p6⟩
      | true =>
        refine ⟨ρ5, l4, st5, lr4.mono x5, s5, (p6.bnd0.left (x2.trans y5)).imp fun d st6 ρ6 H6 x6 s6 p7 v rv6 => ?_⟩
        have y6 : Ex ρ2 H2 ρ6 H6 := y5.trans x6
        have hv6 := y6.lst q vs nq hv
        have u6 : Up ρ6 H6 ρ6 (upd H6 q (.lst (vs ++ [v]))) := Up.own hv6
        refine ⟨vs, hv6, ?_, _, by omega, rfl, hlt, ρ6, l4, st6, done ++ [d], vs ++ [v], (x2.trans y6).own hn, (y2.trans y6).own hq, LR.up u6 ((lr4.mono x5).mono x6), s6.own hv6 (out y6), out y6, upd_same,
          Reps.app ((rvs.mono y6).up u6) (.cons (rv6.up u6) .nil), by simp; omega, ?_⟩
        · have e1 := rvs.length
          have e2 : w.ds.length ≤ sizeLine := hz
          omega
        · refine p7.bnd0.imp fun rest st8 ρ8 H8 x8 s8 p8 a ws ha na hw rws => ?_
          exact p8 ρ8 H8 x8 s8 a ws ha na hw (by rw [List.append_cons]; exact rws)
    · have e : i = w.ds.length := by omega
      subst e
      rw [List.drop_length] at p3
      unfold collect at p3
      obtain ⟨sm, p4⟩ := Post.chkS (p3.bnd0.left x2) s2
      obtain ⟨g1, _⟩ := hJ ρ2 H2 st2 y2 s2 sm
      refine .inl ⟨g1, p4 ρ2 H2 x2 s2 q vs hn nq hv (by rw [List.append_nil]; exact rvs)⟩⟩
theorem sl_comp {scope : Scope} {N : List Str} {ifs : List Expr} {n : Nat} {ix : List Nat} {ci : CI} {g : CG} (hc : X.calm = true) (S : CompScope X scope) (T : CompNames X scope N n ix) (hi : SI X tg b ci)
    (blk : ∀ (fp : List Addr) (s : Shared) (H : Hp), SG (cxC X N scope fp s H) tg g ∧ SIfs (cxC X N scope fp s H) ifs ta ∧ SE (cxC X N scope fp s H) e fa)
    (hs : ∀ x, foldedSetIterable b X.env x = pure x := by intro _; rfl) : SL X (.ListComp e [⟨tg, b, ifs, 0⟩] scope pos) (aComp n ix ci g ta fa) := (pe_comp hc S T hi blk hs).of comp_of
theorem ss_compSet {scope : Scope} {N : List Str} {ifs : List Expr} {n i : Nat} {ix : List Nat} {ci : CI} {g : CG} {y : Str} {pos' spos : Pos}
    (hN : X.N.Nodup) (hi' : X.N[i]? = some y) (hy : L2.Loc X.env.scope y) (hf : X.fn y = true ∨ X.env.scope.names.lookup y = some .local)
    (hc : X.calm = true) (S : CompScope X scope) (T : CompNames X scope N n ix) (hi : SI X tg b ci)
    (blk : ∀ (fp : List Addr) (s : Shared) (H : Hp), SG (cxC X N scope fp s H) tg g ∧ SIfs (cxC X N scope fp s H) ifs ta ∧ SE (cxC X N scope fp s H) e fa)
    (hsw : swapsWith (.ListComp e [⟨tg, b, ifs, 0⟩] scope pos) (some (.Name y pos')) spos.line X.env = pure true)
    (hs : ∀ x, foldedSetIterable b X.env x = pure x := by intro _; rfl) : SS X (.Assign [.Name y pos'] (.ListComp e [⟨tg, b, ifs, 0⟩] scope pos) spos) (sAsg (gVar i) (cKeep (aComp n ix ci g ta fa))) :=
  (ps_compSet hN hi' hy hf hc S T hi blk hsw hs).of (asg_of (fun σ H Q ⟨ρ, l, st, lr, sr, p⟩ => comp_of _ _ _ ⟨ρ, l, st, lr, sr, p.bnd0.imp fun ds st1 ρ1 H1 x1 s1 p1 a vs ha na hv rvs => by
    have x : Ex ρ H (ρ1 ++ [a]) H1 := by
      obtain ⟨τ, e, f⟩ := x1.pre
      refine ⟨⟨τ ++ [a], by rw [e, List.append_assoc], fun b hb => ?_⟩, x1.fix, x1.lst, x1.trk⟩
      rcases List.mem_append.mp hb with hb | hb
      · exact f b hb
      · rw [List.mem_singleton] at hb; rw [hb]; exact ha
    refine p1 (ρ1 ++ [a]) H1 x (s1.keep hv na rvs) _ (.ref ?_)
    rw [← s1.len]; simp⟩) gname_of)

/-! ### calls of Python's own -/
/-- f(e), f a built-in function: by its value -/
theorem se_callB1 {g : D → M D} (hc : CallR X (.builtin id) (fun xs H Q => ∃ v, xs = [v] ∧ uOf X.K g v H Q)) (hg : Gl X x) (hm : X.mg x = none) (hv : bootBuiltins x = some (.builtin id)) (ha : SE X e fa) (hn : x ≠ "__name__" := by decide) (hdb : (x == ("__debug__" : Str)) = false := by decide)
    (he : starEach [e] X.env = [(false, eval e X.env)] := by rfl) : SE X (.Call (.Name x p) [e] [] pos) (c1 g fa) :=
  (pe_callB hc hg hm hv (pa_cons ha pa_nil he) hn hdb he rfl).of fun σ H Q ⟨ρ, l, st, lr, sr, p⟩ => ⟨ρ, l, st, lr, sr, p.bnd.imp fun d st1 ρ1 H1 x1 s1 p1 v rv => ⟨v, rfl, ρ1, st1, d, s1, rv, p1⟩⟩
theorem se_callT1 {g : D → M D} (hc : CallR X (.type T) (fun xs H Q => ∃ v, xs = [v] ∧ uOf X.K g v H Q)) (hg : Gl X x) (hm : X.mg x = none) (hv : bootBuiltins x = some (.type T)) (ha : SE X e fa) (hn : x ≠ "__name__" := by decide) (hdb : (x == ("__debug__" : Str)) = false := by decide)
    (he : starEach [e] X.env = [(false, eval e X.env)] := by rfl) : SE X (.Call (.Name x p) [e] [] pos) (c1 g fa) :=
  (pe_callTy hc hg hm hv (pa_cons ha pa_nil he) hn hdb he rfl).of fun σ H Q ⟨ρ, l, st, lr, sr, p⟩ => ⟨ρ, l, st, lr, sr, p.bnd.imp fun d st1 ρ1 H1 x1 s1 p1 v rv => ⟨v, rfl, ρ1, st1, d, s1, rv, p1⟩⟩
/-- f([..]), of a list that is not kept -/
def lOf (K : PySem.W.Frag) (g : List D → M D) : List V → Hp → VK → Prop := fun xs H Q => ∃ a vs ρ st ds, xs = [.ref a] ∧ SqL K H a vs ∧ SR K ρ H st ∧ Reps K ρ H vs ds ∧ Post K ρ H (g ds st) fun r _ ρ' H' => ∀ v, Rep K ρ' H' v r → Q v H'
theorem se_tmpB {g : List D → M D} (hc : CallR X (.builtin id) (lOf X.K g)) (hg : Gl X x) (hm : X.mg x = none) (hv : bootBuiltins x = some (.builtin id)) (ha : SL X e ca) (hn : x ≠ "__name__" := by decide) (hdb : (x == ("__debug__" : Str)) = false := by decide)
    (he : starEach [e] X.env = [(false, eval e X.env)] := by rfl) : SE X (.Call (.Name x p) [e] [] pos) (cTmp g ca) :=
  (pe_callB hc hg hm hv (pa_cons ha pa_nil he) hn hdb he rfl).of fun σ H Q ⟨ρ, l, st, lr, sr, p⟩ => ⟨ρ, l, st, lr, sr, p.bnd.imp fun ds st1 ρ1 H1 x1 s1 p1 a vs ha na hv rvs => ⟨a, vs, ρ1, st1, ds, rfl, SqL.of hv, s1, rvs, p1⟩⟩
theorem se_tmpT {g : List D → M D} (hc : CallR X (.type T) (lOf X.K g)) (hg : Gl X x) (hm : X.mg x = none) (hv : bootBuiltins x = some (.type T)) (ha : SL X e ca) (hn : x ≠ "__name__" := by decide) (hdb : (x == ("__debug__" : Str)) = false := by decide)
    (he : starEach [e] X.env = [(false, eval e X.env)] := by rfl) : SE X (.Call (.Name x p) [e] [] pos) (cTmp g ca) :=
  (pe_callTy hc hg hm hv (pa_cons ha pa_nil he) hn hdb he rfl).of fun σ H Q ⟨ρ, l, st, lr, sr, p⟩ => ⟨ρ, l, st, lr, sr, p.bnd.imp fun ds st1 ρ1 H1 x1 s1 p1 a vs ha na hv rvs => ⟨a, vs, ρ1, st1, ds, rfl, SqL.of hv, s1, rvs, p1⟩⟩
theorem cd_len : CallR X (.builtin "len") (fun xs H Q => ∃ v, xs = [v] ∧ uOf X.K lenD v H Q) := (call_len_seq.or call_len_str).of fun xs H Q ⟨v, e, ρ, st, d, sr, rv, p⟩ => by
  cases rv with
  | @tup a vs ds h r => exact .inl ⟨a, vs, e, .inr h, by rw [r.length]; exact p.ret sr _ (.int _)⟩
  | @lit a vs ds h r => exact .inl ⟨a, vs, e, .inl h.seq, by rw [r.length]; exact p.ret sr _ (.int _)⟩
  | @ref a n h =>
    obtain ⟨ds, e2, p1⟩ := Post.getL (Post.bnd p) sr
    obtain ⟨a', vs, ha, hv, r⟩ := sr.seq e2
    rw [h] at ha; cases ha
    exact .inl ⟨a, vs, e, .inl (SqL.of hv), by rw [r.length]; exact p1.ret sr _ (.int _)⟩
  | str z => exact .inr ⟨z, e, (Post.chk p).1, (Post.chk p).2.ret sr _ (.int _)⟩
  | _ => exact p.elim
theorem cl_len : CallR X (.builtin "len") (lOf X.K lenL) := call_len_seq.of fun xs H Q ⟨a, vs, ρ, st, ds, e, hv, sr, r, p⟩ => ⟨a, vs, e, .inl hv, by rw [r.length]; exact p.ret sr _ (.int _)⟩
theorem cd_int : CallR X (.type "int") (fun xs H Q => ∃ v, xs = [v] ∧ uOf X.K intD v H Q) := call_int1.of fun xs H Q ⟨v, e, ρ, st, d, sr, rv, p⟩ => by
  cases rv with
  | int i => exact .inl ⟨i, e, p.ret sr _ (.int _)⟩
  | bl k => exact .inr ⟨k, e, p.ret sr _ (.int _)⟩
  | _ => exact p.elim
theorem cd_tuple : CallR X (.type "tuple") (fun xs H Q => ∃ v, xs = [v] ∧ uOf X.K tupleD v H Q) := call_tuple_of.of fun xs H Q ⟨v, e, ρ, st, d, sr, rv, p⟩ => by
  cases rv with
  | @tup a vs ds h r => exact ⟨a, vs, e, .inr ⟨h, p.ret sr _ (.tup h r)⟩⟩
  | @lit a vs ds h r => exact ⟨a, vs, e, .inl ⟨h.seq, fun l hl => p ρ _ (Ex.new hl) (sr.new hl) _ (.tup (SqT.of upd_same) (r.mono (Ex.new hl)))⟩⟩
  | @ref a n h =>
    obtain ⟨ds, e2, p1⟩ := Post.getL (Post.bnd p) sr
    obtain ⟨a', vs, ha, hv, r⟩ := sr.seq e2
    rw [h] at ha; cases ha
    exact ⟨a, vs, e, .inl ⟨SqL.of hv, fun l hl => p1 ρ _ (Ex.new hl) (sr.new hl) _ (.tup (SqT.of upd_same) (r.mono (Ex.new hl)))⟩⟩
  | _ => exact p.elim
theorem cl_tuple : CallR X (.type "tuple") (lOf X.K tupL) := call_tuple_of.of fun xs H Q ⟨a, vs, ρ, st, ds, e, hv, sr, r, p⟩ =>
  ⟨a, vs, e, .inl ⟨hv, fun l hl => p ρ _ (Ex.new hl) (sr.new hl) _ (.tup (SqT.of upd_same) (r.mono (Ex.new hl)))⟩⟩
end
end MM
namespace MM
open PySem PySem.Spec PyProof.Rows L2

section
variable {X : Cx} {a b c e tg : Expr} {es : List Expr} {pos : Pos} {fa fb fc : CE} {ca cb : CA} {ta tb : CT} {K : PySem.W.Frag} {ρ : List Addr} {H : Hp} {st : Sto} {x : Str} {p : Pos} {T : String}
/-! ### all, any, max, min of lists -/
theorem numsL_of : ∀ {ds : List D} {ns : List Int} {vs : List V}, numsL ds = some ns → Reps K ρ H vs ds → vs = ns.map V.int
  | [], _, _, h, .nil => by cases h; rfl
  | .int i :: ds, _, _, h, .cons r t => by
    unfold numsL at h
    cases q : numsL ds with
    | none => rw [q] at h; cases h
    | some ms =>
      rw [q] at h
      have h' : i :: ms = _ := Option.some.inj h
      subst h'
      cases r
      rw [numsL_of q t]; rfl
  | .non :: _, _, _, h, _ => by cases h
  | .bl _ :: _, _, _, h, _ => by cases h
  | .str _ :: _, _, _, h, _ => by cases h
  | .tup _ :: _, _, _, h, _ => by cases h
  | .lit _ :: _, _, _, h, _ => by cases h
  | .ref _ :: _, _, _, h, _ => by cases h
theorem boolsL_of : ∀ {ds : List D} {ns : List Bool} {vs : List V}, boolsL ds = some ns → Reps K ρ H vs ds → vs = ns.map V.bl
  | [], _, _, h, .nil => by cases h; rfl
  | .bl i :: ds, _, _, h, .cons r t => by
    unfold boolsL at h
    cases q : boolsL ds with
    | none => rw [q] at h; cases h
    | some ms =>
      rw [q] at h
      have h' : i :: ms = _ := Option.some.inj h
      subst h'
      cases r
      rw [boolsL_of q t]; rfl
  | .non :: _, _, _, h, _ => by cases h
  | .int _ :: _, _, _, h, _ => by cases h
  | .str _ :: _, _, _, h, _ => by cases h
  | .tup _ :: _, _, _, h, _ => by cases h
  | .lit _ :: _, _, _, h, _ => by cases h
  | .ref _ :: _, _, _, h, _ => by cases h
theorem bools_vals : ∀ {bs : List Bool} {us : List Value}, Vals (bs.map V.bl) us → us = bs.map Value.bool
  | [], _, .nil => rfl
  | _ :: _, _, .cons r t => by cases r; rw [bools_vals t]; rfl
theorem call_all_bools (hc : X.calm = true) : CallR X (.builtin "all") (fun xs H Q => ∃ (l : Addr) (bs : List Bool), xs = [.ref l] ∧ SqL X.K H l (bs.map V.bl) ∧ Q (.bl (bs.all id)) H) := by
  intro pins s σ H xs us Q I r h
  obtain ⟨l, bs, rfl, hq, q⟩ := h
  obtain ⟨u, rfl, rx⟩ := vals1 r
  cases rx
  obtain ⟨its, rv, pl, hz⟩ := I.list hq
  have ei := bools_vals rv
  subst ei
  refine call_all_walk (wpAny_pyIter_list pl.isList ?_)
  have hlt : l < s.heap.objs.size := by
    obtain ⟨o, ho, _⟩ := pl.isList
    exact Heap.lt_size ho
  refine ⟨s.heap.objs.size, _, _, _, _, _, fun i => (bs[i]?).getD true, rfl, Walks.list (A := X.A.in1) (I.ok.hd hc) s.heap.objs.size l (Nat.ne_of_lt hlt) (bs.map Value.bool).toArray, ⟨⟨_, Heap.get?_push_size _ rfl, rfl, rfl⟩, ?_⟩, ?_, fun h' tk hk => ?_⟩
  · obtain ⟨o, ho, hr⟩ := pl.isList
    exact ⟨o, Heap.get?_push_of_some _ ho, hr⟩
  · intro i v s' Q' E' hv hQ
    have hv' : (bs.map Value.bool)[i]? = some v := by simpa using hv
    rw [List.getElem?_map] at hv'
    dsimp only at hQ
    cases e : bs[i]? with
    | none => rw [e] at hv'; cases hv'
    | some k =>
      rw [e] at hv' hQ
      have : v = Value.bool k := (Option.some.inj hv').symm
      subst this
      exact wpAny_truthy_bool hQ
  · have e : (List.range (bs.map Value.bool).toArray.size).all (fun i => (bs[i]?).getD true) = bs.all id := by
      have hs : (bs.map Value.bool).toArray.size = bs.length := by simp
      rw [hs, Bool.eq_iff_iff, List.all_eq_true, List.all_eq_true]
      constructor
      · intro hh k hk
        obtain ⟨i, hi⟩ := List.getElem?_of_mem hk
        have := hh i (List.mem_range.mpr (List.getElem?_eq_some_iff.mp hi).1)
        rw [hi] at this; exact this
      · intro hh i hi
        have hl := List.mem_range.mp hi
        rw [List.getElem?_eq_getElem hl]
        exact hh _ (List.getElem_mem hl)
    rw [e]
    exact ⟨.bl _, H, I.kept (t' := tk) fun b o hb => hk b o (by simp; exact Nat.ne_of_lt (Heap.lt_size hb)) (Heap.get?_push_of_some _ hb), rfl, q⟩
theorem foldl_max : ∀ (ns : List Int) (n : Int), ns.foldl max n ∈ n :: ns ∧ ∀ a ∈ n :: ns, a ≤ ns.foldl max n
  | [], n => ⟨by simp, by simp⟩
  | m :: ns, n => by
    obtain ⟨h1, h2⟩ := foldl_max ns (max n m)
    rw [List.foldl_cons]
    refine ⟨?_, fun a ha => ?_⟩
    · rcases List.mem_cons.mp h1 with e | e
      · rw [e]
        by_cases hm : n ≤ m
        · rw [Int.max_eq_right hm]; simp
        · rw [Int.max_eq_left (by omega)]; simp
      · exact List.mem_cons_of_mem _ (List.mem_cons_of_mem _ e)
    · have hx := h2 (max n m) List.mem_cons_self
      rcases List.mem_cons.mp ha with e | e
      · subst e; exact Int.le_trans (Int.le_max_left ..) hx
      · rcases List.mem_cons.mp e with e | e
        · subst e; exact Int.le_trans (Int.le_max_right ..) hx
        · exact h2 a (List.mem_cons_of_mem _ e)
theorem ints_items {vs : List Value} {ns : List Int} (hi : IntsAre vs ns) : ∃ xs, vs.toArray = intItems xs ∧ ns = xs.toList.map (·.1) := by
  obtain ⟨xs, e⟩ := hi.allInts.items
  exact ⟨xs, e, by rw [← hi.numsOf, ← nums_intItems, ← e]⟩
theorem call_max_ints (hc : X.calm = true) : CallR X (.builtin "max") (fun xs H Q => ∃ (l : Addr) (n : Int) (ns : List Int), xs = [.ref l] ∧ SqL X.K H l ((n :: ns).map V.int) ∧ Q (.int (ns.foldl max n)) H) := by
  intro pins s σ H xs us Q I r h
  obtain ⟨l, n, ns, rfl, hq, q⟩ := h
  obtain ⟨u, rfl, rx⟩ := vals1 r
  cases rx
  obtain ⟨its, rv, pl, hz⟩ := I.list hq
  obtain ⟨ys, e, en⟩ := ints_items (intsAre_of rv)
  have hl := pl.isList
  rw [e] at hl
  have hsz : ys.size = ns.length + 1 := by have := congrArg List.length en; simpa using this.symm
  refine max_intList (I.ok.hd hc) hl (by omega) fun v h' tk hv hk => ?_
  obtain ⟨t, rfl⟩ := intItems_at hv
  obtain ⟨b1, b2⟩ := argBest_gt (numAt ys) (ys.size - 1)
  obtain ⟨f1, f2⟩ := foldl_max ns n
  generalize argBest (fun i j => decide (numAt ys i > numAt ys j)) (ys.size - 1) = k at b1 b2 ⊢
  have hin : numAt ys k ∈ n :: ns := by
    rw [en, numAt_eq]
    exact getD_mem (by rw [← en]; simp; omega)
  have hge : ns.foldl max n ≤ numAt ys k := by
    rw [en] at f1
    obtain ⟨j, hj, ej⟩ := mem_getD f1
    rw [← ej, ← numAt_eq]
    exact b2 j (by rw [← en] at hj; simp at hj; omega)
  have hM : numAt ys k = ns.foldl max n := Int.le_antisymm (f2 _ hin) hge
  rw [hM]
  exact ⟨.int _, H, I.kept (t' := tk) hk, ⟨t, rfl⟩, q⟩
theorem cl_all (hc : X.calm = true) : CallR X (.builtin "all") (lOf X.K allD) := (call_all_bools hc).of fun xs H Q ⟨a, vs, ρ, st, ds, e, hv, sr, r, p⟩ => by
  unfold allD at p
  cases q : boolsL ds with
  | none => rw [q] at p; exact p.elim
  | some bs =>
    rw [q] at p
    have := boolsL_of q r
    subst this
    exact ⟨a, bs, e, hv, p.ret sr _ (.bl _)⟩
theorem cl_max (hc : X.calm = true) : CallR X (.builtin "max") (lOf X.K maxD) := (call_max_ints hc).of fun xs H Q ⟨a, vs, ρ, st, ds, e, hv, sr, r, p⟩ => by
  unfold maxD at p
  cases q : numsL ds with
  | none => rw [q] at p; exact p.elim
  | some ns =>
    rw [q] at p
    have := numsL_of q r
    subst this
    cases ns with
    | nil => exact p.elim
    | cons n ns => exact ⟨a, n, ns, e, hv, p.ret sr _ (.int _)⟩
/-! ### isinstance with one of Python's own kinds -/
structure TyTab (T : String) : Prop where
  non : ∀ K, PySem.W.kitOne K (.type "NoneType") (.type T) = some (["NoneType"].contains T)
  bl : ∀ K, PySem.W.kitOne K (.type "bool") (.type T) = some (["bool", "int"].contains T)
  int : ∀ K, PySem.W.kitOne K (.type "int") (.type T) = some (["int"].contains T)
  str : ∀ K, PySem.W.kitOne K (.type "str") (.type T) = some (["str"].contains T)
  tup : ∀ K, PySem.W.kitOne K (.type "tuple") (.type T) = some (["tuple"].contains T)
  lst : ∀ K, PySem.W.kitOne K (.type "list") (.type T) = some (["list"].contains T)
theorem tab_int : TyTab "int" := ⟨fun _ => rfl, fun _ => rfl, fun _ => rfl, fun _ => rfl, fun _ => rfl, fun _ => rfl⟩
theorem tab_bool : TyTab "bool" := ⟨fun _ => rfl, fun _ => rfl, fun _ => rfl, fun _ => rfl, fun _ => rfl, fun _ => rfl⟩
theorem tab_tuple : TyTab "tuple" := ⟨fun _ => rfl, fun _ => rfl, fun _ => rfl, fun _ => rfl, fun _ => rfl, fun _ => rfl⟩
theorem tab_list : TyTab "list" := ⟨fun _ => rfl, fun _ => rfl, fun _ => rfl, fun _ => rfl, fun _ => rfl, fun _ => rfl⟩
/-- a tuple or a list that is the module's own -/
theorem isK_ok {pins : List (Addr × Obj)} {σ : St} {s : Shared} {Q : Value → Shared → Prop} {t : String} {u : Addr} {k : Bool} (I : Inv X pins σ H s) (ht : ∃ o, s.heap.get? u = some o ∧ o.cls = .type t) (hx : t = "tuple" ∨ t = "list") (e : PySem.W.kitOne X.K (.type t) (.type T) = some k)
    (h : ∀ tk, Q (.bool k) { s with toks := tk }) : wpAny (model X.prog X.w) X.A (call (.builtin "isinstance") [.ref u, .type T]) Q X.xe s := by
  rcases hx with rfl | rfl
  · exact PySem.W.kia_one PySem.W.kitx_tuple I.kIn ht e (fun z => nomatch z) h
  · exact PySem.W.kia_one PySem.W.kitx_list I.kIn ht e (fun z => nomatch z) h
theorem cd_isi (B : TyTab T) : CallR X (.builtin "isinstance") (fun xs H Q => ∃ v, xs = [v, .ty T] ∧ uOf X.K (isInst [T]) v H Q) := by
  intro pins s σ H xs us Q I r ⟨v, e, ρ, st, d, sr, rv, p⟩
  subst e
  obtain ⟨u, w', rfl, ru, rw'⟩ := vals2 r
  have ew : w' = Value.type T := rw'
  subst ew
  have fin : ∀ k : Bool, Q (.bl k) H → ∀ tk, EP X pins σ Q (.bool k) { s with toks := tk } := fun k q tk => ⟨.bl k, H, I.tok tk, rfl, q⟩
  cases rv with
  | non =>
    refine isinst_ok I ru .non (B.non _) (fin _ ?_)
    simpa [isInst, isTy] using p.ret sr _ (.bl _)
  | bl k =>
    refine isinst_ok I ru (.bl k) (B.bl _) (fin _ ?_)
    simpa [isInst, isTy] using p.ret sr _ (.bl _)
  | int k =>
    refine isinst_ok I ru (.int k) (B.int _) (fin _ ?_)
    simpa [isInst, isTy] using p.ret sr _ (.bl _)
  | str k =>
    refine isinst_ok I ru (.str k) (B.str _) (fin _ ?_)
    simpa [isInst, isTy] using p.ret sr _ (.bl _)
  | tup h r =>
    have eu : u = Value.ref _ := ru
    subst eu
    obtain ⟨its, _, ⟨o, h1, h2, _⟩, _⟩ := I.tuple h
    refine isK_ok I ⟨o, h1, h2⟩ (.inl rfl) (B.tup _) (fin _ ?_)
    simpa [isInst, isTy] using p.ret sr _ (.bl _)
  | lit h r =>
    have eu : u = Value.ref _ := ru
    subst eu
    obtain ⟨its, _, pl, _⟩ := I.list h.seq
    obtain ⟨o, h1, h2, _⟩ := pl.isList
    refine isK_ok I ⟨o, h1, h2⟩ (.inr rfl) (B.lst _) (fin _ ?_)
    simpa [isInst, isTy] using p.ret sr _ (.bl _)
  | @ref a n h =>
    have eu : u = Value.ref _ := ru
    subst eu
    have hl : n < st.length := by rw [← sr.len]; exact (List.getElem?_eq_some_iff.mp h).1
    obtain ⟨vs, hv⟩ : ∃ vs, H a = some (.lst vs) := by
      have q := sr.ob n a _ h (List.getElem?_eq_getElem hl)
      cases o : st[n] with
      | lst ds' => rw [o] at q; obtain ⟨vs', q, _⟩ := q; exact ⟨vs', q⟩
    obtain ⟨its, _, pl, _⟩ := I.list (SqL.of hv)
    obtain ⟨o, h1, h2, _⟩ := pl.isList
    refine isK_ok I ⟨o, h1, h2⟩ (.inr rfl) (B.lst _) (fin _ ?_)
    simpa [isInst, isTy] using p.ret sr _ (.bl _)
theorem se_isi {y : Str} {p1 : Pos} (B : TyTab T) (hg : Gl X "isinstance") (hm : X.mg "isinstance" = none) (hgT : Gl X y) (hmT : X.mg y = none) (hvT : bootBuiltins y = some (.type T)) (ha : SE X e fa) (hv : bootBuiltins "isinstance" = some (.builtin "isinstance"))
    (hnT : y ≠ "__name__" := by decide) (hdT : (y == ("__debug__" : Str)) = false := by decide)
    (he : starEach [e, .Name y p1] X.env = (false, eval e X.env) :: starEach [.Name y p1] X.env := by rfl) (he2 : starEach [.Name y p1] X.env = (false, eval (.Name y p1) X.env) :: starEach [] X.env := by rfl) (hpl : (backTo pos (starEach [.Name y p1] X.env)).any (·.1) = false := by rfl) :
    SE X (.Call (.Name "isinstance" p) [e, .Name y p1] [] pos) (c1 (isInst [T]) fa) :=
  (pe_callB (cd_isi B) hg hm hv (pa_cons ha (pa_cons (pe_bltn (v := .ty T) hgT hmT hvT rfl hnT hdT) pa_nil he2) he) (by decide) (by decide) he hpl).of fun σ H Q ⟨ρ, l, st, lr, sr, p⟩ => ⟨ρ, l, st, lr, sr, p.bnd.imp fun d st1 ρ1 H1 x1 s1 p1 v rv => ⟨v, rfl, ρ1, st1, d, s1, rv, p1⟩⟩
end
end MM
namespace MM
open PySem PySem.Spec PyProof.Rows L2

section
variable {X : Cx} {K : PySem.W.Frag} {ρ : List Addr} {H : Hp} {st : Sto} {pins : List (Addr × Obj)} {σ : St} {s : Shared}
theorem allF_at {f : D → D → Option Bool} : ∀ {xs ys : List D} {r : Bool}, allF f xs ys = some r → ∀ (j : Nat) (x y : D), xs[j]? = some x → ys[j]? = some y → ∃ k, f x y = some k
  | [], _, _, _, j, x, y, h, _ => by cases j <;> cases h
  | _ :: _, [], _, _, j, x, y, _, h => by cases j <;> cases h
  | a :: xs, b :: ys, r, h, j, x, y, hx, hy => by
    unfold allF at h
    cases e : f a b with
    | none => rw [e] at h; cases h
    | some k =>
      cases j with
      | zero => cases hx; cases hy; exact ⟨k, e⟩
      | succ j =>
        rw [e] at h
        have hx' : xs[j]? = some x := hx
        have hy' : ys[j]? = some y := hy
        cases k with
        | true => exact allF_at h j x y hx' hy'
        | false =>
          cases e2 : allF f xs ys with
          | none => rw [e2] at h; cases h
          | some r' => exact allF_at e2 j x y hx' hy'
/-- what the items say -/
def itE (f : D → D → Option Bool) (xs ys : List D) (j : Nat) : Bool := match xs[j]?, ys[j]? with
  | some x, some y => (f x y).getD false
  | _, _ => true
theorem allF_eq {f : D → D → Option Bool} : ∀ {xs ys : List D} {r : Bool}, allF f xs ys = some r → r = ((List.range (min xs.length ys.length)).all (itE f xs ys) && xs.length == ys.length)
  | [], [], _, h => by cases h; rfl
  | _ :: _, [], _, h => by cases h; simp
  | [], _ :: _, _, h => by cases h; simp
  | a :: xs, b :: ys, r, h => by
    have step : (List.range (min (a :: xs).length (b :: ys).length)).all (itE f (a :: xs) (b :: ys)) = ((f a b).getD false && (List.range (min xs.length ys.length)).all (itE f xs ys)) := by
      have e : min (a :: xs).length (b :: ys).length = min xs.length ys.length + 1 := by simp only [List.length_cons]; omega
      rw [e, List.range_succ_eq_map, List.all_cons, List.all_map]
      rfl
    rw [step]
    unfold allF at h
    cases e : f a b with
    | none => rw [e] at h; cases h
    | some k =>
      rw [e] at h
      cases k with
      | true =>
        have := allF_eq h
        simp only [Option.getD_some, Bool.true_and, List.length_cons]
        rw [this]
        congr 1
        rw [Bool.eq_iff_iff]; simp
      | false =>
        simp only [Option.getD_some, Bool.false_and]
        cases e2 : allF f xs ys with
        | none => rw [e2] at h; cases h
        | some r' => rw [e2] at h; cases h; rfl
theorem Vals.at {vs : List V} {us : List Value} {j : Nat} {u : Value} (r : Vals vs us) (h : us[j]? = some u) : ∃ v, vs[j]? = some v ∧ RelV v u := by
  have hl := r.length
  have hj : j < vs.length := by rw [hl]; exact (List.getElem?_eq_some_iff.mp h).1
  obtain ⟨u', e, ru⟩ := r.get (List.getElem?_eq_getElem hj)
  rw [h] at e; cases e
  exact ⟨_, List.getElem?_eq_getElem hj, ru⟩
theorem Reps.at {vs : List V} {ds : List D} {j : Nat} {v : V} (r : Reps K ρ H vs ds) (h : vs[j]? = some v) : ∃ d, ds[j]? = some d ∧ Rep K ρ H v d := by
  have hl := r.length
  have hj : j < ds.length := by rw [← hl]; exact (List.getElem?_eq_some_iff.mp h).1
  obtain ⟨v', e, rv⟩ := r.get (List.getElem?_eq_getElem hj)
  rw [h] at e; cases e
  exact ⟨_, List.getElem?_eq_getElem hj, rv⟩
/-- the same object: the same data -/
theorem eqS_same {g : List D → List D → Option Bool} {v : V} {d e : D} {r : Bool} (I : Inv X pins σ H s) (hg : ∀ xs ys vs k, Reps X.K ρ H vs xs → Reps X.K ρ H vs ys → g xs ys = some k → k = true) (h : eqS g d e = some r) (r1 : Rep X.K ρ H v d) (r2 : Rep X.K ρ H v e) : r = true := by
  cases r1 with
  | non => cases r2; cases h; rfl
  | bl b => cases r2; cases h; simp
  | int b => cases r2; cases h; simp
  | str b => cases r2; cases h; simp
  | tup h1 q1 =>
    cases r2 with
    | tup h2 q2 =>
      have := I.tuple_inj h1 h2
      subst this
      exact hg _ _ _ _ q1 q2 h
    | _ => cases h
  | lit _ _ => cases r2 <;> cases h
  | ref _ => cases r2 <;> cases h
theorem allF_same {f : D → D → Option Bool} (hf : ∀ v d e k, Rep K ρ H v d → Rep K ρ H v e → f d e = some k → k = true) : ∀ {xs ys : List D} {vs : List V} {k : Bool}, Reps K ρ H vs xs → Reps K ρ H vs ys → allF f xs ys = some k → k = true
  | _, _, _, _, .nil, .nil, h => by cases h; rfl
  | _, _, _, _, .cons a b, .cons c d, h => by
    unfold allF at h
    cases e : f _ _ with
    | none => rw [e] at h; cases h
    | some k =>
      rw [e] at h
      have := hf _ _ _ _ a c e
      subst this
      exact allF_same hf b d h
theorem eqF_same (I : Inv X pins σ H s) : ∀ (n : Nat) {v : V} {d e : D} {r : Bool}, eqF n d e = some r → Rep X.K ρ H v d → Rep X.K ρ H v e → r = true
  | 0, _, _, _, _, h, r1, r2 => eqS_same I (fun _ _ _ _ _ _ z => by cases z) h r1 r2
  | n + 1, _, _, _, _, h, r1, r2 => eqS_same I (fun xs ys vs k q1 q2 z => allF_same (fun v d e k a b c => eqF_same I n c a b) q1 q2 z) h r1 r2

open SeqAt in
/-- one comparison, the tuples' items given -/
theorem eqS_ok {g : List D → List D → Option Bool} {A : Around} {v w : V} {u1 u2 : Value} {d e : D} {r : Bool} (I : Inv X pins σ H s) (hu : A.units < cLine)
    (hg : ∀ xs ys k, g xs ys = some k → ∀ vs ws its its2, Reps X.K ρ H vs xs → Reps X.K ρ H ws ys → Vals vs its → Vals ws its2 →
      ∃ e : Nat → Bool, k = ((List.range (min its.length its2.length)).all e && its.length == its2.length) ∧ ∀ (j : Nat) x y, its[j]? = some x → its2[j]? = some y → EqAt A.in1 s x y (e j))
    (hs : ∀ xs ys vs k, Reps X.K ρ H vs xs → Reps X.K ρ H vs ys → g xs ys = some k → k = true)
    (h : eqS g d e = some r) (r1 : Rep X.K ρ H v d) (r2 : Rep X.K ρ H w e) (v1 : RelV v u1) (v2 : RelV w u2) : RcAt A s u1 u2 r ∧ RcNeAt A s u1 u2 (!r) ∧ EqAt A s u1 u2 r := by
  cases r1 with
  | lit _ _ => cases r2 <;> cases h
  | ref _ => cases r2 <;> cases h
  | non =>
    cases (show u1 = Value.none from v1)
    cases r2 with
    | non => cases (show u2 = Value.none from v2); cases h; exact ⟨.none_none, .none_none, .same _⟩
    | bl b => cases (show u2 = Value.bool b from v2); cases h; exact ⟨.none_bool b, .none_bool b, .none_bool b⟩
    | int b => obtain ⟨t, rfl⟩ := (show ∃ t, u2 = Value.int b t from v2); cases h; exact ⟨.none_int b t, .none_int b t, .none_int b t⟩
    | str b => obtain ⟨t, rfl⟩ := (show ∃ t, u2 = Value.str b t from v2); cases h; exact ⟨.none_str b t, .none_str b t, .none_str b t⟩
    | tup h2 q2 => cases (show u2 = Value.ref _ from v2); cases h; obtain ⟨_, _, p, _⟩ := I.tuple h2; exact ⟨.none_tuple p hu, .none_tuple p hu, .none_tuple p hu⟩
    | _ => cases h
  | bl a =>
    cases (show u1 = Value.bool a from v1)
    cases r2 with
    | non => cases (show u2 = Value.none from v2); cases h; exact ⟨.bool_none a, .bool_none a, .bool_none a⟩
    | bl b => cases (show u2 = Value.bool b from v2); cases h; exact ⟨.bool_bool a b, .bool_bool a b, .bool_bool a b⟩
    | int b => obtain ⟨t, rfl⟩ := (show ∃ t, u2 = Value.int b t from v2); cases h; exact ⟨.bool_int a b t, .bool_int a b t, .bool_int a b t⟩
    | str b => obtain ⟨t, rfl⟩ := (show ∃ t, u2 = Value.str b t from v2); cases h; exact ⟨.bool_str a b t, .bool_str a b t, .bool_str a b t⟩
    | tup h2 q2 => cases (show u2 = Value.ref _ from v2); cases h; obtain ⟨_, _, p, _⟩ := I.tuple h2; exact ⟨.bool_tuple a p hu, .bool_tuple a p hu, .bool_tuple a p hu⟩
    | _ => cases h
  | int a =>
    obtain ⟨t1, rfl⟩ := (show ∃ t, u1 = Value.int a t from v1)
    cases r2 with
    | non => cases (show u2 = Value.none from v2); cases h; exact ⟨.int_none a t1, .int_none a t1, .int_none a t1⟩
    | bl b => cases (show u2 = Value.bool b from v2); cases h; exact ⟨.int_bool a t1 b, .int_bool a t1 b, .int_bool a t1 b⟩
    | int b => obtain ⟨t, rfl⟩ := (show ∃ t, u2 = Value.int b t from v2); cases h; exact ⟨.int_int a t1 b t, .int_int a t1 b t, .int_int a t1 b t⟩
    | str b => obtain ⟨t, rfl⟩ := (show ∃ t, u2 = Value.str b t from v2); cases h; exact ⟨.int_str a t1 b t, .int_str a t1 b t, .int_str a t1 b t⟩
    | tup h2 q2 => cases (show u2 = Value.ref _ from v2); cases h; obtain ⟨_, _, p, _⟩ := I.tuple h2; exact ⟨.int_tuple a t1 p hu, .int_tuple a t1 p hu, .int_tuple a t1 p hu⟩
    | _ => cases h
  | str a =>
    obtain ⟨t1, rfl⟩ := (show ∃ t, u1 = Value.str a t from v1)
    cases r2 with
    | non => cases (show u2 = Value.none from v2); cases h; exact ⟨.str_none a t1, .str_none a t1, .str_none a t1⟩
    | bl b => cases (show u2 = Value.bool b from v2); cases h; exact ⟨.str_bool a t1 b, .str_bool a t1 b, .str_bool a t1 b⟩
    | int b => obtain ⟨t, rfl⟩ := (show ∃ t, u2 = Value.int b t from v2); cases h; exact ⟨.str_int a t1 b t, .str_int a t1 b t, .str_int a t1 b t⟩
    | str b => obtain ⟨t, rfl⟩ := (show ∃ t, u2 = Value.str b t from v2); cases h; exact ⟨.str_str a t1 b t, .str_str a t1 b t, .str_str a t1 b t⟩
    | tup h2 q2 => cases (show u2 = Value.ref _ from v2); cases h; obtain ⟨_, _, p, _⟩ := I.tuple h2; exact ⟨.str_tuple a t1 p hu, .str_tuple a t1 p hu, .str_tuple a t1 p hu⟩
    | _ => cases h
  | @tup l1 vs xs h1 q1 =>
    cases (show u1 = Value.ref _ from v1)
    obtain ⟨its, rv, p, _⟩ := I.tuple h1
    cases r2 with
    | non => cases (show u2 = Value.none from v2); cases h; exact ⟨.tuple_none p hu, .tuple_none p hu, .tuple_none p hu⟩
    | bl b => cases (show u2 = Value.bool b from v2); cases h; exact ⟨.tuple_bool b p hu, .tuple_bool b p hu, .tuple_bool b p hu⟩
    | int b => obtain ⟨t, rfl⟩ := (show ∃ t, u2 = Value.int b t from v2); cases h; exact ⟨.tuple_int b t p hu, .tuple_int b t p hu, .tuple_int b t p hu⟩
    | str b => obtain ⟨t, rfl⟩ := (show ∃ t, u2 = Value.str b t from v2); cases h; exact ⟨.tuple_str b t p hu, .tuple_str b t p hu, .tuple_str b t p hu⟩
    | @tup l2 ws ys h2 q2 =>
      cases (show u2 = Value.ref _ from v2)
      obtain ⟨its2, rw', p2, _⟩ := I.tuple h2
      obtain ⟨ef, ek, he⟩ := hg xs ys r h vs ws its its2 q1 q2 rv rw'
      have hit : ∀ j (a1 : j < its.toArray.size) (a2 : j < its2.toArray.size), EqAt A.in1 s its.toArray[j] its2.toArray[j] (ef j) := fun j a1 a2 =>
        he j _ _ (by rw [List.getElem_toArray]; exact List.getElem?_eq_getElem (by simpa using a1)) (by rw [List.getElem_toArray]; exact List.getElem?_eq_getElem (by simpa using a2))
      have k1 := RcAt.tuples (A := A) (s := s) p p2 hu hit
      have k2 := RcNeAt.tuples (A := A) (s := s) p p2 hu hit
      simp only [List.size_toArray] at k1 k2
      rw [← ek] at k1 k2
      refine ⟨k1, k2, ?_⟩
      by_cases hl : l1 = l2
      · subst hl
        have := I.tuple_inj h1 h2
        subst this
        rw [hs xs ys vs r q1 q2 h]
        exact .same _
      · exact .of_refs hl k1
    | _ => cases h
open SeqAt in
theorem items_ok {n : Nat} {A : Around} (I : Inv X pins σ H s)
    (ih : ∀ {v w : V} {u1 u2 : Value} {d e : D} {r : Bool}, eqF n d e = some r → Rep X.K ρ H v d → Rep X.K ρ H w e → RelV v u1 → RelV w u2 → EqAt A s u1 u2 r)
    {xs ys : List D} {k : Bool} (h : allF (eqF n) xs ys = some k) {vs ws : List V} {its its2 : List Value} (q1 : Reps X.K ρ H vs xs) (q2 : Reps X.K ρ H ws ys) (rv : Vals vs its) (rw' : Vals ws its2) :
    ∃ e : Nat → Bool, k = ((List.range (min its.length its2.length)).all e && its.length == its2.length) ∧ ∀ (j : Nat) x y, its[j]? = some x → its2[j]? = some y → EqAt A s x y (e j) := by
  refine ⟨itE (eqF n) xs ys, ?_, fun j x y hx hy => ?_⟩
  · have l1 := rv.length
    have l2 := rw'.length
    have l3 := q1.length
    have l4 := q2.length
    rw [← l1, ← l2, l3, l4]
    exact allF_eq h
  · obtain ⟨v, hv, ru⟩ := Vals.at rv hx
    obtain ⟨w, hw, rw2⟩ := Vals.at rw' hy
    obtain ⟨d, hd, rd⟩ := Reps.at q1 hv
    obtain ⟨e, he, re⟩ := Reps.at q2 hw
    obtain ⟨r, hr⟩ := allF_at h j d e hd he
    have : itE (eqF n) xs ys j = r := by unfold itE; rw [hd, he]; dsimp only; rw [hr]; rfl
    rw [this]
    exact ih hr rd re ru rw2
open SeqAt in
theorem eqF_ok (I : Inv X pins σ H s) : ∀ (n : Nat) {A : Around} {v w : V} {u1 u2 : Value} {d e : D} {r : Bool}, A.units + n < cLine → eqF n d e = some r → Rep X.K ρ H v d → Rep X.K ρ H w e → RelV v u1 → RelV w u2 → RcAt A s u1 u2 r ∧ RcNeAt A s u1 u2 (!r) ∧ EqAt A s u1 u2 r
  | 0, _, _, _, _, _, _, _, _, hu, h, r1, r2, v1, v2 => eqS_ok I hu (fun _ _ _ z => by cases z) (fun _ _ _ _ _ _ z => by cases z) h r1 r2 v1 v2
  | n + 1, A, _, _, _, _, _, _, _, hu, h, r1, r2, v1, v2 => eqS_ok I (by omega)
      (fun xs ys k z vs ws its its2 q1 q2 rv rw' => items_ok I (fun h r1 r2 v1 v2 => (eqF_ok I n (A := A.in1) (by show A.units + 1 + n < cLine; omega) h r1 r2 v1 v2).2.2) z q1 q2 rv rw')
      (fun xs ys vs k q1 q2 z => allF_same (fun v d e k a b c => eqF_same I n c a b) q1 q2 z) h r1 r2 v1 v2
end
end MM
namespace MM
open PySem PySem.Spec PyProof.Rows L2

section
variable {X : Cx} {K : PySem.W.Frag} {ρ : List Addr} {H : Hp} {st : Sto} {pins : List (Addr × Obj)} {σ : St} {s : Shared}
open SeqAt in
/-- both ways of asking -/
theorem eq_both (hu : X.A.units + 60 < cLine) (I : Inv X pins σ H s) (sr : SR X.K ρ H st) {d e : D} {x y : V} {v u : Value} {R : Bool → Sto → List Addr → Hp → Prop} (r1 : Rep X.K ρ H x d) (r2 : Rep X.K ρ H y e) (rx : RelV x v) (ry : RelV y u)
    (p : Post X.K ρ H (eqB d e st) R) : ∃ r, R r st ρ H ∧ RcAt X.A s v u r ∧ RcNeAt X.A s v u (!r) := by
  have hu' : X.A.units < cLine := by omega
  have gen : Post X.K ρ H ((match eqF 50 d e with | some r => ret r | none => bad : M Bool) st) R → ∃ r, R r st ρ H ∧ RcAt X.A s v u r ∧ RcNeAt X.A s v u (!r) := fun q => by
    cases h : eqF 50 d e with
    | none => rw [h] at q; exact q.elim
    | some r =>
      rw [h] at q
      obtain ⟨k1, k2, _⟩ := eqF_ok I 50 (A := X.A) (by omega) h r1 r2 rx ry
      exact ⟨r, q.ret sr, k1, k2⟩
  cases r1 with
  | non =>
    cases r2 with
    | @ref a n h =>
      obtain ⟨ds, e2, p1⟩ := Post.getL (Post.bnd p) sr
      obtain ⟨a', vs, ha, hv, r⟩ := sr.seq e2
      rw [h] at ha; cases ha
      cases (show v = Value.none from rx)
      cases (show u = Value.ref a from ry)
      obtain ⟨_, _, pl, _⟩ := I.list (SqL.of hv)
      exact ⟨false, p1.ret sr, .none_list pl.isList hu', .none_list pl.isList hu'⟩
    | _ => exact gen p
  | @ref a n h =>
    cases r2 with
    | non =>
      obtain ⟨ds, e2, p1⟩ := Post.getL (Post.bnd p) sr
      obtain ⟨a', vs, ha, hv, r⟩ := sr.seq e2
      rw [h] at ha; cases ha
      cases (show u = Value.none from ry)
      cases (show v = Value.ref a from rx)
      obtain ⟨_, _, pl, _⟩ := I.list (SqL.of hv)
      exact ⟨false, p1.ret sr, .list_none pl.isList hu', .list_none pl.isList hu'⟩
    | @ref b m h' =>
      obtain ⟨xs, e2, p1⟩ := Post.getL (Post.bnd p) sr
      obtain ⟨ys, e3, p2⟩ := Post.getL (Post.bnd p1) sr
      obtain ⟨a', vs, ha, hv, q1⟩ := sr.seq e2
      obtain ⟨b', ws, hb, hw, q2⟩ := sr.seq e3
      rw [h] at ha; cases ha
      rw [h'] at hb; cases hb
      cases (show v = Value.ref a from rx)
      cases (show u = Value.ref b from ry)
      obtain ⟨its, rv, pl, _⟩ := I.list (SqL.of hv)
      obtain ⟨its2, rw', pl2, _⟩ := I.list (SqL.of hw)
      have l1 := rv.length
      have l2 := rw'.length
      have l3 := q1.length
      have l4 := q2.length
      by_cases hl : xs.length = ys.length
      · rw [if_pos hl] at p2
        cases h2 : allF (eqF 50) xs ys with
        | none => rw [h2] at p2; exact p2.elim
        | some r =>
          rw [h2] at p2
          obtain ⟨ef, ek, he⟩ := items_ok (A := X.A.in1) I (fun h r1 r2 v1 v2 => (eqF_ok I 50 (A := X.A.in1) (by show X.A.units + 1 + 50 < cLine; omega) h r1 r2 v1 v2).2.2) h2 q1 q2 rv rw'
          have hsz : its.toArray.size = its2.toArray.size := by rw [List.size_toArray, List.size_toArray]; omega
          have hit : ∀ j (a1 : j < its.toArray.size) (a2 : j < its2.toArray.size), EqAt X.A.in1 s its.toArray[j] its2.toArray[j] (ef j) := fun j a1 a2 =>
            he j _ _ (by rw [List.getElem_toArray]; exact List.getElem?_eq_getElem (by simpa using a1)) (by rw [List.getElem_toArray]; exact List.getElem?_eq_getElem (by simpa using a2))
          have ek2 : (List.range its.toArray.size).all ef = r := by
            rw [ek, List.size_toArray]
            have : its.length = its2.length := by omega
            rw [this]; simp
          have k1 := RcAt.lists (A := X.A) (s := s) pl.isList pl2.isList hsz hu' hit
          have k2 := RcNeAt.lists (A := X.A) (s := s) pl.isList pl2.isList hsz hu' hit
          rw [ek2] at k1 k2
          exact ⟨r, p2.ret sr, k1, k2⟩
      · rw [if_neg hl] at p2
        have hne : (its.toArray.size != its2.toArray.size) = true := by
          rw [List.size_toArray, List.size_toArray]
          simp
          omega
        exact ⟨false, p2.ret sr, .lists_lengths pl.isList pl2.isList hne hu', .lists_lengths pl.isList pl2.isList hne hu'⟩
    | _ => exact gen p
  | _ => cases r2 <;> exact gen p
theorem od_eq (hu : X.A.units + 60 < cLine) : OpR X (compareOp .Eq) (rOf X.K eqD) := by
  intro pins s σ H x y v u Q I rx ry ⟨ρ, st, d, e, sr, r1, r2, p⟩
  obtain ⟨r, q, k1, _⟩ := eq_both hu I sr r1 r2 rx ry p.bnd
  exact k1 _ _ _ _ ⟨.bl r, H, I, rfl, q.ret sr _ (.bl _)⟩
theorem od_ne (hu : X.A.units + 60 < cLine) : OpR X (compareOp .NotEq) (rOf X.K neD) := by
  intro pins s σ H x y v u Q I rx ry ⟨ρ, st, d, e, sr, r1, r2, p⟩
  obtain ⟨r, q, _, k2⟩ := eq_both hu I sr r1 r2 rx ry p.bnd
  exact k2 _ _ _ _ ⟨.bl (!r), H, I, rfl, q.ret sr _ (.bl _)⟩
end

section
variable {X : Cx} {a b c e o tg : Expr} {es : List Expr} {pos apos cpos : Pos} {fa fb fc : CE} {ca cb : CA} {ta tb : CT} {K : PySem.W.Frag} {ρ : List Addr} {H : Hp} {st : Sto} {x : Str} {p : Pos} {T : String}
/-! ### xs.append(v), xs.clear() -/
theorem se_append (ho : SE X o fa) (ha : SE X e fb) (hbase : attributeBase o "append" X.env (eval o X.env) = eval o X.env := by rfl)
    (hfew : ((backTo cpos (starEach [e] X.env)).all (fun x => !x.1) && (backToKw cpos (keywordEach [] X.env)).all (fun x => x.1.isSome)
      && decide ([e].length + ([] : List Keyword).length + (if ([] : List Keyword).isEmpty then 0 else 1) < 30)) = true := by rfl)
    (hline : (apos.endLine == cpos.line) = true := by rfl) (hs : starEach [e] X.env = (false, eval e X.env) :: starEach [] X.env := by rfl) (hplain : (backTo cpos (starEach [] X.env)).any (·.1) = false := by rfl) :
    SE X (.Call (.Attribute o "append" apos) [e] [] cpos) (cAppend fa fb) :=
  (pe_bm PySem.F.plainAttrs_list PySem.F.slot_list_append PySem.F.type_list_append mt_append ho (pa_cons ha pa_nil hs) hbase hfew hline hs hplain).of fun σ H Q ⟨ρ, l, st, lr, sr, p⟩ => ⟨ρ, l, st, lr, sr, p.bnd.imp fun d st1 ρ1 H1 x1 s1 p1 v rv => by
    cases rv with
    | @ref a n h =>
      have hl : n < st1.length := by rw [← s1.len]; exact (List.getElem?_eq_some_iff.mp h).1
      obtain ⟨vs0, hv0⟩ : ∃ vs, H1 a = some (.lst vs) := by
        have q := s1.ob n a _ h (List.getElem?_eq_getElem hl)
        cases o : st1[n] with
        | lst ds' => rw [o] at q; obtain ⟨vs', q, _⟩ := q; exact ⟨vs', q⟩
      refine ⟨.inl ⟨rfl, vs0, SqL.of hv0⟩, ρ1, l, st1, lr.mono x1, s1, (Post.bnd p1).imp fun y st2 ρ2 H2 x2 s2 p2 w rw' => ?_⟩
      have h2 : ρ2[n]? = some a := by
        obtain ⟨τ, e, _⟩ := x2.pre
        rw [e]; exact get_app h
      obtain ⟨ds, e2, p3⟩ := Post.getL (Post.bnd p2) s2
      obtain ⟨a', vs, ha, hv, r⟩ := s2.seq e2
      rw [h2] at ha; cases ha
      obtain ⟨hz, p4⟩ := Post.chk p3
      obtain ⟨s3, x3⟩ := s2.put (List.getElem?_eq_some_iff.mp e2).1 h2 (Reps.app r (.cons rw' .nil))
      have p5 := Post.bnd p4
      unfold putL at p5
      rw [e2] at p5
      exact ⟨a, vs, w, rfl, rfl, hv, by rw [r.length]; exact hz, (p5 ρ2 _ x3 s3).ret s3 _ .non⟩
    | _ => exact p1.elim⟩
theorem se_clear (ho : SE X o fa) (hbase : attributeBase o "clear" X.env (eval o X.env) = eval o X.env := by rfl) (hline : (apos.endLine == cpos.line) = true := by rfl) : SE X (.Call (.Attribute o "clear" apos) [] [] cpos) (cClear fa) :=
  (pe_bm0 PySem.F.plainAttrs_list PySem.F.slot_list_clear PySem.F.type_list_clear mt_clear ho hbase hline).of fun σ H Q ⟨ρ, l, st, lr, sr, p⟩ => ⟨ρ, l, st, lr, sr, p.bnd.imp fun d st1 ρ1 H1 x1 s1 p1 v rv => by
    cases rv with
    | @ref a n h =>
      have hl : n < st1.length := by rw [← s1.len]; exact (List.getElem?_eq_some_iff.mp h).1
      obtain ⟨vs0, hv0⟩ : ∃ vs, H1 a = some (.lst vs) := by
        have q := s1.ob n a _ h (List.getElem?_eq_getElem hl)
        cases o : st1[n] with
        | lst ds' => rw [o] at q; obtain ⟨vs', q, _⟩ := q; exact ⟨vs', q⟩
      obtain ⟨s3, x3⟩ := s1.put (ds := []) (vs := []) hl h .nil
      have p5 := Post.bnd p1
      unfold putL at p5
      cases o : st1[n]? with
      | none => rw [o] at p5; exact p5.elim
      | some ob =>
        rw [o] at p5
        cases ob with
        | lst ds' => exact ⟨.inl ⟨rfl, vs0, SqL.of hv0⟩, a, vs0, rfl, rfl, hv0, (p5 ρ1 _ x3 s3).ret s3 _ .non⟩
    | _ => exact p1.elim⟩

/-! ### + -/
theorem od_add : OpR X (binaryOp .Add) (rOf X.K addD) := by
  intro pins s σ H x y v u Q I rx ry ⟨ρ, st, d, e, sr, r1, r2, p⟩
  cases r1 with
  | int i =>
    cases r2 with
    | int j => exact op_add pins s σ H _ _ v u Q I rx ry ⟨i, j, rfl, rfl, p.ret sr _ (.int _)⟩
    | _ => exact p.elim
  | str i =>
    cases r2 with
    | str j => exact op_add_str pins s σ H _ _ v u Q I rx ry ⟨i, j, rfl, rfl, (Post.chk p).1, (Post.chk p).2.ret sr _ (.str _)⟩
    | _ => exact p.elim
  | ref h =>
    cases r2 with
    | ref h' =>
      obtain ⟨xs, e2, p1⟩ := Post.getL (Post.bnd p) sr
      obtain ⟨ys, e3, p2⟩ := Post.getL (Post.bnd p1) sr
      obtain ⟨a', vs, ha, hv, q1⟩ := sr.seq e2
      obtain ⟨b', ws, hb, hw, q2⟩ := sr.seq e3
      rw [h] at ha; cases ha
      rw [h'] at hb; cases hb
      obtain ⟨hz, p3⟩ := Post.chk p2
      refine op_cat pins s σ H _ _ v u Q I rx ry ⟨_, _, vs, ws, rfl, rfl, hv, hw, by rw [q1.length, q2.length]; exact hz, fun q hq => ?_⟩
      have nq := sr.fresh hq
      have x1 : Ex ρ H (ρ ++ [q]) (upd H q (.lst (vs ++ ws))) := Ex.newL hq
      refine p3 _ _ x1 ((sr.new hq).keep upd_same nq ((Reps.app q1 q2).mono (Ex.new hq))) _ (.ref ?_)
      rw [← sr.len]; simp
    | _ => exact p.elim
  | tup h1 q1 =>
    cases r2 with
    | tup h2 q2 =>
      obtain ⟨hz, p2⟩ := Post.chk p
      rename_i a1 vs xs b1 ws ys
      by_cases hx : vs = []
      · subst hx
        cases q1
        obtain ⟨its, v1, ht, _⟩ := I.tuple h1
        obtain ⟨its2, v2, hb, _⟩ := I.tuple h2
        cases v1
        have ev : v = Value.ref a1 := rx
        have eu : u = Value.ref b1 := ry
        subst ev eu
        obtain ⟨⟨cls, dd, data, sl⟩, ho, hc, n, hd⟩ := ht
        obtain ⟨⟨cls2, dd2, data2, sl2⟩, ho2, hc2, n2, hd2⟩ := hb
        simp only at hc hd hc2 hd2
        subst hc hd hc2 hd2
        refine concat_meets (E := X.xe) ⟨_, ho, rfl⟩ ⟨_, ho2, rfl⟩ noFill_tuple_add seq_tuple_add PySem.F.slot_tuple_add PySem.F.entry_tuple_add (PySem.F.args_tuple_add_2 _ _) (tuple_addW0 a1 b1 _ _ n n2 dd dd2 sl sl2 (by simp)) ⟨ho, ho2, ?_⟩
        exact ⟨.ref b1, H, I, rfl, p2.ret sr _ (.tup h2 q2)⟩
      · refine op_catT pins s σ H _ _ v u Q I rx ry ⟨_, _, vs, ws, rfl, rfl, h1, h2, hx, by rw [q1.length, q2.length]; exact hz, fun he => ?_, fun _ q hq => ?_⟩
        · subst he
          cases q2
          rw [List.append_nil] at p2
          exact p2.ret sr _ (.tup h1 q1)
        · exact p2 _ _ (Ex.new hq) (sr.new hq) _ (.tup (SqT.of upd_same) ((Reps.app q1 q2).mono (Ex.new hq)))
    | _ => exact p.elim
  | _ => cases r2 <;> exact p.elim

/-! ### slices -/
theorem _root_.L2.SlR.of {r r' : V → Option Int → Option Int → Hp → VK → Prop} (h : SlR X r) (g : ∀ x lo hi H Q, r' x lo hi H Q → r x lo hi H Q) : SlR X r' := fun pins s σ H x v vl vu lo hi sl Q I rx hs pl pu q => h pins s σ H x v vl vu lo hi sl Q I rx hs pl pu (g x lo hi H Q q)
def toOf (K : PySem.W.Frag) (f : CO) : TO := fun σ H Q => ∃ ρ l st, LR K ρ H σ l ∧ SR K ρ H st ∧ Post K ρ H (f l st) fun o _ _ H' => Q o H'
abbrev SO (X : Cx) (e : Option Expr) (f : CO) : Prop := PO X e (toOf X.K f)
theorem so_none : SO X none oNone := fun pins s σ H Q I ⟨ρ, l, st, lr, sr, p⟩ => po_none pins s σ H Q I (p.ret sr)
theorem so_some (h : SE X e fa) : SO X (some e) (oSome fa) := fun pins s σ H Q I ⟨ρ, l, st, lr, sr, p⟩ => po_some h pins s σ H Q I ⟨ρ, l, st, lr, sr, p.bnd.imp fun d st1 ρ1 H1 x1 s1 p1 v rv => by
  cases rv with
  | int i => exact ⟨i, rfl, p1.ret s1⟩
  | _ => exact p1.elim⟩
theorem Reps.cut {vs : List V} {ds : List D} (r : Reps K ρ H vs ds) (lo hi : Option Int) : Reps K ρ H (cutV vs lo hi) (cutD ds lo hi) := by
  unfold cutV cutD
  have e : ∀ n d o, HT.sIx n d o = MM.sIx n d o := fun n d o => by cases o <;> rfl
  rw [e, e, r.length]
  exact (r.drop _).take _
theorem sl_slice {lo hi : Option Expr} {fl fh : CO} {p2 : Pos} (h : SE X e fa) (hl : SO X lo fl) (hh : SO X hi fh) : SL X (.Subscript e (.Slice lo hi none p2) pos) (aSlice fa fl fh) :=
  (pe_slice sl_list h hl hh).of fun σ H Q ⟨ρ, l, st, lr, sr, p⟩ => ⟨ρ, l, st, lr, sr, p.bnd0.imp fun d st1 ρ1 H1 x1 s1 p1 v rv => ⟨ρ1, l, st1, lr.mono x1, s1, (p1.bnd0.left x1).imp fun i st2 ρ2 H2 x2 s2 p2 => ⟨ρ2, l, st2, (lr.mono x1).mono x2, s2, (p2.bnd0.left (x1.trans x2)).imp fun j st3 ρ3 H3 x3 s3 p3 => by
    have rv3 := (rv.mono x2).mono x3
    have x03 := x1.trans (x2.trans x3)
    have fin : ∀ {a : Addr} {vs : List V} {ds : List D}, SqL X.K H3 a vs → Reps X.K ρ3 H3 vs ds → Post X.K ρ H (ret (cutD ds i j) st3) (fun ds _ ρ' H' => ∀ a vs, H a = none → a ∉ ρ' → H' a = some (.lst vs) → Reps X.K ρ' H' vs ds → Q (.ref a) H') → rSlL X.K (.ref a) i j H3 Q := fun {a vs ds} hs r q =>
      ⟨a, vs, rfl, hs, fun q1 hq1 => by
        have hn : H q1 = none := by
          cases z : H q1 with
          | none => rfl
          | some o => exact absurd hq1 (x03.trk q1 o z)
        exact q ρ3 _ (x03.trans (Ex.new hq1)) (s3.new hq1) q1 _ hn (s3.fresh hq1) upd_same ((Reps.cut r i j).mono (Ex.new hq1))⟩
    cases rv3 with
    | lit h r => exact fin h.seq r p3
    | ref h =>
      obtain ⟨ds, e2, p4⟩ := Post.getL (p3.bnd0.left x03) s3
      obtain ⟨a', vs, ha, hv, r⟩ := s3.seq e2
      rw [h] at ha; cases ha
      exact fin (SqL.of hv) r p4
    | _ => exact p3.elim⟩⟩⟩
end
end MM
namespace MM
open PySem PySem.Spec PyProof.Rows L2
open PySem.AutoSeq1 (wpAny_loadPart')

/-! ### enumerate(t), t a tuple -/
theorem enumT_new (l : Addr) (items : Array Value) (n : Nat) (dct : Option Addr) (sl : Array (Option Value)) :
    Meets (Builtin.«enumerate.__new__» ⟨[.type "enumerate", .ref l], []⟩) (fun _ R s => s.heap.get? l = some { cls := .type "tuple", dict := dct, data := .seq items n, slots := sl } ∧
      R (.ok (.ret (.ref (s.heap.push { cls := .type "tuple_iterator", data := .fields #[.ref l, .int 0 0] }).objs.size)))
        { s with heap := (s.heap.push { cls := .type "tuple_iterator", data := .fields #[.ref l, .int 0 0] }).push { cls := .type "enumerate", data := .fields #[.none, .bool false, .ref s.heap.objs.size, rawInt 0, .none, .none] } }) :=
  .of_wp fun prog w A R s h => by
    obtain ⟨hp, g, d, tk, os⟩ := s; obtain ⟨hl, h⟩ := h; have hsub := sub_enumerate
    have hT : Heap.IsTuple (Shared.heap ⟨hp, g, d, tk, os⟩) l items := ⟨_, hl, rfl, n, rfl⟩
    wp_walk using wpAny_loadPart' hl; refine wpAny_stack_any fun st => wpAny_pure ?_; split
    · rename_i c _ _ _ _ _; cases (c == Value.type "enumerate") <;> (wp_walk using wpAny_loadPart' hl, wpAny_pyIter_tuple hT; exact ⟨_, rfl, h⟩)
    · wp_walk using wpAny_loadPart' hl, wpAny_pyIter_tuple hT; exact ⟨_, rfl, h⟩
section
variable {prog : Program} {w : World} {A : Around} {E : Value → Shared → Prop} {s : Shared}
theorem enumT_call {l : Addr} {items : Array Value} {Q : Value → Shared → Prop} (hL : s.heap.IsTuple l items)
    (h : ∀ h', IsEnum h' (s.heap.objs.size + 1) s.heap.objs.size 0 .none → h'.IsTupleIter s.heap.objs.size l 0 → h'.objs.size = s.heap.objs.size + 2 → (∀ b o, s.heap.get? b = some o → h'.get? b = some o) → Q (.ref (s.heap.objs.size + 1)) { s with heap := h' }) :
    wpAny (model prog w) A (call (.type "enumerate") [.ref l]) Q E s := by
  obtain ⟨⟨c, dct, dt, sl⟩, hl, hc, n, hd⟩ := hL
  replace hc : c = .type "tuple" := hc
  replace hd : dt = .seq items n := hd
  subst hc hd
  refine callType_new F.called_enumerate (by decide) (F.typeCall_enumerate_1 _) (F.newCall_enumerate_1 _) (fun obj => F.args_object_init_2 obj _) F.entry_enumerate_new (enumT_new l items n dct sl) ⟨hl, ?_⟩
  have hz : (s.heap.push { cls := .type "tuple_iterator", data := .fields #[.ref l, .int 0 0] }).objs.size = s.heap.objs.size + 1 := Heap.size_push ..
  show _ ∧ _; rw [hz]
  have he : IsEnum ((s.heap.push { cls := .type "tuple_iterator", data := .fields #[.ref l, .int 0 0] }).push { cls := .type "enumerate", data := .fields #[.none, .bool false, .ref s.heap.objs.size, rawInt 0, .none, .none] }) (s.heap.objs.size + 1) s.heap.objs.size 0 .none := by
    have q := Heap.get?_push_size (s.heap.push { cls := .type "tuple_iterator", data := .fields #[.ref l, .int 0 0] }) (o := { cls := .type "enumerate", data := .fields #[.none, .bool false, .ref s.heap.objs.size, rawInt 0, .none, .none] }) rfl
    rw [hz] at q; exact q
  exact ⟨⟨_, he, rfl⟩, h _ he ⟨_, Heap.get?_push_of_some _ (Heap.get?_push_size _ rfl), rfl, rfl⟩ (by rw [Heap.size_push, hz]) fun b o x => Heap.get?_push_of_some _ (Heap.get?_push_of_some _ x)⟩
theorem nextT_item {it l : Addr} {i : Nat} {items} {x : Value} {Q : Value → Shared → Prop} (hit : s.heap.IsTupleIter it l i) (hl : s.heap.IsTuple l items) (hx : items[i]? = some x)
    (hQ : ∀ h', h'.IsTupleIter it l (i + 1) → Heap.SameBut it s.heap h' → Q x { s with heap := h' }) : wpAny (model prog w) A (Builtin.SmallTypes.nextOf (.ref it)) Q E s := by
  obtain ⟨o, ho, hc, hd⟩ := id hit; obtain ⟨ol, hol, _, nl, hdl⟩ := hl
  unfold Builtin.SmallTypes.nextOf
  refine wpAny_bind (wpAny_callSpecial?_slot (name := Str.ofString "__next__") hit.typeIs F.slot_tuple_iterator_next (wpAny_call_entry F.slot_tuple_iterator_next hit.typeIs F.entry_tuple_iterator_next ?_ (F.args_tuple_iterator_next_1 _)))
  show wpAny _ _ (field (.ref it) 0 >>= _) _ _ s; refine wpAny_bind (wpAny_field ho hd (x := .ref l) rfl ?_)
  show wpAny _ _ (if (Value.ref l == Value.none) = true then _ else _) _ _ s; rw [if_neg (show ¬ ((Value.ref l == Value.none) = true) from Bool.false_ne_true)]
  show wpAny _ _ (field (.ref it) 1 >>= _) _ _ s; refine wpAny_bind (wpAny_field ho hd (x := .int i 0) rfl ?_)
  show wpAny _ _ (seqItems? (.ref l) >>= _) _ _ s; refine wpAny_bind (wpAny_seqItems hol hdl ?_); simp only [Int.toNat_natCast, hx]
  refine wpAny_bind (wpAny_setField ho hd (by simp) (wpAny_pure ⟨x, rfl, wpAny_pure (hQ _ ⟨_, Heap.get?_update_self _ ho (Obj.isFreed_of_fields (Obj.data_mapFields hd _)), (Obj.cls_mapFields ..).trans hc, ?_⟩ (Heap.SameBut.update ..))⟩))
  rw [Obj.data_mapFields hd]; simp [rawInt]
theorem nextT_end {it l : Addr} {i : Nat} {items} {Q : Value → Shared → Prop} (hh : A.handled = none) (hit : s.heap.IsTupleIter it l i) (hl : s.heap.IsTuple l items) (hx : items[i]? = none)
    (hE : ∀ h' e, Heap.ExtBut it s.heap h' → (∃ o, h'.get? e = some o ∧ o.cls = .type "StopIteration") → E (.ref e) { s with heap := h' }) : wpAny (model prog w) A (Builtin.SmallTypes.nextOf (.ref it)) Q E s := by
  obtain ⟨o, ho, hc, hd⟩ := id hit; obtain ⟨ol, hol, _, nl, hdl⟩ := hl
  unfold Builtin.SmallTypes.nextOf
  refine wpAny_bind (wpAny_callSpecial?_slot (name := Str.ofString "__next__") hit.typeIs F.slot_tuple_iterator_next (wpAny_call_entry F.slot_tuple_iterator_next hit.typeIs F.entry_tuple_iterator_next ?_ (F.args_tuple_iterator_next_1 _)))
  show wpAny _ _ (field (.ref it) 0 >>= _) _ _ s; refine wpAny_bind (wpAny_field ho hd (x := .ref l) rfl ?_)
  show wpAny _ _ (if (Value.ref l == Value.none) = true then _ else _) _ _ s; rw [if_neg (show ¬ ((Value.ref l == Value.none) = true) from Bool.false_ne_true)]
  show wpAny _ _ (field (.ref it) 1 >>= _) _ _ s; refine wpAny_bind (wpAny_field ho hd (x := .int i 0) rfl ?_)
  show wpAny _ _ (seqItems? (.ref l) >>= _) _ _ s; refine wpAny_bind (wpAny_seqItems hol hdl ?_); simp only [Int.toNat_natCast, hx]
  refine wpAny_bind (wpAny_rule (wpAny_bind (wpAny_setField ho hd (by simp) ?_))); show wpAny _ _ (newExc (.type "StopIteration") [] >>= _) _ _ _
  refine wpAny_bind ?_; simp only [newExc, newTuple]; refine wpAny_bind (wpAny_newObj_type ?_ (by size_fits))
  refine wpAny_bind (m := firstArgMember _ _) (wpAny_of_eq (a := Value.none) (by first | rfl | (simp only [firstArgMember]; rfl)) (wpAny_newObj_type ?_ (by size_fits)))
  simp only [raiseNew]; refine wpAny_bind (wpAny_handled ?_); first | rw [show A.in1.handled = none from hh] | rw [hh]
  exact wpAny_bind (wpAny_pure (wpAny_throw (hE _ _ (((Heap.SameBut.update ..).extBut.push _).push _) ⟨_, Heap.get?_push_size _ rfl, rfl⟩)))
end
theorem draws_tuple {prog : Program} {w : World} {A : Around} (hh : A.handled = none) (it l : Addr) (hne : l ≠ it) (items : Array Value) :
    Draws prog w A it [it, l] items.size (fun i v => items[i]? = some v) (fun i h => h.IsTupleIter it l i ∧ h.IsTuple l items) where
  live := fun _ _ st => let ⟨o, ho, _⟩ := st.1; ⟨o, ho⟩
  frame := fun _ _ _ st hk => ⟨let ⟨o, e, r⟩ := st.1; ⟨o, hk it (by simp) o e, r⟩, let ⟨o, e, r⟩ := st.2; ⟨o, hk l (by simp) o e, r⟩⟩
  item := fun i s Q E hi st hQ => nextT_item st.1 st.2 (x := items[i]) (by simp [hi]) fun h' hit' hs' => hQ _ h' s.toks (by simp [hi]) ⟨hit', st.2.extBut hs'.extBut hne⟩ hs'
  done := fun s Q E st hE => nextT_end hh st.1 st.2 (by simp) hE
/-- (0, the first), (1, the second), .. -/
def Ite (K : PySem.W.Frag) (a : Addr) : It :=
  ⟨fun i H => ∃ xs x, SqT K H a xs ∧ xs[i]? = some x, fun i H x H' => ∃ T v, x = .ref T ∧ H T = none ∧ (∀ xs, SqT K H a xs → xs[i]? = some v) ∧ H' = upd H T (.tup [.int i, v]), fun i H => ∃ xs, SqT K H a xs ∧ xs.length ≤ i⟩
section
variable {X : Cx} {tg : Expr} {es : List Expr} {pos : Pos} {fa : CE} {K : PySem.W.Frag} {ρ : List Addr} {H : Hp} {st : Sto}
theorem turn_enumT {P : Program} {w : World} {k : Nat} (a e it : Addr) (hei : e ≠ it) : Turn P w K (.Tuple es k pos) (Ite K a) [e, it] e (fun i h => (∃ old, IsEnum h e it i old) ∧ h.IsTupleIter it a i) where
  mem := by simp
  obj := fun i h ⟨⟨old, he⟩, hit⟩ b hb => by
    rcases List.mem_cons.mp hb with z | z
    · subst z; exact ⟨_, he, fun v q => by cases q⟩
    · have z' : b = it := by simpa using z
      subst z'
      obtain ⟨o, e, c, d⟩ := hit
      exact ⟨o, e, fun v q => by rw [d] at q; cases q⟩
  keep := fun i h h' ⟨⟨old, he⟩, hit⟩ kp => ⟨⟨old, kp e (by simp) _ he⟩, let ⟨o, x, r⟩ := hit; ⟨o, kp it (by simp) o x, r⟩⟩
  item := by
    intro X hP hw hK hc i pins s σ H E I hf ⟨⟨old, he⟩, hit⟩ hg
    subst hP hw hK
    obtain ⟨xs, x, hq, hx⟩ := hg
    obtain ⟨its, rv, p, hz⟩ := I.tuple hq
    obtain ⟨u, hu, ru⟩ := rv.get hx
    have hlt : i < its.toArray.size := by rw [List.size_toArray]; exact (List.getElem?_eq_some_iff.mp hu).1
    obtain ⟨f0, f1, f2, f3, f4, f5⟩ := hf e (by simp)
    obtain ⟨g0, g1, g2, g3, g4, g5⟩ := hf it (by simp)
    have hai : a ≠ it := fun z => by
      obtain ⟨o, e1, c, _⟩ := hit
      obtain ⟨o', e2, c', _⟩ := p
      rw [z, e1] at e2; cases e2; rw [c] at c'; exact absurd (Value.type.inj c') (by decide)
    have hae : a ≠ e := fun z => by
      obtain ⟨o', e2, c', _⟩ := p
      rw [z, he] at e2; cases e2; exact absurd (Value.type.inj c') (by decide)
    have D := draws_tuple (prog := X.prog) (w := X.w) (A := X.A.in1) (I.ok.hd hc) it a hai its.toArray
    refine wpAny_pyNext_enum_itemD D he ⟨hit, p⟩ hlt hei (by simp; exact ⟨hei, hae.symm⟩) fun y h' tk hP ho hst hT hsz hk => ?_
    have ey : y = u := by
      have : its.toArray[i]? = some u := by simpa using hu
      rw [this] at hP; cases hP; rfl
    subst ey
    refine ⟨_, rfl, wpAny_letOwnedTupleGo_enum ho fun h2 he2 hs2 => ?_⟩
    have helt : e < s.heap.objs.size := Heap.lt_size he
    have hTn : H s.heap.objs.size = none := I.hok.fresh (Nat.le_refl _)
    have keep : ∀ b o, b ≠ e → b ≠ it → s.heap.get? b = some o → h2.get? b = some o := fun b o hb1 hb2 e1 => (hs2.2 b hb1).trans (hk b o hb1 hb2 e1)
    have hT2 : h2.get? s.heap.objs.size = some { cls := .type "tuple", data := .seq #[.int i tk, y] } := (hs2.2 _ (Nat.ne_of_gt helt)).trans hT
    have I2 : Inv X pins σ (upd H s.heap.objs.size (.tup [.int i, x])) { s with heap := h2, toks := tk + 1 } := by
      have ne : ∀ b o, H b = some o → b ≠ e ∧ b ≠ it := fun b o q => ⟨fun z => (by rw [z, f0] at q; cases q), fun z => (by rw [z, g0] at q; cases q)⟩
      refine I.step (g' := s.gens) (d' := s.drawn) (ch := [e, it]) (fun b hb => ?_) (fun b o _ _ hc' e1 _ => keep b o (fun z => hc' (by simp [z])) (fun z => hc' (by simp [z])) e1)
        (fun b o _ _ hc' e1 _ => ⟨o.slots, keep b o (fun z => hc' (by simp [z])) (fun z => hc' (by simp [z])) e1⟩) (fun b o hc' e1 n1 => by rw [upd_ne (Nat.ne_of_lt (Heap.lt_size e1))]; exact n1) (fun b o hc' e1 => ⟨o, keep b o (fun z => hc' (by simp [z])) (fun z => hc' (by simp [z])) e1⟩)
        (fun b ys q => by rw [upd_ne (ne_of_none q hTn)]; exact q) (fun b o ys q => by rw [upd_ne (ne_of_none q hTn)]; exact q) (fun b ps q => ⟨#[], by rw [upd_ne (ne_of_none q hTn), q]; simp⟩) (fun m hm => ?_) ?_ I.bare
      · rcases List.mem_cons.mp hb with z | z
        · subst z; exact ⟨f3, f1, f4, f5⟩
        · have z' : b = it := by simpa using z
          subst z'; exact ⟨g3, g1, g4, g5⟩
      · obtain ⟨o, es', ep, e1, r⟩ := hm
        exact ⟨o, es', ep, keep _ o f1.symm g1.symm e1, r⟩
      · intro b o q
        by_cases hb : b = s.heap.objs.size
        · subst hb
          rw [upd_same] at q; cases q
          exact ⟨by show 2 ≤ sizeLine; decide, [.int i tk, y], .cons ⟨tk, rfl⟩ (.cons ru .nil), ⟨_, hT2, rfl, _, rfl⟩⟩
        · rw [upd_ne hb] at q
          have := ne b o q
          refine (I.hok b o q).stay (fun c v hc' r => keep c v ?_ ?_ r) (fun c q' => by rw [upd_ne (ne_of_none q' hTn)]; exact q') fun c ys q' => by rw [upd_ne (ne_of_none q' hTn)]; exact q'
          · rcases hc' with z | z
            · rw [z]; exact this.1
            · exact (ne c _ z).1
          · rcases hc' with z | z
            · rw [z]; exact this.2
            · exact (ne c _ z).2
    refine ⟨.ref s.heap.objs.size, _, I2, rfl, ⟨_, x, rfl, hTn, fun ys hy => by rw [I.tuple_inj hy hq]; exact hx, rfl⟩, ⟨⟨y, by simpa using he2⟩, let ⟨o, x1, r⟩ := hst.1; ⟨o, (hs2.2 it hei.symm).trans x1, r⟩⟩, fun b hb => ?_⟩
    rw [upd_ne]
    · exact (hf b hb).1
    · intro z
      have : b < s.heap.objs.size := by
        rcases List.mem_cons.mp hb with q | q
        · rw [q]; exact helt
        · have q' : b = it := by simpa using q
          rw [q']; obtain ⟨o, x1, _⟩ := hit; exact Heap.lt_size x1
      exact absurd this (by rw [z]; exact Nat.lt_irrefl _)
  done := by
    intro X hP hw hK hc i pins s σ H E I hf ⟨⟨old, he⟩, hit⟩ hg
    subst hP hw hK
    obtain ⟨xs, hq, hx⟩ := hg
    obtain ⟨its, rv, p, hz⟩ := I.tuple hq
    obtain ⟨g0, g1, g2, g3, g4, g5⟩ := hf it (by simp)
    have hl := rv.length
    have hT : s.TypeIs (.ref e) "enumerate" := ⟨_, he, rfl⟩
    unfold pyNext
    refine wpAny_bind (wpAny_attempt (wpAny_callSpecial?_slot (name := Str.ofString "__next__") hT F.slot_enumerate_next (wpAny_call_entry F.slot_enumerate_next hT F.entry_enumerate_next ?_ (F.args_enumerate_next_1 _))))
    show wpAny _ _ (field (.ref e) 2 >>= _) _ _ _; refine wpAny_bind (wpAny_field he rfl (x := .ref it) rfl ?_)
    refine wpAny_bind (nextT_end (A := X.A.in1) (I.ok.hd hc) hit p (by simp; omega) fun h' x he' ⟨o, ho, hc'⟩ => ?_)
    exact wpAny_bind (wpAny_isInstance (T := "StopIteration") (b := true) ⟨o, ho, hc'⟩ isSubtype_stop (wpAny_pure ⟨rfl, I.turned (t' := s.toks) (fun b o hb e => he' b o hb e) g0 g1 g3 g4 g5⟩))
  self := fun _ _ _ _ _ ⟨⟨old, he⟩, _⟩ h => wpAny_pyIter_enum he h
theorem si_enum {b : Expr} {p tpos : Pos} {k : Nat} (hg : Gl X "enumerate") (hm : X.mg "enumerate" = none) (h : SE X b fa) (hs : starEach [b] X.env = [(false, eval b X.env)] := by rfl) :
    SI X (.Tuple es k tpos) (.Call (.Name "enumerate" p) [b] [] pos) (iEnum fa) := by
  intro pins s σ H R I ⟨ρ, l, st, lr, sr, q⟩
  refine Call_ (ld_blt I hg hm boot_enumerate (PyProof.Rows.callWith_type1 (thn (sa_cons h sa_nil hs pos pins s σ H (fun vs H1 => ∃ a xs, vs = [.ref a] ∧ SqT X.K H1 a xs ∧ R (Ite X.K a) H1) I ⟨ρ, l, st, lr, sr, ?_⟩) fun us s1 ⟨vs, H1, I1, r1, q1⟩ => ?_) hs rfl))
  · have q' := Post.bnd q
    show Post X.K ρ H (MM.bnd (fa l) _ st) _
    unfold MM.bnd
    cases e : fa l st with
    | bad => rw [e] at q'; exact q'
    | exc _ _ => rw [e] at q'; exact q'
    | ok d st1 =>
      rw [e] at q'
      show ∀ ρ' H', Ex ρ H ρ' H' → SR X.K ρ' H' st1 → _
      intro ρ1 H1 x1 s1 vs rvs
      have p1 := q' ρ1 H1 x1 s1
      cases rvs with
      | cons rv rt =>
        cases rt
        cases rv with
        | @tup a ws ds ht r =>
          refine ⟨a, ws, rfl, ht, p1.ret s1 _ ?_⟩
          intro ρ2 H2 st2 x2 s2 _
          have hl := r.length
          have ht2 : SqT X.K H2 a ws := SqT.mono x2.up ht
          have len : ((rngD 0 ds.length).zipWith (fun i d => D.tup [i, d]) ds).length = ds.length := by simp [rngD]
          refine ⟨⟨ws, ht2, by rw [len, hl]; exact Nat.le_refl _⟩, fun i d e1 => ?_⟩
          have hi : i < ds.length := by rw [← len]; exact (List.getElem?_eq_some_iff.mp e1).1
          have ed : d = .tup [.int i, ds[i]] := by
            rw [List.getElem?_zipWith, rngD, List.getElem?_map, List.getElem?_range hi, List.getElem?_eq_getElem hi] at e1
            have := Option.some.inj e1
            rw [← this]; simp
          subst ed
          obtain ⟨v, hv, rv⟩ := (r.mono x2).get (List.getElem?_eq_getElem hi)
          refine ⟨⟨ws, v, ht2, hv⟩, fun y H3 ⟨T, w, ey, hn, hw, eH⟩ => ?_⟩
          subst ey eH
          have ew := hw ws ht2
          rw [hv] at ew; cases ew
          have x3 : Ex ρ2 H2 ρ2 (upd H2 T (.tup [.int i, v])) := Ex.new hn
          exact ⟨x3, s2.new hn, .tup (SqT.of upd_same) (.cons (.int _) (.cons (rv.mono x3) .nil))⟩
        | _ => exact p1.elim
  · obtain ⟨a, xs, e, hq, hR⟩ := q1
    subst e
    obtain ⟨u, rfl, ru⟩ := vals1 r1
    cases ru
    obtain ⟨its, rv, p1, hz⟩ := I1.tuple hq
    refine enumT_call p1 fun h' he hit hsz kp => wpAny_pyIter_enum he ?_
    have I2 : Inv X pins σ H1 { s1 with heap := h' } := I1.kept (t' := s1.toks) kp
    refine ⟨s1.heap.objs.size + 1, [s1.heap.objs.size + 1, s1.heap.objs.size], _, Ite X.K a, H1, rfl, I2, turn_enumT a (s1.heap.objs.size + 1) s1.heap.objs.size (Nat.succ_ne_self _), ⟨⟨_, he⟩, hit⟩, fun b hb => ?_, hR⟩
    have hle : s1.heap.objs.size ≤ b := by
      rcases List.mem_cons.mp hb with z | z
      · rw [z]; exact Nat.le_succ _
      · have z' : b = s1.heap.objs.size := by simpa using z
        rw [z']; exact Nat.le_refl _
    exact I1.fpOk hle (I1.hok.fresh hle)
end
end MM
namespace MM
open PySem PySem.Spec PyProof.Rows L2

section
variable {X : Cx} {K : PySem.W.Frag} {ρ : List Addr} {H : Hp} {st : Sto}
/-! ### is, is not: truths and None -/
theorem od_isnt : OpR X (compareOp .IsNot) (rOf X.K isntD) := by
  intro pins s σ H x y v u Q I rx ry ⟨ρ, st, d, e, sr, r1, r2, p⟩
  cases r2 with
  | non =>
    refine op_notN pins s σ H x .non v u Q I rx ry ⟨rfl, ?_⟩
    cases r1 with
    | non => exact p.ret sr _ (.bl false)
    | bl b => exact p.ret sr _ (.bl true)
    | int b => exact p.ret sr _ (.bl true)
    | str b => exact p.ret sr _ (.bl true)
    | tup h r => exact p.ret sr _ (.bl true)
    | lit h r => exact p.ret sr _ (.bl true)
    | ref h => exact p.ret sr _ (.bl true)
  | bl b =>
    cases r1 with
    | bl a =>
      cases (show v = Value.bool a from rx)
      cases (show u = Value.bool b from ry)
      refine wpAny_isNot_plain rfl ⟨.bl (!(a == b)), H, I, ?_, p.ret sr _ (.bl _)⟩
      cases a <;> cases b <;> rfl
    | _ => exact p.elim
  | _ => cases r1 <;> exact p.elim
/-! ### in: flat items -/
theorem flat_of {v : V} {d : D} (r : Rep K ρ H v d) (h : flatD d = true) : flatV v = true := by
  cases r <;> first | rfl | cases h
theorem flats_of : ∀ {vs : List V} {ds : List D}, Reps K ρ H vs ds → ds.all flatD = true → vs.all flatV = true
  | _, _, .nil, _ => rfl
  | _, _, .cons r t, h => by
    rw [List.all_cons, Bool.and_eq_true] at h
    rw [List.all_cons, Bool.and_eq_true]
    exact ⟨flat_of r h.1, flats_of t h.2⟩
theorem eqv_of {v w : V} {d e : D} (r : Rep K ρ H v d) (q : Rep K ρ H w e) (h : flatD d = true) (h' : flatD e = true) : eqV v w = eqFl d e := by
  cases r <;> first | (cases q <;> first | rfl | cases h') | cases h
theorem anyv_of {w : V} {e : D} (q : Rep K ρ H w e) (h' : flatD e = true) : ∀ {vs : List V} {ds : List D}, Reps K ρ H vs ds → ds.all flatD = true → inV w vs = ds.any fun d => eqFl d e
  | _, _, .nil, _ => rfl
  | _, _, .cons r t, h => by
    rw [List.all_cons, Bool.and_eq_true] at h
    have := anyv_of q h' t h.2
    unfold inV at this ⊢
    rw [List.any_cons, List.any_cons, this, eqv_of r q h.1 h']
theorem od_in : OpR X (compareOp .In) (rOf X.K inD) := op_in_seq.of fun x y H Q ⟨ρ, st, d, e, sr, r1, r2, p⟩ => by
  have fin : ∀ {a : Addr} {vs : List V} {ds : List D} (hq : SqL X.K H a vs ∨ SqT X.K H a vs) (r : Reps X.K ρ H vs ds) (p1 : Post X.K ρ H (inL d ds st) fun r _ ρ' H' => ∀ v, Rep X.K ρ' H' v r → Q v H'), rIn X.K false x (.ref a) H Q := fun hq r p1 => by
    obtain ⟨⟨h1, h2⟩, p2⟩ := Post.chk p1
    refine ⟨_, _, rfl, hq, flat_of r1 h1, flats_of r h2, ?_⟩
    rw [if_neg (by simp), anyv_of r1 h1 r h2]
    exact p2.ret sr _ (.bl _)
  cases r2 with
  | tup h r => exact fin (.inr h) r ((Post.bnd p).ret sr)
  | lit h r => exact fin (.inl h.seq) r ((Post.bnd p).ret sr)
  | ref h =>
    obtain ⟨ds, e2, p1⟩ := Post.getL (Post.bnd p) sr
    obtain ⟨a', vs, ha, hv, r⟩ := sr.seq e2
    rw [h] at ha; cases ha
    exact fin (.inl (SqL.of hv)) r p1
  | _ => exact (Post.bnd p).elim
/-! ### -x -/
end

section
variable {X : Cx} {a b c e o tg : Expr} {es : List Expr} {pos apos cpos : Pos} {fa fb fc : CE} {ca cb : CA} {ta tb : CT} {K : PySem.W.Frag} {ρ : List Addr} {H : Hp} {st : Sto} {x : Str} {p : Pos} {T id : String} {body : List Stmt} {cs : CS}
/-! ### list(x), min(a, b), max(a, b) -/
/-! ### xs.pop(), xs.reverse() -/
/-! ### range(a, b) -/
/-! ### while -/
end
end MM
namespace MM
open PySem PySem.Spec PyProof.Rows L2

/-! ### names -/
structure NameOk (x : Str) : Prop where
  d : (x == ("__debug__" : Str)) = false
  c : (x == ("__classdict__" : Str)) = false
  n : x ≠ "__name__"
/-- the context's table of names, as it is written -/
structure Sc (X : Cx) (sc : Scope) : Prop where
  vis : ∀ x k, sc.names.lookup x = some k → (k = .local ∨ k = .cell ∨ k = .free) → Vis X.env.scope x
  cel : ∀ x, (sc.names.lookup x = some .cell ∨ sc.names.lookup x = some .free) → (X.env.kindOf x = some .cell ∨ X.env.kindOf x = some .free)
  glo : ∀ x, sc.names.lookup x = some .globalImplicit → Gl X x
  loc : ∀ x k, sc.names.lookup x = some k → (k = .local ∨ k = .cell) → L2.Loc X.env.scope x ∧ (X.fn x = true ∨ X.env.scope.names.lookup x = some .local)
  calm : X.calm = true
theorem sc_def {P : Program} {w : World} {K : PySem.W.Frag} {mg : Str → Option Value} {base : Heap} {N : List Str} {qual : Str} {sc : Scope} {f : Addr} {cdv : Value} {A : Around} {outer : List Env} {s : Shared} {H : Hp} {E : XK} :
    Sc (cxOf CX0 P w K mg base N qual sc f cdv A outer s H E).nox sc where
  vis := fun x k h hk => by
    rcases hk with z | z | z <;> subst z
    · exact .inl h
    · exact .inr (.inl h)
    · exact .inr (.inr h)
  cel := fun x h => h
  glo := fun x h => h
  loc := fun x k h hk => ⟨by rcases hk with z | z <;> subst z; exact .inl h; exact .inr h, .inl rfl⟩
  calm := rfl
theorem sc_comp {X : Cx} {N : List Str} {scope : Scope} {fp : List Addr} {s : Shared} {H : Hp} (hc : X.calm = true) : Sc (cxC X N scope fp s H) scope where
  vis := fun x k h hk => by
    show (relabel scope X.env).names.lookup x = _ ∨ (relabel scope X.env).names.lookup x = _ ∨ (relabel scope X.env).names.lookup x = _
    rw [relabel_lookup, h, Option.map_some]
    rcases hk with z | z | z <;> subst z
    · exact .inl rfl
    · exact .inr (.inl rfl)
    · by_cases hq : (NameKind.free == NameKind.free && X.env.scope.kind == .function && X.env.kindOf x == some .cell) = true
      · rw [if_pos hq]; exact .inr (.inl rfl)
      · rw [if_neg hq]; exact .inr (.inr rfl)
  cel := fun x h => by
    show (relabel scope X.env).names.lookup x = _ ∨ (relabel scope X.env).names.lookup x = _
    rcases h with h | h <;> rw [relabel_lookup, h, Option.map_some]
    · exact .inl rfl
    · by_cases hq : (NameKind.free == NameKind.free && X.env.scope.kind == .function && X.env.kindOf x == some .cell) = true
      · rw [if_pos hq]; exact .inl rfl
      · rw [if_neg hq]; exact .inr rfl
  glo := fun x h => by
    show (relabel scope X.env).names.lookup x = _
    rw [relabel_lookup, h, Option.map_some]; rfl
  loc := fun x k h hk => by
    refine ⟨?_, .inl ?_⟩
    · show (relabel scope X.env).names.lookup x = _ ∨ (relabel scope X.env).names.lookup x = _
      rw [relabel_lookup, h, Option.map_some]
      rcases hk with z | z <;> subst z
      · exact .inl rfl
      · exact .inr rfl
    · show decide (scope.names.lookup x = some .local ∨ scope.names.lookup x = some .cell) = true
      rw [h]
      rcases hk with z | z <;> subst z <;> decide
  calm := hc
/-- what a comprehension's table must be like, within one -/
def compChk (sc scope : Scope) : Bool :=
  (scope.kind == .function) && scope.names.all (fun p => p.2 != .local || scope.names.lookup p.1 == some .local) &&
  scope.names.all (fun p => p.2 != .free || ((sc.names.lookup p.1 == some .cell || sc.names.lookup p.1 == some .free) && !scope.names.contains (p.1, .cell) && scope.names.lookup p.1 != some .local))
theorem compScope_of {X : Cx} {sc scope : Scope} (S : Sc X sc) (h : compChk sc scope = true) : CompScope X scope := by
  unfold compChk at h
  rw [Bool.and_eq_true, Bool.and_eq_true] at h
  obtain ⟨⟨h1, h2⟩, h3⟩ := h
  rw [List.all_eq_true] at h2 h3
  have fr : ∀ x, (x, NameKind.free) ∈ scope.names → (sc.names.lookup x = some .cell ∨ sc.names.lookup x = some .free) ∧ (x, NameKind.cell) ∉ scope.names ∧ scope.names.lookup x ≠ some .local := fun x hx => by
    have q := h3 _ hx
    simp only [bne_self_eq_false, Bool.false_or, Bool.and_eq_true, Bool.or_eq_true, beq_iff_eq, Bool.not_eq_true', bne_iff_ne, ne_eq] at q
    obtain ⟨⟨q1, q2⟩, q3⟩ := q
    refine ⟨q1, fun z => ?_, q3⟩
    have : scope.names.contains (x, NameKind.cell) = true := List.contains_iff_mem.mpr z
    rw [this] at q2; cases q2
  refine ⟨by simpa using h1, fun p hp hl => ?_, fun x hx => S.cel x (fr x hx).1, fun x hx => (fr x hx).2.1, fun x hx => (fr x hx).2.2⟩
  have q := h2 p hp
  rw [hl] at q
  simpa using q
def namesChk (N0 : List Str) (scope : Scope) (N : List Str) (n : Nat) (ix : List Nat) : Bool :=
  N.length == n + ix.length && (List.range ix.length).all fun j => match ix[j]?, N[n + j]? with
    | some i, some x => N0[i]? == some x && scope.names.lookup x == some .free
    | _, _ => false
theorem compNames_of {X : Cx} {N0 : List Str} {scope : Scope} {N : List Str} {n : Nat} {ix : List Nat} (hX : X.N = N0) (h : namesChk N0 scope N n ix = true) : CompNames X scope N n ix := by
  unfold namesChk at h
  rw [Bool.and_eq_true, List.all_eq_true] at h
  refine ⟨by simpa using h.1, fun j i x hj hx => ?_⟩
  have q := h.2 j (List.mem_range.mpr (List.getElem?_eq_some_iff.mp hj).1)
  rw [hj, hx] at q
  simp only [Bool.and_eq_true, beq_iff_eq] at q
  rw [hX]
  exact q

section
variable {X : Cx} {sc : Scope} {a b c e o tg : Expr} {es : List Expr} {pos p : Pos} {fa fb fc : CE} {ca cb : CA} {x : Str} {T id : String}
theorem se_nm (S : Sc X sc) (i : Nat) (hN : X.N[i]? = some x) {k : NameKind} (h : sc.names.lookup x = some k) (n : NameOk x) (hk : k = .local ∨ k = .cell ∨ k = .free := by decide) : SE X (.Name x pos) (cVar i) := se_var i (pe_var hN (S.vis x k h hk) n.d n.c)
theorem sg_nm (S : Sc X sc) (i : Nat) (nd : X.N.Nodup) (hN : X.N[i]? = some x) {k : NameKind} (h : sc.names.lookup x = some k) (hk : k = .local ∨ k = .cell := by decide) : SG X (.Name x pos) (gVar i) :=
  sg_var (pg_name nd hN (S.loc x k h hk).1 (S.loc x k h hk).2)
theorem ss_nm (S : Sc X sc) (i : Nat) (nd : X.N.Nodup) (hN : X.N[i]? = some x) {k : NameKind} (h : sc.names.lookup x = some k) {pos' : Pos} (he : SE X e fa) (hk : k = .local ∨ k = .cell := by decide) (hs : swapsWith e (some (.Name x pos')) pos.line X.env = pure false := by rfl) :
    SS X (.Assign [.Name x pos'] e pos) (sAsg (gVar i) fa) := ss_set nd hN (S.loc x k h hk).1 he hs (S.loc x k h hk).2
theorem cons_len {n : Nat} (h : ∀ l st ds st', ca l st = .ok ds st' → ds.length = n) : ∀ l st ds st', cCons fa ca l st = .ok ds st' → ds.length = n + 1 := fun l st ds st' e => by
  unfold cCons bnd at e
  cases q : fa l st with
  | ok d s1 =>
    rw [q] at e
    dsimp only at e
    cases q2 : ca l s1 with
    | ok es s2 =>
      rw [q2] at e
      have := h l s1 es s2 q2
      cases e
      simp [this]
    | exc _ _ => rw [q2] at e; cases e
    | bad => rw [q2] at e; cases e
  | exc _ _ => rw [q] at e; cases e
  | bad => rw [q] at e; cases e
theorem nil_len : ∀ l st ds st', cNil l st = .ok ds st' → ds.length = 0 := fun l st ds st' e => by cases e; rfl
/-- f(e, ..) -/
theorem se_calls {k n : Nat} {f : Addr} {fd : FuncData} {ps : List Str} {g : List D → M D} (S : Sc X sc) (h : sc.names.lookup x = some .globalImplicit) (F : FnOk X.prog X.w X.K X.mg X.base CX0 k f fd ps (spOf X.K n g)) (hr : Room k X.A) (hm : X.mg x = some (.ref f))
    (hk : PySem.W.keepIn X.K (.ref f) = true) (hb : Binds X.K fd ps []) (nk : NameOk x) (ha : SA X (e :: es) ca) (hn : ∀ l st ds st', ca l st = .ok ds st' → ds.length = n)
    (he : starEach (e :: es) X.env = (false, eval e X.env) :: starEach es X.env := by rfl) (hpl : (backTo pos (starEach es X.env)).any (·.1) = false := by rfl) : SE X (.Call (.Name x p) (e :: es) [] pos) (cCall g ca) :=
  se_call F hr (S.glo x h) hm hk hb pass0 ha hn nk.d he hpl
end
theorem room_cx {k : Nat} {X : Cx} (h : Room k X.A) : X.A.units + 60 < cLine := by have := h.units; omega
end MM
namespace MM
open PySem PySem.Spec PyProof.Rows L2
theorem fn_ok' {P : Program} {w : World} {K : PySem.W.Frag} {mg : Str → Option Value} {base : Heap} {x qual : Str} {sd : Stmt} {f : Addr} {fd : FuncData} {N ps : List Str} {k n m : Nat} {body : CS} (F : Fun K x qual sd f fd) (S : FnScope N ps (defScope sd)) (hn : ps.length = n) (hm : N.length = m)
    (hbody : ∀ (cdv : Value) (A : Around) (outer : List Env) (s : Shared) (H : Hp) (E : XK), Room k (A.deeper (envOfC qual (defScope sd) s.heap.objs.size f cdv)) → SSs (cxOf CX0 P w K mg base N qual (defScope sd) f cdv A outer s H E).nox (defBody sd) body) :
    FnOk P w K mg base CX0 (k + 1) f fd ps (spOf K n (runDef m body)) := by
  subst hn hm
  exact fn_ok F S hbody
end MM
namespace MM
open PySem PySem.Spec PyProof.Rows L2
theorem reps_ints {K : PySem.W.Frag} {ρ : List Addr} {H : Hp} : ∀ (ns : List Int), Reps K ρ H (ns.map V.int) (ns.map D.int)
  | [] => .nil
  | n :: ns => .cons (.int n) (reps_ints ns)
/-- the law's promise, from its function -/
theorem law_sp {K : PySem.W.Frag} {H : Hp} {a : Addr} {ns : List Int} {g : List D → M D} (hO : Only H) (hS : SqL K H a (ns.map V.int)) (h : ∃ st', g [.lit (ns.map D.int)] [] = .ok (.bl true) st') :
    spOf K 1 g [.ref a] H (fun v _ => v = .bl true) fun _ _ _ => False := by
  obtain ⟨st', e⟩ := h
  have fz : FzL K H a (ns.map V.int) := by
    rcases hS with (h | ⟨o, h⟩) | h
    · rcases hO a with z | ⟨ob, xs, z⟩ <;> (rw [z] at h; cases h)
    · exact .inl ⟨o, h⟩
    · exact .inr h
  refine ⟨rfl, [], [], _, ⟨rfl, List.nodup_nil, fun n b o z => by cases z⟩, .cons (.lit fz (reps_ints ns)) .nil, ?_⟩
  rw [e]
  intro ρ' H' _ _ v rv
  cases rv
  rfl
end MM
namespace MM
open PySem
def wp {α : Type} (m : M α) (Q : α → Sto → Prop) (s : Sto) : Prop := match m s with
  | .ok a s' => Q a s'
  | _ => False
section
variable {α β : Type} {Q : α → Sto → Prop} {s : Sto}
theorem wp_ret {a : α} : wp (ret a) Q s = Q a s := rfl
theorem wp_bad : wp (bad : M α) Q s = False := rfl
theorem wp_bnd {m : M β} {f : β → M α} : wp (bnd m f) Q s = wp m (fun a s' => wp (f a) Q s') s := by
  unfold wp bnd
  cases m s <;> rfl
theorem wp_chk {c : Prop} [Decidable c] {m : M α} : wp (chk c m) Q s = (c ∧ wp m Q s) := by
  unfold chk
  by_cases h : c
  · simp [h]
  · simp [h, wp_bad]
theorem wp_alloc {o : MO} {Q : D → Sto → Prop} : wp (alloc o) Q s = Q (.ref s.length) (s ++ [o]) := rfl
theorem wp_getL {n : Nat} {ds : List D} {Q : List D → Sto → Prop} (h : s[n]? = some (.lst ds)) : wp (getL n) Q s = Q ds s := by
  unfold wp getL; rw [h]
theorem wp_putL {n : Nat} {ds es : List D} {Q : Unit → Sto → Prop} (h : s[n]? = some (.lst ds)) : wp (putL n es) Q s = Q () (s.set n (.lst es)) := by
  unfold wp putL; rw [h]
theorem wp_any {Q : Unit → Sto → Prop} : wp (chkS anySt) Q s = Q () s := by
  unfold wp chkS anySt; simp
theorem wp_mono {m : M α} {Q' : α → Sto → Prop} (h : wp m Q s) (f : ∀ a s', Q a s' → Q' a s') : wp m Q' s := by
  unfold wp at *
  cases e : m s with
  | ok a s' => rw [e] at h; exact f a s' h
  | exc _ _ => rw [e] at h; exact h
  | bad => rw [e] at h; exact h
theorem wp_ite {c : Prop} [Decidable c] {m n : M α} : wp (if c then m else n) Q s = if c then wp m Q s else wp n Q s := by split <;> rfl
end
theorem ix20 : MM.ixN 2 0 = some 0 := rfl
theorem ix21 : MM.ixN 2 1 = some 1 := rfl
theorem item_nat {ds : List D} {i : Int} {d : D} (h0 : 0 ≤ i) (h : ds[i.toNat]? = some d) : itemD ds i = ret d := by
  have hl : i.toNat < ds.length := (List.getElem?_eq_some_iff.mp h).1
  unfold itemD MM.ixN
  rw [if_pos h0, if_pos (by omega)]
  dsimp only
  rw [h]
/-- a def's body -/
theorem wp_run {n : Nat} {b : CS} {ds : List D} {Q : D → Sto → Prop} {s : Sto} : wp (runDef n b ds) Q s = wp (b (ds.map some ++ List.replicate (n - ds.length) none)) (fun f s' => wp (flwD f) Q s') s := by
  unfold runDef; rw [wp_bnd]
/-- a loop that is walked item by item, by a word -/
theorem wp_for {g : CG} {b : CS} {same : Sto → Prop} {Q : Flw → Sto → Prop} (W : List D → Loc → Sto → Prop)
    (hend : ∀ l s, W [] l s → wp (chkS same) (fun _ s' => Q (.next l) s') s)
    (hstep : ∀ d ds l s, W (d :: ds) l s → wp (chkS same) (fun _ s1 => wp (g d l) (fun l1 s2 => wp (b l1) (fun f s3 => match f with
      | .next l2 => W ds l2 s3
      | .cnt l2 => W ds l2 s3
      | .brk l2 => Q (.next l2) s3
      | .ret d => Q (.ret d) s3) s2) s1) s) : ∀ ds l s, W ds l s → wp (forD g b same ds l) Q s := by
  intro ds
  induction ds with
  | nil =>
    intro l s h
    unfold forD
    rw [wp_bnd]
    exact wp_mono (hend l s h) fun _ s' q => by rw [wp_ret]; exact q
  | cons d ds ih =>
    intro l s h
    unfold forD
    rw [wp_bnd]
    refine wp_mono (hstep d ds l s h) fun _ s1 q => ?_
    rw [wp_bnd]
    refine wp_mono q fun l1 s2 q => ?_
    rw [wp_bnd]
    refine wp_mono q fun f s3 q => ?_
    cases f with
    | next l2 => exact ih l2 s3 q
    | cnt l2 => exact ih l2 s3 q
    | brk l2 => exact q
    | ret d => exact q
/-- a comprehension, item by item: done, what is left -/
theorem wp_collect {g : CG} {t : CT} {e : CE} {same : Sto → Prop} {Q : List D → Sto → Prop} (W : List D → List D → Loc → Sto → Prop)
    (hend : ∀ out l s, W out [] l s → wp (chkS same) (fun _ s' => Q out s') s)
    (hstep : ∀ out d ds l s, W out (d :: ds) l s → wp (chkS same) (fun _ s1 => wp (g d l) (fun l1 s2 => wp (t l1) (fun b s3 => if b = true then wp (e l1) (fun x s4 => W (out ++ [x]) ds l1 s4) s3 else W out ds l1 s3) s2) s1) s) :
    ∀ ds out l s, W out ds l s → wp (collect g t e same ds l) (fun xs s' => Q (out ++ xs) s') s := by
  intro ds
  induction ds with
  | nil =>
    intro out l s h
    unfold collect
    rw [wp_bnd]
    exact wp_mono (hend out l s h) fun _ s' q => by rw [wp_ret, List.append_nil]; exact q
  | cons d ds ih =>
    intro out l s h
    unfold collect
    rw [wp_bnd]
    refine wp_mono (hstep out d ds l s h) fun _ s1 q => ?_
    rw [wp_bnd]
    refine wp_mono q fun l1 s2 q => ?_
    rw [wp_bnd]
    refine wp_mono q fun b s3 q => ?_
    cases b with
    | false => exact ih out l1 s3 q
    | true =>
      show wp (bnd (e l1) _) _ s3
      rw [wp_bnd]
      refine wp_mono q fun x s4 q => ?_
      rw [wp_bnd]
      refine wp_mono (ih (out ++ [x]) l1 s4 q) fun xs s5 q => ?_
      rw [wp_ret]
      rw [List.append_assoc] at q
      exact q

theorem wp_comp {e : CE} {xs : List D} {same : Sto → Prop} {caps : Loc} {s : Sto} {Q : List D → Sto → Prop} (W : Nat → List D → Sto → Prop) (hs : ∀ i out s, W i out s → same s) (h0 : W 0 [] s)
    (hstep : ∀ (i : Nat) d out s, xs[i]? = some d → W i out s → wp (e (some d :: caps)) (fun x s' => W (i + 1) (out ++ [x]) s') s) (hend : ∀ out s, W xs.length out s → Q out s) :
    wp (collect (gVar 0) tTrue e same xs (none :: caps)) Q s := by
  have chk : ∀ {s : Sto} {R : Unit → Sto → Prop}, same s → R () s → wp (chkS same) R s := fun h r => by unfold wp chkS; rw [if_pos h]; exact r
  refine wp_collect (Q := Q) (fun out ds l s => ∃ i x0, ds = xs.drop i ∧ i ≤ xs.length ∧ l = x0 :: caps ∧ W i out s) (fun out l s ⟨i, x0, e1, hi, _, w⟩ => ?_) (fun out d ds l s ⟨i, x0, e1, hi, el, w⟩ => ?_) xs [] _ s ⟨0, none, by simp, Nat.zero_le _, rfl, h0⟩
  · have : i = xs.length := by
      have := congrArg List.length e1
      simp at this; omega
    subst this
    exact chk (hs _ _ _ w) (hend out s w)
  · subst el
    have hlt : i < xs.length := by
      have := congrArg List.length e1
      simp at this; omega
    rw [List.drop_eq_getElem_cons hlt] at e1
    obtain ⟨e2, e3⟩ := List.cons.inj e1
    refine chk (hs _ _ _ w) ?_
    show wp (ret _) _ s
    rw [wp_ret]
    show wp (ret true) _ s
    rw [wp_ret]
    show wp (e (some d :: caps)) _ s
    exact wp_mono (hstep i d out s (by rw [e2]; exact List.getElem?_eq_getElem hlt) w) fun x s' q => ⟨i + 1, some d, e3, hlt, rfl, q⟩
theorem rng_at {n i : Nat} (h : i < n) : (rngD 0 n)[i]? = some (.int i) := by
  unfold rngD
  rw [List.getElem?_map, List.getElem?_range h]; simp
theorem rng_of {n i : Nat} {d : D} (h : (rngD 0 n)[i]? = some d) : i < n ∧ d = .int i := by
  have hi : i < n := by
    have := (List.getElem?_eq_some_iff.mp h).1
    simpa [rngD] using this
  rw [rng_at hi] at h; cases h
  exact ⟨hi, rfl⟩
theorem rng_len (n : Nat) : (rngD 0 n).length = n := by simp [rngD]
theorem eqD_int {a b : Int} : eqD (.int a) (.int b) = ret (.bl (a == b)) := rfl
theorem neD_int {a b : Int} : neD (.int a) (.int b) = ret (.bl (!(a == b))) := rfl
theorem lim_le {n : Nat} (h : n ≤ 1000) : n ≤ lim := Nat.le_trans h (by decide)
theorem lim_lt {n : Nat} (h : n ≤ 1000) : n < lim := Nat.lt_of_le_of_lt h (by decide)
theorem wp_forI {g : CG} {b : CS} {same : Sto → Prop} {xs : List D} {l : Loc} {s : Sto} {Q : Flw → Sto → Prop} (W : Nat → Loc → Sto → Prop) (hs : ∀ i l s, W i l s → same s) (h0 : W 0 l s)
    (hstep : ∀ (i : Nat) d l s, xs[i]? = some d → W i l s → wp (g d l) (fun l1 s2 => wp (b l1) (fun f s3 => match f with
      | .next l2 => W (i + 1) l2 s3
      | .cnt l2 => W (i + 1) l2 s3
      | .brk l2 => Q (.next l2) s3
      | .ret d => Q (.ret d) s3) s2) s) (hend : ∀ l s, W xs.length l s → Q (.next l) s) : wp (forD g b same xs l) Q s := by
  have chk : ∀ {s : Sto} {R : Unit → Sto → Prop}, same s → R () s → wp (chkS same) R s := fun h r => by unfold wp chkS; rw [if_pos h]; exact r
  refine wp_for (fun ds l s => ∃ i, ds = xs.drop i ∧ i ≤ xs.length ∧ W i l s) (fun l s ⟨i, e1, hi, w⟩ => ?_) (fun d ds l s ⟨i, e1, hi, w⟩ => ?_) xs l s ⟨0, by simp, Nat.zero_le _, h0⟩
  · have : i = xs.length := by
      have := congrArg List.length e1
      simp at this; omega
    subst this
    exact chk (hs _ _ _ w) (hend l s w)
  · have hlt : i < xs.length := by
      have := congrArg List.length e1
      simp at this; omega
    rw [List.drop_eq_getElem_cons hlt] at e1
    obtain ⟨e2, e3⟩ := List.cons.inj e1
    refine chk (hs _ _ _ w) ?_
    refine wp_mono (hstep i d l s (by rw [e2]; exact List.getElem?_eq_getElem hlt) w) fun l1 s2 q => wp_mono q fun f s3 q => ?_
    cases f with
    | next l2 => exact ⟨i + 1, e3, hlt, q⟩
    | cnt l2 => exact ⟨i + 1, e3, hlt, q⟩
    | brk l2 => exact q
    | ret d => exact q
end MM
/-! wp of each combinator, for running a body step by step -/
namespace MM
open PySem
theorem nr {α : Sort u} {a b : α} (h : a = b) : a = b := h
section
variable {Q : D → Sto → Prop} {R : Flw → Sto → Prop} {T : Bool → Sto → Prop} {A : List D → Sto → Prop} {G : Loc → Sto → Prop} {I : Wk → Sto → Prop} {s : Sto} {l : Loc}
theorem x_seq {a b : CS} : wp (sSeq a b l) R s = wp (a l) (fun f s' => match f with
    | .next l' => wp (b l') R s'
    | .ret d => R (.ret d) s'
    | .brk l' => R (.brk l') s'
    | .cnt l' => R (.cnt l') s') s := by
  unfold sSeq; rw [wp_bnd]; congr 1; funext f s'; cases f <;> rfl
theorem x_next : wp (sNext l) R s = R (.next l) s := nr rfl
theorem x_asg {g : CG} {a : CE} : wp (sAsg g a l) R s = wp (a l) (fun d s' => wp (g d l) (fun l' s'' => R (.next l') s'') s') s := by
  unfold sAsg; rw [wp_bnd]; congr 1; funext d s'; rw [wp_bnd]; rfl
theorem x_ret {a : CE} : wp (sRet a l) R s = wp (a l) (fun d s' => R (.ret d) s') s := by
  unfold sRet; rw [wp_bnd]; rfl
theorem x_exp {a : CE} : wp (sExp a l) R s = wp (a l) (fun d s' => R (.next l) s') s := by
  unfold sExp; rw [wp_bnd]; rfl
theorem x_if {t : CT} {a b : CS} : wp (sIf t a b l) R s = wp (t l) (fun c s' => if c = true then wp (a l) R s' else wp (b l) R s') s := by
  unfold sIf; rw [wp_bnd]; congr 1; funext c s'; rw [wp_ite]
theorem x_cmp {a : CE} : wp (tCmpB a l) T s = wp (a l) (fun x s' => match x with
    | .bl b => T b s'
    | _ => False) s := by
  unfold tCmpB; rw [wp_bnd]; congr 1; funext x s'; cases x <;> rfl
theorem x_val {a : CE} : wp (tVal a l) T s = wp (a l) (fun x s' => wp (truD x) T s') s := by unfold tVal; rw [wp_bnd]
theorem x_not {a : CT} : wp (tNotB a l) T s = wp (a l) (fun x s' => T (!x) s') s := by unfold tNotB; rw [wp_bnd]; rfl
theorem x_and {a b : CT} : wp (tAndB a b l) T s = wp (a l) (fun c s' => if c = true then wp (b l) T s' else T false s') s := by
  unfold tAndB; rw [wp_bnd]; congr 1; funext c s'; rw [wp_ite]; rfl
theorem x_or {a b : CT} : wp (tOrB a b l) T s = wp (a l) (fun c s' => if c = true then T true s' else wp (b l) T s') s := by
  unfold tOrB; rw [wp_bnd]; congr 1; funext c s'; rw [wp_ite]; rfl
theorem x_gvar {i : Nat} {d : D} : wp (gVar i d l) G s = G (l.set i (some d)) s := nr rfl
theorem x_gsub {o i : CE} {d : D} : wp (gSubD o i d l) G s = wp (o l) (fun y s1 => wp (i l) (fun z s2 => wp (setItemD y z d) (fun _ s3 => G l s3) s2) s1) s := by
  unfold gSubD; rw [wp_bnd]; congr 1; funext y s1; rw [wp_bnd]; congr 1; funext z s2; rw [wp_bnd]; rfl
theorem x_var {i : Nat} : wp (cVar i l) Q s = match l[i]? with
    | some (some d) => Q d s
    | _ => False := by
  unfold cVar; rcases l[i]? with _ | _ | d <;> rfl
theorem x_con {d : D} : wp (cCon d l) Q s = Q d s := nr rfl
theorem x_c1 {g : D → M D} {a : CE} : wp (c1 g a l) Q s = wp (a l) (fun x s' => wp (g x) Q s') s := by unfold c1; rw [wp_bnd]
theorem x_c2 {g : D → D → M D} {a b : CE} : wp (c2 g a b l) Q s = wp (a l) (fun x s' => wp (b l) (fun y s'' => wp (g x y) Q s'') s') s := by
  unfold c2; rw [wp_bnd]; congr 1; funext x s'; rw [wp_bnd]
theorem x_call {g : List D → M D} {a : CA} : wp (cCall g a l) Q s = wp (a l) (fun x s' => wp (g x) Q s') s := by unfold cCall; rw [wp_bnd]
theorem x_nil : wp (cNil l) A s = A [] s := nr rfl
theorem x_cons {a : CE} {r : CA} : wp (cCons a r l) A s = wp (a l) (fun x s' => wp (r l) (fun xs s'' => A (x :: xs) s'') s') s := by
  unfold cCons; rw [wp_bnd]; congr 1; funext x s'; rw [wp_bnd]; rfl
theorem x_tup {a : CA} : wp (cTup a l) Q s = wp (a l) (fun xs s' => xs.length ≤ lim ∧ Q (.tup xs) s') s := by
  unfold cTup; rw [wp_bnd]; congr 1; funext x s'; rw [wp_chk]; rfl
theorem x_disp {a : CA} : wp (aDisp a l) A s = wp (a l) (fun xs s' => xs.length ≤ lim ∧ A xs s') s := by
  unfold aDisp; rw [wp_bnd]; congr 1; funext x s'; rw [wp_chk]; rfl
theorem x_keep {a : CA} : wp (cKeep a l) Q s = wp (a l) (fun xs s' => Q (.ref s'.length) (s' ++ [.lst xs])) s := by
  unfold cKeep; rw [wp_bnd]; rfl
theorem x_tmp {g : List D → M D} {a : CA} : wp (cTmp g a l) Q s = wp (a l) (fun x s' => wp (g x) Q s') s := by unfold cTmp; rw [wp_bnd]
theorem x_comp {n : Nat} {caps : List Nat} {i : CI} {g : CG} {t : CT} {e : CE} : wp (aComp n caps i g t e l) A s = wp (i l) (fun w s' => w.ds.length ≤ lim ∧ wp (collect g t e w.same w.ds (capt n caps l)) A s') s := by
  unfold aComp; rw [wp_bnd]; congr 1; funext x s'; rw [wp_chk]
theorem x_for {i : CI} {g : CG} {b : CS} : wp (sFor i g b l) R s = wp (i l) (fun w s' => wp (forD g b w.same w.ds l) R s') s := by
  unfold sFor; rw [wp_bnd]
theorem x_rng {a : CE} : wp (MM.iRng1 a l) I s = wp (a l) (fun x s' => match x with
    | .int j => (-(2 ^ 62) ≤ j ∧ j < 2 ^ 62) ∧ I ⟨rngD 0 j.toNat, anySt⟩ s'
    | _ => False) s := by
  unfold MM.iRng1; rw [wp_bnd]; congr 1; funext x s'; cases x <;> first | rfl | (dsimp only; rw [wp_chk]; rfl)
theorem x_iseq {a : CE} : wp (iSeq a l) I s = wp (a l) (fun x s' => match x with
    | .tup ds => I ⟨ds, anySt⟩ s'
    | .lit ds => I ⟨ds, anySt⟩ s'
    | .ref n => wp (getL n) (fun ds s'' => I ⟨ds, sameL n ds⟩ s'') s'
    | _ => False) s := by
  unfold iSeq; rw [wp_bnd]; congr 1; funext x s'; cases x <;> first | rfl | (dsimp only; rw [wp_bnd]; rfl)
theorem x_add {i j : Int} : wp (addD (.int i) (.int j)) Q s = Q (.int (i + j)) s := nr rfl
theorem x_sub {i j : Int} : wp (subD (.int i) (.int j)) Q s = Q (.int (i - j)) s := nr rfl
theorem x_mul {i j : Int} : wp (mulD (.int i) (.int j)) Q s = (mulOk i j ∧ Q (.int (i * j)) s) := by unfold mulD; rw [wp_chk]; rfl
theorem x_div {i j : Int} : wp (fdivD (.int i) (.int j)) Q s = ((0 < j ∧ j < 1073741824) ∧ Q (.int (i / j)) s) := by unfold fdivD; rw [wp_chk]; rfl
theorem x_mod {i j : Int} : wp (modD (.int i) (.int j)) Q s = (0 < j ∧ Q (.int (i % j)) s) := by unfold modD; rw [wp_chk]; rfl
theorem x_lt {i j : Int} : wp (ltD (.int i) (.int j)) Q s = Q (.bl (decide (i < j))) s := nr rfl
theorem x_le {i j : Int} : wp (leD (.int i) (.int j)) Q s = Q (.bl (decide (i ≤ j))) s := nr rfl
theorem x_gt {i j : Int} : wp (gtD (.int i) (.int j)) Q s = Q (.bl (decide (j < i))) s := nr rfl
theorem x_ge {i j : Int} : wp (geD (.int i) (.int j)) Q s = Q (.bl (decide (j ≤ i))) s := nr rfl
theorem x_eq {i j : Int} : wp (eqD (.int i) (.int j)) Q s = Q (.bl (i == j)) s := nr rfl
theorem x_ne {i j : Int} : wp (neD (.int i) (.int j)) Q s = Q (.bl !(i == j)) s := nr rfl
theorem x_subsT {ds : List D} {i : Int} : wp (subsD (.tup ds) (.int i)) Q s = wp (itemD ds i) Q s := nr rfl
theorem x_subsL {ds : List D} {i : Int} : wp (subsD (.lit ds) (.int i)) Q s = wp (itemD ds i) Q s := nr rfl
theorem x_subsR {n : Nat} {i : Int} : wp (subsD (.ref n) (.int i)) Q s = wp (getL n) (fun ds s' => wp (itemD ds i) Q s') s := by
  unfold subsD; rw [wp_bnd]
theorem x_lenT {ds : List D} : wp (lenD (.tup ds)) Q s = Q (.int ds.length) s := nr rfl
theorem x_lenL {ds : List D} : wp (lenD (.lit ds)) Q s = Q (.int ds.length) s := nr rfl
theorem x_lenR {n : Nat} : wp (lenD (.ref n)) Q s = wp (getL n) (fun ds s' => Q (.int ds.length) s') s := by unfold lenD; rw [wp_bnd]; rfl
theorem x_intB {b : Bool} : wp (intD (.bl b)) Q s = Q (.int (if b then 1 else 0)) s := nr rfl
theorem x_intI {i : Int} : wp (intD (.int i)) Q s = Q (.int i) s := nr rfl
theorem x_setR {n : Nat} {i : Int} {v : D} {U : Unit → Sto → Prop} : wp (setItemD (.ref n) (.int i) v) U s = wp (getL n) (fun ds s' => wp (match MM.ixN ds.length i with
    | some j => putL n (ds.set j v)
    | none => bad) U s') s := by
  unfold setItemD; rw [wp_bnd] <;> congr 1
theorem x_retF {d : D} : wp (flwD (.ret d)) Q s = Q d s := nr rfl
theorem x_nextF : wp (flwD (.next l)) Q s = Q .non s := nr rfl
end
end MM
/-! more of wp: pure comprehensions, truths -/
namespace MM
open PySem
theorem x_slice {a : CE} {lo hi : CO} {A : List D → Sto → Prop} {s : Sto} {l : Loc} : wp (aSlice a lo hi l) A s = wp (a l) (fun x s1 => wp (lo l) (fun i s2 => wp (hi l) (fun j s3 => match x with
    | .lit ds => A (cutD ds i j) s3
    | .ref n => wp (getL n) (fun ds s4 => A (cutD ds i j) s4) s3
    | _ => False) s2) s1) s := by
  unfold aSlice; rw [wp_bnd]; congr 1; funext x s1; rw [wp_bnd]; congr 1; funext i s2; rw [wp_bnd]; congr 1; funext j s3; cases x <;> first | rfl | (dsimp only; rw [wp_bnd]; rfl)
theorem x_none {A : Option Int → Sto → Prop} {s : Sto} {l : Loc} : wp (oNone l) A s = A none s := rfl
theorem x_some {a : CE} {A : Option Int → Sto → Prop} {s : Sto} {l : Loc} : wp (oSome a l) A s = wp (a l) (fun x s1 => match x with
    | .int i => A (some i) s1
    | _ => False) s := by
  unfold oSome; rw [wp_bnd]; congr 1; funext x s1; cases x <;> rfl
theorem x_enum {a : CE} {I : Wk → Sto → Prop} {s : Sto} {l : Loc} : wp (iEnum a l) I s = wp (a l) (fun x s' => match x with
    | .tup ds => I ⟨(rngD 0 ds.length).zipWith (fun i d => .tup [i, d]) ds, anySt⟩ s'
    | _ => False) s := by
  unfold iEnum; rw [wp_bnd]; congr 1; funext x s'; cases x <;> rfl
theorem x_gtup {n : Nat} {r : List D → Loc → M Loc} {ds : List D} {G : Loc → Sto → Prop} {s : Sto} {l : Loc} : wp (gTupD n r (.tup ds) l) G s = (ds.length = n ∧ wp (r ds l) G s) := by
  unfold gTupD; rw [wp_chk]
theorem x_gcons {g : CG} {r : List D → Loc → M Loc} {d : D} {ds : List D} {G : Loc → Sto → Prop} {s : Sto} {l : Loc} : wp (gsCons g r (d :: ds) l) G s = wp (g d l) (fun l' s' => wp (r ds l') G s') s := by
  unfold gsCons; rw [wp_bnd]
theorem x_gnil {G : Loc → Sto → Prop} {s : Sto} {l : Loc} : wp (gsNil [] l) G s = G l s := nr rfl
theorem enum_of {ds : List D} {i : Nat} {d : D} (h : ((rngD 0 ds.length).zipWith (fun i d => D.tup [i, d]) ds)[i]? = some d) : ∃ x, ds[i]? = some x ∧ d = .tup [.int i, x] := by
  rw [List.getElem?_zipWith] at h
  cases e1 : (rngD 0 ds.length)[i]? with
  | none => rw [e1] at h; cases h
  | some a =>
    rw [e1] at h
    obtain ⟨_, ea⟩ := rng_of e1
    cases e2 : ds[i]? with
    | none => rw [e2] at h; cases h
    | some x => rw [e2] at h; cases h; exact ⟨x, rfl, by rw [ea]⟩
def Ext (s s' : Sto) : Prop := ∃ t, s' = s ++ t
theorem Ext.refl (s : Sto) : Ext s s := ⟨[], by simp⟩
theorem Ext.snoc {s s' : Sto} (h : Ext s s') (o : MO) : Ext s (s' ++ [o]) := by obtain ⟨t, e⟩ := h; exact ⟨t ++ [o], by rw [e]; simp⟩
theorem Ext.trans {s s' s2 : Sto} (h : Ext s s') (k : Ext s' s2) : Ext s s2 := by obtain ⟨t, e⟩ := h; obtain ⟨u, f⟩ := k; exact ⟨t ++ u, by rw [f, e]; simp⟩
theorem Ext.at_ {s s' : Sto} {n : Nat} {o : MO} (h : Ext s s') (k : s[n]? = some o) : s'[n]? = some o := by
  obtain ⟨t, e⟩ := h
  rw [e, List.getElem?_append_left (List.getElem?_eq_some_iff.mp k).1]; exact k
theorem nums_map {α : Type} (f : α → Int) (xs : List α) : numsL (xs.map fun x => .int (f x)) = some (xs.map f) := by
  induction xs with
  | nil => rfl
  | cons x xs ih => simp only [List.map_cons, numsL, ih]; rfl

theorem wp_to_eq {α : Type} {m : M α} {v : α} {s : Sto} {Q : α → Sto → Prop} (h : wp m (fun a s' => a = v ∧ s' = s) s) : wp m Q s = Q v s := by
  unfold wp at *
  cases e : m s with
  | ok a s' => rw [e] at h; obtain ⟨h1, h2⟩ := h; subst h1; subst h2; rfl
  | exc _ _ => rw [e] at h; exact h.elim
  | bad => rw [e] at h; exact h.elim
theorem x_addR {a b : Nat} {x y : List D} {Q : D → Sto → Prop} {s : Sto} (h1 : s[a]? = some (.lst x)) (h2 : s[b]? = some (.lst y)) : wp (addD (.ref a) (.ref b)) Q s = (x.length + y.length ≤ lim ∧ Q (.ref s.length) (s ++ [.lst (x ++ y)])) := by
  unfold addD; rw [wp_bnd, wp_getL h1, wp_bnd, wp_getL h2, wp_chk]; rfl
theorem bools_rep (n : Nat) : boolsL (List.replicate n (.bl true)) = some (List.replicate n true) := by
  induction n with
  | zero => rfl
  | succ n ih => rw [List.replicate_succ, List.replicate_succ]; simp only [boolsL, ih]; rfl

/-- by a truth the one or the other -/
def andB (x : D) (p q : Prop) : Prop := match x with
  | .bl true => p
  | .bl false => q
  | _ => False
theorem andB_t {p q : Prop} : andB (.bl true) p q = p := nr rfl
theorem andB_f {p q : Prop} : andB (.bl false) p q = q := nr rfl
section
variable {Q : D → Sto → Prop} {T : Bool → Sto → Prop} {R : Flw → Sto → Prop} {s : Sto} {l : Loc}
theorem x_andE {a b : CE} : wp (cAnd a b l) Q s = wp (a l) (fun x s' => andB x (wp (b l) Q s') (Q (.bl false) s')) s := by
  unfold cAnd; rw [wp_bnd]; congr 1; funext x s'; rcases x with _ | b | _ | _ | _ | _ | _ <;> first | rfl | (cases b <;> rfl)
theorem x_orE {a b : CE} : wp (cOr a b l) Q s = wp (a l) (fun x s' => andB x (Q (.bl true) s') (wp (b l) Q s')) s := by
  unfold cOr; rw [wp_bnd]; congr 1; funext x s'; rcases x with _ | b | _ | _ | _ | _ | _ <;> first | rfl | (cases b <;> rfl)
theorem x_notE {a : CE} : wp (cNot a l) Q s = wp (a l) (fun x s' => match x with
    | .bl b => Q (.bl !b) s'
    | _ => False) s := by
  unfold cNot; rw [wp_bnd]; congr 1; funext x s'; cases x <;> rfl
theorem x_ifE {t : CT} {a b : CE} : wp (cIfE t a b l) Q s = wp (t l) (fun c s' => if c = true then wp (a l) Q s' else wp (b l) Q s') s := by
  unfold cIfE; rw [wp_bnd]; congr 1; funext c s'; rw [wp_ite]
theorem x_truB {b : Bool} : wp (truD (.bl b)) T s = T b s := nr rfl
theorem x_isB {b : Bool} : wp (isInst ["bool"] (.bl b)) Q s = Q (.bl true) s := nr rfl
theorem x_eqB {a b : Bool} : wp (eqD (.bl a) (.bl b)) Q s = Q (.bl (a == b)) s := nr rfl
theorem x_neB {a b : Bool} : wp (neD (.bl a) (.bl b)) Q s = Q (.bl !(a == b)) s := nr rfl
theorem x_tupL {ds : List D} : wp (tupL ds) Q s = Q (.tup ds) s := nr rfl
theorem x_lenLL {ds : List D} : wp (lenL ds) Q s = Q (.int ds.length) s := nr rfl
theorem x_item0 {d : D} {ds : List D} : wp (itemD (d :: ds) 0) Q s = Q d s := by
  rw [item_nat (d := d) (by omega) rfl, wp_ret]
theorem x_item1 {d e : D} {ds : List D} : wp (itemD (d :: e :: ds) 1) Q s = Q e s := by
  rw [item_nat (d := e) (by omega) rfl, wp_ret]
theorem x_item2 {d e f : D} {ds : List D} : wp (itemD (d :: e :: f :: ds) 2) Q s = Q f s := by
  rw [item_nat (d := f) (by omega) rfl, wp_ret]
theorem x_item3 {d e f g : D} {ds : List D} : wp (itemD (d :: e :: f :: g :: ds) 3) Q s = Q g s := by
  rw [item_nat (d := g) (by omega) rfl, wp_ret]
theorem wp_item {ds : List D} {i : Nat} {d : D} (h : ds[i]? = some d) : wp (itemD ds i) Q s = Q d s := by
  rw [item_nat (d := d) (by omega) (by simpa using h), wp_ret]
theorem x_tTrue : wp (tTrue l) T s = T true s := nr rfl
theorem x_iTmp {a : CA} {I : Wk → Sto → Prop} : wp (iTmp a l) I s = wp (a l) (fun ds s' => I ⟨ds, anySt⟩ s') s := by unfold iTmp; rw [wp_bnd]; rfl
end
/-- whether it is so -/
noncomputable def bP (p : Prop) : Bool := @decide p (Classical.propDecidable p)
theorem bP_iff {p : Prop} : bP p = true ↔ p := by unfold bP; exact @decide_eq_true_iff p (Classical.propDecidable p)
theorem bP_of {p : Prop} (h : p) : bP p = true := bP_iff.mpr h
theorem bP_no {p : Prop} (h : ¬p) : bP p = false := by
  cases e : bP p with
  | false => rfl
  | true => exact (h (bP_iff.mp e)).elim
theorem bP_eq {b : Bool} {p : Prop} (h : b = true ↔ p) : b = bP p := by
  cases b with
  | true => exact (bP_of (h.mp rfl)).symm
  | false => exact (bP_no fun k => by cases h.mpr k).symm
theorem bP_or {p q : Prop} : (bP p || bP q) = bP (p ∨ q) := bP_eq (by rw [Bool.or_eq_true, bP_iff, bP_iff])
theorem bP_and {p q : Prop} : (bP p && bP q) = bP (p ∧ q) := bP_eq (by rw [Bool.and_eq_true, bP_iff, bP_iff])
theorem andB_or {p q : Prop} {Q : D → Sto → Prop} {s : Sto} : andB (.bl (bP p)) (Q (.bl true) s) (Q (.bl (bP q)) s) = Q (.bl (bP (p ∨ q))) s := by
  rw [← bP_or]
  cases bP p <;> simp [andB]
theorem andB_and {p q : Prop} {Q : D → Sto → Prop} {s : Sto} : andB (.bl (bP p)) (Q (.bl (bP q)) s) (Q (.bl false) s) = Q (.bl (bP (p ∧ q))) s := by
  rw [← bP_and]
  cases bP p <;> simp [andB]
/-- a list of as many as there are, each by its number -/
def upto {α : Type} (n : Nat) (f : Nat → α) : List α := (List.range n).map f
theorem upto_at {α : Type} {n i : Nat} {f : Nat → α} (h : i < n) : (upto n f)[i]? = some (f i) := by unfold upto; rw [List.getElem?_map, List.getElem?_range h]; rfl
theorem upto_of {α : Type} {n i : Nat} {f : Nat → α} {x : α} (h : (upto n f)[i]? = some x) : i < n ∧ x = f i := by
  have hi : i < n := by
    have := (List.getElem?_eq_some_iff.mp h).1
    simpa [upto] using this
  rw [upto_at hi] at h; cases h; exact ⟨hi, rfl⟩
theorem upto_len {α : Type} {n : Nat} {f : Nat → α} : (upto n f).length = n := by simp [upto]
theorem upto_succ {α : Type} {n : Nat} {f : Nat → α} : upto (n + 1) f = upto n f ++ [f n] := by unfold upto; rw [List.range_succ, List.map_append]; rfl
theorem upto_ext {α : Type} {n : Nat} {xs : List α} {f : Nat → α} (hl : xs.length = n) (h : ∀ i, i < n → xs[i]? = some (f i)) : xs = upto n f := by
  apply List.ext_getElem?
  intro i
  by_cases hi : i < n
  · rw [h i hi, upto_at hi]
  · rw [List.getElem?_eq_none (by omega), List.getElem?_eq_none (by rw [upto_len]; omega)]
theorem upto_congr {α : Type} {n : Nat} {f g : Nat → α} (h : ∀ i, i < n → f i = g i) : upto n f = upto n g :=
  upto_ext upto_len fun i hi => by rw [upto_at hi, h i hi]
theorem rng_upto {n : Nat} : rngD 0 n = upto n fun i => .int i := by unfold rngD upto; congr 1; funext k; simp
theorem bools_upto {n : Nat} {f : Nat → Bool} : boolsL (upto n fun i => .bl (f i)) = some (upto n f) := by
  have : ∀ (xs : List Nat), boolsL (xs.map fun i => .bl (f i)) = some (xs.map f) := by
    intro xs
    induction xs with
    | nil => rfl
    | cons x xs ih => simp only [List.map_cons, boolsL, ih]; rfl
  exact this _
theorem all_upto {n : Nat} {p : Nat → Prop} {Q : D → Sto → Prop} {s : Sto} : wp (allD (upto n fun i => .bl (bP (p i)))) Q s = Q (.bl (bP (∀ i, i < n → p i))) s := by
  unfold allD; rw [bools_upto]
  have : (upto n fun i => bP (p i)).all id = bP (∀ i, i < n → p i) := bP_eq (by simp [upto, List.all_map, bP_iff])
  dsimp only; rw [this, wp_ret]
/-- a comprehension that tells each item's value and leaves the store as it is -/
theorem pure_compG {g : CG} {e : CE} {same : Sto → Prop} {ds : List D} {l0 : Loc} {f : Nat → D} {Q : List D → Sto → Prop} {s : Sto} (I : Loc → Prop) (hs : same s) (h0 : I l0)
    (h : ∀ i d l, ds[i]? = some d → I l → ∃ l', (∀ G, wp (g d l) G s = G l' s) ∧ I l' ∧ ∀ Q, wp (e l') Q s = Q (f i) s) :
    wp (collect g tTrue e same ds l0) Q s = Q (upto ds.length f) s := by
  have chk : ∀ {R : Unit → Sto → Prop}, R () s → wp (chkS same) R s := fun r => by unfold wp chkS; rw [if_pos hs]; exact r
  apply wp_to_eq
  refine wp_collect (Q := fun out s' => out = upto ds.length f ∧ s' = s) (fun out xs l s' => ∃ i, xs = ds.drop i ∧ i ≤ ds.length ∧ I l ∧ out = upto i f ∧ s' = s) (fun out l s' ⟨i, e1, hi, _, e2, es⟩ => ?_) (fun out d xs l s' ⟨i, e1, hi, hI, e2, es⟩ => ?_) ds [] _ s ⟨0, by simp, Nat.zero_le _, h0, rfl, rfl⟩
  · have : i = ds.length := by
      have := congrArg List.length e1
      simp at this; omega
    subst this
    subst es
    exact chk ⟨e2, rfl⟩
  · have hlt : i < ds.length := by
      have := congrArg List.length e1
      simp at this; omega
    rw [List.drop_eq_getElem_cons hlt] at e1
    obtain ⟨e3, e4⟩ := List.cons.inj e1
    obtain ⟨l', q1, q2, q3⟩ := h i d l (by rw [e3]; exact List.getElem?_eq_getElem hlt) hI
    subst es
    refine chk ?_
    rw [q1]
    show wp (ret true) _ s'
    rw [wp_ret]
    show wp (e l') _ s'
    rw [q3]
    exact ⟨i + 1, e4, hlt, q2, by rw [e2, upto_succ], rfl⟩
theorem pure_comp {e : CE} {same : Sto → Prop} {ds : List D} {caps : Loc} {f : Nat → D} {Q : List D → Sto → Prop} {s : Sto} (hs : same s) (h : ∀ i d, ds[i]? = some d → ∀ Q, wp (e (some d :: caps)) Q s = Q (f i) s) :
    wp (collect (gVar 0) tTrue e same ds (none :: caps)) Q s = Q (upto ds.length f) s :=
  pure_compG (fun l => ∃ x, l = x :: caps) hs ⟨none, rfl⟩ fun i d l hd ⟨x, el⟩ => ⟨some d :: caps, fun G => by rw [el, x_gvar]; rfl, ⟨_, rfl⟩, h i d hd⟩
theorem pure_comp2 {e : CE} {same : Sto → Prop} {ds : List D} {caps : Loc} {f : Nat → D} {Q : List D → Sto → Prop} {s : Sto} (hs : same s) (h : ∀ i d, ds[i]? = some d → ∃ a b, d = .tup [a, b] ∧ ∀ Q, wp (e (some a :: some b :: caps)) Q s = Q (f i) s) :
    wp (collect (gTupD 2 (gsCons (gVar 0) (gsCons (gVar 1) gsNil))) tTrue e same ds (none :: none :: caps)) Q s = Q (upto ds.length f) s :=
  pure_compG (fun l => ∃ x y, l = x :: y :: caps) hs ⟨none, none, rfl⟩ fun i d l hd ⟨x, y, el⟩ => by
    obtain ⟨a, b, ed, q⟩ := h i d hd
    refine ⟨some a :: some b :: caps, fun G => ?_, ⟨_, _, rfl⟩, q⟩
    rw [ed, el, x_gtup, x_gcons, x_gvar, x_gcons, x_gvar, x_gnil]
    exact propext ⟨fun h => h.2, fun h => ⟨rfl, h⟩⟩
section
variable {n : Nat} {f : Nat → D} {Q : D → Sto → Prop} {s : Sto}
theorem x_itemU {i : Nat} (h : i < n) : wp (itemD (upto n f) (i : Int)) Q s = Q (f i) s := wp_item (upto_at h)
theorem x_itemU0 (h : 0 < n) : wp (itemD (upto n f) 0) Q s = Q (f 0) s := by
  have := @wp_item Q s (upto n f) 0 (f 0) (upto_at h); simpa using this
end
theorem any_st {s : Sto} : anySt s := trivial
/-- a loop that leaves the store as it is, or whose ends are known -/
theorem wp_forR {g : CG} {b : CS} {same : Sto → Prop} {n : Nat} {f : Nat → D} {l : Loc} {s : Sto} {Q : Flw → Sto → Prop} (W : Nat → Loc → Sto → Prop) (hs : ∀ i l s, W i l s → same s) (h0 : W 0 l s)
    (hstep : ∀ (i : Nat) l s, i < n → W i l s → wp (g (f i) l) (fun l1 s2 => wp (b l1) (fun f s3 => match f with
      | .next l2 => W (i + 1) l2 s3
      | .cnt l2 => W (i + 1) l2 s3
      | .brk l2 => Q (.next l2) s3
      | .ret d => Q (.ret d) s3) s2) s) (hend : ∀ l s, W n l s → Q (.next l) s) : wp (forD g b same (upto n f) l) Q s :=
  wp_forI W hs h0 (fun i d l s hd w => by obtain ⟨hi, e⟩ := upto_of hd; subst e; exact hstep i l s hi w) (fun l s w => hend l s (by rw [upto_len] at w; exact w))
theorem pure_compR {e : CE} {same : Sto → Prop} {n : Nat} {g : Nat → D} {caps : Loc} {f : Nat → D} {Q : List D → Sto → Prop} {s : Sto} (hs : same s) (h : ∀ i, i < n → ∀ Q, wp (e (some (g i) :: caps)) Q s = Q (f i) s) :
    wp (collect (gVar 0) tTrue e same (upto n g) (none :: caps)) Q s = Q (upto n f) s := by
  rw [pure_comp (f := f) hs (fun i d hd => by obtain ⟨hi, e⟩ := upto_of hd; subst e; exact h i hi), upto_len]
theorem pure_comp2R {e : CE} {same : Sto → Prop} {n : Nat} {a b : Nat → D} {caps : Loc} {f : Nat → D} {Q : List D → Sto → Prop} {s : Sto} (hs : same s) (h : ∀ i, i < n → ∀ Q, wp (e (some (a i) :: some (b i) :: caps)) Q s = Q (f i) s) :
    wp (collect (gTupD 2 (gsCons (gVar 0) (gsCons (gVar 1) gsNil))) tTrue e same (upto n fun i => .tup [a i, b i]) (none :: none :: caps)) Q s = Q (upto n f) s := by
  rw [pure_comp2 (f := f) hs (fun i d hd => by obtain ⟨hi, e⟩ := upto_of hd; exact ⟨_, _, e, h i hi⟩), upto_len]
end MM
/-! wp of the later forms -/
namespace MM
open PySem
section
variable {Q : D → Sto → Prop} {T : Bool → Sto → Prop} {R : Flw → Sto → Prop} {A : List D → Sto → Prop} {s : Sto} {l : Loc}
theorem x_chain {f g : D → D → M D} {a b c : CE} : wp (cChain f g a b c l) Q s = wp (a l) (fun x s1 => wp (b l) (fun y s2 => wp (f x y) (fun z s3 => andB z (wp (c l) (fun w s4 => wp (g y w) Q s4) s3) (Q (.bl false) s3)) s2) s1) s := by
  unfold cChain; rw [wp_bnd]; congr 1; funext x s1; rw [wp_bnd]; congr 1; funext y s2; rw [wp_bnd]; congr 1; funext z s3
  rcases z with _ | b | _ | _ | _ | _ | _ <;> first | rfl | (cases b <;> first | rfl | (dsimp only; rw [wp_bnd]; rfl))
theorem x_append {a b : CE} : wp (cAppend a b l) Q s = wp (a l) (fun x s1 => match x with
    | .ref n => wp (b l) (fun v s2 => wp (getL n) (fun ds s3 => ds.length < lim ∧ wp (putL n (ds ++ [v])) (fun _ s4 => Q .non s4) s3) s2) s1
    | _ => False) s := by
  unfold cAppend; rw [wp_bnd]; congr 1; funext x s1
  cases x <;> first | rfl | (dsimp only; rw [wp_bnd]; congr 1; funext v s2; unfold appendL; rw [wp_bnd]; congr 1; funext ds s3; rw [wp_chk, wp_bnd]; rfl)
theorem x_clear {a : CE} : wp (cClear a l) Q s = wp (a l) (fun x s1 => match x with
    | .ref n => wp (putL n []) (fun _ s4 => Q .non s4) s1
    | _ => False) s := by
  unfold cClear; rw [wp_bnd]; congr 1; funext x s1
  cases x <;> first | rfl | (dsimp only; rw [wp_bnd]; rfl)
theorem x_pop {a : CE} : wp (cPop a l) Q s = wp (a l) (fun x s1 => match x with
    | .ref n => wp (getL n) (fun ds s2 => match ds.getLast? with
      | some d => wp (putL n ds.dropLast) (fun _ s4 => Q d s4) s2
      | none => False) s1
    | _ => False) s := by
  unfold cPop; rw [wp_bnd]; congr 1; funext x s1
  cases x <;> first | rfl | (dsimp only; rw [wp_bnd]; congr 1; funext ds s2; cases ds.getLast? <;> first | rfl | (dsimp only; rw [wp_bnd]; rfl))
theorem x_reverse {a : CE} : wp (cReverse a l) Q s = wp (a l) (fun x s1 => match x with
    | .ref n => wp (getL n) (fun ds s2 => wp (putL n ds.reverse) (fun _ s4 => Q .non s4) s2) s1
    | _ => False) s := by
  unfold cReverse; rw [wp_bnd]; congr 1; funext x s1
  cases x <;> first | rfl | (dsimp only; rw [wp_bnd]; congr 1; funext ds s2; rw [wp_bnd]; rfl)
theorem x_back {a : CE} : wp (aBack a l) A s = wp (a l) (fun x s1 => match x with
    | .ref n => wp (getL n) (fun ds s2 => A ds.reverse s2) s1
    | _ => False) s := by
  unfold aBack; rw [wp_bnd]; congr 1; funext x s1
  cases x <;> first | rfl | (dsimp only; rw [wp_bnd]; rfl)
theorem x_listT {ds : List D} : wp (listD (.tup ds)) Q s = Q (.ref s.length) (s ++ [.lst ds]) := nr rfl
theorem x_listR {n : Nat} : wp (listD (.ref n)) Q s = wp (getL n) (fun ds s1 => Q (.ref s1.length) (s1 ++ [.lst ds])) s := by unfold listD seqOf; rw [wp_bnd]; rfl
theorem x_tupleT {ds : List D} : wp (tupleD (.tup ds)) Q s = Q (.tup ds) s := nr rfl
theorem x_tupleR {n : Nat} : wp (tupleD (.ref n)) Q s = wp (getL n) (fun ds s1 => Q (.tup ds) s1) s := by unfold tupleD; rw [wp_bnd]; rfl
theorem x_isntB {a b : Bool} : wp (isntD (.bl a) (.bl b)) Q s = Q (.bl !(a == b)) s := nr rfl
theorem x_isB2 {a b : Bool} : wp (isD (.bl a) (.bl b)) Q s = Q (.bl (a == b)) s := nr rfl
theorem x_inTu {x : D} {ds : List D} : wp (inD x (.tup ds)) Q s = wp (inL x ds) Q s := nr rfl
theorem x_in01 {v : Int} (h : v = 0 ∨ v = 1) : wp (inL (.int v) [.int 0, .int 1]) Q s = Q (.bl true) s := by
  rcases h with h | h <;> subst h <;> rfl
theorem x_eqStr {a b : Str} : wp (eqD (.str a) (.str b)) Q s = Q (.bl (a == b)) s := nr rfl
theorem x_neStr {a b : Str} : wp (neD (.str a) (.str b)) Q s = Q (.bl !(a == b)) s := nr rfl
theorem x_isiL {n : Nat} : wp (isInst ["list"] (.ref n)) Q s = Q (.bl true) s := nr rfl
theorem x_isiT {ds : List D} : wp (isInst ["tuple"] (.tup ds)) Q s = Q (.bl true) s := nr rfl
theorem x_isiI {i : Int} : wp (isInst ["int"] (.int i)) Q s = Q (.bl true) s := nr rfl
theorem x_isiB {i : Int} : wp (isInst ["bool"] (.int i)) Q s = Q (.bl false) s := nr rfl
theorem x_isiBN : wp (isInst ["bool"] .non) Q s = Q (.bl false) s := nr rfl
theorem x_neg {i : Int} : wp (negD (.int i)) Q s = Q (.int (-i)) s := nr rfl
theorem x_min2 {i j : Int} : wp (min2D (.int i) (.int j)) Q s = Q (.int (min i j)) s := nr rfl
theorem x_max2 {i j : Int} : wp (max2D (.int i) (.int j)) Q s = Q (.int (max i j)) s := nr rfl
theorem x_rng2 {a b : CE} {I : Wk → Sto → Prop} : wp (MM.iRng2 a b l) I s = wp (a l) (fun x s1 => wp (b l) (fun y s2 => match x, y with
    | .int i, .int j => ((-(2 ^ 62) ≤ i ∧ i < 2 ^ 62) ∧ (-(2 ^ 62) ≤ j ∧ j < 2 ^ 62)) ∧ I ⟨rngD i (j - i).toNat, anySt⟩ s2
    | _, _ => False) s1) s := by
  unfold MM.iRng2; rw [wp_bnd]; congr 1; funext x s1; rw [wp_bnd]; congr 1; funext y s2
  cases x <;> cases y <;> first | rfl | (dsimp only; rw [wp_chk]; rfl)
theorem x_shl {i j : Int} : wp (shlD (.int i) (.int j)) Q s = ((0 ≤ j ∧ j ≤ 1000000 ∧ i.natAbs < 2 ^ 64) ∧ Q (.int (i * 2 ^ j.toNat)) s) := by unfold shlD; rw [wp_chk]; rfl
theorem x_addT {x y : List D} : wp (addD (.tup x) (.tup y)) Q s = (x.length + y.length ≤ lim ∧ Q (.tup (x ++ y)) s) := by unfold addD; rw [wp_chk]; rfl
theorem x_tmpSub {a : CA} {b : CE} : wp (cTmpSub a b l) Q s = wp (a l) (fun ds s1 => wp (b l) (fun i s2 => match i with
    | .int k => wp (itemD ds k) Q s2
    | _ => False) s1) s := by
  unfold cTmpSub; rw [wp_bnd]; congr 1; funext ds s1; rw [wp_bnd]; congr 1; funext i s2; cases i <;> rfl
theorem x_inTmp {g : D → List D → M D} {a : CE} {b : CA} : wp (cInTmp g a b l) Q s = wp (a l) (fun x s1 => wp (b l) (fun ds s2 => wp (g x ds) Q s2) s1) s := by
  unfold cInTmp; rw [wp_bnd]; congr 1; funext x s1; rw [wp_bnd]
theorem all_true {n : Nat} : wp (allD (upto n fun _ => .bl true)) Q s = Q (.bl true) s := by
  have := @all_upto n (fun _ => True) Q s
  rw [show (fun _ : Nat => D.bl (bP True)) = fun _ => D.bl true from by funext i; rw [bP_of trivial]] at this
  rw [this, bP_of (fun _ _ => trivial)]
end
theorem ite_t {p q : Prop} : (if true = true then p else q) = p := if_pos rfl
theorem ite_f {p q : Prop} : (if false = true then p else q) = q := if_neg (by simp)
/-- the greatest of the first n -/
def mx (f : Nat → Nat) : Nat → Nat
  | 0 => 0
  | n + 1 => max (mx f n) (f n)
theorem mx_le {f : Nat → Nat} {n m : Nat} (h : ∀ i, i < n → f i ≤ m) : mx f n ≤ m := by
  induction n with
  | zero => exact Nat.zero_le _
  | succ n ih => unfold mx; exact Nat.max_le.mpr ⟨ih fun i hi => h i (by omega), h n (by omega)⟩
theorem max_upto {f : Nat → Nat} {n : Nat} {Q : D → Sto → Prop} {s : Sto} (hn : 0 < n) : wp (maxD (upto n fun i => .int (f i : Nat))) Q s = Q (.int (mx f n : Nat)) s := by
  obtain ⟨k, rfl⟩ : ∃ k, n = k + 1 := ⟨n - 1, by omega⟩
  have hm : ∀ (k : Nat), (((List.range k).map (· + 1)).map fun (i : Nat) => ((f i : Nat) : Int)).foldl max ((f 0 : Nat) : Int) = ((mx f (k + 1) : Nat) : Int) := by
    intro k
    induction k with
    | zero => show ((f 0 : Nat) : Int) = ((max 0 (f 0) : Nat) : Int); omega
    | succ k ih =>
      rw [List.range_succ, List.map_append, List.map_append, List.foldl_append, ih]
      show max ((mx f (k + 1) : Nat) : Int) ((f (k + 1) : Nat) : Int) = ((max (mx f (k + 1)) (f (k + 1)) : Nat) : Int)
      omega
  unfold maxD upto
  rw [nums_map (fun i => ((f i : Nat) : Int)), List.range_succ_eq_map, List.map_cons]
  dsimp only
  rw [wp_ret, ← hm k]
theorem Ext.put {s s' : Sto} {n : Nat} {o : MO} (h : Ext s s') (hn : s.length ≤ n) : Ext s (s'.set n o) := by
  obtain ⟨t, e⟩ := h
  exact ⟨t.set (n - s.length) o, by rw [e, List.set_append_right _ _ hn]⟩
theorem Ext.le {s s' : Sto} (h : Ext s s') : s.length ≤ s'.length := by obtain ⟨t, e⟩ := h; rw [e]; simp
end MM
namespace My
open PySem MM
noncomputable def b_answers : CS :=
    (sSeq (sRet (c2 addD (cCon (.int 1)) (cTmp maxD (aComp 1 [1] (iSeq (cVar 0)) (gVar 0) tTrue (c2 subsD (c2 subsD (cVar 0) (cVar 1)) (cCon (.int 1)))))))
    sNext)
@[irreducible] noncomputable def m_answers : List D → M D := runDef 2 b_answers
noncomputable def b_is_state : CS :=
    (sSeq (sIf (tCmpB (c2 neD (c1 lenD (cVar 1)) (c1 lenD (c2 subsD (cVar 0) (cCon (.int 0))))))
     (sSeq (sRet (cCon (.bl false)))
     sNext)
     sNext)
    (sSeq (sRet (cTmp allD (aComp 2 [0] (iSeq (cVar 1)) (gTupD 2 (gsCons (gVar 0) (gsCons (gVar 1) gsNil))) tTrue (cAnd (cChain leD ltD (cCon (.int 0)) (cVar 0) (c1 lenD (cVar 2))) (c2 geD (cVar 1) (cCon (.int 0)))))))
    sNext))
@[irreducible] noncomputable def m_is_state : List D → M D := runDef 2 b_is_state
noncomputable def b_answer_counts : CS :=
    (sSeq (sRet (cKeep (aComp 1 [0] (MM.iRng1 (c1 lenD (c2 subsD (cVar 0) (cCon (.int 0))))) (gVar 0) tTrue (cCall m_answers (cCons (cVar 1) (cCons (cVar 0) cNil))))))
    sNext)
@[irreducible] noncomputable def m_answer_counts : List D → M D := runDef 1 b_answer_counts
noncomputable def b_are_lines : CS :=
    (sSeq (sRet (cTmp allD (aComp 1 [1] (iSeq (cVar 0)) (gVar 0) tTrue (cChain leD ltD (cCon (.int 0)) (cVar 0) (c1 lenD (cVar 1))))))
    sNext)
@[irreducible] noncomputable def m_are_lines : List D → M D := runDef 2 b_are_lines
noncomputable def b_is_line : CS :=
    (sSeq (sIf (tCmpB (c2 eqD (c2 subsD (cVar 2) (cCon (.int 0))) (cCon (.str "settle"))))
     (sSeq (sRet (c2 inD (c2 subsD (cVar 2) (cCon (.int 1))) (cTup (cCons (cCon (.int 0)) (cCons (cCon (.int 1)) cNil)))))
     sNext)
     sNext)
    (sSeq (sAsg (gVar 3) (c2 subsD (cVar 2) (cCon (.int 1))))
    (sSeq (sAsg (gVar 4) (c2 subsD (cVar 2) (cCon (.int 2))))
    (sSeq (sAsg (gVar 5) (c2 subsD (cVar 2) (cCon (.int 3))))
    (sSeq (sIf (tOrB (tNotB (tCmpB (cChain leD ltD (cCon (.int 0)) (cVar 3) (c1 lenD (cVar 0))))) (tNotB (tCmpB (cChain leD ltD (cCon (.int 0)) (cVar 4) (c1 lenD (c2 subsD (cVar 0) (cVar 3)))))))
     (sSeq (sRet (cCon (.bl false)))
     sNext)
     sNext)
    (sSeq (sRet (cAnd (c2 eqD (c1 lenD (cVar 5)) (c2 subsD (c2 subsD (cVar 0) (cVar 3)) (cVar 4))) (cCall m_are_lines (cCons (cVar 5) (cCons (cVar 1) cNil)))))
    sNext))))))
@[irreducible] noncomputable def m_is_line : List D → M D := runDef 6 b_is_line
noncomputable def b_inputs_of : CS :=
    (sSeq (sAsg (gVar 1) (cKeep (aDisp (cCons (cTup cNil) cNil))))
    (sSeq (sFor (iSeq (c2 subsD (cVar 0) (cCon (.int 1)))) (gVar 2)
     (sSeq (sAsg (gVar 3) (cKeep (aDisp cNil)))
     (sSeq (sFor (iSeq (cVar 1)) (gVar 4)
      (sSeq (sExp (cAppend (cVar 3) (c2 addD (cVar 4) (cTup (cCons (cCon (.int 0)) cNil)))))
      (sSeq (sExp (cAppend (cVar 3) (c2 addD (cVar 4) (cTup (cCons (cCon (.int 1)) cNil)))))
      sNext)))
     (sSeq (sAsg (gVar 1) (cVar 3))
     sNext))))
    (sSeq (sRet (cVar 1))
    sNext)))
@[irreducible] noncomputable def m_inputs_of : List D → M D := runDef 5 b_inputs_of
noncomputable def b_law_box : CS :=
    (sSeq (sAsg (gVar 2) (c2 addD (c2 mulD (cCon (.int 104729)) (cVar 1)) (cCon (.int 17))))
    (sSeq (sIf (tCmpB (c2 ltD (cVar 1) (c1 lenD (cVar 0))))
     (sSeq (sAsg (gVar 2) (c2 subsD (cVar 0) (cVar 1)))
     sNext)
     (sSeq (sIf (tCmpB (c2 gtD (c1 lenD (cVar 0)) (cCon (.int 0))))
      (sSeq (sAsg (gVar 2) (c2 addD (cVar 2) (c2 mulD (c2 modD (c2 subsD (cVar 0) (c2 modD (cVar 1) (c1 lenD (cVar 0)))) (cCon (.int 2147483629))) (cCon (.int 48611)))))
      sNext)
      sNext)
     sNext))
    (sSeq (sAsg (gVar 3) (c2 modD (c2 addD (c2 addD (c2 mulD (c2 modD (cVar 2) (cCon (.int 2147483629))) (cCon (.int 48271))) (c2 mulD (cCon (.int 7919)) (cVar 1))) (cCon (.int 11))) (cCon (.int 2147483629))))
    (sSeq (sRet (cKeep (aDisp (cCons (c2 mulD (cVar 2) (c1 intD (c2 geD (cVar 2) (c2 powD (cCon (.int 10)) (cCon (.int 18)))))) (cCons (cVar 3) cNil)))))
    sNext))))
@[irreducible] noncomputable def m_law_box : List D → M D := runDef 4 b_law_box
noncomputable def b_law_take : CS :=
    (sSeq (sIf (tCmpB (c2 gtD (c2 subsD (cVar 0) (cCon (.int 0))) (cCon (.int 0))))
     (sSeq (sAsg (gVar 2) (c2 modD (c2 subsD (cVar 0) (cCon (.int 0))) (cVar 1)))
     (sSeq (sAsg (gSubD (cVar 0) (cCon (.int 0))) (c2 fdivD (c2 subsD (cVar 0) (cCon (.int 0))) (cVar 1)))
     (sSeq (sRet (cVar 2))
     sNext)))
     sNext)
    (sSeq (sAsg (gSubD (cVar 0) (cCon (.int 1))) (c2 modD (c2 addD (c2 mulD (c2 subsD (cVar 0) (cCon (.int 1))) (cCon (.int 48271))) (cCon (.int 12345))) (cCon (.int 2147483647))))
    (sSeq (sRet (c2 modD (c2 addD (c2 fdivD (c2 modD (c2 mulD (c2 subsD (cVar 0) (cCon (.int 1))) (c2 subsD (cVar 0) (cCon (.int 1)))) (cCon (.int 2147483629))) (cCon (.int 7))) (c2 subsD (cVar 0) (cCon (.int 1)))) (cVar 1)))
    sNext)))
@[irreducible] noncomputable def m_law_take : List D → M D := runDef 3 b_law_take
noncomputable def b_law_deed : CS :=
    (sSeq (sAsg (gVar 4) (cCall m_law_take (cCons (cVar 0) (cCons (cVar 2) cNil))))
    (sSeq (sAsg (gVar 5) (cKeep (aComp 1 [0, 3] (MM.iRng1 (cVar 2)) (gVar 0) tTrue (cCall m_law_take (cCons (cVar 1) (cCons (cVar 2) cNil))))))
    (sSeq (sIf (tCmpB (c2 eqD (cVar 1) (cCon (.int 1))))
     (sSeq (sRet (cKeep (aComp 1 [5] (MM.iRng1 (cVar 2)) (gVar 0) tTrue (cTup (cCons (cVar 0) (cCons (c2 subsD (cVar 1) (cVar 0)) cNil))))))
     sNext)
     sNext)
    (sSeq (sIf (tCmpB (c2 eqD (cVar 1) (cCon (.int 2))))
     (sSeq (sRet (cKeep (aComp 1 [4] (MM.iRng1 (cVar 2)) (gVar 0) tTrue (cTup (cCons (cVar 1) (cCons (cCon (.int 0)) cNil))))))
     sNext)
     sNext)
    (sSeq (sIf (tCmpB (c2 eqD (cVar 1) (cCon (.int 3))))
     (sSeq (sRet (cKeep (aComp 1 [2, 4, 5] (MM.iRng1 (cVar 2)) (gVar 0) tTrue (cTup (cCons (c2 modD (c2 addD (cVar 0) (cVar 2)) (cVar 1)) (cCons (c2 subsD (cVar 3) (cVar 0)) cNil))))))
     sNext)
     sNext)
    (sSeq (sIf (tCmpB (c2 eqD (cVar 1) (cCon (.int 4))))
     (sSeq (sRet (cKeep (aComp 1 [4] (MM.iRng1 (cVar 2)) (gVar 0) tTrue (cTup (cCons (cVar 1) (cCons (cVar 0) cNil))))))
     sNext)
     sNext)
    (sSeq (sRet (cKeep (aComp 1 [0, 2, 5] (MM.iRng1 (cVar 2)) (gVar 0) tTrue (cTup (cCons (cCall m_law_take (cCons (cVar 1) (cCons (cVar 2) cNil))) (cCons (c2 subsD (cVar 3) (cVar 0)) cNil))))))
    sNext)))))))
@[irreducible] noncomputable def m_law_deed : List D → M D := runDef 6 b_law_deed
noncomputable def b_law_table : CS :=
    (sSeq (sAsg (gVar 1) (c2 addD (cCon (.int 1)) (cCall m_law_take (cCons (cVar 0) (cCons (cCon (.int 4)) cNil)))))
    (sSeq (sAsg (gVar 2) (c2 addD (cCon (.int 1)) (cCall m_law_take (cCons (cVar 0) (cCons (cCon (.int 4)) cNil)))))
    (sSeq (sAsg (gVar 3) (cCall m_law_take (cCons (cVar 0) (cCons (cCon (.int 6)) cNil))))
    (sSeq (sAsg (gVar 4) (cKeep (aDisp cNil)))
    (sSeq (sFor (MM.iRng1 (c2 addD (cCon (.int 1)) (cCall m_law_take (cCons (cVar 0) (cCons (cCon (.int 4)) cNil))))) (gVar 5)
     (sSeq (sAsg (gVar 6) (cTmpSub (aDisp (cCons (cCon (.int 0)) (cCons (cVar 3) (cCons (cVar 3) (cCons (c2 addD (cCon (.int 1)) (cCall m_law_take (cCons (cVar 0) (cCons (cCon (.int 2)) cNil)))) cNil))))) (cCall m_law_take (cCons (cVar 0) (cCons (cCon (.int 4)) cNil)))))
     (sSeq (sIf (tCmpB (c2 eqD (cVar 3) (cCon (.int 5))))
      (sSeq (sAsg (gVar 6) (c2 addD (cCon (.int 1)) (cCall m_law_take (cCons (cVar 0) (cCons (cCon (.int 2)) cNil)))))
      sNext)
      sNext)
     (sSeq (sExp (cAppend (cVar 4) (cCall m_law_deed (cCons (cVar 0) (cCons (cVar 6) (cCons (cVar 1) (cCons (cVar 2) cNil)))))))
     sNext))))
    (sSeq (sAsg (gVar 7) (cKeep (aComp 1 [4] (MM.iRng1 (cVar 1)) (gVar 0) tTrue (cKeep (aComp 1 [0] (iSeq (cVar 1)) (gVar 0) tTrue (c2 subsD (cVar 0) (cVar 1)))))))
    (sSeq (sIf (tCmpB (c2 eqD (cCall m_law_take (cCons (cVar 0) (cCons (cCon (.int 4)) cNil))) (cCon (.int 1))))
     (sSeq (sAsg (gVar 8) (cCall m_law_take (cCons (cVar 0) (cCons (cVar 1) cNil))))
     (sSeq (sAsg (gVar 9) (cCall m_law_take (cCons (cVar 0) (cCons (c1 lenD (cVar 4)) cNil))))
     (sSeq (sAsg (gTupD 2 (gsCons (gVar 10) (gsCons (gVar 11) gsNil))) (c2 subsD (c2 subsD (cVar 7) (cVar 8)) (cVar 9)))
     (sSeq (sAsg (gSubD (c2 subsD (cVar 7) (cVar 8)) (cVar 9)) (cTmpSub (aDisp (cCons (cTup (cCons (cCall m_law_take (cCons (cVar 0) (cCons (cVar 1) cNil))) (cCons (cVar 11) cNil))) (cCons (cTup (cCons (cVar 10) (cCons (cCall m_law_take (cCons (cVar 0) (cCons (cCon (.int 4)) cNil))) cNil))) cNil))) (cCall m_law_take (cCons (cVar 0) (cCons (cCon (.int 2)) cNil)))))
     sNext))))
     sNext)
    (sSeq (sRet (cTmp tupL (aComp 1 [] (iSeq (cVar 7)) (gVar 0) tTrue (c1 tupleD (cVar 0)))))
    sNext))))))))
@[irreducible] noncomputable def m_law_table : List D → M D := runDef 12 b_law_table
noncomputable def b_law_boards : CS :=
    (sSeq (sAsg (gVar 2) (cKeep (aDisp cNil)))
    (sSeq (sFor (MM.iRng1 (cCall m_law_take (cCons (cVar 0) (cCons (c2 addD (cVar 1) (cCon (.int 1))) cNil)))) (gVar 3)
     (sSeq (sAsg (gVar 4) (cCall m_law_table (cCons (cVar 0) cNil)))
     (sSeq (sExp (cAppend (cVar 2) (cTup (cCons (cVar 4) (cCons (cCall m_law_take (cCons (cVar 0) (cCons (c1 lenD (cVar 4)) cNil))) cNil)))))
     sNext)))
    (sSeq (sRet (cVar 2))
    sNext)))
@[irreducible] noncomputable def m_law_boards : List D → M D := runDef 5 b_law_boards
noncomputable def b_law_line : CS :=
    (sSeq (sIf (tOrB (tCmpB (c2 eqD (c1 lenD (cVar 1)) (cCon (.int 0)))) (tCmpB (c2 eqD (cCall m_law_take (cCons (cVar 0) (cCons (cCon (.int 4)) cNil))) (cCon (.int 0)))))
     (sSeq (sRet (cTup (cCons (cCon (.str "settle")) (cCons (cCall m_law_take (cCons (cVar 0) (cCons (cCon (.int 2)) cNil))) cNil))))
     sNext)
     sNext)
    (sSeq (sAsg (gVar 3) (cCall m_law_take (cCons (cVar 0) (cCons (c1 lenD (cVar 1)) cNil))))
    (sSeq (sAsg (gVar 4) (c2 subsD (c2 subsD (cVar 1) (cVar 3)) (cCon (.int 0))))
    (sSeq (sAsg (gVar 5) (cCall m_law_take (cCons (cVar 0) (cCons (c1 lenD (c2 subsD (cVar 4) (cCon (.int 0)))) cNil))))
    (sSeq (sAsg (gVar 6) (cKeep (aComp 1 [0, 2] (MM.iRng1 (c2 addD (cCon (.int 1)) (cTmp maxD (aComp 1 [5] (iSeq (cVar 4)) (gVar 0) tTrue (c2 subsD (c2 subsD (cVar 0) (cVar 1)) (cCon (.int 1))))))) (gVar 0) tTrue (cCall m_law_take (cCons (cVar 1) (cCons (cVar 2) cNil))))))
    (sSeq (sRet (cTup (cCons (cCon (.str "do")) (cCons (cVar 3) (cCons (cVar 5) (cCons (c1 tupleD (cVar 6)) cNil))))))
    sNext))))))
@[irreducible] noncomputable def m_law_line : List D → M D := runDef 7 b_law_line
noncomputable def b_law_house : CS :=
    (sSeq (sAsg (gVar 4) (cCall m_law_boards (cCons (cVar 0) (cCons (cVar 1) cNil))))
    (sSeq (sAsg (gVar 5) (cKeep (aDisp cNil)))
    (sSeq (sFor (MM.iRng1 (cVar 2)) (gVar 6)
     (sSeq (sAsg (gVar 7) (c2 addD (cCon (.int 1)) (cCall m_law_take (cCons (cVar 0) (cCons (cVar 3) cNil)))))
     (sSeq (sAsg (gVar 8) (cKeep (aComp 1 [0, 4, 7] (MM.iRng1 (cVar 7)) (gVar 0) tTrue (cCall m_law_line (cCons (cVar 1) (cCons (cVar 2) (cCons (cVar 3) cNil)))))))
     (sSeq (sExp (cAppend (cVar 5) (cTup (cCons (cTup (cCons (cCall m_law_take (cCons (cVar 0) (cCons (cVar 7) cNil))) (cCons (cCall m_law_take (cCons (cVar 0) (cCons (cVar 7) cNil))) cNil))) (cCons (c1 tupleD (cVar 8)) cNil)))))
     sNext))))
    (sSeq (sRet (cTup (cCons (c1 tupleD (cVar 4)) (cCons (c1 tupleD (cVar 5)) cNil))))
    sNext))))
@[irreducible] noncomputable def m_law_house : List D → M D := runDef 9 b_law_house
noncomputable def b_law_whole : CS :=
    (sSeq (sRet (cAnd (c1 (isInst ["int"]) (cVar 0)) (cNot (c1 (isInst ["bool"]) (cVar 0)))))
    sNext)
@[irreducible] noncomputable def m_law_whole : List D → M D := runDef 1 b_law_whole
noncomputable def b_law_inputs : CS :=
    (sSeq (sAsg (gVar 1) (cKeep (aDisp cNil)))
    (sSeq (sFor (MM.iRng1 (c2 shlD (cCon (.int 1)) (cVar 0))) (gVar 2)
     (sSeq (sExp (cAppend (cVar 1) (cTmp tupL (aComp 1 [0, 2] (MM.iRng1 (cVar 0)) (gVar 0) tTrue (c2 modD (c2 fdivD (cVar 2) (c2 shlD (cCon (.int 1)) (c2 subD (c2 subD (cVar 1) (cCon (.int 1))) (cVar 0)))) (cCon (.int 2)))))))
     sNext))
    (sSeq (sRet (cVar 1))
    sNext)))
@[irreducible] noncomputable def m_law_inputs : List D → M D := runDef 3 b_law_inputs
noncomputable def b_is_table : CS :=
    (sSeq (sIf (tOrB (tCmpB (c2 eqD (c1 lenD (cVar 0)) (cCon (.int 0)))) (tCmpB (c2 eqD (c1 lenD (c2 subsD (cVar 0) (cCon (.int 0)))) (cCon (.int 0)))))
     (sSeq (sRet (cCon (.bl false)))
     sNext)
     sNext)
    (sSeq (sRet (cTmp allD (aComp 1 [0] (iSeq (cVar 0)) (gVar 0) tTrue (cCall m_is_state (cCons (cVar 1) (cCons (cVar 0) cNil))))))
    sNext))
@[irreducible] noncomputable def m_is_table : List D → M D := runDef 1 b_is_table
noncomputable def b_look_at_boards : CS :=
    (sSeq (sFor (iEnum (cVar 0)) (gTupD 2 (gsCons (gVar 1) (gsCons (gVar 2) gsNil)))
     (sSeq (sAsg (gVar 3) (c2 subsD (cVar 2) (cCon (.int 0))))
     (sSeq (sIf (tOrB (tNotB (tVal (cCall m_is_table (cCons (cVar 3) cNil)))) (tNotB (tCmpB (cChain leD ltD (cCon (.int 0)) (c2 subsD (cVar 2) (cCon (.int 1))) (c1 lenD (cVar 3))))))
      (sSeq sBad
      sNext)
      sNext)
     sNext)))
    sNext)
@[irreducible] noncomputable def m_look_at_boards : List D → M D := runDef 4 b_look_at_boards
noncomputable def b_look_at_hand : CS :=
    (sSeq (sAsg (gVar 3) (c2 subsD (cVar 2) (cCon (.int 1))))
    (sSeq (sIf (tNotB (tVal (cCall m_are_lines (cCons (c2 subsD (cVar 2) (cCon (.int 0))) (cCons (cVar 3) cNil)))))
     (sSeq sBad
     sNext)
     sNext)
    (sSeq (sFor (iEnum (cVar 3)) (gTupD 2 (gsCons (gVar 4) (gsCons (gVar 5) gsNil)))
     (sSeq (sIf (tNotB (tVal (cCall m_is_line (cCons (cVar 0) (cCons (cVar 3) (cCons (cVar 5) cNil))))))
      (sSeq sBad
      sNext)
      sNext)
     sNext))
    sNext)))
@[irreducible] noncomputable def m_look_at_hand : List D → M D := runDef 6 b_look_at_hand
noncomputable def b_look : CS :=
    (sSeq (sAsg (gVar 1) (c2 subsD (cVar 0) (cCon (.int 0))))
    (sSeq (sAsg (gVar 2) (c2 subsD (cVar 0) (cCon (.int 1))))
    (sSeq (sExp (cCall m_look_at_boards (cCons (cVar 1) cNil)))
    (sSeq (sIf (tNotB (tCmpB (cChain leD leD (cCon (.int 2)) (c1 lenD (cVar 2)) (cCon (.int 3)))))
     (sSeq sBad
     sNext)
     sNext)
    (sSeq (sAsg (gVar 3) (cKeep (aComp 2 [] (iSeq (cVar 1)) (gTupD 2 (gsCons (gVar 0) (gsCons (gVar 1) gsNil))) tTrue (cCall m_answer_counts (cCons (cVar 0) cNil)))))
    (sSeq (sFor (iEnum (cVar 2)) (gTupD 2 (gsCons (gVar 4) (gsCons (gVar 5) gsNil)))
     (sSeq (sExp (cCall m_look_at_hand (cCons (cVar 3) (cCons (cVar 4) (cCons (cVar 5) cNil)))))
     sNext))
    (sSeq (sRet (cCon (.bl true)))
    sNext)))))))
@[irreducible] noncomputable def m_look : List D → M D := runDef 6 b_look
noncomputable def b_law_right : CS :=
    (sSeq (sIf (tCmpB (c2 isntD (cCall m_look (cCons (cVar 0) cNil)) (cCon (.bl true))))
     (sSeq (sRet (cCon (.bl false)))
     sNext)
     sNext)
    (sSeq (sAsg (gVar 1) (cCall m_law_inputs (cCons (c1 lenD (c2 subsD (cVar 0) (cCon (.int 1)))) cNil)))
    (sSeq (sFor (MM.iRng1 (cCon (.int 2))) (gVar 2)
     (sSeq (sAsg (gVar 3) (cCall m_inputs_of (cCons (cVar 0) cNil)))
     (sSeq (sIf (tOrB (tNotB (tVal (c1 (isInst ["list"]) (cVar 3)))) (tCmpB (c2 neD (cVar 3) (cVar 1))))
      (sSeq (sRet (cCon (.bl false)))
      sNext)
      sNext)
     (sSeq (sFor (iSeq (cVar 3)) (gVar 4)
      (sSeq (sIf (tOrB (tNotB (tVal (c1 (isInst ["tuple"]) (cVar 4)))) (tNotB (tVal (cTmp allD (aComp 1 [] (iSeq (cVar 4)) (gVar 0) tTrue (cCall m_law_whole (cCons (cVar 0) cNil)))))))
       (sSeq (sRet (cCon (.bl false)))
       sNext)
       sNext)
      sNext))
     (sSeq (sExp (cClear (cVar 3)))
     sNext)))))
    (sSeq (sRet (cCon (.bl true)))
    sNext))))
@[irreducible] noncomputable def m_law_right : List D → M D := runDef 5 b_law_right
noncomputable def b_law : CS :=
    (sSeq (sAsg (gVar 1) (cKeep (aDisp cNil)))
    (sSeq (sFor (MM.iRng1 (c2 addD (cCon (.int 2)) (cTmp lenL (aSlice (cVar 0) (oSome (cCon (.int 2))) (oSome (cCon (.int 6))))))) (gVar 2)
     (sSeq (sAsg (gVar 3) (cCall m_law_box (cCons (cVar 0) (cCons (cVar 2) cNil))))
     (sSeq (sAsg (gVar 4) (c2 eqD (cCall m_law_take (cCons (cVar 3) (cCons (cCon (.int 8)) cNil))) (cCon (.int 1))))
     (sSeq (sAsg (gVar 5) (cCall m_law_house (cCons (cVar 3) (cCons (cTmpSub (aDisp (cCons (cCon (.int 4)) (cCons (cCon (.int 7)) cNil))) (c1 intD (cVar 4))) (cCons (c2 addD (cCon (.int 2)) (cCall m_law_take (cCons (cVar 3) (cCons (cCon (.int 2)) cNil)))) (cCons (cTmpSub (aDisp (cCons (cCon (.int 8)) (cCons (cCon (.int 12)) cNil))) (c1 intD (cVar 4))) cNil))))))
     (sSeq (sIf (tAndB (tVal (cVar 4)) (tCmpB (c2 isntD (cCall m_look (cCons (cVar 5) cNil)) (cCon (.bl true)))))
      (sSeq (sRet (cCon (.bl false)))
      sNext)
      sNext)
     (sSeq (sIf (tNotB (tVal (cVar 4)))
      (sSeq (sExp (cAppend (cVar 1) (cVar 5)))
      sNext)
      sNext)
     sNext))))))
    (sSeq (sRet (cTmp allD (aComp 1 [] (iSeq (c2 addD (cVar 1) (cKeep (aSlice (cVar 1) oNone (oSome (cCon (.int 1))))))) (gVar 0) tTrue (cCall m_law_right (cCons (cVar 0) cNil)))))
    sNext)))
@[irreducible] noncomputable def m_law : List D → M D := runDef 6 b_law
end My
namespace My
open PySem PySem.Spec PyProof.Rows L2 MM
def top (i : Nat) : Stmt := PySem.Challenge.pw_pactboards_k16_houses_and_inputs.main.body.getD i (.Pass ⟨0, 0, 0, 0⟩)
abbrev s_answers : Stmt := top 4
abbrev s_is_state : Stmt := top 6
abbrev s_answer_counts : Stmt := top 10
abbrev s_are_lines : Stmt := top 12
abbrev s_is_line : Stmt := top 13
abbrev s_inputs_of : Stmt := top 14
abbrev s_law_box : Stmt := top 16
abbrev s_law_take : Stmt := top 17
abbrev s_law_deed : Stmt := top 18
abbrev s_law_table : Stmt := top 19
abbrev s_law_boards : Stmt := top 20
abbrev s_law_line : Stmt := top 21
abbrev s_law_house : Stmt := top 22
abbrev s_law_whole : Stmt := top 23
abbrev s_law_inputs : Stmt := top 24
abbrev s_is_table : Stmt := top 5
abbrev s_look_at_boards : Stmt := top 9
abbrev s_look_at_hand : Stmt := top 11
abbrev s_look : Stmt := top 8
abbrev s_law_right : Stmt := top 25
abbrev s_law : Stmt := top 26
theorem nk_law_b : NameOk "_law_b" := ⟨by decide +kernel, by decide +kernel, by decide +kernel⟩
theorem nk_law_boards : NameOk "_law_boards" := ⟨by decide +kernel, by decide +kernel, by decide +kernel⟩
theorem nk_law_boards_here : NameOk "_law_boards_here" := ⟨by decide +kernel, by decide +kernel, by decide +kernel⟩
theorem nk_law_box : NameOk "_law_box" := ⟨by decide +kernel, by decide +kernel, by decide +kernel⟩
theorem nk_law_box_here : NameOk "_law_box_here" := ⟨by decide +kernel, by decide +kernel, by decide +kernel⟩
theorem nk_law_cell : NameOk "_law_cell" := ⟨by decide +kernel, by decide +kernel, by decide +kernel⟩
theorem nk_law_d : NameOk "_law_d" := ⟨by decide +kernel, by decide +kernel, by decide +kernel⟩
theorem nk_law_deed : NameOk "_law_deed" := ⟨by decide +kernel, by decide +kernel, by decide +kernel⟩
theorem nk_law_deed_here : NameOk "_law_deed_here" := ⟨by decide +kernel, by decide +kernel, by decide +kernel⟩
theorem nk_law_deeds : NameOk "_law_deeds" := ⟨by decide +kernel, by decide +kernel, by decide +kernel⟩
theorem nk_law_digit : NameOk "_law_digit" := ⟨by decide +kernel, by decide +kernel, by decide +kernel⟩
theorem nk_law_due : NameOk "_law_due" := ⟨by decide +kernel, by decide +kernel, by decide +kernel⟩
theorem nk_law_found : NameOk "_law_found" := ⟨by decide +kernel, by decide +kernel, by decide +kernel⟩
theorem nk_law_goal : NameOk "_law_goal" := ⟨by decide +kernel, by decide +kernel, by decide +kernel⟩
theorem nk_law_goals : NameOk "_law_goals" := ⟨by decide +kernel, by decide +kernel, by decide +kernel⟩
theorem nk_law_hands : NameOk "_law_hands" := ⟨by decide +kernel, by decide +kernel, by decide +kernel⟩
theorem nk_law_house : NameOk "_law_house" := ⟨by decide +kernel, by decide +kernel, by decide +kernel⟩
theorem nk_law_house_here : NameOk "_law_house_here" := ⟨by decide +kernel, by decide +kernel, by decide +kernel⟩
theorem nk_law_houses : NameOk "_law_houses" := ⟨by decide +kernel, by decide +kernel, by decide +kernel⟩
theorem nk_law_inputs : NameOk "_law_inputs" := ⟨by decide +kernel, by decide +kernel, by decide +kernel⟩
theorem nk_law_inputs_here : NameOk "_law_inputs_here" := ⟨by decide +kernel, by decide +kernel, by decide +kernel⟩
theorem nk_law_k : NameOk "_law_k" := ⟨by decide +kernel, by decide +kernel, by decide +kernel⟩
theorem nk_law_kind : NameOk "_law_kind" := ⟨by decide +kernel, by decide +kernel, by decide +kernel⟩
theorem nk_law_large : NameOk "_law_large" := ⟨by decide +kernel, by decide +kernel, by decide +kernel⟩
theorem nk_law_line : NameOk "_law_line" := ⟨by decide +kernel, by decide +kernel, by decide +kernel⟩
theorem nk_law_lines : NameOk "_law_lines" := ⟨by decide +kernel, by decide +kernel, by decide +kernel⟩
theorem nk_law_many : NameOk "_law_many" := ⟨by decide +kernel, by decide +kernel, by decide +kernel⟩
theorem nk_law_most : NameOk "_law_most" := ⟨by decide +kernel, by decide +kernel, by decide +kernel⟩
theorem nk_law_n : NameOk "_law_n" := ⟨by decide +kernel, by decide +kernel, by decide +kernel⟩
theorem nk_law_one : NameOk "_law_one" := ⟨by decide +kernel, by decide +kernel, by decide +kernel⟩
theorem nk_law_right : NameOk "_law_right" := ⟨by decide +kernel, by decide +kernel, by decide +kernel⟩
theorem nk_law_row : NameOk "_law_row" := ⟨by decide +kernel, by decide +kernel, by decide +kernel⟩
theorem nk_law_rows : NameOk "_law_rows" := ⟨by decide +kernel, by decide +kernel, by decide +kernel⟩
theorem nk_law_s : NameOk "_law_s" := ⟨by decide +kernel, by decide +kernel, by decide +kernel⟩
theorem nk_law_script : NameOk "_law_script" := ⟨by decide +kernel, by decide +kernel, by decide +kernel⟩
theorem nk_law_seed : NameOk "_law_seed" := ⟨by decide +kernel, by decide +kernel, by decide +kernel⟩
theorem nk_law_some : NameOk "_law_some" := ⟨by decide +kernel, by decide +kernel, by decide +kernel⟩
theorem nk_law_states : NameOk "_law_states" := ⟨by decide +kernel, by decide +kernel, by decide +kernel⟩
theorem nk_law_table : NameOk "_law_table" := ⟨by decide +kernel, by decide +kernel, by decide +kernel⟩
theorem nk_law_table_here : NameOk "_law_table_here" := ⟨by decide +kernel, by decide +kernel, by decide +kernel⟩
theorem nk_law_take : NameOk "_law_take" := ⟨by decide +kernel, by decide +kernel, by decide +kernel⟩
theorem nk_law_told : NameOk "_law_told" := ⟨by decide +kernel, by decide +kernel, by decide +kernel⟩
theorem nk_law_top : NameOk "_law_top" := ⟨by decide +kernel, by decide +kernel, by decide +kernel⟩
theorem nk_law_way : NameOk "_law_way" := ⟨by decide +kernel, by decide +kernel, by decide +kernel⟩
theorem nk_law_whole : NameOk "_law_whole" := ⟨by decide +kernel, by decide +kernel, by decide +kernel⟩
theorem nk_answer_counts : NameOk "answer_counts" := ⟨by decide +kernel, by decide +kernel, by decide +kernel⟩
theorem nk_answers : NameOk "answers" := ⟨by decide +kernel, by decide +kernel, by decide +kernel⟩
theorem nk_are_lines : NameOk "are_lines" := ⟨by decide +kernel, by decide +kernel, by decide +kernel⟩
theorem nk_board : NameOk "board" := ⟨by decide +kernel, by decide +kernel, by decide +kernel⟩
theorem nk_boards : NameOk "boards" := ⟨by decide +kernel, by decide +kernel, by decide +kernel⟩
theorem nk_counts : NameOk "counts" := ⟨by decide +kernel, by decide +kernel, by decide +kernel⟩
theorem nk_deed : NameOk "deed" := ⟨by decide +kernel, by decide +kernel, by decide +kernel⟩
theorem nk_goal : NameOk "goal" := ⟨by decide +kernel, by decide +kernel, by decide +kernel⟩
theorem nk_goals : NameOk "goals" := ⟨by decide +kernel, by decide +kernel, by decide +kernel⟩
theorem nk_hand : NameOk "hand" := ⟨by decide +kernel, by decide +kernel, by decide +kernel⟩
theorem nk_hands : NameOk "hands" := ⟨by decide +kernel, by decide +kernel, by decide +kernel⟩
theorem nk_house : NameOk "house" := ⟨by decide +kernel, by decide +kernel, by decide +kernel⟩
theorem nk_inputs : NameOk "inputs" := ⟨by decide +kernel, by decide +kernel, by decide +kernel⟩
theorem nk_inputs_of : NameOk "inputs_of" := ⟨by decide +kernel, by decide +kernel, by decide +kernel⟩
theorem nk_is_line : NameOk "is_line" := ⟨by decide +kernel, by decide +kernel, by decide +kernel⟩
theorem nk_is_state : NameOk "is_state" := ⟨by decide +kernel, by decide +kernel, by decide +kernel⟩
theorem nk_is_table : NameOk "is_table" := ⟨by decide +kernel, by decide +kernel, by decide +kernel⟩
theorem nk_k : NameOk "k" := ⟨by decide +kernel, by decide +kernel, by decide +kernel⟩
theorem nk_line : NameOk "line" := ⟨by decide +kernel, by decide +kernel, by decide +kernel⟩
theorem nk_lines : NameOk "lines" := ⟨by decide +kernel, by decide +kernel, by decide +kernel⟩
theorem nk_longer : NameOk "longer" := ⟨by decide +kernel, by decide +kernel, by decide +kernel⟩
theorem nk_look : NameOk "look" := ⟨by decide +kernel, by decide +kernel, by decide +kernel⟩
theorem nk_look_at_boards : NameOk "look_at_boards" := ⟨by decide +kernel, by decide +kernel, by decide +kernel⟩
theorem nk_look_at_hand : NameOk "look_at_hand" := ⟨by decide +kernel, by decide +kernel, by decide +kernel⟩
theorem nk_row : NameOk "row" := ⟨by decide +kernel, by decide +kernel, by decide +kernel⟩
theorem nk_table : NameOk "table" := ⟨by decide +kernel, by decide +kernel, by decide +kernel⟩
theorem nk_told : NameOk "told" := ⟨by decide +kernel, by decide +kernel, by decide +kernel⟩
theorem bt_all : bootBuiltins ("all" : Str) = some (.builtin "all") := by decide +kernel
theorem bt_bool : bootBuiltins ("bool" : Str) = some (.type "bool") := by decide +kernel
theorem bt_int : bootBuiltins ("int" : Str) = some (.type "int") := by decide +kernel
theorem bt_isinstance : bootBuiltins ("isinstance" : Str) = some (.builtin "isinstance") := by decide +kernel
theorem bt_len : bootBuiltins ("len" : Str) = some (.builtin "len") := by decide +kernel
theorem bt_list : bootBuiltins ("list" : Str) = some (.type "list") := by decide +kernel
theorem bt_max : bootBuiltins ("max" : Str) = some (.builtin "max") := by decide +kernel
theorem bt_tuple : bootBuiltins ("tuple" : Str) = some (.type "tuple") := by decide +kernel
structure Txt (K : PySem.W.Frag) (mg : Str → Option Value) where
  a_answers : Addr
  fd_answers : FuncData
  F_answers : Fun K "answers" "answers" s_answers a_answers fd_answers
  m_answers : mg "answers" = some (.ref a_answers)
  a_is_state : Addr
  fd_is_state : FuncData
  F_is_state : Fun K "is_state" "is_state" s_is_state a_is_state fd_is_state
  m_is_state : mg "is_state" = some (.ref a_is_state)
  a_answer_counts : Addr
  fd_answer_counts : FuncData
  F_answer_counts : Fun K "answer_counts" "answer_counts" s_answer_counts a_answer_counts fd_answer_counts
  m_answer_counts : mg "answer_counts" = some (.ref a_answer_counts)
  a_are_lines : Addr
  fd_are_lines : FuncData
  F_are_lines : Fun K "are_lines" "are_lines" s_are_lines a_are_lines fd_are_lines
  m_are_lines : mg "are_lines" = some (.ref a_are_lines)
  a_is_line : Addr
  fd_is_line : FuncData
  F_is_line : Fun K "is_line" "is_line" s_is_line a_is_line fd_is_line
  m_is_line : mg "is_line" = some (.ref a_is_line)
  a_inputs_of : Addr
  fd_inputs_of : FuncData
  F_inputs_of : Fun K "inputs_of" "inputs_of" s_inputs_of a_inputs_of fd_inputs_of
  m_inputs_of : mg "inputs_of" = some (.ref a_inputs_of)
  a_law_box : Addr
  fd_law_box : FuncData
  F_law_box : Fun K "_law_box" "_law_box" s_law_box a_law_box fd_law_box
  m_law_box : mg "_law_box" = some (.ref a_law_box)
  a_law_take : Addr
  fd_law_take : FuncData
  F_law_take : Fun K "_law_take" "_law_take" s_law_take a_law_take fd_law_take
  m_law_take : mg "_law_take" = some (.ref a_law_take)
  a_law_deed : Addr
  fd_law_deed : FuncData
  F_law_deed : Fun K "_law_deed" "_law_deed" s_law_deed a_law_deed fd_law_deed
  m_law_deed : mg "_law_deed" = some (.ref a_law_deed)
  a_law_table : Addr
  fd_law_table : FuncData
  F_law_table : Fun K "_law_table" "_law_table" s_law_table a_law_table fd_law_table
  m_law_table : mg "_law_table" = some (.ref a_law_table)
  a_law_boards : Addr
  fd_law_boards : FuncData
  F_law_boards : Fun K "_law_boards" "_law_boards" s_law_boards a_law_boards fd_law_boards
  m_law_boards : mg "_law_boards" = some (.ref a_law_boards)
  a_law_line : Addr
  fd_law_line : FuncData
  F_law_line : Fun K "_law_line" "_law_line" s_law_line a_law_line fd_law_line
  m_law_line : mg "_law_line" = some (.ref a_law_line)
  a_law_house : Addr
  fd_law_house : FuncData
  F_law_house : Fun K "_law_house" "_law_house" s_law_house a_law_house fd_law_house
  m_law_house : mg "_law_house" = some (.ref a_law_house)
  a_law_whole : Addr
  fd_law_whole : FuncData
  F_law_whole : Fun K "_law_whole" "_law_whole" s_law_whole a_law_whole fd_law_whole
  m_law_whole : mg "_law_whole" = some (.ref a_law_whole)
  a_law_inputs : Addr
  fd_law_inputs : FuncData
  F_law_inputs : Fun K "_law_inputs" "_law_inputs" s_law_inputs a_law_inputs fd_law_inputs
  m_law_inputs : mg "_law_inputs" = some (.ref a_law_inputs)
  a_is_table : Addr
  fd_is_table : FuncData
  F_is_table : Fun K "is_table" "is_table" s_is_table a_is_table fd_is_table
  m_is_table : mg "is_table" = some (.ref a_is_table)
  a_look_at_boards : Addr
  fd_look_at_boards : FuncData
  F_look_at_boards : Fun K "look_at_boards" "look_at_boards" s_look_at_boards a_look_at_boards fd_look_at_boards
  m_look_at_boards : mg "look_at_boards" = some (.ref a_look_at_boards)
  a_look_at_hand : Addr
  fd_look_at_hand : FuncData
  F_look_at_hand : Fun K "look_at_hand" "look_at_hand" s_look_at_hand a_look_at_hand fd_look_at_hand
  m_look_at_hand : mg "look_at_hand" = some (.ref a_look_at_hand)
  a_look : Addr
  fd_look : FuncData
  F_look : Fun K "look" "look" s_look a_look fd_look
  m_look : mg "look" = some (.ref a_look)
  a_law_right : Addr
  fd_law_right : FuncData
  F_law_right : Fun K "_law_right" "_law_right" s_law_right a_law_right fd_law_right
  m_law_right : mg "_law_right" = some (.ref a_law_right)
  a_law : Addr
  fd_law : FuncData
  F_law : Fun K "law" "law" s_law a_law fd_law
  m_law : mg "law" = some (.ref a_law)
  z_all : mg "all" = none
  z_bool : mg "bool" = none
  z_enumerate : mg "enumerate" = none
  z_int : mg "int" = none
  z_isinstance : mg "isinstance" = none
  z_len : mg "len" = none
  z_list : mg "list" = none
  z_max : mg "max" = none
  z_range : mg "range" = none
  z_tuple : mg "tuple" = none
section
variable {P : Program} {w : World} {K : PySem.W.Frag} {mg : Str → Option Value} {base : Heap}
theorem lk_answers_max : (defScope s_answers).names.lookup ("max" : Str) = some .globalImplicit := by decide +kernel
theorem lk_answers_table : (defScope s_answers).names.lookup ("table" : Str) = some .local := by decide +kernel
theorem sc_answers : FnScope ["table", "deed"] ["table", "deed"] (defScope s_answers) := ⟨rfl, rfl, rfl, by decide +kernel, rfl, by decide +kernel, by decide +kernel⟩
theorem ok_answers (T : Txt K mg) : FnOk P w K mg base CX0 1 T.a_answers T.fd_answers ["table", "deed"] (spOf K 2 m_answers) := by
  have q : FnOk P w K mg base CX0 (0 + 1) T.a_answers T.fd_answers ["table", "deed"] (spOf K 2 (runDef 2 b_answers)) := by
    refine fn_ok' (k := 0) (N := ["table", "deed"]) (body := b_answers) T.F_answers sc_answers rfl rfl (fun cdv A outer s H E hr => ?_)
    exact (sss_cons (ss_ret (se_op od_add se_int (se_tmpB (cl_max rfl) (sc_def.glo _ lk_answers_max) T.z_max bt_max (sl_comp rfl (compScope_of sc_def (by decide +kernel)) (compNames_of (N0 := ["table", "deed"]) (N := ["row", "deed"]) (n := 1) (ix := [1]) rfl (by decide +kernel)) (si_seq (se_nm (k := .local) sc_def 0 rfl lk_answers_table nk_table)) (fun _ _ _ => ⟨(sg_nm (k := .local) (sc_comp (rfl)) 0 (show List.Nodup (["row", "deed"] : List Str) by decide +kernel) rfl (by decide +kernel)), sifs_nil, (se_sub (se_sub (se_nm (k := .local) (sc_comp (rfl)) 0 rfl (by decide +kernel) nk_row) (se_nm (k := .free) (sc_comp (rfl)) 1 rfl (by decide +kernel) nk_deed) (fun _ _ => rfl)) se_int (fun _ _ => rfl))⟩)))))
    sss_nil)
  unfold m_answers
  exact q
theorem lk_is_state_all : (defScope s_is_state).names.lookup ("all" : Str) = some .globalImplicit := by decide +kernel
theorem lk_is_state_len : (defScope s_is_state).names.lookup ("len" : Str) = some .globalImplicit := by decide +kernel
theorem lk_is_state_row : (defScope s_is_state).names.lookup ("row" : Str) = some .local := by decide +kernel
theorem lk_is_state_table : (defScope s_is_state).names.lookup ("table" : Str) = some .cell := by decide +kernel
theorem sc_is_state : FnScope ["table", "row"] ["table", "row"] (defScope s_is_state) := ⟨rfl, rfl, rfl, by decide +kernel, rfl, by decide +kernel, by decide +kernel⟩
theorem ok_is_state (T : Txt K mg) : FnOk P w K mg base CX0 1 T.a_is_state T.fd_is_state ["table", "row"] (spOf K 2 m_is_state) := by
  have q : FnOk P w K mg base CX0 (0 + 1) T.a_is_state T.fd_is_state ["table", "row"] (spOf K 2 (runDef 2 b_is_state)) := by
    refine fn_ok' (k := 0) (N := ["table", "row"]) (body := b_is_state) T.F_is_state sc_is_state rfl rfl (fun cdv A outer s H E hr => ?_)
    exact (sss_cons (ss_if (st_cmp (od_ne (room_cx hr)) (se_callB1 cd_len (sc_def.glo _ lk_is_state_len) T.z_len bt_len (se_nm (k := .local) sc_def 1 rfl lk_is_state_row nk_row)) (se_callB1 cd_len (sc_def.glo _ lk_is_state_len) T.z_len bt_len (se_sub (se_nm (k := .cell) sc_def 0 rfl lk_is_state_table nk_table) se_int (fun _ _ => rfl))) (nomark _))
     (sss_cons (ss_ret se_bl)
     sss_nil)
     sss_nil)
    (sss_cons (ss_ret (se_tmpB (cl_all rfl) (sc_def.glo _ lk_is_state_all) T.z_all bt_all (sl_comp rfl (compScope_of sc_def (by decide +kernel)) (compNames_of (N0 := ["table", "row"]) (N := ["goal", "told", "table"]) (n := 2) (ix := [0]) rfl (by decide +kernel)) (si_seq (se_nm (k := .local) sc_def 1 rfl lk_is_state_row nk_row)) (fun _ _ _ => ⟨(sg_tup rfl (sgs_cons (sg_nm (k := .local) (sc_comp (rfl)) 0 (show List.Nodup (["goal", "told", "table"] : List Str) by decide +kernel) rfl (by decide +kernel)) (sgs_cons (sg_nm (k := .local) (sc_comp (rfl)) 1 (show List.Nodup (["goal", "told", "table"] : List Str) by decide +kernel) rfl (by decide +kernel)) sgs_nil))), sifs_nil, (se_and (se_chain od_le od_lt se_int (se_nm (k := .local) (sc_comp (rfl)) 0 rfl (by decide +kernel) nk_goal) (se_callB1 cd_len ((sc_comp (rfl)).glo _ (by decide +kernel)) T.z_len bt_len (se_nm (k := .free) (sc_comp (rfl)) 2 rfl (by decide +kernel) nk_table))) (se_one (se_cmp od_ge (se_nm (k := .local) (sc_comp (rfl)) 1 rfl (by decide +kernel) nk_told) se_int (nomark _))))⟩))))
    sss_nil))
  unfold m_is_state
  exact q
theorem lk_answer_counts_len : (defScope s_answer_counts).names.lookup ("len" : Str) = some .globalImplicit := by decide +kernel
theorem lk_answer_counts_range : (defScope s_answer_counts).names.lookup ("range" : Str) = some .globalImplicit := by decide +kernel
theorem lk_answer_counts_table : (defScope s_answer_counts).names.lookup ("table" : Str) = some .cell := by decide +kernel
theorem sc_answer_counts : FnScope ["table"] ["table"] (defScope s_answer_counts) := ⟨rfl, rfl, rfl, by decide +kernel, rfl, by decide +kernel, by decide +kernel⟩
theorem ok_answer_counts (T : Txt K mg) : FnOk P w K mg base CX0 2 T.a_answer_counts T.fd_answer_counts ["table"] (spOf K 1 m_answer_counts) := by
  have G_answers := ok_answers (P := P) (w := w) (base := base) T
  have B_answers := T.F_answers.binds (ps := ["table", "deed"]) fun _ _ _ _ _ _ us hl => match us, hl with | [_, _], _ => rfl
  have q : FnOk P w K mg base CX0 (1 + 1) T.a_answer_counts T.fd_answer_counts ["table"] (spOf K 1 (runDef 1 b_answer_counts)) := by
    refine fn_ok' (k := 1) (N := ["table"]) (body := b_answer_counts) T.F_answer_counts sc_answer_counts rfl rfl (fun cdv A outer s H E hr => ?_)
    exact (sss_cons (ss_ret (se_keep (sl_comp rfl (compScope_of sc_def (by decide +kernel)) (compNames_of (N0 := ["table"]) (N := ["deed", "table"]) (n := 1) (ix := [0]) rfl (by decide +kernel)) (si_range1 (sc_def.glo _ lk_answer_counts_range) T.z_range (se_callB1 cd_len (sc_def.glo _ lk_answer_counts_len) T.z_len bt_len (se_sub (se_nm (k := .cell) sc_def 0 rfl lk_answer_counts_table nk_table) se_int (fun _ _ => rfl)))) (fun _ _ _ => ⟨(sg_nm (k := .local) (sc_comp (rfl)) 0 (show List.Nodup (["deed", "table"] : List Str) by decide +kernel) rfl (by decide +kernel)), sifs_nil, (se_calls (sc_comp (rfl)) (by decide +kernel) G_answers (hr.mono (by decide)) T.m_answers T.F_answers.kp B_answers nk_answers (sa_cons (se_nm (k := .free) (sc_comp (rfl)) 1 rfl (by decide +kernel) nk_table) (sa_cons (se_nm (k := .local) (sc_comp (rfl)) 0 rfl (by decide +kernel) nk_deed) sa_nil)) (cons_len (cons_len nil_len)))⟩))))
    sss_nil)
  unfold m_answer_counts
  exact q
theorem lk_are_lines_all : (defScope s_are_lines).names.lookup ("all" : Str) = some .globalImplicit := by decide +kernel
theorem lk_are_lines_goals : (defScope s_are_lines).names.lookup ("goals" : Str) = some .local := by decide +kernel
theorem sc_are_lines : FnScope ["goals", "lines"] ["goals", "lines"] (defScope s_are_lines) := ⟨rfl, rfl, rfl, by decide +kernel, rfl, by decide +kernel, by decide +kernel⟩
theorem ok_are_lines (T : Txt K mg) : FnOk P w K mg base CX0 1 T.a_are_lines T.fd_are_lines ["goals", "lines"] (spOf K 2 m_are_lines) := by
  have q : FnOk P w K mg base CX0 (0 + 1) T.a_are_lines T.fd_are_lines ["goals", "lines"] (spOf K 2 (runDef 2 b_are_lines)) := by
    refine fn_ok' (k := 0) (N := ["goals", "lines"]) (body := b_are_lines) T.F_are_lines sc_are_lines rfl rfl (fun cdv A outer s H E hr => ?_)
    exact (sss_cons (ss_ret (se_tmpB (cl_all rfl) (sc_def.glo _ lk_are_lines_all) T.z_all bt_all (sl_comp rfl (compScope_of sc_def (by decide +kernel)) (compNames_of (N0 := ["goals", "lines"]) (N := ["goal", "lines"]) (n := 1) (ix := [1]) rfl (by decide +kernel)) (si_seq (se_nm (k := .local) sc_def 0 rfl lk_are_lines_goals nk_goals)) (fun _ _ _ => ⟨(sg_nm (k := .local) (sc_comp (rfl)) 0 (show List.Nodup (["goal", "lines"] : List Str) by decide +kernel) rfl (by decide +kernel)), sifs_nil, (se_chain od_le od_lt se_int (se_nm (k := .local) (sc_comp (rfl)) 0 rfl (by decide +kernel) nk_goal) (se_callB1 cd_len ((sc_comp (rfl)).glo _ (by decide +kernel)) T.z_len bt_len (se_nm (k := .free) (sc_comp (rfl)) 1 rfl (by decide +kernel) nk_lines)))⟩))))
    sss_nil)
  unfold m_are_lines
  exact q
theorem lk_is_line_are_lines : (defScope s_is_line).names.lookup ("are_lines" : Str) = some .globalImplicit := by decide +kernel
theorem lk_is_line_board : (defScope s_is_line).names.lookup ("board" : Str) = some .local := by decide +kernel
theorem lk_is_line_counts : (defScope s_is_line).names.lookup ("counts" : Str) = some .local := by decide +kernel
theorem lk_is_line_deed : (defScope s_is_line).names.lookup ("deed" : Str) = some .local := by decide +kernel
theorem lk_is_line_goals : (defScope s_is_line).names.lookup ("goals" : Str) = some .local := by decide +kernel
theorem lk_is_line_len : (defScope s_is_line).names.lookup ("len" : Str) = some .globalImplicit := by decide +kernel
theorem lk_is_line_line : (defScope s_is_line).names.lookup ("line" : Str) = some .local := by decide +kernel
theorem lk_is_line_lines : (defScope s_is_line).names.lookup ("lines" : Str) = some .local := by decide +kernel
theorem sc_is_line : FnScope ["counts", "lines", "line", "board", "deed", "goals"] ["counts", "lines", "line"] (defScope s_is_line) := ⟨rfl, rfl, rfl, by decide +kernel, rfl, by decide +kernel, by decide +kernel⟩
theorem ok_is_line (T : Txt K mg) : FnOk P w K mg base CX0 2 T.a_is_line T.fd_is_line ["counts", "lines", "line"] (spOf K 3 m_is_line) := by
  have G_are_lines := ok_are_lines (P := P) (w := w) (base := base) T
  have B_are_lines := T.F_are_lines.binds (ps := ["goals", "lines"]) fun _ _ _ _ _ _ us hl => match us, hl with | [_, _], _ => rfl
  have q : FnOk P w K mg base CX0 (1 + 1) T.a_is_line T.fd_is_line ["counts", "lines", "line"] (spOf K 3 (runDef 6 b_is_line)) := by
    refine fn_ok' (k := 1) (N := ["counts", "lines", "line", "board", "deed", "goals"]) (body := b_is_line) T.F_is_line sc_is_line rfl rfl (fun cdv A outer s H E hr => ?_)
    exact (sss_cons (ss_if (st_cmp (od_eq (room_cx hr)) (se_sub (se_nm (k := .local) sc_def 2 rfl lk_is_line_line nk_line) se_int (fun _ _ => rfl)) se_str (nomark _))
     (sss_cons (ss_ret (se_cmp od_in (se_sub (se_nm (k := .local) sc_def 2 rfl lk_is_line_line nk_line) se_int (fun _ _ => rfl)) (se_tup (sa_cons se_int (sa_cons se_int sa_nil))) rfl))
     sss_nil)
     sss_nil)
    (sss_cons (ss_nm sc_def 3 sc_is_line.nd rfl lk_is_line_board (se_sub (se_nm (k := .local) sc_def 2 rfl lk_is_line_line nk_line) se_int (fun _ _ => rfl)))
    (sss_cons (ss_nm sc_def 4 sc_is_line.nd rfl lk_is_line_deed (se_sub (se_nm (k := .local) sc_def 2 rfl lk_is_line_line nk_line) se_int (fun _ _ => rfl)))
    (sss_cons (ss_nm sc_def 5 sc_is_line.nd rfl lk_is_line_goals (se_sub (se_nm (k := .local) sc_def 2 rfl lk_is_line_line nk_line) se_int (fun _ _ => rfl)))
    (sss_cons (ss_if (L2.PW.pt (st_or (st_not (st_chain od_le od_lt se_int (se_nm (k := .local) sc_def 3 rfl lk_is_line_board nk_board) (se_callB1 cd_len (sc_def.glo _ lk_is_line_len) T.z_len bt_len (se_nm (k := .local) sc_def 0 rfl lk_is_line_counts nk_counts)))) (st_or1 (st_not (st_chain od_le od_lt se_int (se_nm (k := .local) sc_def 4 rfl lk_is_line_deed nk_deed) (se_callB1 cd_len (sc_def.glo _ lk_is_line_len) T.z_len bt_len (se_sub (se_nm (k := .local) sc_def 0 rfl lk_is_line_counts nk_counts) (se_nm (k := .local) sc_def 3 rfl lk_is_line_board nk_board) (fun _ _ => rfl))))))))
     (sss_cons (ss_ret se_bl)
     sss_nil)
     sss_nil)
    (sss_cons (ss_ret (se_and (se_cmp (od_eq (room_cx hr)) (se_callB1 cd_len (sc_def.glo _ lk_is_line_len) T.z_len bt_len (se_nm (k := .local) sc_def 5 rfl lk_is_line_goals nk_goals)) (se_sub (se_sub (se_nm (k := .local) sc_def 0 rfl lk_is_line_counts nk_counts) (se_nm (k := .local) sc_def 3 rfl lk_is_line_board nk_board) (fun _ _ => rfl)) (se_nm (k := .local) sc_def 4 rfl lk_is_line_deed nk_deed) (fun _ _ => rfl)) (nomark _)) (se_one (se_calls sc_def lk_is_line_are_lines G_are_lines (hr.mono (by decide)) T.m_are_lines T.F_are_lines.kp B_are_lines nk_are_lines (sa_cons (se_nm (k := .local) sc_def 5 rfl lk_is_line_goals nk_goals) (sa_cons (se_nm (k := .local) sc_def 1 rfl lk_is_line_lines nk_lines) sa_nil)) (cons_len (cons_len nil_len))))))
    sss_nil))))))
  unfold m_is_line
  exact q
theorem lk_inputs_of_hand : (defScope s_inputs_of).names.lookup ("hand" : Str) = some .local := by decide +kernel
theorem lk_inputs_of_house : (defScope s_inputs_of).names.lookup ("house" : Str) = some .local := by decide +kernel
theorem lk_inputs_of_inputs : (defScope s_inputs_of).names.lookup ("inputs" : Str) = some .local := by decide +kernel
theorem lk_inputs_of_longer : (defScope s_inputs_of).names.lookup ("longer" : Str) = some .local := by decide +kernel
theorem lk_inputs_of_told : (defScope s_inputs_of).names.lookup ("told" : Str) = some .local := by decide +kernel
theorem sc_inputs_of : FnScope ["house", "told", "hand", "longer", "inputs"] ["house"] (defScope s_inputs_of) := ⟨rfl, rfl, rfl, by decide +kernel, rfl, by decide +kernel, by decide +kernel⟩
theorem ok_inputs_of (T : Txt K mg) : FnOk P w K mg base CX0 1 T.a_inputs_of T.fd_inputs_of ["house"] (spOf K 1 m_inputs_of) := by
  have q : FnOk P w K mg base CX0 (0 + 1) T.a_inputs_of T.fd_inputs_of ["house"] (spOf K 1 (runDef 5 b_inputs_of)) := by
    refine fn_ok' (k := 0) (N := ["house", "told", "hand", "longer", "inputs"]) (body := b_inputs_of) T.F_inputs_of sc_inputs_of rfl rfl (fun cdv A outer s H E hr => ?_)
    exact (sss_cons (ss_nm sc_def 1 sc_inputs_of.nd rfl lk_inputs_of_told (se_keep (sl_lst (sa_cons (se_tup sa_nil) sa_nil))))
    (sss_cons (ss_for PassesOwn.never rfl (si_seq (se_sub (se_nm (k := .local) sc_def 0 rfl lk_inputs_of_house nk_house) se_int (fun _ _ => rfl))) (sg_nm (k := .local) sc_def 2 sc_inputs_of.nd rfl lk_inputs_of_hand)
     (sss_cons (ss_nm sc_def 3 sc_inputs_of.nd rfl lk_inputs_of_longer (se_keep (sl_lst sa_nil)))
     (sss_cons (ss_for PassesOwn.never rfl (si_seq (se_nm (k := .local) sc_def 1 rfl lk_inputs_of_told nk_told)) (sg_nm (k := .local) sc_def 4 sc_inputs_of.nd rfl lk_inputs_of_inputs)
      (sss_cons (ss_expr (se_append (se_nm (k := .local) sc_def 3 rfl lk_inputs_of_longer nk_longer) (se_op od_add (se_nm (k := .local) sc_def 4 rfl lk_inputs_of_inputs nk_inputs) (se_tup (sa_cons se_int sa_nil)))))
      (sss_cons (ss_expr (se_append (se_nm (k := .local) sc_def 3 rfl lk_inputs_of_longer nk_longer) (se_op od_add (se_nm (k := .local) sc_def 4 rfl lk_inputs_of_inputs nk_inputs) (se_tup (sa_cons se_int sa_nil)))))
      sss_nil)))
     (sss_cons (ss_nm sc_def 1 sc_inputs_of.nd rfl lk_inputs_of_told (se_nm (k := .local) sc_def 3 rfl lk_inputs_of_longer nk_longer))
     sss_nil))))
    (sss_cons (ss_ret (se_nm (k := .local) sc_def 1 rfl lk_inputs_of_told nk_told))
    sss_nil)))
  unfold m_inputs_of
  exact q
theorem lk_law_box_law_cell : (defScope s_law_box).names.lookup ("_law_cell" : Str) = some .local := by decide +kernel
theorem lk_law_box_law_k : (defScope s_law_box).names.lookup ("_law_k" : Str) = some .local := by decide +kernel
theorem lk_law_box_law_script : (defScope s_law_box).names.lookup ("_law_script" : Str) = some .local := by decide +kernel
theorem lk_law_box_law_seed : (defScope s_law_box).names.lookup ("_law_seed" : Str) = some .local := by decide +kernel
theorem lk_law_box_int : (defScope s_law_box).names.lookup ("int" : Str) = some .globalImplicit := by decide +kernel
theorem lk_law_box_len : (defScope s_law_box).names.lookup ("len" : Str) = some .globalImplicit := by decide +kernel
theorem sc_law_box : FnScope ["_law_script", "_law_k", "_law_cell", "_law_seed"] ["_law_script", "_law_k"] (defScope s_law_box) := ⟨rfl, rfl, rfl, by decide +kernel, rfl, by decide +kernel, by decide +kernel⟩
theorem ok_law_box (T : Txt K mg) : FnOk P w K mg base CX0 1 T.a_law_box T.fd_law_box ["_law_script", "_law_k"] (spOf K 2 m_law_box) := by
  have q : FnOk P w K mg base CX0 (0 + 1) T.a_law_box T.fd_law_box ["_law_script", "_law_k"] (spOf K 2 (runDef 4 b_law_box)) := by
    refine fn_ok' (k := 0) (N := ["_law_script", "_law_k", "_law_cell", "_law_seed"]) (body := b_law_box) T.F_law_box sc_law_box rfl rfl (fun cdv A outer s H E hr => ?_)
    exact (sss_cons (ss_nm sc_def 2 sc_law_box.nd rfl lk_law_box_law_cell (se_op od_add (se_op od_mul se_int (se_nm (k := .local) sc_def 1 rfl lk_law_box_law_k nk_law_k)) se_int))
    (sss_cons (ss_if (st_cmp od_lt (se_nm (k := .local) sc_def 1 rfl lk_law_box_law_k nk_law_k) (se_callB1 cd_len (sc_def.glo _ lk_law_box_len) T.z_len bt_len (se_nm (k := .local) sc_def 0 rfl lk_law_box_law_script nk_law_script)) (nomark _))
     (sss_cons (ss_nm sc_def 2 sc_law_box.nd rfl lk_law_box_law_cell (se_sub (se_nm (k := .local) sc_def 0 rfl lk_law_box_law_script nk_law_script) (se_nm (k := .local) sc_def 1 rfl lk_law_box_law_k nk_law_k) (fun _ _ => rfl)))
     sss_nil)
     (sss_cons (ss_if (st_cmp od_gt (se_callB1 cd_len (sc_def.glo _ lk_law_box_len) T.z_len bt_len (se_nm (k := .local) sc_def 0 rfl lk_law_box_law_script nk_law_script)) se_int (nomark _))
      (sss_cons (ss_nm sc_def 2 sc_law_box.nd rfl lk_law_box_law_cell (se_op od_add (se_nm (k := .local) sc_def 2 rfl lk_law_box_law_cell nk_law_cell) (se_op od_mul (se_op od_mod (se_sub (se_nm (k := .local) sc_def 0 rfl lk_law_box_law_script nk_law_script) (se_op od_mod (se_nm (k := .local) sc_def 1 rfl lk_law_box_law_k nk_law_k) (se_callB1 cd_len (sc_def.glo _ lk_law_box_len) T.z_len bt_len (se_nm (k := .local) sc_def 0 rfl lk_law_box_law_script nk_law_script))) (fun _ _ => rfl)) se_int) se_int)))
      sss_nil)
      sss_nil)
     sss_nil))
    (sss_cons (ss_nm sc_def 3 sc_law_box.nd rfl lk_law_box_law_seed (se_op od_mod (se_op od_add (se_op od_add (se_op od_mul (se_op od_mod (se_nm (k := .local) sc_def 2 rfl lk_law_box_law_cell nk_law_cell) se_int) se_int) (se_op od_mul se_int (se_nm (k := .local) sc_def 1 rfl lk_law_box_law_k nk_law_k))) se_int) se_int))
    (sss_cons (ss_ret (se_keep (sl_lst (sa_cons (se_op od_mul (se_nm (k := .local) sc_def 2 rfl lk_law_box_law_cell nk_law_cell) (se_callT1 cd_int (sc_def.glo _ lk_law_box_int) T.z_int bt_int (se_cmp od_ge (se_nm (k := .local) sc_def 2 rfl lk_law_box_law_cell nk_law_cell) (se_op od_pow se_int se_int) (nomark _)))) (sa_cons (se_nm (k := .local) sc_def 3 rfl lk_law_box_law_seed nk_law_seed) sa_nil)))))
    sss_nil))))
  unfold m_law_box
  exact q
theorem lk_law_take_law_box_here : (defScope s_law_take).names.lookup ("_law_box_here" : Str) = some .local := by decide +kernel
theorem lk_law_take_law_digit : (defScope s_law_take).names.lookup ("_law_digit" : Str) = some .local := by decide +kernel
theorem lk_law_take_law_many : (defScope s_law_take).names.lookup ("_law_many" : Str) = some .local := by decide +kernel
theorem sc_law_take : FnScope ["_law_box_here", "_law_many", "_law_digit"] ["_law_box_here", "_law_many"] (defScope s_law_take) := ⟨rfl, rfl, rfl, by decide +kernel, rfl, by decide +kernel, by decide +kernel⟩
theorem ok_law_take (T : Txt K mg) : FnOk P w K mg base CX0 1 T.a_law_take T.fd_law_take ["_law_box_here", "_law_many"] (spOf K 2 m_law_take) := by
  have q : FnOk P w K mg base CX0 (0 + 1) T.a_law_take T.fd_law_take ["_law_box_here", "_law_many"] (spOf K 2 (runDef 3 b_law_take)) := by
    refine fn_ok' (k := 0) (N := ["_law_box_here", "_law_many", "_law_digit"]) (body := b_law_take) T.F_law_take sc_law_take rfl rfl (fun cdv A outer s H E hr => ?_)
    exact (sss_cons (ss_if (st_cmp od_gt (se_sub (se_nm (k := .local) sc_def 0 rfl lk_law_take_law_box_here nk_law_box_here) se_int (fun _ _ => rfl)) se_int (nomark _))
     (sss_cons (ss_nm sc_def 2 sc_law_take.nd rfl lk_law_take_law_digit (se_op od_mod (se_sub (se_nm (k := .local) sc_def 0 rfl lk_law_take_law_box_here nk_law_box_here) se_int (fun _ _ => rfl)) (se_nm (k := .local) sc_def 1 rfl lk_law_take_law_many nk_law_many)))
     (sss_cons (ss_asg (se_op od_fdiv (se_sub (se_nm (k := .local) sc_def 0 rfl lk_law_take_law_box_here nk_law_box_here) se_int (fun _ _ => rfl)) (se_nm (k := .local) sc_def 1 rfl lk_law_take_law_many nk_law_many)) (sg_sub (se_nm (k := .local) sc_def 0 rfl lk_law_take_law_box_here nk_law_box_here) se_int))
     (sss_cons (ss_ret (se_nm (k := .local) sc_def 2 rfl lk_law_take_law_digit nk_law_digit))
     sss_nil)))
     sss_nil)
    (sss_cons (ss_asg (se_op od_mod (se_op od_add (se_op od_mul (se_sub (se_nm (k := .local) sc_def 0 rfl lk_law_take_law_box_here nk_law_box_here) se_int (fun _ _ => rfl)) se_int) se_int) se_int) (sg_sub (se_nm (k := .local) sc_def 0 rfl lk_law_take_law_box_here nk_law_box_here) se_int))
    (sss_cons (ss_ret (se_op od_mod (se_op od_add (se_op od_fdiv (se_op od_mod (se_op od_mul (se_sub (se_nm (k := .local) sc_def 0 rfl lk_law_take_law_box_here nk_law_box_here) se_int (fun _ _ => rfl)) (se_sub (se_nm (k := .local) sc_def 0 rfl lk_law_take_law_box_here nk_law_box_here) se_int (fun _ _ => rfl))) se_int) se_int) (se_sub (se_nm (k := .local) sc_def 0 rfl lk_law_take_law_box_here nk_law_box_here) se_int (fun _ _ => rfl))) (se_nm (k := .local) sc_def 1 rfl lk_law_take_law_many nk_law_many)))
    sss_nil)))
  unfold m_law_take
  exact q
theorem lk_law_deed_law_box_here : (defScope s_law_deed).names.lookup ("_law_box_here" : Str) = some .cell := by decide +kernel
theorem lk_law_deed_law_goal : (defScope s_law_deed).names.lookup ("_law_goal" : Str) = some .cell := by decide +kernel
theorem lk_law_deed_law_kind : (defScope s_law_deed).names.lookup ("_law_kind" : Str) = some .local := by decide +kernel
theorem lk_law_deed_law_states : (defScope s_law_deed).names.lookup ("_law_states" : Str) = some .cell := by decide +kernel
theorem lk_law_deed_law_take : (defScope s_law_deed).names.lookup ("_law_take" : Str) = some .globalImplicit := by decide +kernel
theorem lk_law_deed_law_told : (defScope s_law_deed).names.lookup ("_law_told" : Str) = some .cell := by decide +kernel
theorem lk_law_deed_range : (defScope s_law_deed).names.lookup ("range" : Str) = some .globalImplicit := by decide +kernel
theorem sc_law_deed : FnScope ["_law_box_here", "_law_kind", "_law_states", "_law_top", "_law_goal", "_law_told"] ["_law_box_here", "_law_kind", "_law_states", "_law_top"] (defScope s_law_deed) := ⟨rfl, rfl, rfl, by decide +kernel, rfl, by decide +kernel, by decide +kernel⟩
theorem ok_law_deed (T : Txt K mg) : FnOk P w K mg base CX0 2 T.a_law_deed T.fd_law_deed ["_law_box_here", "_law_kind", "_law_states", "_law_top"] (spOf K 4 m_law_deed) := by
  have G_law_take := ok_law_take (P := P) (w := w) (base := base) T
  have B_law_take := T.F_law_take.binds (ps := ["_law_box_here", "_law_many"]) fun _ _ _ _ _ _ us hl => match us, hl with | [_, _], _ => rfl
  have q : FnOk P w K mg base CX0 (1 + 1) T.a_law_deed T.fd_law_deed ["_law_box_here", "_law_kind", "_law_states", "_law_top"] (spOf K 4 (runDef 6 b_law_deed)) := by
    refine fn_ok' (k := 1) (N := ["_law_box_here", "_law_kind", "_law_states", "_law_top", "_law_goal", "_law_told"]) (body := b_law_deed) T.F_law_deed sc_law_deed rfl rfl (fun cdv A outer s H E hr => ?_)
    exact (sss_cons (ss_nm sc_def 4 sc_law_deed.nd rfl lk_law_deed_law_goal (se_calls sc_def lk_law_deed_law_take G_law_take (hr.mono (by decide)) T.m_law_take T.F_law_take.kp B_law_take nk_law_take (sa_cons (se_nm (k := .cell) sc_def 0 rfl lk_law_deed_law_box_here nk_law_box_here) (sa_cons (se_nm (k := .cell) sc_def 2 rfl lk_law_deed_law_states nk_law_states) sa_nil)) (cons_len (cons_len nil_len))))
    (sss_cons (ss_nm sc_def 5 sc_law_deed.nd rfl lk_law_deed_law_told (se_keep (sl_comp rfl (compScope_of sc_def (by decide +kernel)) (compNames_of (N0 := ["_law_box_here", "_law_kind", "_law_states", "_law_top", "_law_goal", "_law_told"]) (N := ["_law_s", "_law_box_here", "_law_top"]) (n := 1) (ix := [0, 3]) rfl (by decide +kernel)) (si_range1 (sc_def.glo _ lk_law_deed_range) T.z_range (se_nm (k := .cell) sc_def 2 rfl lk_law_deed_law_states nk_law_states)) (fun _ _ _ => ⟨(sg_nm (k := .local) (sc_comp (rfl)) 0 (show List.Nodup (["_law_s", "_law_box_here", "_law_top"] : List Str) by decide +kernel) rfl (by decide +kernel)), sifs_nil, (se_calls (sc_comp (rfl)) (by decide +kernel) G_law_take (hr.mono (by decide)) T.m_law_take T.F_law_take.kp B_law_take nk_law_take (sa_cons (se_nm (k := .free) (sc_comp (rfl)) 1 rfl (by decide +kernel) nk_law_box_here) (sa_cons (se_nm (k := .free) (sc_comp (rfl)) 2 rfl (by decide +kernel) nk_law_top) sa_nil)) (cons_len (cons_len nil_len)))⟩))))
    (sss_cons (ss_if (st_cmp (od_eq (room_cx hr)) (se_nm (k := .local) sc_def 1 rfl lk_law_deed_law_kind nk_law_kind) se_int (nomark _))
     (sss_cons (ss_ret (se_keep (sl_comp rfl (compScope_of sc_def (by decide +kernel)) (compNames_of (N0 := ["_law_box_here", "_law_kind", "_law_states", "_law_top", "_law_goal", "_law_told"]) (N := ["_law_s", "_law_told"]) (n := 1) (ix := [5]) rfl (by decide +kernel)) (si_range1 (sc_def.glo _ lk_law_deed_range) T.z_range (se_nm (k := .cell) sc_def 2 rfl lk_law_deed_law_states nk_law_states)) (fun _ _ _ => ⟨(sg_nm (k := .local) (sc_comp (rfl)) 0 (show List.Nodup (["_law_s", "_law_told"] : List Str) by decide +kernel) rfl (by decide +kernel)), sifs_nil, (se_tup (sa_cons (se_nm (k := .local) (sc_comp (rfl)) 0 rfl (by decide +kernel) nk_law_s) (sa_cons (se_sub (se_nm (k := .free) (sc_comp (rfl)) 1 rfl (by decide +kernel) nk_law_told) (se_nm (k := .local) (sc_comp (rfl)) 0 rfl (by decide +kernel) nk_law_s) (fun _ _ => rfl)) sa_nil)))⟩))))
     sss_nil)
     sss_nil)
    (sss_cons (ss_if (st_cmp (od_eq (room_cx hr)) (se_nm (k := .local) sc_def 1 rfl lk_law_deed_law_kind nk_law_kind) se_int (nomark _))
     (sss_cons (ss_ret (se_keep (sl_comp rfl (compScope_of sc_def (by decide +kernel)) (compNames_of (N0 := ["_law_box_here", "_law_kind", "_law_states", "_law_top", "_law_goal", "_law_told"]) (N := ["_law_s", "_law_goal"]) (n := 1) (ix := [4]) rfl (by decide +kernel)) (si_range1 (sc_def.glo _ lk_law_deed_range) T.z_range (se_nm (k := .cell) sc_def 2 rfl lk_law_deed_law_states nk_law_states)) (fun _ _ _ => ⟨(sg_nm (k := .local) (sc_comp (rfl)) 0 (show List.Nodup (["_law_s", "_law_goal"] : List Str) by decide +kernel) rfl (by decide +kernel)), sifs_nil, (se_tup (sa_cons (se_nm (k := .free) (sc_comp (rfl)) 1 rfl (by decide +kernel) nk_law_goal) (sa_cons se_int sa_nil)))⟩))))
     sss_nil)
     sss_nil)
    (sss_cons (ss_if (st_cmp (od_eq (room_cx hr)) (se_nm (k := .local) sc_def 1 rfl lk_law_deed_law_kind nk_law_kind) se_int (nomark _))
     (sss_cons (ss_ret (se_keep (sl_comp rfl (compScope_of sc_def (by decide +kernel)) (compNames_of (N0 := ["_law_box_here", "_law_kind", "_law_states", "_law_top", "_law_goal", "_law_told"]) (N := ["_law_s", "_law_states", "_law_goal", "_law_told"]) (n := 1) (ix := [2, 4, 5]) rfl (by decide +kernel)) (si_range1 (sc_def.glo _ lk_law_deed_range) T.z_range (se_nm (k := .cell) sc_def 2 rfl lk_law_deed_law_states nk_law_states)) (fun _ _ _ => ⟨(sg_nm (k := .local) (sc_comp (rfl)) 0 (show List.Nodup (["_law_s", "_law_states", "_law_goal", "_law_told"] : List Str) by decide +kernel) rfl (by decide +kernel)), sifs_nil, (se_tup (sa_cons (se_op od_mod (se_op od_add (se_nm (k := .local) (sc_comp (rfl)) 0 rfl (by decide +kernel) nk_law_s) (se_nm (k := .free) (sc_comp (rfl)) 2 rfl (by decide +kernel) nk_law_goal)) (se_nm (k := .free) (sc_comp (rfl)) 1 rfl (by decide +kernel) nk_law_states)) (sa_cons (se_sub (se_nm (k := .free) (sc_comp (rfl)) 3 rfl (by decide +kernel) nk_law_told) (se_nm (k := .local) (sc_comp (rfl)) 0 rfl (by decide +kernel) nk_law_s) (fun _ _ => rfl)) sa_nil)))⟩))))
     sss_nil)
     sss_nil)
    (sss_cons (ss_if (st_cmp (od_eq (room_cx hr)) (se_nm (k := .local) sc_def 1 rfl lk_law_deed_law_kind nk_law_kind) se_int (nomark _))
     (sss_cons (ss_ret (se_keep (sl_comp rfl (compScope_of sc_def (by decide +kernel)) (compNames_of (N0 := ["_law_box_here", "_law_kind", "_law_states", "_law_top", "_law_goal", "_law_told"]) (N := ["_law_s", "_law_goal"]) (n := 1) (ix := [4]) rfl (by decide +kernel)) (si_range1 (sc_def.glo _ lk_law_deed_range) T.z_range (se_nm (k := .cell) sc_def 2 rfl lk_law_deed_law_states nk_law_states)) (fun _ _ _ => ⟨(sg_nm (k := .local) (sc_comp (rfl)) 0 (show List.Nodup (["_law_s", "_law_goal"] : List Str) by decide +kernel) rfl (by decide +kernel)), sifs_nil, (se_tup (sa_cons (se_nm (k := .free) (sc_comp (rfl)) 1 rfl (by decide +kernel) nk_law_goal) (sa_cons (se_nm (k := .local) (sc_comp (rfl)) 0 rfl (by decide +kernel) nk_law_s) sa_nil)))⟩))))
     sss_nil)
     sss_nil)
    (sss_cons (ss_ret (se_keep (sl_comp rfl (compScope_of sc_def (by decide +kernel)) (compNames_of (N0 := ["_law_box_here", "_law_kind", "_law_states", "_law_top", "_law_goal", "_law_told"]) (N := ["_law_s", "_law_box_here", "_law_states", "_law_told"]) (n := 1) (ix := [0, 2, 5]) rfl (by decide +kernel)) (si_range1 (sc_def.glo _ lk_law_deed_range) T.z_range (se_nm (k := .cell) sc_def 2 rfl lk_law_deed_law_states nk_law_states)) (fun _ _ _ => ⟨(sg_nm (k := .local) (sc_comp (rfl)) 0 (show List.Nodup (["_law_s", "_law_box_here", "_law_states", "_law_told"] : List Str) by decide +kernel) rfl (by decide +kernel)), sifs_nil, (se_tup (sa_cons (se_calls (sc_comp (rfl)) (by decide +kernel) G_law_take (hr.mono (by decide)) T.m_law_take T.F_law_take.kp B_law_take nk_law_take (sa_cons (se_nm (k := .free) (sc_comp (rfl)) 1 rfl (by decide +kernel) nk_law_box_here) (sa_cons (se_nm (k := .free) (sc_comp (rfl)) 2 rfl (by decide +kernel) nk_law_states) sa_nil)) (cons_len (cons_len nil_len))) (sa_cons (se_sub (se_nm (k := .free) (sc_comp (rfl)) 3 rfl (by decide +kernel) nk_law_told) (se_nm (k := .local) (sc_comp (rfl)) 0 rfl (by decide +kernel) nk_law_s) (fun _ _ => rfl)) sa_nil)))⟩))))
    sss_nil)))))))
  unfold m_law_deed
  exact q
theorem lk_law_table_law_box_here : (defScope s_law_table).names.lookup ("_law_box_here" : Str) = some .local := by decide +kernel
theorem lk_law_table_law_d : (defScope s_law_table).names.lookup ("_law_d" : Str) = some .local := by decide +kernel
theorem lk_law_table_law_deed : (defScope s_law_table).names.lookup ("_law_deed" : Str) = some .globalImplicit := by decide +kernel
theorem lk_law_table_law_deeds : (defScope s_law_table).names.lookup ("_law_deeds" : Str) = some .cell := by decide +kernel
theorem lk_law_table_law_goal : (defScope s_law_table).names.lookup ("_law_goal" : Str) = some .local := by decide +kernel
theorem lk_law_table_law_k : (defScope s_law_table).names.lookup ("_law_k" : Str) = some .local := by decide +kernel
theorem lk_law_table_law_kind : (defScope s_law_table).names.lookup ("_law_kind" : Str) = some .local := by decide +kernel
theorem lk_law_table_law_s : (defScope s_law_table).names.lookup ("_law_s" : Str) = some .local := by decide +kernel
theorem lk_law_table_law_states : (defScope s_law_table).names.lookup ("_law_states" : Str) = some .local := by decide +kernel
theorem lk_law_table_law_table_here : (defScope s_law_table).names.lookup ("_law_table_here" : Str) = some .local := by decide +kernel
theorem lk_law_table_law_take : (defScope s_law_table).names.lookup ("_law_take" : Str) = some .globalImplicit := by decide +kernel
theorem lk_law_table_law_told : (defScope s_law_table).names.lookup ("_law_told" : Str) = some .local := by decide +kernel
theorem lk_law_table_law_top : (defScope s_law_table).names.lookup ("_law_top" : Str) = some .local := by decide +kernel
theorem lk_law_table_law_way : (defScope s_law_table).names.lookup ("_law_way" : Str) = some .local := by decide +kernel
theorem lk_law_table_len : (defScope s_law_table).names.lookup ("len" : Str) = some .globalImplicit := by decide +kernel
theorem lk_law_table_range : (defScope s_law_table).names.lookup ("range" : Str) = some .globalImplicit := by decide +kernel
theorem lk_law_table_tuple : (defScope s_law_table).names.lookup ("tuple" : Str) = some .globalImplicit := by decide +kernel
theorem sc_law_table : FnScope ["_law_box_here", "_law_states", "_law_top", "_law_way", "_law_deeds", "_law_k", "_law_kind", "_law_table_here", "_law_s", "_law_d", "_law_goal", "_law_told"] ["_law_box_here"] (defScope s_law_table) := ⟨rfl, rfl, rfl, by decide +kernel, rfl, by decide +kernel, by decide +kernel⟩
theorem ok_law_table (T : Txt K mg) : FnOk P w K mg base CX0 3 T.a_law_table T.fd_law_table ["_law_box_here"] (spOf K 1 m_law_table) := by
  have G_law_deed := ok_law_deed (P := P) (w := w) (base := base) T
  have B_law_deed := T.F_law_deed.binds (ps := ["_law_box_here", "_law_kind", "_law_states", "_law_top"]) fun _ _ _ _ _ _ us hl => match us, hl with | [_, _, _, _], _ => rfl
  have G_law_take := ok_law_take (P := P) (w := w) (base := base) T
  have B_law_take := T.F_law_take.binds (ps := ["_law_box_here", "_law_many"]) fun _ _ _ _ _ _ us hl => match us, hl with | [_, _], _ => rfl
  have q : FnOk P w K mg base CX0 (2 + 1) T.a_law_table T.fd_law_table ["_law_box_here"] (spOf K 1 (runDef 12 b_law_table)) := by
    refine fn_ok' (k := 2) (N := ["_law_box_here", "_law_states", "_law_top", "_law_way", "_law_deeds", "_law_k", "_law_kind", "_law_table_here", "_law_s", "_law_d", "_law_goal", "_law_told"]) (body := b_law_table) T.F_law_table sc_law_table rfl rfl (fun cdv A outer s H E hr => ?_)
    exact (sss_cons (ss_nm sc_def 1 sc_law_table.nd rfl lk_law_table_law_states (se_op od_add se_int (se_calls sc_def lk_law_table_law_take G_law_take (hr.mono (by decide)) T.m_law_take T.F_law_take.kp B_law_take nk_law_take (sa_cons (se_nm (k := .local) sc_def 0 rfl lk_law_table_law_box_here nk_law_box_here) (sa_cons se_int sa_nil)) (cons_len (cons_len nil_len)))))
    (sss_cons (ss_nm sc_def 2 sc_law_table.nd rfl lk_law_table_law_top (se_op od_add se_int (se_calls sc_def lk_law_table_law_take G_law_take (hr.mono (by decide)) T.m_law_take T.F_law_take.kp B_law_take nk_law_take (sa_cons (se_nm (k := .local) sc_def 0 rfl lk_law_table_law_box_here nk_law_box_here) (sa_cons se_int sa_nil)) (cons_len (cons_len nil_len)))))
    (sss_cons (ss_nm sc_def 3 sc_law_table.nd rfl lk_law_table_law_way (se_calls sc_def lk_law_table_law_take G_law_take (hr.mono (by decide)) T.m_law_take T.F_law_take.kp B_law_take nk_law_take (sa_cons (se_nm (k := .local) sc_def 0 rfl lk_law_table_law_box_here nk_law_box_here) (sa_cons se_int sa_nil)) (cons_len (cons_len nil_len))))
    (sss_cons (ss_nm sc_def 4 sc_law_table.nd rfl lk_law_table_law_deeds (se_keep (sl_lst sa_nil)))
    (sss_cons (ss_for PassesOwn.never rfl (si_range1 (sc_def.glo _ lk_law_table_range) T.z_range (se_op od_add se_int (se_calls sc_def lk_law_table_law_take G_law_take (hr.mono (by decide)) T.m_law_take T.F_law_take.kp B_law_take nk_law_take (sa_cons (se_nm (k := .local) sc_def 0 rfl lk_law_table_law_box_here nk_law_box_here) (sa_cons se_int sa_nil)) (cons_len (cons_len nil_len))))) (sg_nm (k := .local) sc_def 5 sc_law_table.nd rfl lk_law_table_law_k)
     (sss_cons (ss_nm sc_def 6 sc_law_table.nd rfl lk_law_table_law_kind (se_tmpSub (sl_lst (sa_cons se_int (sa_cons (se_nm (k := .local) sc_def 3 rfl lk_law_table_law_way nk_law_way) (sa_cons (se_nm (k := .local) sc_def 3 rfl lk_law_table_law_way nk_law_way) (sa_cons (se_op od_add se_int (se_calls sc_def lk_law_table_law_take G_law_take (hr.mono (by decide)) T.m_law_take T.F_law_take.kp B_law_take nk_law_take (sa_cons (se_nm (k := .local) sc_def 0 rfl lk_law_table_law_box_here nk_law_box_here) (sa_cons se_int sa_nil)) (cons_len (cons_len nil_len)))) sa_nil))))) (se_calls sc_def lk_law_table_law_take G_law_take (hr.mono (by decide)) T.m_law_take T.F_law_take.kp B_law_take nk_law_take (sa_cons (se_nm (k := .local) sc_def 0 rfl lk_law_table_law_box_here nk_law_box_here) (sa_cons se_int sa_nil)) (cons_len (cons_len nil_len))) (fun _ _ => rfl)))
     (sss_cons (ss_if (st_cmp (od_eq (room_cx hr)) (se_nm (k := .local) sc_def 3 rfl lk_law_table_law_way nk_law_way) se_int (nomark _))
      (sss_cons (ss_nm sc_def 6 sc_law_table.nd rfl lk_law_table_law_kind (se_op od_add se_int (se_calls sc_def lk_law_table_law_take G_law_take (hr.mono (by decide)) T.m_law_take T.F_law_take.kp B_law_take nk_law_take (sa_cons (se_nm (k := .local) sc_def 0 rfl lk_law_table_law_box_here nk_law_box_here) (sa_cons se_int sa_nil)) (cons_len (cons_len nil_len)))))
      sss_nil)
      sss_nil)
     (sss_cons (ss_expr (se_append (se_nm (k := .cell) sc_def 4 rfl lk_law_table_law_deeds nk_law_deeds) (se_calls sc_def lk_law_table_law_deed G_law_deed (hr.mono (by decide)) T.m_law_deed T.F_law_deed.kp B_law_deed nk_law_deed (sa_cons (se_nm (k := .local) sc_def 0 rfl lk_law_table_law_box_here nk_law_box_here) (sa_cons (se_nm (k := .local) sc_def 6 rfl lk_law_table_law_kind nk_law_kind) (sa_cons (se_nm (k := .local) sc_def 1 rfl lk_law_table_law_states nk_law_states) (sa_cons (se_nm (k := .local) sc_def 2 rfl lk_law_table_law_top nk_law_top) sa_nil)))) (cons_len (cons_len (cons_len (cons_len nil_len)))))))
     sss_nil))))
    (sss_cons (ss_compSet (i := 7) sc_law_table.nd rfl (sc_def.loc _ _ lk_law_table_law_table_here (by decide)).1 (sc_def.loc _ _ lk_law_table_law_table_here (by decide)).2 rfl (compScope_of sc_def (by decide +kernel)) (compNames_of (N0 := ["_law_box_here", "_law_states", "_law_top", "_law_way", "_law_deeds", "_law_k", "_law_kind", "_law_table_here", "_law_s", "_law_d", "_law_goal", "_law_told"]) (N := ["_law_s", "_law_deeds"]) (n := 1) (ix := [4]) rfl (by decide +kernel)) (si_range1 (sc_def.glo _ lk_law_table_range) T.z_range (se_nm (k := .local) sc_def 1 rfl lk_law_table_law_states nk_law_states)) (fun _ _ _ => ⟨(sg_nm (k := .cell) (sc_comp (rfl)) 0 (show List.Nodup (["_law_s", "_law_deeds"] : List Str) by decide +kernel) rfl (by decide +kernel)), sifs_nil, (se_keep (sl_comp rfl (compScope_of (sc_comp (rfl)) (by decide +kernel)) (compNames_of (N0 := ["_law_s", "_law_deeds"]) (N := ["_law_deed_here", "_law_s"]) (n := 1) (ix := [0]) rfl (by decide +kernel)) (si_seq (se_nm (k := .free) (sc_comp (rfl)) 1 rfl (by decide +kernel) nk_law_deeds)) (fun _ _ _ => ⟨(sg_nm (k := .local) (sc_comp (rfl)) 0 (show List.Nodup (["_law_deed_here", "_law_s"] : List Str) by decide +kernel) rfl (by decide +kernel)), sifs_nil, (se_sub (se_nm (k := .local) (sc_comp (rfl)) 0 rfl (by decide +kernel) nk_law_deed_here) (se_nm (k := .free) (sc_comp (rfl)) 1 rfl (by decide +kernel) nk_law_s) (fun _ _ => rfl))⟩)))⟩) (by rfl))
    (sss_cons (ss_if (st_cmp (od_eq (room_cx hr)) (se_calls sc_def lk_law_table_law_take G_law_take (hr.mono (by decide)) T.m_law_take T.F_law_take.kp B_law_take nk_law_take (sa_cons (se_nm (k := .local) sc_def 0 rfl lk_law_table_law_box_here nk_law_box_here) (sa_cons se_int sa_nil)) (cons_len (cons_len nil_len))) se_int (nomark _))
     (sss_cons (ss_nm sc_def 8 sc_law_table.nd rfl lk_law_table_law_s (se_calls sc_def lk_law_table_law_take G_law_take (hr.mono (by decide)) T.m_law_take T.F_law_take.kp B_law_take nk_law_take (sa_cons (se_nm (k := .local) sc_def 0 rfl lk_law_table_law_box_here nk_law_box_here) (sa_cons (se_nm (k := .local) sc_def 1 rfl lk_law_table_law_states nk_law_states) sa_nil)) (cons_len (cons_len nil_len))))
     (sss_cons (ss_nm sc_def 9 sc_law_table.nd rfl lk_law_table_law_d (se_calls sc_def lk_law_table_law_take G_law_take (hr.mono (by decide)) T.m_law_take T.F_law_take.kp B_law_take nk_law_take (sa_cons (se_nm (k := .local) sc_def 0 rfl lk_law_table_law_box_here nk_law_box_here) (sa_cons (se_callB1 cd_len (sc_def.glo _ lk_law_table_len) T.z_len bt_len (se_nm (k := .cell) sc_def 4 rfl lk_law_table_law_deeds nk_law_deeds)) sa_nil)) (cons_len (cons_len nil_len))))
     (sss_cons (ss_asg (se_sub (se_sub (se_nm (k := .local) sc_def 7 rfl lk_law_table_law_table_here nk_law_table_here) (se_nm (k := .local) sc_def 8 rfl lk_law_table_law_s nk_law_s) (fun _ _ => rfl)) (se_nm (k := .local) sc_def 9 rfl lk_law_table_law_d nk_law_d) (fun _ _ => rfl)) (sg_tup rfl (sgs_cons (sg_nm (k := .local) sc_def 10 sc_law_table.nd rfl lk_law_table_law_goal) (sgs_cons (sg_nm (k := .local) sc_def 11 sc_law_table.nd rfl lk_law_table_law_told) sgs_nil))))
     (sss_cons (ss_asg (se_tmpSub (sl_lst (sa_cons (se_tup (sa_cons (se_calls sc_def lk_law_table_law_take G_law_take (hr.mono (by decide)) T.m_law_take T.F_law_take.kp B_law_take nk_law_take (sa_cons (se_nm (k := .local) sc_def 0 rfl lk_law_table_law_box_here nk_law_box_here) (sa_cons (se_nm (k := .local) sc_def 1 rfl lk_law_table_law_states nk_law_states) sa_nil)) (cons_len (cons_len nil_len))) (sa_cons (se_nm (k := .local) sc_def 11 rfl lk_law_table_law_told nk_law_told) sa_nil))) (sa_cons (se_tup (sa_cons (se_nm (k := .local) sc_def 10 rfl lk_law_table_law_goal nk_law_goal) (sa_cons (se_calls sc_def lk_law_table_law_take G_law_take (hr.mono (by decide)) T.m_law_take T.F_law_take.kp B_law_take nk_law_take (sa_cons (se_nm (k := .local) sc_def 0 rfl lk_law_table_law_box_here nk_law_box_here) (sa_cons se_int sa_nil)) (cons_len (cons_len nil_len))) sa_nil))) sa_nil))) (se_calls sc_def lk_law_table_law_take G_law_take (hr.mono (by decide)) T.m_law_take T.F_law_take.kp B_law_take nk_law_take (sa_cons (se_nm (k := .local) sc_def 0 rfl lk_law_table_law_box_here nk_law_box_here) (sa_cons se_int sa_nil)) (cons_len (cons_len nil_len))) (fun _ _ => rfl)) (sg_sub (se_sub (se_nm (k := .local) sc_def 7 rfl lk_law_table_law_table_here nk_law_table_here) (se_nm (k := .local) sc_def 8 rfl lk_law_table_law_s nk_law_s) (fun _ _ => rfl)) (se_nm (k := .local) sc_def 9 rfl lk_law_table_law_d nk_law_d)))
     sss_nil))))
     sss_nil)
    (sss_cons (ss_ret (se_tmpT cl_tuple (sc_def.glo _ lk_law_table_tuple) T.z_tuple bt_tuple (sl_comp rfl (compScope_of sc_def (by decide +kernel)) (compNames_of (N0 := ["_law_box_here", "_law_states", "_law_top", "_law_way", "_law_deeds", "_law_k", "_law_kind", "_law_table_here", "_law_s", "_law_d", "_law_goal", "_law_told"]) (N := ["_law_row"]) (n := 1) (ix := []) rfl (by decide +kernel)) (si_seq (se_nm (k := .local) sc_def 7 rfl lk_law_table_law_table_here nk_law_table_here)) (fun _ _ _ => ⟨(sg_nm (k := .local) (sc_comp (rfl)) 0 (show List.Nodup (["_law_row"] : List Str) by decide +kernel) rfl (by decide +kernel)), sifs_nil, (se_callT1 cd_tuple ((sc_comp (rfl)).glo _ (by decide +kernel)) T.z_tuple bt_tuple (se_nm (k := .local) (sc_comp (rfl)) 0 rfl (by decide +kernel) nk_law_row))⟩))))
    sss_nil))))))))
  unfold m_law_table
  exact q
theorem lk_law_boards_law_box_here : (defScope s_law_boards).names.lookup ("_law_box_here" : Str) = some .local := by decide +kernel
theorem lk_law_boards_law_found : (defScope s_law_boards).names.lookup ("_law_found" : Str) = some .local := by decide +kernel
theorem lk_law_boards_law_k : (defScope s_law_boards).names.lookup ("_law_k" : Str) = some .local := by decide +kernel
theorem lk_law_boards_law_most : (defScope s_law_boards).names.lookup ("_law_most" : Str) = some .local := by decide +kernel
theorem lk_law_boards_law_table : (defScope s_law_boards).names.lookup ("_law_table" : Str) = some .globalImplicit := by decide +kernel
theorem lk_law_boards_law_table_here : (defScope s_law_boards).names.lookup ("_law_table_here" : Str) = some .local := by decide +kernel
theorem lk_law_boards_law_take : (defScope s_law_boards).names.lookup ("_law_take" : Str) = some .globalImplicit := by decide +kernel
theorem lk_law_boards_len : (defScope s_law_boards).names.lookup ("len" : Str) = some .globalImplicit := by decide +kernel
theorem lk_law_boards_range : (defScope s_law_boards).names.lookup ("range" : Str) = some .globalImplicit := by decide +kernel
theorem sc_law_boards : FnScope ["_law_box_here", "_law_most", "_law_found", "_law_k", "_law_table_here"] ["_law_box_here", "_law_most"] (defScope s_law_boards) := ⟨rfl, rfl, rfl, by decide +kernel, rfl, by decide +kernel, by decide +kernel⟩
theorem ok_law_boards (T : Txt K mg) : FnOk P w K mg base CX0 4 T.a_law_boards T.fd_law_boards ["_law_box_here", "_law_most"] (spOf K 2 m_law_boards) := by
  have G_law_table := ok_law_table (P := P) (w := w) (base := base) T
  have B_law_table := T.F_law_table.binds (ps := ["_law_box_here"]) fun _ _ _ _ _ _ us hl => match us, hl with | [_], _ => rfl
  have G_law_take := ok_law_take (P := P) (w := w) (base := base) T
  have B_law_take := T.F_law_take.binds (ps := ["_law_box_here", "_law_many"]) fun _ _ _ _ _ _ us hl => match us, hl with | [_, _], _ => rfl
  have q : FnOk P w K mg base CX0 (3 + 1) T.a_law_boards T.fd_law_boards ["_law_box_here", "_law_most"] (spOf K 2 (runDef 5 b_law_boards)) := by
    refine fn_ok' (k := 3) (N := ["_law_box_here", "_law_most", "_law_found", "_law_k", "_law_table_here"]) (body := b_law_boards) T.F_law_boards sc_law_boards rfl rfl (fun cdv A outer s H E hr => ?_)
    exact (sss_cons (ss_nm sc_def 2 sc_law_boards.nd rfl lk_law_boards_law_found (se_keep (sl_lst sa_nil)))
    (sss_cons (ss_for PassesOwn.never rfl (si_range1 (sc_def.glo _ lk_law_boards_range) T.z_range (se_calls sc_def lk_law_boards_law_take G_law_take (hr.mono (by decide)) T.m_law_take T.F_law_take.kp B_law_take nk_law_take (sa_cons (se_nm (k := .local) sc_def 0 rfl lk_law_boards_law_box_here nk_law_box_here) (sa_cons (se_op od_add (se_nm (k := .local) sc_def 1 rfl lk_law_boards_law_most nk_law_most) se_int) sa_nil)) (cons_len (cons_len nil_len)))) (sg_nm (k := .local) sc_def 3 sc_law_boards.nd rfl lk_law_boards_law_k)
     (sss_cons (ss_nm sc_def 4 sc_law_boards.nd rfl lk_law_boards_law_table_here (se_calls sc_def lk_law_boards_law_table G_law_table (hr.mono (by decide)) T.m_law_table T.F_law_table.kp B_law_table nk_law_table (sa_cons (se_nm (k := .local) sc_def 0 rfl lk_law_boards_law_box_here nk_law_box_here) sa_nil) (cons_len nil_len)))
     (sss_cons (ss_expr (se_append (se_nm (k := .local) sc_def 2 rfl lk_law_boards_law_found nk_law_found) (se_tup (sa_cons (se_nm (k := .local) sc_def 4 rfl lk_law_boards_law_table_here nk_law_table_here) (sa_cons (se_calls sc_def lk_law_boards_law_take G_law_take (hr.mono (by decide)) T.m_law_take T.F_law_take.kp B_law_take nk_law_take (sa_cons (se_nm (k := .local) sc_def 0 rfl lk_law_boards_law_box_here nk_law_box_here) (sa_cons (se_callB1 cd_len (sc_def.glo _ lk_law_boards_len) T.z_len bt_len (se_nm (k := .local) sc_def 4 rfl lk_law_boards_law_table_here nk_law_table_here)) sa_nil)) (cons_len (cons_len nil_len))) sa_nil)))))
     sss_nil)))
    (sss_cons (ss_ret (se_nm (k := .local) sc_def 2 rfl lk_law_boards_law_found nk_law_found))
    sss_nil)))
  unfold m_law_boards
  exact q
theorem lk_law_line_law_b : (defScope s_law_line).names.lookup ("_law_b" : Str) = some .local := by decide +kernel
theorem lk_law_line_law_boards_here : (defScope s_law_line).names.lookup ("_law_boards_here" : Str) = some .local := by decide +kernel
theorem lk_law_line_law_box_here : (defScope s_law_line).names.lookup ("_law_box_here" : Str) = some .cell := by decide +kernel
theorem lk_law_line_law_d : (defScope s_law_line).names.lookup ("_law_d" : Str) = some .cell := by decide +kernel
theorem lk_law_line_law_goals : (defScope s_law_line).names.lookup ("_law_goals" : Str) = some .local := by decide +kernel
theorem lk_law_line_law_table_here : (defScope s_law_line).names.lookup ("_law_table_here" : Str) = some .local := by decide +kernel
theorem lk_law_line_law_take : (defScope s_law_line).names.lookup ("_law_take" : Str) = some .globalImplicit := by decide +kernel
theorem lk_law_line_len : (defScope s_law_line).names.lookup ("len" : Str) = some .globalImplicit := by decide +kernel
theorem lk_law_line_max : (defScope s_law_line).names.lookup ("max" : Str) = some .globalImplicit := by decide +kernel
theorem lk_law_line_range : (defScope s_law_line).names.lookup ("range" : Str) = some .globalImplicit := by decide +kernel
theorem lk_law_line_tuple : (defScope s_law_line).names.lookup ("tuple" : Str) = some .globalImplicit := by decide +kernel
theorem sc_law_line : FnScope ["_law_box_here", "_law_boards_here", "_law_many", "_law_b", "_law_table_here", "_law_d", "_law_goals"] ["_law_box_here", "_law_boards_here", "_law_many"] (defScope s_law_line) := ⟨rfl, rfl, rfl, by decide +kernel, rfl, by decide +kernel, by decide +kernel⟩
theorem ok_law_line (T : Txt K mg) : FnOk P w K mg base CX0 2 T.a_law_line T.fd_law_line ["_law_box_here", "_law_boards_here", "_law_many"] (spOf K 3 m_law_line) := by
  have G_law_take := ok_law_take (P := P) (w := w) (base := base) T
  have B_law_take := T.F_law_take.binds (ps := ["_law_box_here", "_law_many"]) fun _ _ _ _ _ _ us hl => match us, hl with | [_, _], _ => rfl
  have q : FnOk P w K mg base CX0 (1 + 1) T.a_law_line T.fd_law_line ["_law_box_here", "_law_boards_here", "_law_many"] (spOf K 3 (runDef 7 b_law_line)) := by
    refine fn_ok' (k := 1) (N := ["_law_box_here", "_law_boards_here", "_law_many", "_law_b", "_law_table_here", "_law_d", "_law_goals"]) (body := b_law_line) T.F_law_line sc_law_line rfl rfl (fun cdv A outer s H E hr => ?_)
    exact (sss_cons (ss_if (L2.PW.pt (st_or (st_cmp (od_eq (room_cx hr)) (se_callB1 cd_len (sc_def.glo _ lk_law_line_len) T.z_len bt_len (se_nm (k := .local) sc_def 1 rfl lk_law_line_law_boards_here nk_law_boards_here)) se_int (nomark _)) (st_or1 (st_cmp (od_eq (room_cx hr)) (se_calls sc_def lk_law_line_law_take G_law_take (hr.mono (by decide)) T.m_law_take T.F_law_take.kp B_law_take nk_law_take (sa_cons (se_nm (k := .cell) sc_def 0 rfl lk_law_line_law_box_here nk_law_box_here) (sa_cons se_int sa_nil)) (cons_len (cons_len nil_len))) se_int (nomark _)))))
     (sss_cons (ss_ret (se_tup (sa_cons se_str (sa_cons (se_calls sc_def lk_law_line_law_take G_law_take (hr.mono (by decide)) T.m_law_take T.F_law_take.kp B_law_take nk_law_take (sa_cons (se_nm (k := .cell) sc_def 0 rfl lk_law_line_law_box_here nk_law_box_here) (sa_cons se_int sa_nil)) (cons_len (cons_len nil_len))) sa_nil))))
     sss_nil)
     sss_nil)
    (sss_cons (ss_nm sc_def 3 sc_law_line.nd rfl lk_law_line_law_b (se_calls sc_def lk_law_line_law_take G_law_take (hr.mono (by decide)) T.m_law_take T.F_law_take.kp B_law_take nk_law_take (sa_cons (se_nm (k := .cell) sc_def 0 rfl lk_law_line_law_box_here nk_law_box_here) (sa_cons (se_callB1 cd_len (sc_def.glo _ lk_law_line_len) T.z_len bt_len (se_nm (k := .local) sc_def 1 rfl lk_law_line_law_boards_here nk_law_boards_here)) sa_nil)) (cons_len (cons_len nil_len))))
    (sss_cons (ss_nm sc_def 4 sc_law_line.nd rfl lk_law_line_law_table_here (se_sub (se_sub (se_nm (k := .local) sc_def 1 rfl lk_law_line_law_boards_here nk_law_boards_here) (se_nm (k := .local) sc_def 3 rfl lk_law_line_law_b nk_law_b) (fun _ _ => rfl)) se_int (fun _ _ => rfl)))
    (sss_cons (ss_nm sc_def 5 sc_law_line.nd rfl lk_law_line_law_d (se_calls sc_def lk_law_line_law_take G_law_take (hr.mono (by decide)) T.m_law_take T.F_law_take.kp B_law_take nk_law_take (sa_cons (se_nm (k := .cell) sc_def 0 rfl lk_law_line_law_box_here nk_law_box_here) (sa_cons (se_callB1 cd_len (sc_def.glo _ lk_law_line_len) T.z_len bt_len (se_sub (se_nm (k := .local) sc_def 4 rfl lk_law_line_law_table_here nk_law_table_here) se_int (fun _ _ => rfl))) sa_nil)) (cons_len (cons_len nil_len))))
    (sss_cons (ss_compSet (i := 6) sc_law_line.nd rfl (sc_def.loc _ _ lk_law_line_law_goals (by decide)).1 (sc_def.loc _ _ lk_law_line_law_goals (by decide)).2 rfl (compScope_of sc_def (by decide +kernel)) (compNames_of (N0 := ["_law_box_here", "_law_boards_here", "_law_many", "_law_b", "_law_table_here", "_law_d", "_law_goals"]) (N := ["_law_k", "_law_box_here", "_law_many"]) (n := 1) (ix := [0, 2]) rfl (by decide +kernel)) (si_range1 (sc_def.glo _ lk_law_line_range) T.z_range (se_op od_add se_int (se_tmpB (cl_max rfl) (sc_def.glo _ lk_law_line_max) T.z_max bt_max (sl_comp rfl (compScope_of sc_def (by decide +kernel)) (compNames_of (N0 := ["_law_box_here", "_law_boards_here", "_law_many", "_law_b", "_law_table_here", "_law_d", "_law_goals"]) (N := ["_law_row", "_law_d"]) (n := 1) (ix := [5]) rfl (by decide +kernel)) (si_seq (se_nm (k := .local) sc_def 4 rfl lk_law_line_law_table_here nk_law_table_here)) (fun _ _ _ => ⟨(sg_nm (k := .local) (sc_comp (rfl)) 0 (show List.Nodup (["_law_row", "_law_d"] : List Str) by decide +kernel) rfl (by decide +kernel)), sifs_nil, (se_sub (se_sub (se_nm (k := .local) (sc_comp (rfl)) 0 rfl (by decide +kernel) nk_law_row) (se_nm (k := .free) (sc_comp (rfl)) 1 rfl (by decide +kernel) nk_law_d) (fun _ _ => rfl)) se_int (fun _ _ => rfl))⟩))))) (fun _ _ _ => ⟨(sg_nm (k := .local) (sc_comp (rfl)) 0 (show List.Nodup (["_law_k", "_law_box_here", "_law_many"] : List Str) by decide +kernel) rfl (by decide +kernel)), sifs_nil, (se_calls (sc_comp (rfl)) (by decide +kernel) G_law_take (hr.mono (by decide)) T.m_law_take T.F_law_take.kp B_law_take nk_law_take (sa_cons (se_nm (k := .free) (sc_comp (rfl)) 1 rfl (by decide +kernel) nk_law_box_here) (sa_cons (se_nm (k := .free) (sc_comp (rfl)) 2 rfl (by decide +kernel) nk_law_many) sa_nil)) (cons_len (cons_len nil_len)))⟩) (by rfl))
    (sss_cons (ss_ret (se_tup (sa_cons se_str (sa_cons (se_nm (k := .local) sc_def 3 rfl lk_law_line_law_b nk_law_b) (sa_cons (se_nm (k := .cell) sc_def 5 rfl lk_law_line_law_d nk_law_d) (sa_cons (se_callT1 cd_tuple (sc_def.glo _ lk_law_line_tuple) T.z_tuple bt_tuple (se_nm (k := .local) sc_def 6 rfl lk_law_line_law_goals nk_law_goals)) sa_nil))))))
    sss_nil))))))
  unfold m_law_line
  exact q
theorem lk_law_house_law_boards : (defScope s_law_house).names.lookup ("_law_boards" : Str) = some .globalImplicit := by decide +kernel
theorem lk_law_house_law_boards_here : (defScope s_law_house).names.lookup ("_law_boards_here" : Str) = some .local := by decide +kernel
theorem lk_law_house_law_box_here : (defScope s_law_house).names.lookup ("_law_box_here" : Str) = some .cell := by decide +kernel
theorem lk_law_house_law_found : (defScope s_law_house).names.lookup ("_law_found" : Str) = some .local := by decide +kernel
theorem lk_law_house_law_hands : (defScope s_law_house).names.lookup ("_law_hands" : Str) = some .local := by decide +kernel
theorem lk_law_house_law_k : (defScope s_law_house).names.lookup ("_law_k" : Str) = some .local := by decide +kernel
theorem lk_law_house_law_lines : (defScope s_law_house).names.lookup ("_law_lines" : Str) = some .local := by decide +kernel
theorem lk_law_house_law_many : (defScope s_law_house).names.lookup ("_law_many" : Str) = some .cell := by decide +kernel
theorem lk_law_house_law_rows : (defScope s_law_house).names.lookup ("_law_rows" : Str) = some .local := by decide +kernel
theorem lk_law_house_law_some : (defScope s_law_house).names.lookup ("_law_some" : Str) = some .cell := by decide +kernel
theorem lk_law_house_law_take : (defScope s_law_house).names.lookup ("_law_take" : Str) = some .globalImplicit := by decide +kernel
theorem lk_law_house_range : (defScope s_law_house).names.lookup ("range" : Str) = some .globalImplicit := by decide +kernel
theorem lk_law_house_tuple : (defScope s_law_house).names.lookup ("tuple" : Str) = some .globalImplicit := by decide +kernel
theorem sc_law_house : FnScope ["_law_box_here", "_law_boards_here", "_law_hands", "_law_lines", "_law_some", "_law_found", "_law_k", "_law_many", "_law_rows"] ["_law_box_here", "_law_boards_here", "_law_hands", "_law_lines"] (defScope s_law_house) := ⟨rfl, rfl, rfl, by decide +kernel, rfl, by decide +kernel, by decide +kernel⟩
theorem ok_law_house (T : Txt K mg) : FnOk P w K mg base CX0 5 T.a_law_house T.fd_law_house ["_law_box_here", "_law_boards_here", "_law_hands", "_law_lines"] (spOf K 4 m_law_house) := by
  have G_law_boards := ok_law_boards (P := P) (w := w) (base := base) T
  have B_law_boards := T.F_law_boards.binds (ps := ["_law_box_here", "_law_most"]) fun _ _ _ _ _ _ us hl => match us, hl with | [_, _], _ => rfl
  have G_law_line := ok_law_line (P := P) (w := w) (base := base) T
  have B_law_line := T.F_law_line.binds (ps := ["_law_box_here", "_law_boards_here", "_law_many"]) fun _ _ _ _ _ _ us hl => match us, hl with | [_, _, _], _ => rfl
  have G_law_take := ok_law_take (P := P) (w := w) (base := base) T
  have B_law_take := T.F_law_take.binds (ps := ["_law_box_here", "_law_many"]) fun _ _ _ _ _ _ us hl => match us, hl with | [_, _], _ => rfl
  have q : FnOk P w K mg base CX0 (4 + 1) T.a_law_house T.fd_law_house ["_law_box_here", "_law_boards_here", "_law_hands", "_law_lines"] (spOf K 4 (runDef 9 b_law_house)) := by
    refine fn_ok' (k := 4) (N := ["_law_box_here", "_law_boards_here", "_law_hands", "_law_lines", "_law_some", "_law_found", "_law_k", "_law_many", "_law_rows"]) (body := b_law_house) T.F_law_house sc_law_house rfl rfl (fun cdv A outer s H E hr => ?_)
    exact (sss_cons (ss_nm sc_def 4 sc_law_house.nd rfl lk_law_house_law_some (se_calls sc_def lk_law_house_law_boards G_law_boards (hr.mono (by decide)) T.m_law_boards T.F_law_boards.kp B_law_boards nk_law_boards (sa_cons (se_nm (k := .cell) sc_def 0 rfl lk_law_house_law_box_here nk_law_box_here) (sa_cons (se_nm (k := .local) sc_def 1 rfl lk_law_house_law_boards_here nk_law_boards_here) sa_nil)) (cons_len (cons_len nil_len))))
    (sss_cons (ss_nm sc_def 5 sc_law_house.nd rfl lk_law_house_law_found (se_keep (sl_lst sa_nil)))
    (sss_cons (ss_for PassesOwn.never rfl (si_range1 (sc_def.glo _ lk_law_house_range) T.z_range (se_nm (k := .local) sc_def 2 rfl lk_law_house_law_hands nk_law_hands)) (sg_nm (k := .local) sc_def 6 sc_law_house.nd rfl lk_law_house_law_k)
     (sss_cons (ss_nm sc_def 7 sc_law_house.nd rfl lk_law_house_law_many (se_op od_add se_int (se_calls sc_def lk_law_house_law_take G_law_take (hr.mono (by decide)) T.m_law_take T.F_law_take.kp B_law_take nk_law_take (sa_cons (se_nm (k := .cell) sc_def 0 rfl lk_law_house_law_box_here nk_law_box_here) (sa_cons (se_nm (k := .local) sc_def 3 rfl lk_law_house_law_lines nk_law_lines) sa_nil)) (cons_len (cons_len nil_len)))))
     (sss_cons (ss_compSet (i := 8) sc_law_house.nd rfl (sc_def.loc _ _ lk_law_house_law_rows (by decide)).1 (sc_def.loc _ _ lk_law_house_law_rows (by decide)).2 rfl (compScope_of sc_def (by decide +kernel)) (compNames_of (N0 := ["_law_box_here", "_law_boards_here", "_law_hands", "_law_lines", "_law_some", "_law_found", "_law_k", "_law_many", "_law_rows"]) (N := ["_law_l", "_law_box_here", "_law_some", "_law_many"]) (n := 1) (ix := [0, 4, 7]) rfl (by decide +kernel)) (si_range1 (sc_def.glo _ lk_law_house_range) T.z_range (se_nm (k := .cell) sc_def 7 rfl lk_law_house_law_many nk_law_many)) (fun _ _ _ => ⟨(sg_nm (k := .local) (sc_comp (rfl)) 0 (show List.Nodup (["_law_l", "_law_box_here", "_law_some", "_law_many"] : List Str) by decide +kernel) rfl (by decide +kernel)), sifs_nil, (se_calls (sc_comp (rfl)) (by decide +kernel) G_law_line (hr.mono (by decide)) T.m_law_line T.F_law_line.kp B_law_line nk_law_line (sa_cons (se_nm (k := .free) (sc_comp (rfl)) 1 rfl (by decide +kernel) nk_law_box_here) (sa_cons (se_nm (k := .free) (sc_comp (rfl)) 2 rfl (by decide +kernel) nk_law_some) (sa_cons (se_nm (k := .free) (sc_comp (rfl)) 3 rfl (by decide +kernel) nk_law_many) sa_nil))) (cons_len (cons_len (cons_len nil_len))))⟩) (by rfl))
     (sss_cons (ss_expr (se_append (se_nm (k := .local) sc_def 5 rfl lk_law_house_law_found nk_law_found) (se_tup (sa_cons (se_tup (sa_cons (se_calls sc_def lk_law_house_law_take G_law_take (hr.mono (by decide)) T.m_law_take T.F_law_take.kp B_law_take nk_law_take (sa_cons (se_nm (k := .cell) sc_def 0 rfl lk_law_house_law_box_here nk_law_box_here) (sa_cons (se_nm (k := .cell) sc_def 7 rfl lk_law_house_law_many nk_law_many) sa_nil)) (cons_len (cons_len nil_len))) (sa_cons (se_calls sc_def lk_law_house_law_take G_law_take (hr.mono (by decide)) T.m_law_take T.F_law_take.kp B_law_take nk_law_take (sa_cons (se_nm (k := .cell) sc_def 0 rfl lk_law_house_law_box_here nk_law_box_here) (sa_cons (se_nm (k := .cell) sc_def 7 rfl lk_law_house_law_many nk_law_many) sa_nil)) (cons_len (cons_len nil_len))) sa_nil))) (sa_cons (se_callT1 cd_tuple (sc_def.glo _ lk_law_house_tuple) T.z_tuple bt_tuple (se_nm (k := .local) sc_def 8 rfl lk_law_house_law_rows nk_law_rows)) sa_nil)))))
     sss_nil))))
    (sss_cons (ss_ret (se_tup (sa_cons (se_callT1 cd_tuple (sc_def.glo _ lk_law_house_tuple) T.z_tuple bt_tuple (se_nm (k := .cell) sc_def 4 rfl lk_law_house_law_some nk_law_some)) (sa_cons (se_callT1 cd_tuple (sc_def.glo _ lk_law_house_tuple) T.z_tuple bt_tuple (se_nm (k := .local) sc_def 5 rfl lk_law_house_law_found nk_law_found)) sa_nil))))
    sss_nil))))
  unfold m_law_house
  exact q
theorem lk_law_whole_law_found : (defScope s_law_whole).names.lookup ("_law_found" : Str) = some .local := by decide +kernel
theorem lk_law_whole_bool : (defScope s_law_whole).names.lookup ("bool" : Str) = some .globalImplicit := by decide +kernel
theorem lk_law_whole_int : (defScope s_law_whole).names.lookup ("int" : Str) = some .globalImplicit := by decide +kernel
theorem lk_law_whole_isinstance : (defScope s_law_whole).names.lookup ("isinstance" : Str) = some .globalImplicit := by decide +kernel
theorem sc_law_whole : FnScope ["_law_found"] ["_law_found"] (defScope s_law_whole) := ⟨rfl, rfl, rfl, by decide +kernel, rfl, by decide +kernel, by decide +kernel⟩
theorem ok_law_whole (T : Txt K mg) : FnOk P w K mg base CX0 1 T.a_law_whole T.fd_law_whole ["_law_found"] (spOf K 1 m_law_whole) := by
  have q : FnOk P w K mg base CX0 (0 + 1) T.a_law_whole T.fd_law_whole ["_law_found"] (spOf K 1 (runDef 1 b_law_whole)) := by
    refine fn_ok' (k := 0) (N := ["_law_found"]) (body := b_law_whole) T.F_law_whole sc_law_whole rfl rfl (fun cdv A outer s H E hr => ?_)
    exact (sss_cons (ss_ret (se_and (se_isi tab_int (sc_def.glo _ lk_law_whole_isinstance) T.z_isinstance (sc_def.glo _ lk_law_whole_int) T.z_int bt_int (se_nm (k := .local) sc_def 0 rfl lk_law_whole_law_found nk_law_found) bt_isinstance) (se_one (se_not (se_isi tab_bool (sc_def.glo _ lk_law_whole_isinstance) T.z_isinstance (sc_def.glo _ lk_law_whole_bool) T.z_bool bt_bool (se_nm (k := .local) sc_def 0 rfl lk_law_whole_law_found nk_law_found) bt_isinstance)))))
    sss_nil)
  unfold m_law_whole
  exact q
theorem lk_law_inputs_law_found : (defScope s_law_inputs).names.lookup ("_law_found" : Str) = some .local := by decide +kernel
theorem lk_law_inputs_law_hands : (defScope s_law_inputs).names.lookup ("_law_hands" : Str) = some .cell := by decide +kernel
theorem lk_law_inputs_law_n : (defScope s_law_inputs).names.lookup ("_law_n" : Str) = some .cell := by decide +kernel
theorem lk_law_inputs_range : (defScope s_law_inputs).names.lookup ("range" : Str) = some .globalImplicit := by decide +kernel
theorem lk_law_inputs_tuple : (defScope s_law_inputs).names.lookup ("tuple" : Str) = some .globalImplicit := by decide +kernel
theorem sc_law_inputs : FnScope ["_law_hands", "_law_found", "_law_n"] ["_law_hands"] (defScope s_law_inputs) := ⟨rfl, rfl, rfl, by decide +kernel, rfl, by decide +kernel, by decide +kernel⟩
theorem ok_law_inputs (T : Txt K mg) : FnOk P w K mg base CX0 1 T.a_law_inputs T.fd_law_inputs ["_law_hands"] (spOf K 1 m_law_inputs) := by
  have q : FnOk P w K mg base CX0 (0 + 1) T.a_law_inputs T.fd_law_inputs ["_law_hands"] (spOf K 1 (runDef 3 b_law_inputs)) := by
    refine fn_ok' (k := 0) (N := ["_law_hands", "_law_found", "_law_n"]) (body := b_law_inputs) T.F_law_inputs sc_law_inputs rfl rfl (fun cdv A outer s H E hr => ?_)
    exact (sss_cons (ss_nm sc_def 1 sc_law_inputs.nd rfl lk_law_inputs_law_found (se_keep (sl_lst sa_nil)))
    (sss_cons (ss_for PassesOwn.never rfl (si_range1 (sc_def.glo _ lk_law_inputs_range) T.z_range (se_op od_shl se_int (se_nm (k := .cell) sc_def 0 rfl lk_law_inputs_law_hands nk_law_hands))) (sg_nm (k := .cell) sc_def 2 sc_law_inputs.nd rfl lk_law_inputs_law_n)
     (sss_cons (ss_expr (se_append (se_nm (k := .local) sc_def 1 rfl lk_law_inputs_law_found nk_law_found) (se_tmpT cl_tuple (sc_def.glo _ lk_law_inputs_tuple) T.z_tuple bt_tuple (sl_comp rfl (compScope_of sc_def (by decide +kernel)) (compNames_of (N0 := ["_law_hands", "_law_found", "_law_n"]) (N := ["_law_k", "_law_hands", "_law_n"]) (n := 1) (ix := [0, 2]) rfl (by decide +kernel)) (si_range1 (sc_def.glo _ lk_law_inputs_range) T.z_range (se_nm (k := .cell) sc_def 0 rfl lk_law_inputs_law_hands nk_law_hands)) (fun _ _ _ => ⟨(sg_nm (k := .local) (sc_comp (rfl)) 0 (show List.Nodup (["_law_k", "_law_hands", "_law_n"] : List Str) by decide +kernel) rfl (by decide +kernel)), sifs_nil, (se_op od_mod (se_op od_fdiv (se_nm (k := .free) (sc_comp (rfl)) 2 rfl (by decide +kernel) nk_law_n) (se_op od_shl se_int (se_op od_sub (se_op od_sub (se_nm (k := .free) (sc_comp (rfl)) 1 rfl (by decide +kernel) nk_law_hands) se_int) (se_nm (k := .local) (sc_comp (rfl)) 0 rfl (by decide +kernel) nk_law_k)))) se_int)⟩)))))
     sss_nil))
    (sss_cons (ss_ret (se_nm (k := .local) sc_def 1 rfl lk_law_inputs_law_found nk_law_found))
    sss_nil)))
  unfold m_law_inputs
  exact q
theorem lk_is_table_all : (defScope s_is_table).names.lookup ("all" : Str) = some .globalImplicit := by decide +kernel
theorem lk_is_table_len : (defScope s_is_table).names.lookup ("len" : Str) = some .globalImplicit := by decide +kernel
theorem lk_is_table_table : (defScope s_is_table).names.lookup ("table" : Str) = some .cell := by decide +kernel
theorem sc_is_table : FnScope ["table"] ["table"] (defScope s_is_table) := ⟨rfl, rfl, rfl, by decide +kernel, rfl, by decide +kernel, by decide +kernel⟩
theorem ok_is_table (T : Txt K mg) : FnOk P w K mg base CX0 2 T.a_is_table T.fd_is_table ["table"] (spOf K 1 m_is_table) := by
  have G_is_state := ok_is_state (P := P) (w := w) (base := base) T
  have B_is_state := T.F_is_state.binds (ps := ["table", "row"]) fun _ _ _ _ _ _ us hl => match us, hl with | [_, _], _ => rfl
  have q : FnOk P w K mg base CX0 (1 + 1) T.a_is_table T.fd_is_table ["table"] (spOf K 1 (runDef 1 b_is_table)) := by
    refine fn_ok' (k := 1) (N := ["table"]) (body := b_is_table) T.F_is_table sc_is_table rfl rfl (fun cdv A outer s H E hr => ?_)
    exact (sss_cons (ss_if (L2.PW.pt (st_or (st_cmp (od_eq (room_cx hr)) (se_callB1 cd_len (sc_def.glo _ lk_is_table_len) T.z_len bt_len (se_nm (k := .cell) sc_def 0 rfl lk_is_table_table nk_table)) se_int (nomark _)) (st_or1 (st_cmp (od_eq (room_cx hr)) (se_callB1 cd_len (sc_def.glo _ lk_is_table_len) T.z_len bt_len (se_sub (se_nm (k := .cell) sc_def 0 rfl lk_is_table_table nk_table) se_int (fun _ _ => rfl))) se_int (nomark _)))))
     (sss_cons (ss_ret se_bl)
     sss_nil)
     sss_nil)
    (sss_cons (ss_ret (se_tmpB (cl_all rfl) (sc_def.glo _ lk_is_table_all) T.z_all bt_all (sl_comp rfl (compScope_of sc_def (by decide +kernel)) (compNames_of (N0 := ["table"]) (N := ["row", "table"]) (n := 1) (ix := [0]) rfl (by decide +kernel)) (si_seq (se_nm (k := .cell) sc_def 0 rfl lk_is_table_table nk_table)) (fun _ _ _ => ⟨(sg_nm (k := .local) (sc_comp (rfl)) 0 (show List.Nodup (["row", "table"] : List Str) by decide +kernel) rfl (by decide +kernel)), sifs_nil, (se_calls (sc_comp (rfl)) (by decide +kernel) G_is_state (hr.mono (by decide)) T.m_is_state T.F_is_state.kp B_is_state nk_is_state (sa_cons (se_nm (k := .free) (sc_comp (rfl)) 1 rfl (by decide +kernel) nk_table) (sa_cons (se_nm (k := .local) (sc_comp (rfl)) 0 rfl (by decide +kernel) nk_row) sa_nil)) (cons_len (cons_len nil_len)))⟩))))
    sss_nil))
  unfold m_is_table
  exact q
theorem lk_look_at_boards_board : (defScope s_look_at_boards).names.lookup ("board" : Str) = some .local := by decide +kernel
theorem lk_look_at_boards_boards : (defScope s_look_at_boards).names.lookup ("boards" : Str) = some .local := by decide +kernel
theorem lk_look_at_boards_enumerate : (defScope s_look_at_boards).names.lookup ("enumerate" : Str) = some .globalImplicit := by decide +kernel
theorem lk_look_at_boards_is_table : (defScope s_look_at_boards).names.lookup ("is_table" : Str) = some .globalImplicit := by decide +kernel
theorem lk_look_at_boards_k : (defScope s_look_at_boards).names.lookup ("k" : Str) = some .local := by decide +kernel
theorem lk_look_at_boards_len : (defScope s_look_at_boards).names.lookup ("len" : Str) = some .globalImplicit := by decide +kernel
theorem lk_look_at_boards_table : (defScope s_look_at_boards).names.lookup ("table" : Str) = some .local := by decide +kernel
theorem sc_look_at_boards : FnScope ["boards", "k", "board", "table"] ["boards"] (defScope s_look_at_boards) := ⟨rfl, rfl, rfl, by decide +kernel, rfl, by decide +kernel, by decide +kernel⟩
theorem ok_look_at_boards (T : Txt K mg) : FnOk P w K mg base CX0 3 T.a_look_at_boards T.fd_look_at_boards ["boards"] (spOf K 1 m_look_at_boards) := by
  have G_is_table := ok_is_table (P := P) (w := w) (base := base) T
  have B_is_table := T.F_is_table.binds (ps := ["table"]) fun _ _ _ _ _ _ us hl => match us, hl with | [_], _ => rfl
  have q : FnOk P w K mg base CX0 (2 + 1) T.a_look_at_boards T.fd_look_at_boards ["boards"] (spOf K 1 (runDef 4 b_look_at_boards)) := by
    refine fn_ok' (k := 2) (N := ["boards", "k", "board", "table"]) (body := b_look_at_boards) T.F_look_at_boards sc_look_at_boards rfl rfl (fun cdv A outer s H E hr => ?_)
    exact (sss_cons (ss_for PassesOwn.never rfl (si_enum (sc_def.glo _ lk_look_at_boards_enumerate) T.z_enumerate (se_nm (k := .local) sc_def 0 rfl lk_look_at_boards_boards nk_boards)) (sg_tup rfl (sgs_cons (sg_nm (k := .local) sc_def 1 sc_look_at_boards.nd rfl lk_look_at_boards_k) (sgs_cons (sg_nm (k := .local) sc_def 2 sc_look_at_boards.nd rfl lk_look_at_boards_board) sgs_nil)))
     (sss_cons (ss_nm sc_def 3 sc_look_at_boards.nd rfl lk_look_at_boards_table (se_sub (se_nm (k := .local) sc_def 2 rfl lk_look_at_boards_board nk_board) se_int (fun _ _ => rfl)))
     (sss_cons (ss_if (L2.PW.pt (st_or (st_not (st_val (se_calls sc_def lk_look_at_boards_is_table G_is_table (hr.mono (by decide)) T.m_is_table T.F_is_table.kp B_is_table nk_is_table (sa_cons (se_nm (k := .local) sc_def 3 rfl lk_look_at_boards_table nk_table) sa_nil) (cons_len nil_len)))) (st_or1 (st_not (st_chain od_le od_lt se_int (se_sub (se_nm (k := .local) sc_def 2 rfl lk_look_at_boards_board nk_board) se_int (fun _ _ => rfl)) (se_callB1 cd_len (sc_def.glo _ lk_look_at_boards_len) T.z_len bt_len (se_nm (k := .local) sc_def 3 rfl lk_look_at_boards_table nk_table)))))))
      (sss_cons ss_never
      sss_nil)
      sss_nil)
     sss_nil)))
    sss_nil)
  unfold m_look_at_boards
  exact q
theorem lk_look_at_hand_are_lines : (defScope s_look_at_hand).names.lookup ("are_lines" : Str) = some .globalImplicit := by decide +kernel
theorem lk_look_at_hand_counts : (defScope s_look_at_hand).names.lookup ("counts" : Str) = some .local := by decide +kernel
theorem lk_look_at_hand_enumerate : (defScope s_look_at_hand).names.lookup ("enumerate" : Str) = some .globalImplicit := by decide +kernel
theorem lk_look_at_hand_hand : (defScope s_look_at_hand).names.lookup ("hand" : Str) = some .local := by decide +kernel
theorem lk_look_at_hand_is_line : (defScope s_look_at_hand).names.lookup ("is_line" : Str) = some .globalImplicit := by decide +kernel
theorem lk_look_at_hand_line : (defScope s_look_at_hand).names.lookup ("line" : Str) = some .local := by decide +kernel
theorem lk_look_at_hand_lines : (defScope s_look_at_hand).names.lookup ("lines" : Str) = some .local := by decide +kernel
theorem lk_look_at_hand_number : (defScope s_look_at_hand).names.lookup ("number" : Str) = some .local := by decide +kernel
theorem sc_look_at_hand : FnScope ["counts", "k", "hand", "lines", "number", "line"] ["counts", "k", "hand"] (defScope s_look_at_hand) := ⟨rfl, rfl, rfl, by decide +kernel, rfl, by decide +kernel, by decide +kernel⟩
theorem ok_look_at_hand (T : Txt K mg) : FnOk P w K mg base CX0 3 T.a_look_at_hand T.fd_look_at_hand ["counts", "k", "hand"] (spOf K 3 m_look_at_hand) := by
  have G_are_lines := ok_are_lines (P := P) (w := w) (base := base) T
  have B_are_lines := T.F_are_lines.binds (ps := ["goals", "lines"]) fun _ _ _ _ _ _ us hl => match us, hl with | [_, _], _ => rfl
  have G_is_line := ok_is_line (P := P) (w := w) (base := base) T
  have B_is_line := T.F_is_line.binds (ps := ["counts", "lines", "line"]) fun _ _ _ _ _ _ us hl => match us, hl with | [_, _, _], _ => rfl
  have q : FnOk P w K mg base CX0 (2 + 1) T.a_look_at_hand T.fd_look_at_hand ["counts", "k", "hand"] (spOf K 3 (runDef 6 b_look_at_hand)) := by
    refine fn_ok' (k := 2) (N := ["counts", "k", "hand", "lines", "number", "line"]) (body := b_look_at_hand) T.F_look_at_hand sc_look_at_hand rfl rfl (fun cdv A outer s H E hr => ?_)
    exact (sss_cons (ss_nm sc_def 3 sc_look_at_hand.nd rfl lk_look_at_hand_lines (se_sub (se_nm (k := .local) sc_def 2 rfl lk_look_at_hand_hand nk_hand) se_int (fun _ _ => rfl)))
    (sss_cons (ss_if (st_not (st_val (se_calls sc_def lk_look_at_hand_are_lines G_are_lines (hr.mono (by decide)) T.m_are_lines T.F_are_lines.kp B_are_lines nk_are_lines (sa_cons (se_sub (se_nm (k := .local) sc_def 2 rfl lk_look_at_hand_hand nk_hand) se_int (fun _ _ => rfl)) (sa_cons (se_nm (k := .local) sc_def 3 rfl lk_look_at_hand_lines nk_lines) sa_nil)) (cons_len (cons_len nil_len)))))
     (sss_cons ss_never
     sss_nil)
     sss_nil)
    (sss_cons (ss_for PassesOwn.never rfl (si_enum (sc_def.glo _ lk_look_at_hand_enumerate) T.z_enumerate (se_nm (k := .local) sc_def 3 rfl lk_look_at_hand_lines nk_lines)) (sg_tup rfl (sgs_cons (sg_nm (k := .local) sc_def 4 sc_look_at_hand.nd rfl lk_look_at_hand_number) (sgs_cons (sg_nm (k := .local) sc_def 5 sc_look_at_hand.nd rfl lk_look_at_hand_line) sgs_nil)))
     (sss_cons (ss_if (st_not (st_val (se_calls sc_def lk_look_at_hand_is_line G_is_line (hr.mono (by decide)) T.m_is_line T.F_is_line.kp B_is_line nk_is_line (sa_cons (se_nm (k := .local) sc_def 0 rfl lk_look_at_hand_counts nk_counts) (sa_cons (se_nm (k := .local) sc_def 3 rfl lk_look_at_hand_lines nk_lines) (sa_cons (se_nm (k := .local) sc_def 5 rfl lk_look_at_hand_line nk_line) sa_nil))) (cons_len (cons_len (cons_len nil_len))))))
      (sss_cons ss_never
      sss_nil)
      sss_nil)
     sss_nil))
    sss_nil)))
  unfold m_look_at_hand
  exact q
theorem lk_look_boards : (defScope s_look).names.lookup ("boards" : Str) = some .local := by decide +kernel
theorem lk_look_counts : (defScope s_look).names.lookup ("counts" : Str) = some .local := by decide +kernel
theorem lk_look_enumerate : (defScope s_look).names.lookup ("enumerate" : Str) = some .globalImplicit := by decide +kernel
theorem lk_look_hand : (defScope s_look).names.lookup ("hand" : Str) = some .local := by decide +kernel
theorem lk_look_hands : (defScope s_look).names.lookup ("hands" : Str) = some .local := by decide +kernel
theorem lk_look_house : (defScope s_look).names.lookup ("house" : Str) = some .local := by decide +kernel
theorem lk_look_k : (defScope s_look).names.lookup ("k" : Str) = some .local := by decide +kernel
theorem lk_look_len : (defScope s_look).names.lookup ("len" : Str) = some .globalImplicit := by decide +kernel
theorem lk_look_look_at_boards : (defScope s_look).names.lookup ("look_at_boards" : Str) = some .globalImplicit := by decide +kernel
theorem lk_look_look_at_hand : (defScope s_look).names.lookup ("look_at_hand" : Str) = some .globalImplicit := by decide +kernel
theorem sc_look : FnScope ["house", "boards", "hands", "counts", "k", "hand"] ["house"] (defScope s_look) := ⟨rfl, rfl, rfl, by decide +kernel, rfl, by decide +kernel, by decide +kernel⟩
theorem ok_look (T : Txt K mg) : FnOk P w K mg base CX0 4 T.a_look T.fd_look ["house"] (spOf K 1 m_look) := by
  have G_answer_counts := ok_answer_counts (P := P) (w := w) (base := base) T
  have B_answer_counts := T.F_answer_counts.binds (ps := ["table"]) fun _ _ _ _ _ _ us hl => match us, hl with | [_], _ => rfl
  have G_look_at_boards := ok_look_at_boards (P := P) (w := w) (base := base) T
  have B_look_at_boards := T.F_look_at_boards.binds (ps := ["boards"]) fun _ _ _ _ _ _ us hl => match us, hl with | [_], _ => rfl
  have G_look_at_hand := ok_look_at_hand (P := P) (w := w) (base := base) T
  have B_look_at_hand := T.F_look_at_hand.binds (ps := ["counts", "k", "hand"]) fun _ _ _ _ _ _ us hl => match us, hl with | [_, _, _], _ => rfl
  have q : FnOk P w K mg base CX0 (3 + 1) T.a_look T.fd_look ["house"] (spOf K 1 (runDef 6 b_look)) := by
    refine fn_ok' (k := 3) (N := ["house", "boards", "hands", "counts", "k", "hand"]) (body := b_look) T.F_look sc_look rfl rfl (fun cdv A outer s H E hr => ?_)
    exact (sss_cons (ss_nm sc_def 1 sc_look.nd rfl lk_look_boards (se_sub (se_nm (k := .local) sc_def 0 rfl lk_look_house nk_house) se_int (fun _ _ => rfl)))
    (sss_cons (ss_nm sc_def 2 sc_look.nd rfl lk_look_hands (se_sub (se_nm (k := .local) sc_def 0 rfl lk_look_house nk_house) se_int (fun _ _ => rfl)))
    (sss_cons (ss_expr (se_calls sc_def lk_look_look_at_boards G_look_at_boards (hr.mono (by decide)) T.m_look_at_boards T.F_look_at_boards.kp B_look_at_boards nk_look_at_boards (sa_cons (se_nm (k := .local) sc_def 1 rfl lk_look_boards nk_boards) sa_nil) (cons_len nil_len)))
    (sss_cons (ss_if (st_not (st_chain od_le od_le se_int (se_callB1 cd_len (sc_def.glo _ lk_look_len) T.z_len bt_len (se_nm (k := .local) sc_def 2 rfl lk_look_hands nk_hands)) se_int))
     (sss_cons ss_never
     sss_nil)
     sss_nil)
    (sss_cons (ss_compSet (i := 3) sc_look.nd rfl (sc_def.loc _ _ lk_look_counts (by decide)).1 (sc_def.loc _ _ lk_look_counts (by decide)).2 rfl (compScope_of sc_def (by decide +kernel)) (compNames_of (N0 := ["house", "boards", "hands", "counts", "k", "hand"]) (N := ["table", "state"]) (n := 2) (ix := []) rfl (by decide +kernel)) (si_seq (se_nm (k := .local) sc_def 1 rfl lk_look_boards nk_boards)) (fun _ _ _ => ⟨(sg_tup rfl (sgs_cons (sg_nm (k := .local) (sc_comp (rfl)) 0 (show List.Nodup (["table", "state"] : List Str) by decide +kernel) rfl (by decide +kernel)) (sgs_cons (sg_nm (k := .local) (sc_comp (rfl)) 1 (show List.Nodup (["table", "state"] : List Str) by decide +kernel) rfl (by decide +kernel)) sgs_nil))), sifs_nil, (se_calls (sc_comp (rfl)) (by decide +kernel) G_answer_counts (hr.mono (by decide)) T.m_answer_counts T.F_answer_counts.kp B_answer_counts nk_answer_counts (sa_cons (se_nm (k := .local) (sc_comp (rfl)) 0 rfl (by decide +kernel) nk_table) sa_nil) (cons_len nil_len))⟩) (by rfl))
    (sss_cons (ss_for PassesOwn.never rfl (si_enum (sc_def.glo _ lk_look_enumerate) T.z_enumerate (se_nm (k := .local) sc_def 2 rfl lk_look_hands nk_hands)) (sg_tup rfl (sgs_cons (sg_nm (k := .local) sc_def 4 sc_look.nd rfl lk_look_k) (sgs_cons (sg_nm (k := .local) sc_def 5 sc_look.nd rfl lk_look_hand) sgs_nil)))
     (sss_cons (ss_expr (se_calls sc_def lk_look_look_at_hand G_look_at_hand (hr.mono (by decide)) T.m_look_at_hand T.F_look_at_hand.kp B_look_at_hand nk_look_at_hand (sa_cons (se_nm (k := .local) sc_def 3 rfl lk_look_counts nk_counts) (sa_cons (se_nm (k := .local) sc_def 4 rfl lk_look_k nk_k) (sa_cons (se_nm (k := .local) sc_def 5 rfl lk_look_hand nk_hand) sa_nil))) (cons_len (cons_len (cons_len nil_len)))))
     sss_nil))
    (sss_cons (ss_ret se_bl)
    sss_nil)))))))
  unfold m_look
  exact q
theorem lk_law_right_law_due : (defScope s_law_right).names.lookup ("_law_due" : Str) = some .local := by decide +kernel
theorem lk_law_right_law_found : (defScope s_law_right).names.lookup ("_law_found" : Str) = some .local := by decide +kernel
theorem lk_law_right_law_house_here : (defScope s_law_right).names.lookup ("_law_house_here" : Str) = some .local := by decide +kernel
theorem lk_law_right_law_inputs : (defScope s_law_right).names.lookup ("_law_inputs" : Str) = some .globalImplicit := by decide +kernel
theorem lk_law_right_law_inputs_here : (defScope s_law_right).names.lookup ("_law_inputs_here" : Str) = some .local := by decide +kernel
theorem lk_law_right_law_turn : (defScope s_law_right).names.lookup ("_law_turn" : Str) = some .local := by decide +kernel
theorem lk_law_right_all : (defScope s_law_right).names.lookup ("all" : Str) = some .globalImplicit := by decide +kernel
theorem lk_law_right_inputs_of : (defScope s_law_right).names.lookup ("inputs_of" : Str) = some .globalImplicit := by decide +kernel
theorem lk_law_right_isinstance : (defScope s_law_right).names.lookup ("isinstance" : Str) = some .globalImplicit := by decide +kernel
theorem lk_law_right_len : (defScope s_law_right).names.lookup ("len" : Str) = some .globalImplicit := by decide +kernel
theorem lk_law_right_list : (defScope s_law_right).names.lookup ("list" : Str) = some .globalImplicit := by decide +kernel
theorem lk_law_right_look : (defScope s_law_right).names.lookup ("look" : Str) = some .globalImplicit := by decide +kernel
theorem lk_law_right_range : (defScope s_law_right).names.lookup ("range" : Str) = some .globalImplicit := by decide +kernel
theorem lk_law_right_tuple : (defScope s_law_right).names.lookup ("tuple" : Str) = some .globalImplicit := by decide +kernel
theorem sc_law_right : FnScope ["_law_house_here", "_law_due", "_law_turn", "_law_found", "_law_inputs_here"] ["_law_house_here"] (defScope s_law_right) := ⟨rfl, rfl, rfl, by decide +kernel, rfl, by decide +kernel, by decide +kernel⟩
theorem ok_law_right (T : Txt K mg) : FnOk P w K mg base CX0 5 T.a_law_right T.fd_law_right ["_law_house_here"] (spOf K 1 m_law_right) := by
  have G_law_inputs := ok_law_inputs (P := P) (w := w) (base := base) T
  have B_law_inputs := T.F_law_inputs.binds (ps := ["_law_hands"]) fun _ _ _ _ _ _ us hl => match us, hl with | [_], _ => rfl
  have G_law_whole := ok_law_whole (P := P) (w := w) (base := base) T
  have B_law_whole := T.F_law_whole.binds (ps := ["_law_found"]) fun _ _ _ _ _ _ us hl => match us, hl with | [_], _ => rfl
  have G_inputs_of := ok_inputs_of (P := P) (w := w) (base := base) T
  have B_inputs_of := T.F_inputs_of.binds (ps := ["house"]) fun _ _ _ _ _ _ us hl => match us, hl with | [_], _ => rfl
  have G_look := ok_look (P := P) (w := w) (base := base) T
  have B_look := T.F_look.binds (ps := ["house"]) fun _ _ _ _ _ _ us hl => match us, hl with | [_], _ => rfl
  have q : FnOk P w K mg base CX0 (4 + 1) T.a_law_right T.fd_law_right ["_law_house_here"] (spOf K 1 (runDef 5 b_law_right)) := by
    refine fn_ok' (k := 4) (N := ["_law_house_here", "_law_due", "_law_turn", "_law_found", "_law_inputs_here"]) (body := b_law_right) T.F_law_right sc_law_right rfl rfl (fun cdv A outer s H E hr => ?_)
    exact (sss_cons (ss_if (st_cmp od_isnt (se_calls sc_def lk_law_right_look G_look (hr.mono (by decide)) T.m_look T.F_look.kp B_look nk_look (sa_cons (se_nm (k := .local) sc_def 0 rfl lk_law_right_law_house_here nk_law_house_here) sa_nil) (cons_len nil_len)) se_bl (nomark _))
     (sss_cons (ss_ret se_bl)
     sss_nil)
     sss_nil)
    (sss_cons (ss_nm sc_def 1 sc_law_right.nd rfl lk_law_right_law_due (se_calls sc_def lk_law_right_law_inputs G_law_inputs (hr.mono (by decide)) T.m_law_inputs T.F_law_inputs.kp B_law_inputs nk_law_inputs (sa_cons (se_callB1 cd_len (sc_def.glo _ lk_law_right_len) T.z_len bt_len (se_sub (se_nm (k := .local) sc_def 0 rfl lk_law_right_law_house_here nk_law_house_here) se_int (fun _ _ => rfl))) sa_nil) (cons_len nil_len)))
    (sss_cons (ss_for PassesOwn.never rfl (si_range1 (sc_def.glo _ lk_law_right_range) T.z_range se_int) (sg_nm (k := .local) sc_def 2 sc_law_right.nd rfl lk_law_right_law_turn)
     (sss_cons (ss_nm sc_def 3 sc_law_right.nd rfl lk_law_right_law_found (se_calls sc_def lk_law_right_inputs_of G_inputs_of (hr.mono (by decide)) T.m_inputs_of T.F_inputs_of.kp B_inputs_of nk_inputs_of (sa_cons (se_nm (k := .local) sc_def 0 rfl lk_law_right_law_house_here nk_law_house_here) sa_nil) (cons_len nil_len)))
     (sss_cons (ss_if (L2.PW.pt (st_or (st_not (st_val (se_isi tab_list (sc_def.glo _ lk_law_right_isinstance) T.z_isinstance (sc_def.glo _ lk_law_right_list) T.z_list bt_list (se_nm (k := .local) sc_def 3 rfl lk_law_right_law_found nk_law_found) bt_isinstance))) (st_or1 (st_cmp (od_ne (room_cx hr)) (se_nm (k := .local) sc_def 3 rfl lk_law_right_law_found nk_law_found) (se_nm (k := .local) sc_def 1 rfl lk_law_right_law_due nk_law_due) (nomark _)))))
      (sss_cons (ss_ret se_bl)
      sss_nil)
      sss_nil)
     (sss_cons (ss_for PassesOwn.never rfl (si_seq (se_nm (k := .local) sc_def 3 rfl lk_law_right_law_found nk_law_found)) (sg_nm (k := .local) sc_def 4 sc_law_right.nd rfl lk_law_right_law_inputs_here)
      (sss_cons (ss_if (L2.PW.pt (st_or (st_not (st_val (se_isi tab_tuple (sc_def.glo _ lk_law_right_isinstance) T.z_isinstance (sc_def.glo _ lk_law_right_tuple) T.z_tuple bt_tuple (se_nm (k := .local) sc_def 4 rfl lk_law_right_law_inputs_here nk_law_inputs_here) bt_isinstance))) (st_or1 (st_not (st_val (se_tmpB (cl_all rfl) (sc_def.glo _ lk_law_right_all) T.z_all bt_all (sl_comp rfl (compScope_of sc_def (by decide +kernel)) (compNames_of (N0 := ["_law_house_here", "_law_due", "_law_turn", "_law_found", "_law_inputs_here"]) (N := ["_law_one"]) (n := 1) (ix := []) rfl (by decide +kernel)) (si_seq (se_nm (k := .local) sc_def 4 rfl lk_law_right_law_inputs_here nk_law_inputs_here)) (fun _ _ _ => ⟨(sg_nm (k := .local) (sc_comp (rfl)) 0 (show List.Nodup (["_law_one"] : List Str) by decide +kernel) rfl (by decide +kernel)), sifs_nil, (se_calls (sc_comp (rfl)) (by decide +kernel) G_law_whole (hr.mono (by decide)) T.m_law_whole T.F_law_whole.kp B_law_whole nk_law_whole (sa_cons (se_nm (k := .local) (sc_comp (rfl)) 0 rfl (by decide +kernel) nk_law_one) sa_nil) (cons_len nil_len))⟩))))))))
       (sss_cons (ss_ret se_bl)
       sss_nil)
       sss_nil)
      sss_nil))
     (sss_cons (ss_expr (se_clear (se_nm (k := .local) sc_def 3 rfl lk_law_right_law_found nk_law_found)))
     sss_nil)))))
    (sss_cons (ss_ret se_bl)
    sss_nil))))
  unfold m_law_right
  exact q
theorem lk_law_law_box : (defScope s_law).names.lookup ("_law_box" : Str) = some .globalImplicit := by decide +kernel
theorem lk_law_law_box_here : (defScope s_law).names.lookup ("_law_box_here" : Str) = some .local := by decide +kernel
theorem lk_law_law_house : (defScope s_law).names.lookup ("_law_house" : Str) = some .globalImplicit := by decide +kernel
theorem lk_law_law_house_here : (defScope s_law).names.lookup ("_law_house_here" : Str) = some .local := by decide +kernel
theorem lk_law_law_houses : (defScope s_law).names.lookup ("_law_houses" : Str) = some .local := by decide +kernel
theorem lk_law_law_k : (defScope s_law).names.lookup ("_law_k" : Str) = some .local := by decide +kernel
theorem lk_law_law_large : (defScope s_law).names.lookup ("_law_large" : Str) = some .local := by decide +kernel
theorem lk_law_law_script : (defScope s_law).names.lookup ("_law_script" : Str) = some .local := by decide +kernel
theorem lk_law_law_take : (defScope s_law).names.lookup ("_law_take" : Str) = some .globalImplicit := by decide +kernel
theorem lk_law_all : (defScope s_law).names.lookup ("all" : Str) = some .globalImplicit := by decide +kernel
theorem lk_law_int : (defScope s_law).names.lookup ("int" : Str) = some .globalImplicit := by decide +kernel
theorem lk_law_len : (defScope s_law).names.lookup ("len" : Str) = some .globalImplicit := by decide +kernel
theorem lk_law_look : (defScope s_law).names.lookup ("look" : Str) = some .globalImplicit := by decide +kernel
theorem lk_law_range : (defScope s_law).names.lookup ("range" : Str) = some .globalImplicit := by decide +kernel
theorem sc_law : FnScope ["_law_script", "_law_houses", "_law_k", "_law_box_here", "_law_large", "_law_house_here"] ["_law_script"] (defScope s_law) := ⟨rfl, rfl, rfl, by decide +kernel, rfl, by decide +kernel, by decide +kernel⟩
theorem ok_law (T : Txt K mg) : FnOk P w K mg base CX0 6 T.a_law T.fd_law ["_law_script"] (spOf K 1 m_law) := by
  have G_law_box := ok_law_box (P := P) (w := w) (base := base) T
  have B_law_box := T.F_law_box.binds (ps := ["_law_script", "_law_k"]) fun _ _ _ _ _ _ us hl => match us, hl with | [_, _], _ => rfl
  have G_law_house := ok_law_house (P := P) (w := w) (base := base) T
  have B_law_house := T.F_law_house.binds (ps := ["_law_box_here", "_law_boards_here", "_law_hands", "_law_lines"]) fun _ _ _ _ _ _ us hl => match us, hl with | [_, _, _, _], _ => rfl
  have G_law_right := ok_law_right (P := P) (w := w) (base := base) T
  have B_law_right := T.F_law_right.binds (ps := ["_law_house_here"]) fun _ _ _ _ _ _ us hl => match us, hl with | [_], _ => rfl
  have G_law_take := ok_law_take (P := P) (w := w) (base := base) T
  have B_law_take := T.F_law_take.binds (ps := ["_law_box_here", "_law_many"]) fun _ _ _ _ _ _ us hl => match us, hl with | [_, _], _ => rfl
  have G_look := ok_look (P := P) (w := w) (base := base) T
  have B_look := T.F_look.binds (ps := ["house"]) fun _ _ _ _ _ _ us hl => match us, hl with | [_], _ => rfl
  have q : FnOk P w K mg base CX0 (5 + 1) T.a_law T.fd_law ["_law_script"] (spOf K 1 (runDef 6 b_law)) := by
    refine fn_ok' (k := 5) (N := ["_law_script", "_law_houses", "_law_k", "_law_box_here", "_law_large", "_law_house_here"]) (body := b_law) T.F_law sc_law rfl rfl (fun cdv A outer s H E hr => ?_)
    exact (sss_cons (ss_nm sc_def 1 sc_law.nd rfl lk_law_law_houses (se_keep (sl_lst sa_nil)))
    (sss_cons (ss_for PassesOwn.never rfl (si_range1 (sc_def.glo _ lk_law_range) T.z_range (se_op od_add se_int (se_tmpB cl_len (sc_def.glo _ lk_law_len) T.z_len bt_len (sl_slice (se_nm (k := .local) sc_def 0 rfl lk_law_law_script nk_law_script) (so_some se_int) (so_some se_int))))) (sg_nm (k := .local) sc_def 2 sc_law.nd rfl lk_law_law_k)
     (sss_cons (ss_nm sc_def 3 sc_law.nd rfl lk_law_law_box_here (se_calls sc_def lk_law_law_box G_law_box (hr.mono (by decide)) T.m_law_box T.F_law_box.kp B_law_box nk_law_box (sa_cons (se_nm (k := .local) sc_def 0 rfl lk_law_law_script nk_law_script) (sa_cons (se_nm (k := .local) sc_def 2 rfl lk_law_law_k nk_law_k) sa_nil)) (cons_len (cons_len nil_len))))
     (sss_cons (ss_nm sc_def 4 sc_law.nd rfl lk_law_law_large (se_cmp (od_eq (room_cx hr)) (se_calls sc_def lk_law_law_take G_law_take (hr.mono (by decide)) T.m_law_take T.F_law_take.kp B_law_take nk_law_take (sa_cons (se_nm (k := .local) sc_def 3 rfl lk_law_law_box_here nk_law_box_here) (sa_cons se_int sa_nil)) (cons_len (cons_len nil_len))) se_int (nomark _)))
     (sss_cons (ss_nm sc_def 5 sc_law.nd rfl lk_law_law_house_here (se_calls sc_def lk_law_law_house G_law_house (hr.mono (by decide)) T.m_law_house T.F_law_house.kp B_law_house nk_law_house (sa_cons (se_nm (k := .local) sc_def 3 rfl lk_law_law_box_here nk_law_box_here) (sa_cons (se_tmpSub (sl_lst (sa_cons se_int (sa_cons se_int sa_nil))) (se_callT1 cd_int (sc_def.glo _ lk_law_int) T.z_int bt_int (se_nm (k := .local) sc_def 4 rfl lk_law_law_large nk_law_large)) (fun _ _ => rfl)) (sa_cons (se_op od_add se_int (se_calls sc_def lk_law_law_take G_law_take (hr.mono (by decide)) T.m_law_take T.F_law_take.kp B_law_take nk_law_take (sa_cons (se_nm (k := .local) sc_def 3 rfl lk_law_law_box_here nk_law_box_here) (sa_cons se_int sa_nil)) (cons_len (cons_len nil_len)))) (sa_cons (se_tmpSub (sl_lst (sa_cons se_int (sa_cons se_int sa_nil))) (se_callT1 cd_int (sc_def.glo _ lk_law_int) T.z_int bt_int (se_nm (k := .local) sc_def 4 rfl lk_law_law_large nk_law_large)) (fun _ _ => rfl)) sa_nil)))) (cons_len (cons_len (cons_len (cons_len nil_len))))))
     (sss_cons (ss_if (L2.PW.pt (st_and (st_val (se_nm (k := .local) sc_def 4 rfl lk_law_law_large nk_law_large)) (st_and1 (st_cmp od_isnt (se_calls sc_def lk_law_look G_look (hr.mono (by decide)) T.m_look T.F_look.kp B_look nk_look (sa_cons (se_nm (k := .local) sc_def 5 rfl lk_law_law_house_here nk_law_house_here) sa_nil) (cons_len nil_len)) se_bl (nomark _)))))
      (sss_cons (ss_ret se_bl)
      sss_nil)
      sss_nil)
     (sss_cons (ss_if (st_not (st_val (se_nm (k := .local) sc_def 4 rfl lk_law_law_large nk_law_large)))
      (sss_cons (ss_expr (se_append (se_nm (k := .local) sc_def 1 rfl lk_law_law_houses nk_law_houses) (se_nm (k := .local) sc_def 5 rfl lk_law_law_house_here nk_law_house_here)))
      sss_nil)
      sss_nil)
     sss_nil))))))
    (sss_cons (ss_ret (se_tmpB (cl_all rfl) (sc_def.glo _ lk_law_all) T.z_all bt_all (sl_comp rfl (compScope_of sc_def (by decide +kernel)) (compNames_of (N0 := ["_law_script", "_law_houses", "_law_k", "_law_box_here", "_law_large", "_law_house_here"]) (N := ["_law_house_here"]) (n := 1) (ix := []) rfl (by decide +kernel)) (si_seq (se_op od_add (se_nm (k := .local) sc_def 1 rfl lk_law_law_houses nk_law_houses) (se_keep (sl_slice (se_nm (k := .local) sc_def 1 rfl lk_law_law_houses nk_law_houses) so_none (so_some se_int))))) (fun _ _ _ => ⟨(sg_nm (k := .local) (sc_comp (rfl)) 0 (show List.Nodup (["_law_house_here"] : List Str) by decide +kernel) rfl (by decide +kernel)), sifs_nil, (se_calls (sc_comp (rfl)) (by decide +kernel) G_law_right (hr.mono (by decide)) T.m_law_right T.F_law_right.kp B_law_right nk_law_right (sa_cons (se_nm (k := .local) (sc_comp (rfl)) 0 rfl (by decide +kernel) nk_law_house_here) sa_nil) (cons_len nil_len))⟩))))
    sss_nil)))
  unfold m_law
  exact q
end
end My
namespace My
open MM
open PySem (Str)
/-- the box at b -/
def BoxAt (s : Sto) (b : Nat) : Prop := ∃ x y : Int, s[b]? = some (.lst [.int x, .int y]) ∧ 0 ≤ y ∧ y < 2147483648
/-- all but the box stays -/
structure Kept (b : Nat) (s s' : Sto) : Prop where
  le : s.length ≤ s'.length
  at_ : ∀ n, n < s.length → n ≠ b → s'[n]? = s[n]?
theorem Kept.refl (b : Nat) (s : Sto) : Kept b s s := ⟨Nat.le_refl _, fun _ _ _ => rfl⟩
theorem Kept.trans {b : Nat} {s s1 s2 : Sto} (h : Kept b s s1) (k : Kept b s1 s2) : Kept b s s2 :=
  ⟨Nat.le_trans h.le k.le, fun n hn hb => (k.at_ n (Nat.lt_of_lt_of_le hn h.le) hb).trans (h.at_ n hn hb)⟩
theorem take_ok {s : Sto} {b : Nat} {k : Int} {Q : D → Sto → Prop} (hb : BoxAt s b) (hk : 0 < k) (hk2 : k < 1073741824)
    (h : ∀ r s', 0 ≤ r → r < k → BoxAt s' b → s'.length = s.length → (∀ n, n ≠ b → s'[n]? = s[n]?) → Q (.int r) s') : wp (m_law_take [.ref b, .int k]) Q s := by
  obtain ⟨x, y, e, h0, h1⟩ := hb
  have hl : b < s.length := (List.getElem?_eq_some_iff.mp e).1
  have es : ∀ ds : List D, (s.set b (.lst ds))[b]? = some (.lst ds) := fun ds => List.getElem?_set_self hl
  have eo : ∀ (ds : List D) (n : Nat), n ≠ b → (s.set b (.lst ds))[n]? = s[n]? := fun ds n hn => List.getElem?_set_ne (Ne.symm hn)
  have fin : ∀ (x' y' : Int) (r : Int), 0 ≤ y' → y' < 2147483648 → 0 ≤ r → r < k → Q (.int r) (s.set b (.lst [.int x', .int y'])) := fun x' y' r a1 a2 a3 a4 =>
    h r _ a3 a4 ⟨x', y', es _, a1, a2⟩ (by simp) (eo _)
  simp only [m_law_take, b_law_take, wp_run, wp_bnd, wp_ret, wp_chk, wp_alloc, wp_bad, sSeq, sIf, sAsg, sRet, sExp, sNext, c1, c2, cVar, cCon, cCall, cCons, cNil, cTup, cKeep, aDisp, tCmpB, tVal, tNotB, tAndB, tOrB, gVar, gSubD, gTupD, gsCons, gsNil, flwD, ltD, leD, gtD, geD, cmpI, addD, subD, mulD, fdivD, modD, powD, subsD, itemD, lenD, intD, setItemD, ix20, ix21, wp_ite, truD, aComp, MM.iRng1, iSeq, capt, cTmpSub, cTmp, eqD_int, neD_int, beq_iff_eq, List.replicate_succ, List.replicate_zero, Option.join_some, rng_len, List.map_cons, List.map_nil, List.cons_append, List.nil_append, List.replicate, List.getElem?_cons_zero, List.getElem?_cons_succ, List.set_cons_zero, List.set_cons_succ, List.length_cons, List.length_nil, Nat.reduceAdd, Nat.reduceSub, ge_iff_le, Int.reduceLE, Int.reduceLT, if_true, if_false, decide_eq_true_eq, Int.toNat_zero, Int.toNat_one, Int.reduceToNat, and_true, true_and, wp_getL e, wp_getL (es _), wp_putL e, wp_putL (es _)]
  by_cases hx : 0 < x
  · rw [if_pos hx]
    exact ⟨hk, ⟨hk, hk2⟩, fin _ _ _ h0 h1 (Int.emod_nonneg _ (by omega)) (Int.emod_lt_of_pos _ hk)⟩
  · rw [if_neg hx]
    have y1 := Int.emod_nonneg (y * 48271 + 12345) (show (2147483647 : Int) ≠ 0 by decide)
    have y2 := Int.emod_lt_of_pos (y * 48271 + 12345) (show (0 : Int) < 2147483647 by decide)
    generalize (y * 48271 + 12345) % 2147483647 = z at *
    refine ⟨.inl ⟨by omega, by omega⟩, .inl ⟨by omega, by omega⟩, hk, fin _ _ _ y1 (by omega) (Int.emod_nonneg _ (by omega)) (Int.emod_lt_of_pos _ hk)⟩

theorem Kept.of {b : Nat} {s s' : Sto} (h1 : s'.length = s.length) (h2 : ∀ n, n ≠ b → s'[n]? = s[n]?) : Kept b s s' := ⟨by omega, fun n _ hn => h2 n hn⟩
theorem Kept.snoc {b : Nat} {s : Sto} (o : MO) : Kept b s (s ++ [o]) := ⟨by simp, fun n hn _ => List.getElem?_append_left hn⟩
theorem Kept.box {b : Nat} {s s' : Sto} (hb : BoxAt s b) (o : MO) : BoxAt (s ++ [o]) b := by
  obtain ⟨x, y, e, h0, h1⟩ := hb
  exact ⟨x, y, by rw [List.getElem?_append_left (List.getElem?_eq_some_iff.mp e).1]; exact e, h0, h1⟩
theorem take2 {s : Sto} {b : Nat} {k : Int} {Q : D → Sto → Prop} (hb : BoxAt s b) (hk : 0 < k) (hk2 : k < 1073741824)
    (h : ∀ r s', 0 ≤ r → r < k → BoxAt s' b → Kept b s s' → Q (.int r) s') : wp (m_law_take [.ref b, .int k]) Q s :=
  take_ok hb hk hk2 fun r s' h1 h2 h3 h4 h5 => h r s' h1 h2 h3 (Kept.of h4 h5)
def PairD (S : Int) (d : D) : Prop := ∃ g t : Int, d = .tup [.int g, .int t] ∧ 0 ≤ g ∧ g < S ∧ 0 ≤ t ∧ t < 4
/-- a list of so many, each of them such -/
structure ListAt (s : Sto) (n : Nat) (k : Nat) (P : D → Prop) (ds : List D) : Prop where
  at_ : s[n]? = some (.lst ds)
  len : ds.length = k
  all : ∀ d ∈ ds, P d
theorem ListAt.kept {b : Nat} {s s' : Sto} {n k : Nat} {P : D → Prop} {ds : List D} (h : ListAt s n k P ds) (q : Kept b s s') (hn : n ≠ b) : ListAt s' n k P ds :=
  ⟨(q.at_ n (List.getElem?_eq_some_iff.mp h.at_).1 hn).trans h.at_, h.len, h.all⟩
/-- [take(top) for _ in range(S)], kept -/
theorem told_ok {s : Sto} {b : Nat} {top : Int} {n : Nat} {caps : Loc} {e : CE} {Q : List D → Sto → Prop} (hb : BoxAt s b) (h1 : 0 < top) (h2 : top < 1073741824)
    (he : ∀ d, e (some d :: caps) = m_law_take [.ref b, .int top]) (h : ∀ ds s', ds.length = n → (∀ d ∈ ds, ∃ t : Int, d = .int t ∧ 0 ≤ t ∧ t < top) → BoxAt s' b → Kept b s s' → Q ds s') :
    wp (collect (gVar 0) tTrue e anySt (rngD 0 n) (none :: caps)) Q s := by
  refine wp_comp (fun i out s' => out.length = i ∧ (∀ d ∈ out, ∃ t : Int, d = .int t ∧ 0 ≤ t ∧ t < top) ∧ BoxAt s' b ∧ Kept b s s') (fun _ _ s _ => trivial) ⟨rfl, by simp, hb, Kept.refl _ _⟩ (fun i d out s1 _ ⟨a1, a2, a3, a4⟩ => ?_) (fun out s1 ⟨a1, a2, a3, a4⟩ => h out s1 (by rw [a1, rng_len]) a2 a3 a4)
  rw [he]
  refine take2 a3 h1 h2 fun r s2 r0 r1 b2 k2 => ⟨by simp [a1], fun d hd => ?_, b2, a4.trans k2⟩
  rcases List.mem_append.mp hd with hd | hd
  · exact a2 d hd
  · rw [List.mem_singleton] at hd; exact ⟨r, hd, r0, r1⟩
theorem deed_ok {s : Sto} {b : Nat} {kind S top : Int} {Q : D → Sto → Prop} (hb : BoxAt s b) (hS : 1 ≤ S) (hS2 : S ≤ 4) (ht : 1 ≤ top) (ht2 : top ≤ 4)
    (h : ∀ n ds s', s.length ≤ n → ListAt s' n S.toNat (PairD S) ds → BoxAt s' b → Kept b s s' → Q (.ref n) s') : wp (m_law_deed [.ref b, .int kind, .int S, .int top]) Q s := by
  simp only [m_law_deed, b_law_deed, wp_run, wp_bnd, wp_ret, wp_chk, wp_alloc, wp_bad, sSeq, sIf, sAsg, sRet, sExp, sNext, c1, c2, cVar, cCon, cCall, cCons, cNil, cTup, cKeep, aDisp, tCmpB, tVal, tNotB, tAndB, tOrB, gVar, gSubD, gTupD, gsCons, gsNil, flwD, ltD, leD, gtD, geD, cmpI, addD, subD, mulD, fdivD, modD, powD, subsD, itemD, lenD, intD, setItemD, ix20, ix21, wp_ite, truD, aComp, MM.iRng1, iSeq, capt, cTmpSub, cTmp, eqD_int, neD_int, beq_iff_eq, List.replicate_succ, List.replicate_zero, Option.join_some, rng_len, List.map_cons, List.map_nil, List.cons_append, List.nil_append, List.replicate, List.getElem?_cons_zero, List.getElem?_cons_succ, List.set_cons_zero, List.set_cons_succ, List.length_cons, List.length_nil, Nat.reduceAdd, Nat.reduceSub, ge_iff_le, Int.reduceLE, Int.reduceLT, if_true, if_false, decide_eq_true_eq, Int.toNat_zero, Int.toNat_one, Int.reduceToNat, and_true, true_and]
  refine take2 hb (by omega) (by omega) fun goal s1 g0 g1 b1 k1 => ?_
  have e1 : b < s.length := by obtain ⟨x, y, e, _⟩ := hb; exact (List.getElem?_eq_some_iff.mp e).1
  have hSb : (-(2:Int) ^ 62 ≤ S ∧ S < 2 ^ 62) := ⟨by omega, by omega⟩
  have hSl : S.toNat ≤ lim := lim_le (by omega)
  refine ⟨hSb, hSl, ?_⟩
  refine told_ok b1 (by omega) (by omega) (fun d => rfl) fun told s2 t1 t2 b2 k2 => ?_
  -- told stands at s2.length
  have k3 : Kept b s (s2 ++ [.lst told]) := (k1.trans k2).trans (Kept.snoc _)
  have b3 : BoxAt (s2 ++ [.lst told]) b := Kept.box (s' := s) b2 _
  have q3 : (s2 ++ [MO.lst told])[s2.length]? = some (.lst told) := by simp
  have hle : s.length ≤ s2.length := Nat.le_trans k1.le k2.le
  have nb : s2.length ≠ b := by omega
  generalize hs3 : s2 ++ [MO.lst told] = s3 at *
  have l3 : s3.length = s2.length + 1 := by rw [← hs3]; simp
  have got : ∀ i : Nat, i < S.toNat → ∃ t : Int, told[i]? = some (.int t) ∧ 0 ≤ t ∧ t < 4 := fun i hi => by
    have hl : i < told.length := by omega
    obtain ⟨t, e, t0, t9⟩ := t2 told[i] (List.getElem_mem hl)
    exact ⟨t, by rw [List.getElem?_eq_getElem hl, e], t0, by omega⟩
  -- the five ways end alike
  have fin : ∀ {e : CE} {caps : Loc}, (∀ (i : Nat) s', i < S.toNat → BoxAt s' b → Kept b s3 s' → wp (e (some (.int i) :: caps)) (fun x s2 => PairD S x ∧ BoxAt s2 b ∧ Kept b s3 s2) s') →
      wp (collect (gVar 0) tTrue e anySt (rngD 0 S.toNat) (none :: caps)) (fun a s' => Q (.ref s'.length) (s' ++ [.lst a])) s3 := fun {e caps} he => by
    refine wp_comp (fun i out s' => out.length = i ∧ (∀ d ∈ out, PairD S d) ∧ BoxAt s' b ∧ Kept b s3 s') (fun _ _ s _ => trivial) ⟨rfl, by simp, b3, Kept.refl _ _⟩ (fun i d out s1 hd ⟨a1, a2, a3, a4⟩ => ?_) (fun out s1 ⟨a1, a2, a3, a4⟩ => ?_)
    · obtain ⟨hi, ed⟩ := rng_of hd
      subst ed
      refine wp_mono (he i s1 hi a3 a4) fun x s2 ⟨p1, p2, p3⟩ => ⟨by simp [a1], fun d hd => ?_, p2, p3⟩
      rcases List.mem_append.mp hd with hd | hd
      · exact a2 d hd
      · rw [List.mem_singleton] at hd; rw [hd]; exact p1
    · refine h s1.length out _ (Nat.le_trans hle (by have := a4.le; omega)) ⟨by simp, by rw [a1, rng_len], a2⟩ (Kept.box (s' := s) a3 _) ((k3.trans a4).trans (Kept.snoc _))
  have told_at : ∀ (i : Nat) s', i < S.toNat → Kept b s3 s' → ∃ t : Int, (0 ≤ t ∧ t < 4) ∧ s'[s2.length]? = some (.lst told) ∧ itemD told (i : Int) = ret (.int t) := fun i s' hi kk => by
    obtain ⟨t, e, t0⟩ := got i hi
    refine ⟨t, t0, (kk.at_ _ (by omega) nb).trans q3, item_nat (by omega) (by simpa using e)⟩
  have g2 : goal < S := g1
  split
  · refine ⟨hSb, hSl, fin fun i s' hi b4 k4 => ?_⟩
    obtain ⟨t, t0, e5, e6⟩ := told_at i s' hi k4
    simp only [wp_run, wp_bnd, wp_ret, wp_chk, wp_alloc, wp_bad, sSeq, sIf, sAsg, sRet, sExp, sNext, c1, c2, cVar, cCon, cCall, cCons, cNil, cTup, cKeep, aDisp, tCmpB, tVal, tNotB, tAndB, tOrB, gVar, gSubD, gTupD, gsCons, gsNil, flwD, ltD, leD, gtD, geD, cmpI, addD, subD, mulD, fdivD, modD, powD, subsD, lenD, intD, setItemD, wp_ite, truD, aComp, MM.iRng1, iSeq, capt, cTmpSub, cTmp, eqD_int, neD_int, beq_iff_eq, List.replicate_succ, List.replicate_zero, Option.join_some, rng_len, List.map_cons, List.map_nil, List.cons_append, List.nil_append, List.replicate, List.getElem?_cons_zero, List.getElem?_cons_succ, List.set_cons_zero, List.set_cons_succ, List.length_cons, List.length_nil, Nat.reduceAdd, Nat.reduceSub, ge_iff_le, Int.reduceLE, Int.reduceLT, if_true, if_false, decide_eq_true_eq, Int.toNat_zero, Int.toNat_one, Int.reduceToNat, and_true, true_and, wp_getL e5, e6]
    exact ⟨lim_le (by decide), ⟨_, _, rfl, by omega, by omega, t0⟩, b4, k4⟩
  split
  · refine ⟨hSb, hSl, fin fun i s' hi b4 k4 => ?_⟩
    simp only [wp_run, wp_bnd, wp_ret, wp_chk, wp_alloc, wp_bad, sSeq, sIf, sAsg, sRet, sExp, sNext, c1, c2, cVar, cCon, cCall, cCons, cNil, cTup, cKeep, aDisp, tCmpB, tVal, tNotB, tAndB, tOrB, gVar, gSubD, gTupD, gsCons, gsNil, flwD, ltD, leD, gtD, geD, cmpI, addD, subD, mulD, fdivD, modD, powD, subsD, itemD, lenD, intD, setItemD, ix20, ix21, wp_ite, truD, aComp, MM.iRng1, iSeq, capt, cTmpSub, cTmp, eqD_int, neD_int, beq_iff_eq, List.replicate_succ, List.replicate_zero, Option.join_some, rng_len, List.map_cons, List.map_nil, List.cons_append, List.nil_append, List.replicate, List.getElem?_cons_zero, List.getElem?_cons_succ, List.set_cons_zero, List.set_cons_succ, List.length_cons, List.length_nil, Nat.reduceAdd, Nat.reduceSub, ge_iff_le, Int.reduceLE, Int.reduceLT, if_true, if_false, decide_eq_true_eq, Int.toNat_zero, Int.toNat_one, Int.reduceToNat, and_true, true_and]
    exact ⟨lim_le (by decide), ⟨_, _, rfl, g0, g2, by omega, by omega⟩, b4, k4⟩
  split
  · refine ⟨hSb, hSl, fin fun i s' hi b4 k4 => ?_⟩
    obtain ⟨t, t0, e5, e6⟩ := told_at i s' hi k4
    simp only [wp_run, wp_bnd, wp_ret, wp_chk, wp_alloc, wp_bad, sSeq, sIf, sAsg, sRet, sExp, sNext, c1, c2, cVar, cCon, cCall, cCons, cNil, cTup, cKeep, aDisp, tCmpB, tVal, tNotB, tAndB, tOrB, gVar, gSubD, gTupD, gsCons, gsNil, flwD, ltD, leD, gtD, geD, cmpI, addD, subD, mulD, fdivD, modD, powD, subsD, lenD, intD, setItemD, wp_ite, truD, aComp, MM.iRng1, iSeq, capt, cTmpSub, cTmp, eqD_int, neD_int, beq_iff_eq, List.replicate_succ, List.replicate_zero, Option.join_some, rng_len, List.map_cons, List.map_nil, List.cons_append, List.nil_append, List.replicate, List.getElem?_cons_zero, List.getElem?_cons_succ, List.set_cons_zero, List.set_cons_succ, List.length_cons, List.length_nil, Nat.reduceAdd, Nat.reduceSub, ge_iff_le, Int.reduceLE, Int.reduceLT, if_true, if_false, decide_eq_true_eq, Int.toNat_zero, Int.toNat_one, Int.reduceToNat, and_true, true_and, wp_getL e5, e6]
    exact ⟨by omega, lim_le (by decide), ⟨_, _, rfl, Int.emod_nonneg _ (by omega), Int.emod_lt_of_pos _ (by omega), t0⟩, b4, k4⟩
  split
  · refine ⟨hSb, hSl, fin fun i s' hi b4 k4 => ?_⟩
    simp only [wp_run, wp_bnd, wp_ret, wp_chk, wp_alloc, wp_bad, sSeq, sIf, sAsg, sRet, sExp, sNext, c1, c2, cVar, cCon, cCall, cCons, cNil, cTup, cKeep, aDisp, tCmpB, tVal, tNotB, tAndB, tOrB, gVar, gSubD, gTupD, gsCons, gsNil, flwD, ltD, leD, gtD, geD, cmpI, addD, subD, mulD, fdivD, modD, powD, subsD, itemD, lenD, intD, setItemD, ix20, ix21, wp_ite, truD, aComp, MM.iRng1, iSeq, capt, cTmpSub, cTmp, eqD_int, neD_int, beq_iff_eq, List.replicate_succ, List.replicate_zero, Option.join_some, rng_len, List.map_cons, List.map_nil, List.cons_append, List.nil_append, List.replicate, List.getElem?_cons_zero, List.getElem?_cons_succ, List.set_cons_zero, List.set_cons_succ, List.length_cons, List.length_nil, Nat.reduceAdd, Nat.reduceSub, ge_iff_le, Int.reduceLE, Int.reduceLT, if_true, if_false, decide_eq_true_eq, Int.toNat_zero, Int.toNat_one, Int.reduceToNat, and_true, true_and]
    exact ⟨lim_le (by decide), ⟨_, _, rfl, g0, g2, by omega, by omega⟩, b4, k4⟩
  · refine ⟨hSb, hSl, fin fun i s' hi b4 k4 => ?_⟩
    simp only [wp_run, wp_bnd, wp_ret, wp_chk, wp_alloc, wp_bad, sSeq, sIf, sAsg, sRet, sExp, sNext, c1, c2, cVar, cCon, cCall, cCons, cNil, cTup, cKeep, aDisp, tCmpB, tVal, tNotB, tAndB, tOrB, gVar, gSubD, gTupD, gsCons, gsNil, flwD, ltD, leD, gtD, geD, cmpI, addD, subD, mulD, fdivD, modD, powD, subsD, lenD, intD, setItemD, wp_ite, truD, aComp, MM.iRng1, iSeq, capt, cTmpSub, cTmp, eqD_int, neD_int, beq_iff_eq, List.replicate_succ, List.replicate_zero, Option.join_some, rng_len, List.map_cons, List.map_nil, List.cons_append, List.nil_append, List.replicate, List.getElem?_cons_zero, List.getElem?_cons_succ, List.set_cons_zero, List.set_cons_succ, List.length_cons, List.length_nil, Nat.reduceAdd, Nat.reduceSub, ge_iff_le, Int.reduceLE, Int.reduceLT, if_true, if_false, decide_eq_true_eq, Int.toNat_zero, Int.toNat_one, Int.reduceToNat, and_true, true_and]
    refine take2 b4 (by omega) (by omega) fun r s5 r0 r1 b5 k5 => ?_
    obtain ⟨t, t0, e5, e6⟩ := told_at i s5 hi (k4.trans k5)
    simp only [wp_run, wp_bnd, wp_ret, wp_chk, wp_alloc, wp_bad, sSeq, sIf, sAsg, sRet, sExp, sNext, c1, c2, cVar, cCon, cCall, cCons, cNil, cTup, cKeep, aDisp, tCmpB, tVal, tNotB, tAndB, tOrB, gVar, gSubD, gTupD, gsCons, gsNil, flwD, ltD, leD, gtD, geD, cmpI, addD, subD, mulD, fdivD, modD, powD, subsD, lenD, intD, setItemD, wp_ite, truD, aComp, MM.iRng1, iSeq, capt, cTmpSub, cTmp, eqD_int, neD_int, beq_iff_eq, List.replicate_succ, List.replicate_zero, Option.join_some, rng_len, List.map_cons, List.map_nil, List.cons_append, List.nil_append, List.replicate, List.getElem?_cons_zero, List.getElem?_cons_succ, List.set_cons_zero, List.set_cons_succ, List.length_cons, List.length_nil, Nat.reduceAdd, Nat.reduceSub, ge_iff_le, Int.reduceLE, Int.reduceLT, if_true, if_false, decide_eq_true_eq, Int.toNat_zero, Int.toNat_one, Int.reduceToNat, and_true, true_and, wp_getL e5, e6]
    exact ⟨lim_le (by decide), ⟨_, _, rfl, r0, r1, t0⟩, b5, k4.trans k5⟩

def RowAt (s : Sto) (b dn : Nat) (S : Int) (d : D) : Prop := ∃ n ds, d = .ref n ∧ n ≠ b ∧ ListAt s n dn (PairD S) ds
theorem RowAt.kept {b dn : Nat} {S : Int} {s s' : Sto} {d : D} (h : RowAt s b dn S d) (q : Kept b s s') : RowAt s' b dn S d := by
  obtain ⟨n, ds, e, hn, h⟩ := h
  exact ⟨n, ds, e, hn, h.kept q hn⟩
theorem RowAt.put {b dn : Nat} {S : Int} {s : Sto} {d : D} {m : Nat} {es : List D} (h : RowAt s b dn S d) (q : es.length = dn) (q2 : ∀ x ∈ es, PairD S x) : RowAt (s.set m (.lst es)) b dn S d := by
  obtain ⟨n, ds, e, hn, h⟩ := h
  have hl : n < s.length := (List.getElem?_eq_some_iff.mp h.at_).1
  by_cases hm : m = n
  · subst hm
    exact ⟨m, es, e, hn, ⟨List.getElem?_set_self hl, q, q2⟩⟩
  · exact ⟨n, ds, e, hn, ⟨by rw [List.getElem?_set_ne hm]; exact h.at_, h.len, h.all⟩⟩
/-- a table: so many states, so many deeds -/
def IsTable (t : D) : Prop := ∃ (S : Int) (dn : Nat) (rows : List D), t = .tup rows ∧ 1 ≤ S ∧ S ≤ 4 ∧ rows.length = S.toNat ∧ 1 ≤ dn ∧ dn ≤ 4 ∧
  ∀ r ∈ rows, ∃ ds, r = .tup ds ∧ ds.length = dn ∧ ∀ d ∈ ds, PairD S d
/-- tuple(tuple(row) for row in rows) -/
theorem fin_table {s : Sto} {b dn n7 : Nat} {S : Int} {rows : List D} {caps : Loc} {e : CE} {Q : List D → Sto → Prop} (hS : 1 ≤ S) (hS2 : S ≤ 4) (hd : 1 ≤ dn) (hd2 : dn ≤ 4) (h7 : s[n7]? = some (.lst rows)) (hl : rows.length = S.toNat)
    (hr : ∀ d ∈ rows, RowAt s b dn S d) (he : ∀ d, e (some d :: caps) = tupleD d) (h : ∀ out, IsTable (.tup out) → Q out s) :
    wp (collect (gVar 0) tTrue e (sameL n7 rows) rows (none :: caps)) Q s := by
  refine wp_comp (fun i out s' => s' = s ∧ out.length = i ∧ ∀ r ∈ out, ∃ ds, r = .tup ds ∧ ds.length = dn ∧ ∀ d ∈ ds, PairD S d) (fun _ _ s' h => by rw [h.1]; exact h7) ⟨rfl, rfl, by simp⟩ (fun i d out s1 hdd ⟨a1, a2, a3⟩ => ?_) (fun out s1 ⟨a1, a2, a3⟩ => ?_)
  · subst a1
    obtain ⟨n, ds, e1, hn, q⟩ := hr d (List.mem_of_getElem? hdd)
    rw [he, e1]
    show wp (bnd (getL n) _) _ _
    rw [wp_bnd, wp_getL q.at_, wp_ret]
    refine ⟨rfl, by simp [a2], fun r hr => ?_⟩
    rcases List.mem_append.mp hr with hr | hr
    · exact a3 r hr
    · rw [List.mem_singleton] at hr; exact ⟨ds, hr, q.len, q.all⟩
  · subst a1
    exact h out ⟨S, dn, out, rfl, hS, hS2, by rw [a2, hl], hd, hd2, a3⟩
end My
namespace My
open MM
open PySem (Str)
theorem BoxAt.lt {s : Sto} {b : Nat} (h : BoxAt s b) : b < s.length := by obtain ⟨x, y, e, _⟩ := h; exact (List.getElem?_eq_some_iff.mp e).1
theorem BoxAt.put {s : Sto} {b m : Nat} {es : List D} (h : BoxAt s b) (hm : m ≠ b) : BoxAt (s.set m (.lst es)) b := by
  obtain ⟨x, y, e, h0, h1⟩ := h
  exact ⟨x, y, by rw [List.getElem?_set_ne hm]; exact e, h0, h1⟩
theorem rows_ok {s : Sto} {b n4 : Nat} {S : Int} {i : Nat} {outs : List D} {caps : Loc} {e : CE} {Q : List D → Sto → Prop} (hi : i < S.toNat) (h4 : s[n4]? = some (.lst outs)) (hr : ∀ d ∈ outs, RowAt s b S.toNat S d)
    (he : ∀ d, e (some d :: caps) = subsD d (.int i)) (h : ∀ ds, ds.length = outs.length → (∀ d ∈ ds, PairD S d) → Q ds s) :
    wp (collect (gVar 0) tTrue e (sameL n4 outs) outs (none :: caps)) Q s := by
  refine wp_comp (fun i out s' => s' = s ∧ out.length = i ∧ ∀ r ∈ out, PairD S r) (fun _ _ s' h => by rw [h.1]; exact h4) ⟨rfl, rfl, by simp⟩ (fun k d out s1 hdd ⟨a1, a2, a3⟩ => ?_) (fun out s1 ⟨a1, a2, a3⟩ => ?_)
  · subst a1
    obtain ⟨n, ds, e1, hn, q⟩ := hr d (List.mem_of_getElem? hdd)
    rw [he, e1]
    show wp (bnd (getL n) _) _ _
    have hl : i < ds.length := by rw [q.len]; exact hi
    rw [wp_bnd, wp_getL q.at_, item_nat (d := ds[i]) (by omega) (by simp [List.getElem?_eq_getElem hl]), wp_ret]
    refine ⟨rfl, by simp [a2], fun r hr => ?_⟩
    rcases List.mem_append.mp hr with hr | hr
    · exact a3 r hr
    · rw [List.mem_singleton] at hr; rw [hr]; exact q.all _ (List.getElem_mem hl)
  · subst a1
    exact h out a2 a3
theorem RowAt.other {b dn m : Nat} {S : Int} {s : Sto} {d : D} {o : MO} (h : RowAt s b dn S d) (hd : d ≠ .ref m) : RowAt (s.set m o) b dn S d := by
  obtain ⟨n, ds, e, hn, h⟩ := h
  have : m ≠ n := fun e2 => hd (by rw [e, e2])
  exact ⟨n, ds, e, hn, ⟨by rw [List.getElem?_set_ne this]; exact h.at_, h.len, h.all⟩⟩
theorem table_ok {s : Sto} {b : Nat} {Q : D → Sto → Prop} (hb : BoxAt s b) (h : ∀ t s', IsTable t → BoxAt s' b → Kept b s s' → Q t s') : wp (m_law_table [.ref b]) Q s := by
  simp only [m_law_table, b_law_table, wp_run, wp_bnd, wp_ret, wp_chk, wp_alloc, wp_bad, sSeq, sIf, sAsg, sRet, sExp, sNext, c1, c2, cVar, cCon, cCall, cCons, cNil, cTup, cKeep, aDisp, tCmpB, tVal, tNotB, tAndB, tOrB, gVar, gSubD, gTupD, gsCons, gsNil, flwD, ltD, leD, gtD, geD, cmpI, addD, subD, mulD, fdivD, modD, powD, subsD, lenD, intD, setItemD, wp_ite, truD, aComp, MM.iRng1, iSeq, capt, cTmpSub, cTmp, eqD_int, neD_int, beq_iff_eq, List.replicate_succ, List.replicate_zero, Option.join_some, rng_len, List.map_cons, List.map_nil, List.cons_append, List.nil_append, List.replicate, List.getElem?_cons_zero, List.getElem?_cons_succ, List.set_cons_zero, List.set_cons_succ, List.length_cons, List.length_nil, Nat.reduceAdd, Nat.reduceSub, ge_iff_le, Int.reduceLE, Int.reduceLT, if_true, if_false, decide_eq_true_eq, Int.toNat_zero, Int.toNat_one, Int.reduceToNat, and_true, true_and, sFor, cAppend, appendL]
  refine take2 hb (by omega) (by omega) fun r1 s1 r10 r11 b1 k1 => ?_
  refine take2 b1 (by omega) (by omega) fun r2 s2 r20 r21 b2 k2 => ?_
  refine take2 b2 (by omega) (by omega) fun v3 s3 r30 r31 b3 k3 => ?_
  have hle : s.length ≤ s3.length := Nat.le_trans k1.le (Nat.le_trans k2.le k3.le)
  have k4 : Kept b s (s3 ++ [.lst []]) := ((k1.trans k2).trans k3).trans (Kept.snoc _)
  have b4 : BoxAt (s3 ++ [.lst []]) b := Kept.box (s' := s) b3 _
  have q4 : (s3 ++ [MO.lst []])[s3.length]? = some (.lst []) := by simp
  have n4b : s3.length ≠ b := by have := b3.lt; have := hb.lt; omega
  generalize hs : s3 ++ [MO.lst []] = s4 at *
  have l4 : s4.length = s3.length + 1 := by rw [← hs]; simp
  generalize hn4 : s3.length = n4 at *
  have hS1 : 1 ≤ 1 + r1 := by omega
  have hS2 : 1 + r1 ≤ 4 := by omega
  have ht1 : 1 ≤ 1 + r2 := by omega
  have ht2 : 1 + r2 ≤ 4 := by omega
  generalize hSe : 1 + r1 = S at *
  generalize hte : 1 + r2 = top at *
  refine ⟨Nat.zero_le _, ?_⟩
  refine take2 b4 (by omega) (by omega) fun r4 s5 r40 r41 b5 k5 => ?_
  have q5 : s5[n4]? = some (.lst []) := (k5.at_ n4 (by omega) n4b).trans q4
  try simp only [wp_run, wp_bnd, wp_ret, wp_chk, wp_alloc, wp_bad, sSeq, sIf, sAsg, sRet, sExp, sNext, c1, c2, cVar, cCon, cCall, cCons, cNil, cTup, cKeep, aDisp, tCmpB, tVal, tNotB, tAndB, tOrB, gVar, gSubD, gTupD, gsCons, gsNil, flwD, ltD, leD, gtD, geD, cmpI, addD, subD, mulD, fdivD, modD, powD, subsD, lenD, intD, setItemD, wp_ite, truD, aComp, MM.iRng1, iSeq, capt, cTmpSub, cTmp, eqD_int, neD_int, beq_iff_eq, List.replicate_succ, List.replicate_zero, Option.join_some, rng_len, List.map_cons, List.map_nil, List.cons_append, List.nil_append, List.replicate, List.getElem?_cons_zero, List.getElem?_cons_succ, List.set_cons_zero, List.set_cons_succ, List.length_cons, List.length_nil, Nat.reduceAdd, Nat.reduceSub, ge_iff_le, Int.reduceLE, Int.reduceLT, if_true, if_false, decide_eq_true_eq, Int.toNat_zero, Int.toNat_one, Int.reduceToNat, and_true, true_and]
  refine ⟨⟨by omega, by omega⟩, ?_⟩
  refine wp_forI (fun i l s' => ∃ x5 x6 outs, l = [some (.ref b), some (.int S), some (.int top), some (.int v3), some (.ref n4), x5, x6, none, none, none, none, none] ∧ s'[n4]? = some (.lst outs) ∧ outs.length = i ∧ (∀ d ∈ outs, RowAt s' b S.toNat S d) ∧ (∀ d ∈ outs, d ≠ .ref n4) ∧ BoxAt s' b ∧ s.length ≤ s'.length ∧ ∀ n, n < s.length → n ≠ b → s'[n]? = s[n]?) (fun _ _ _ _ => trivial) ⟨_, _, [], rfl, q5, rfl, by simp, by simp, b5, Nat.le_trans hle (by have := k5.le; omega), fun n hn hb => (k4.trans k5).at_ n hn hb⟩ (fun i d l s' hd ⟨x5, x6, outs, el, q6, l6, r6, d6, b6, le6, k6⟩ => ?_) (fun l s' ⟨x5, x6, outs, el, q6, l6, r6, d6, b6, le6, k6⟩ => ?_)
  · obtain ⟨hi, ed⟩ := rng_of hd
    subst ed
    subst el
    simp only [wp_run, wp_bnd, wp_ret, wp_chk, wp_alloc, wp_bad, sSeq, sIf, sAsg, sRet, sExp, sNext, c1, c2, cVar, cCon, cCall, cCons, cNil, cTup, cKeep, aDisp, tCmpB, tVal, tNotB, tAndB, tOrB, gVar, gSubD, gTupD, gsCons, gsNil, flwD, ltD, leD, gtD, geD, cmpI, addD, subD, mulD, fdivD, modD, powD, subsD, lenD, intD, setItemD, wp_ite, truD, aComp, MM.iRng1, iSeq, capt, cTmpSub, cTmp, eqD_int, neD_int, beq_iff_eq, List.replicate_succ, List.replicate_zero, Option.join_some, rng_len, List.map_cons, List.map_nil, List.cons_append, List.nil_append, List.replicate, List.getElem?_cons_zero, List.getElem?_cons_succ, List.set_cons_zero, List.set_cons_succ, List.length_cons, List.length_nil, Nat.reduceAdd, Nat.reduceSub, ge_iff_le, Int.reduceLE, Int.reduceLT, if_true, if_false, decide_eq_true_eq, Int.toNat_zero, Int.toNat_one, Int.reduceToNat, and_true, true_and, sFor, cAppend, appendL]
    have hlt4 : n4 < s'.length := (List.getElem?_eq_some_iff.mp q6).1
    have go : ∀ (kind : Int) (sx : Sto), BoxAt sx b → Kept b s' sx → wp (m_law_deed [D.ref b, .int kind, D.int S, D.int top]) (fun d s2 => wp (getL n4) (fun a s3 => a.length < lim ∧ wp (putL n4 (a ++ [d])) (fun _ s9 => ∃ outs, s9[n4]? = some (.lst outs) ∧ outs.length = i + 1 ∧ (∀ d ∈ outs, RowAt s9 b S.toNat S d) ∧ (∀ d ∈ outs, d ≠ .ref n4) ∧ BoxAt s9 b ∧ s.length ≤ s9.length ∧ ∀ n, n < s.length → n ≠ b → s9[n]? = s[n]?) s3) s2) sx := fun kind sx hbx kx => by
      refine deed_ok hbx hS1 hS2 ht1 ht2 fun n ds s2 hn hl hb2 hk => ?_
      have kk := kx.trans hk
      have e : s2[n4]? = some (.lst outs) := (kk.at_ n4 hlt4 n4b).trans q6
      have lx := kx.le
      have l2 := kk.le
      rw [wp_getL e]
      refine ⟨lim_lt (by omega), ?_⟩
      rw [wp_putL e]
      have nn : (D.ref n) ≠ .ref n4 := fun h => by cases h; omega
      have bl := b6.lt
      refine ⟨outs ++ [.ref n], List.getElem?_set_self (by omega), by simp [l6], fun d hd => ?_, fun d hd => ?_, hb2.put n4b, by rw [List.length_set]; omega, fun m hm hmb => ?_⟩
      · rcases List.mem_append.mp hd with hd | hd
        · exact ((r6 d hd).kept kk).other (d6 d hd)
        · rw [List.mem_singleton] at hd; rw [hd]
          exact RowAt.other ⟨n, ds, rfl, by omega, hl⟩ nn
      · rcases List.mem_append.mp hd with hd | hd
        · exact d6 d hd
        · rw [List.mem_singleton] at hd; rw [hd]; exact nn
      · rw [List.getElem?_set_ne (by omega), kk.at_ m (by omega) hmb, k6 m hm hmb]
    refine take2 b6 (by omega) (by omega) fun ra sa ra0 ra1 ba ka => ?_
    try simp only [wp_run, wp_bnd, wp_ret, wp_chk, wp_alloc, wp_bad, sSeq, sIf, sAsg, sRet, sExp, sNext, c1, c2, cVar, cCon, cCall, cCons, cNil, cTup, cKeep, aDisp, tCmpB, tVal, tNotB, tAndB, tOrB, gVar, gSubD, gTupD, gsCons, gsNil, flwD, ltD, leD, gtD, geD, cmpI, addD, subD, mulD, fdivD, modD, powD, subsD, lenD, intD, setItemD, wp_ite, truD, aComp, MM.iRng1, iSeq, capt, cTmpSub, cTmp, eqD_int, neD_int, beq_iff_eq, List.replicate_succ, List.replicate_zero, Option.join_some, rng_len, List.map_cons, List.map_nil, List.cons_append, List.nil_append, List.replicate, List.getElem?_cons_zero, List.getElem?_cons_succ, List.set_cons_zero, List.set_cons_succ, List.length_cons, List.length_nil, Nat.reduceAdd, Nat.reduceSub, ge_iff_le, Int.reduceLE, Int.reduceLT, if_true, if_false, decide_eq_true_eq, Int.toNat_zero, Int.toNat_one, Int.reduceToNat, and_true, true_and]
    refine ⟨lim_le (by decide), ?_⟩
    refine take2 ba (by omega) (by omega) fun rb sb rb0 rb1 bb kb => ?_
    have hit : ∃ kind : Int, itemD [.int 0, .int v3, .int v3, .int (1 + ra)] rb = ret (.int kind) := by
      have : rb = 0 ∨ rb = 1 ∨ rb = 2 ∨ rb = 3 := by omega
      rcases this with h | h | h | h <;> subst h <;> exact ⟨_, rfl⟩
    obtain ⟨kind, e1⟩ := hit
    simp only [wp_run, wp_bnd, wp_ret, wp_chk, wp_alloc, wp_bad, sSeq, sIf, sAsg, sRet, sExp, sNext, c1, c2, cVar, cCon, cCall, cCons, cNil, cTup, cKeep, aDisp, tCmpB, tVal, tNotB, tAndB, tOrB, gVar, gSubD, gTupD, gsCons, gsNil, flwD, ltD, leD, gtD, geD, cmpI, addD, subD, mulD, fdivD, modD, powD, subsD, lenD, intD, setItemD, wp_ite, truD, aComp, MM.iRng1, iSeq, capt, cTmpSub, cTmp, eqD_int, neD_int, beq_iff_eq, List.replicate_succ, List.replicate_zero, Option.join_some, rng_len, List.map_cons, List.map_nil, List.cons_append, List.nil_append, List.replicate, List.getElem?_cons_zero, List.getElem?_cons_succ, List.set_cons_zero, List.set_cons_succ, List.length_cons, List.length_nil, Nat.reduceAdd, Nat.reduceSub, ge_iff_le, Int.reduceLE, Int.reduceLT, if_true, if_false, decide_eq_true_eq, Int.toNat_zero, Int.toNat_one, Int.reduceToNat, and_true, true_and, e1]
    split
    · refine take2 bb (by omega) (by omega) fun rc sc rc0 rc1 bc kc => ?_
      try simp only [wp_run, wp_bnd, wp_ret, wp_chk, wp_alloc, wp_bad, sSeq, sIf, sAsg, sRet, sExp, sNext, c1, c2, cVar, cCon, cCall, cCons, cNil, cTup, cKeep, aDisp, tCmpB, tVal, tNotB, tAndB, tOrB, gVar, gSubD, gTupD, gsCons, gsNil, flwD, ltD, leD, gtD, geD, cmpI, addD, subD, mulD, fdivD, modD, powD, subsD, lenD, intD, setItemD, wp_ite, truD, aComp, MM.iRng1, iSeq, capt, cTmpSub, cTmp, eqD_int, neD_int, beq_iff_eq, List.replicate_succ, List.replicate_zero, Option.join_some, rng_len, List.map_cons, List.map_nil, List.cons_append, List.nil_append, List.replicate, List.getElem?_cons_zero, List.getElem?_cons_succ, List.set_cons_zero, List.set_cons_succ, List.length_cons, List.length_nil, Nat.reduceAdd, Nat.reduceSub, ge_iff_le, Int.reduceLE, Int.reduceLT, if_true, if_false, decide_eq_true_eq, Int.toNat_zero, Int.toNat_one, Int.reduceToNat, and_true, true_and]
      exact wp_mono (go (1 + rc) sc bc ((ka.trans kb).trans kc)) fun d s2 q => wp_mono q fun a3 s3 ⟨q1, q2⟩ => ⟨q1, wp_mono q2 fun _ s9 ⟨outs, q⟩ => ⟨_, _, outs, rfl, q⟩⟩
    · exact wp_mono (go kind sb bb (ka.trans kb)) fun d s2 q => wp_mono q fun a3 s3 ⟨q1, q2⟩ => ⟨q1, wp_mono q2 fun _ s9 ⟨outs, q⟩ => ⟨_, _, outs, rfl, q⟩⟩
  · subst el
    try simp only [wp_run, wp_bnd, wp_ret, wp_chk, wp_alloc, wp_bad, sSeq, sIf, sAsg, sRet, sExp, sNext, c1, c2, cVar, cCon, cCall, cCons, cNil, cTup, cKeep, aDisp, tCmpB, tVal, tNotB, tAndB, tOrB, gVar, gSubD, gTupD, gsCons, gsNil, flwD, ltD, leD, gtD, geD, cmpI, addD, subD, mulD, fdivD, modD, powD, subsD, lenD, intD, setItemD, wp_ite, truD, aComp, MM.iRng1, iSeq, capt, cTmpSub, cTmp, eqD_int, neD_int, beq_iff_eq, List.replicate_succ, List.replicate_zero, Option.join_some, rng_len, List.map_cons, List.map_nil, List.cons_append, List.nil_append, List.replicate, List.getElem?_cons_zero, List.getElem?_cons_succ, List.set_cons_zero, List.set_cons_succ, List.length_cons, List.length_nil, Nat.reduceAdd, Nat.reduceSub, ge_iff_le, Int.reduceLE, Int.reduceLT, if_true, if_false, decide_eq_true_eq, Int.toNat_zero, Int.toNat_one, Int.reduceToNat, and_true, true_and]
    rw [rng_len] at l6
    refine ⟨⟨by omega, by omega⟩, lim_le (by omega), ?_⟩
    have hd1 : 1 ≤ outs.length := by omega
    have hd2 : outs.length ≤ 4 := by omega
    have hlt4 : n4 < s'.length := (List.getElem?_eq_some_iff.mp q6).1
    refine wp_comp (fun i out s7 => out.length = i ∧ (∀ d ∈ out, RowAt s7 b outs.length S d) ∧ BoxAt s7 b ∧ Kept b s' s7 ∧ ∀ m, .ref m ∈ out → s'.length ≤ m) (fun _ _ _ _ => trivial) ⟨rfl, by simp, b6, Kept.refl _ _, by simp⟩ (fun i d out s7 hd ⟨a1, a2, a3, a4, a5⟩ => ?_) (fun rows s7 ⟨a1, a2, a3, a4, a5⟩ => ?_)
    · obtain ⟨hi, ed⟩ := rng_of hd
      subst ed
      have e4 : s7[n4]? = some (.lst outs) := (a4.at_ n4 hlt4 n4b).trans q6
      simp only [wp_run, wp_bnd, wp_ret, wp_chk, wp_alloc, wp_bad, sSeq, sIf, sAsg, sRet, sExp, sNext, c1, c2, cVar, cCon, cCall, cCons, cNil, cTup, cKeep, aDisp, tCmpB, tVal, tNotB, tAndB, tOrB, gVar, gSubD, gTupD, gsCons, gsNil, flwD, ltD, leD, gtD, geD, cmpI, addD, subD, mulD, fdivD, modD, powD, subsD, lenD, intD, setItemD, wp_ite, truD, aComp, MM.iRng1, iSeq, capt, cTmpSub, cTmp, eqD_int, neD_int, beq_iff_eq, List.replicate_succ, List.replicate_zero, Option.join_some, rng_len, List.map_cons, List.map_nil, List.cons_append, List.nil_append, List.replicate, List.getElem?_cons_zero, List.getElem?_cons_succ, List.set_cons_zero, List.set_cons_succ, List.length_cons, List.length_nil, Nat.reduceAdd, Nat.reduceSub, ge_iff_le, Int.reduceLE, Int.reduceLT, if_true, if_false, decide_eq_true_eq, Int.toNat_zero, Int.toNat_one, Int.reduceToNat, and_true, true_and, wp_getL e4]
      refine ⟨lim_le (by omega), ?_⟩
      refine rows_ok (b := b) hi e4 (fun d hd => (r6 d hd).kept a4) (fun d => rfl) fun ds p1 p2 => ?_
      refine ⟨by simp [a1], fun d hd => ?_, Kept.box (s' := s) a3 _, a4.trans (Kept.snoc _), fun m hm => ?_⟩
      · rcases List.mem_append.mp hd with hd | hd
        · exact (a2 d hd).kept (Kept.snoc _)
        · rw [List.mem_singleton] at hd; rw [hd]
          exact ⟨s7.length, ds, rfl, by have := a3.lt; omega, ⟨by simp, p1, p2⟩⟩
      · rcases List.mem_append.mp hm with hm | hm
        · exact a5 m hm
        · rw [List.mem_singleton] at hm; cases hm; exact a4.le
    · rw [rng_len] at a1
      have k8 : Kept b s' (s7 ++ [.lst rows]) := a4.trans (Kept.snoc _)
      have b8 : BoxAt (s7 ++ [.lst rows]) b := Kept.box (s' := s) a3 _
      have q8 : (s7 ++ [MO.lst rows])[s7.length]? = some (.lst rows) := by simp
      have r8 : ∀ d ∈ rows, RowAt (s7 ++ [.lst rows]) b outs.length S d := fun d hd => (a2 d hd).kept (Kept.snoc _)
      have n7b : s7.length ≠ b := by have := a3.lt; omega
      have n7o : ∀ d ∈ rows, d ≠ .ref s7.length := fun d hd e => by
        obtain ⟨n, ds, e1, hn, q⟩ := a2 d hd
        rw [e1] at e; cases e
        have := (List.getElem?_eq_some_iff.mp q.at_).1
        omega
      have l8 : (s7 ++ [MO.lst rows]).length = s7.length + 1 := by simp
      generalize s7 ++ [MO.lst rows] = s8 at *
      generalize s7.length = n7 at *
      have kf : ∀ sx, Kept b s8 sx → Kept b s sx := fun sx k => Kept.trans (s1 := s') ⟨le6, k6⟩ (k8.trans k)
      refine take2 b8 (by omega) (by omega) fun rc s9 rc0 rc1 b9 k9 => ?_
      try simp only [wp_run, wp_bnd, wp_ret, wp_chk, wp_alloc, wp_bad, sSeq, sIf, sAsg, sRet, sExp, sNext, c1, c2, cVar, cCon, cCall, cCons, cNil, cTup, cKeep, aDisp, tCmpB, tVal, tNotB, tAndB, tOrB, gVar, gSubD, gTupD, gsCons, gsNil, flwD, ltD, leD, gtD, geD, cmpI, addD, subD, mulD, fdivD, modD, powD, subsD, lenD, intD, setItemD, wp_ite, truD, aComp, MM.iRng1, iSeq, capt, cTmpSub, cTmp, eqD_int, neD_int, beq_iff_eq, List.replicate_succ, List.replicate_zero, Option.join_some, rng_len, List.map_cons, List.map_nil, List.cons_append, List.nil_append, List.replicate, List.getElem?_cons_zero, List.getElem?_cons_succ, List.set_cons_zero, List.set_cons_succ, List.length_cons, List.length_nil, Nat.reduceAdd, Nat.reduceSub, ge_iff_le, Int.reduceLE, Int.reduceLT, if_true, if_false, decide_eq_true_eq, Int.toNat_zero, Int.toNat_one, Int.reduceToNat, and_true, true_and]
      have h7 : ∀ sx, Kept b s8 sx → sx[n7]? = some (.lst rows) := fun sx k => (k.at_ n7 (by omega) n7b).trans q8
      have l7 := k8.le
      have h4 : ∀ sx, Kept b s8 sx → sx[n4]? = some (.lst outs) := fun sx k => ((k8.trans k).at_ n4 hlt4 n4b).trans q6
      split
      · refine take2 b9 (by omega) (by omega) fun x8 sa xa0 xa1 ba ka => ?_
        rw [wp_getL (h4 sa (k9.trans ka))]
        refine take2 ba (by omega) (by omega) fun x9 sb xb0 xb1 bb kb => ?_
        have kb' := (k9.trans ka).trans kb
        have hx8 : x8.toNat < rows.length := by omega
        obtain ⟨n, ds, e1, hn, q⟩ := r8 rows[x8.toNat] (List.getElem_mem hx8)
        have i1 : itemD rows x8 = ret (.ref n) := item_nat xa0 (by rw [List.getElem?_eq_getElem hx8, e1])
        have hx9 : x9.toNat < ds.length := by rw [q.len]; omega
        obtain ⟨g, u, e2, g0, g1, u0⟩ := q.all ds[x9.toNat] (List.getElem_mem hx9)
        have i2 : itemD ds x9 = ret (.tup [.int g, .int u]) := item_nat xb0 (by rw [List.getElem?_eq_getElem hx9, e2])
        have hq : ∀ sx, Kept b s8 sx → sx[n]? = some (.lst ds) := fun sx k => (q.kept k hn).at_
        simp only [wp_run, wp_bnd, wp_ret, wp_chk, wp_alloc, wp_bad, sSeq, sIf, sAsg, sRet, sExp, sNext, c1, c2, cVar, cCon, cCall, cCons, cNil, cTup, cKeep, aDisp, tCmpB, tVal, tNotB, tAndB, tOrB, gVar, gSubD, gTupD, gsCons, gsNil, flwD, ltD, leD, gtD, geD, cmpI, addD, subD, mulD, fdivD, modD, powD, subsD, lenD, intD, setItemD, wp_ite, truD, aComp, MM.iRng1, iSeq, capt, cTmpSub, cTmp, eqD_int, neD_int, beq_iff_eq, List.replicate_succ, List.replicate_zero, Option.join_some, rng_len, List.map_cons, List.map_nil, List.cons_append, List.nil_append, List.replicate, List.getElem?_cons_zero, List.getElem?_cons_succ, List.set_cons_zero, List.set_cons_succ, List.length_cons, List.length_nil, Nat.reduceAdd, Nat.reduceSub, ge_iff_le, Int.reduceLE, Int.reduceLT, if_true, if_false, decide_eq_true_eq, Int.toNat_zero, Int.toNat_one, Int.reduceToNat, and_true, true_and, wp_getL (h7 sb kb'), i1, wp_getL (hq sb kb'), i2]
        refine take2 bb (by omega) (by omega) fun xc sc xc0 xc1 bc kc => ?_
        try simp only [wp_run, wp_bnd, wp_ret, wp_chk, wp_alloc, wp_bad, sSeq, sIf, sAsg, sRet, sExp, sNext, c1, c2, cVar, cCon, cCall, cCons, cNil, cTup, cKeep, aDisp, tCmpB, tVal, tNotB, tAndB, tOrB, gVar, gSubD, gTupD, gsCons, gsNil, flwD, ltD, leD, gtD, geD, cmpI, addD, subD, mulD, fdivD, modD, powD, subsD, lenD, intD, setItemD, wp_ite, truD, aComp, MM.iRng1, iSeq, capt, cTmpSub, cTmp, eqD_int, neD_int, beq_iff_eq, List.replicate_succ, List.replicate_zero, Option.join_some, rng_len, List.map_cons, List.map_nil, List.cons_append, List.nil_append, List.replicate, List.getElem?_cons_zero, List.getElem?_cons_succ, List.set_cons_zero, List.set_cons_succ, List.length_cons, List.length_nil, Nat.reduceAdd, Nat.reduceSub, ge_iff_le, Int.reduceLE, Int.reduceLT, if_true, if_false, decide_eq_true_eq, Int.toNat_zero, Int.toNat_one, Int.reduceToNat, and_true, true_and]
        refine ⟨lim_le (by decide), ?_⟩
        refine take2 bc (by omega) (by omega) fun xd sd xd0 xd1 bd kd => ?_
        try simp only [wp_run, wp_bnd, wp_ret, wp_chk, wp_alloc, wp_bad, sSeq, sIf, sAsg, sRet, sExp, sNext, c1, c2, cVar, cCon, cCall, cCons, cNil, cTup, cKeep, aDisp, tCmpB, tVal, tNotB, tAndB, tOrB, gVar, gSubD, gTupD, gsCons, gsNil, flwD, ltD, leD, gtD, geD, cmpI, addD, subD, mulD, fdivD, modD, powD, subsD, lenD, intD, setItemD, wp_ite, truD, aComp, MM.iRng1, iSeq, capt, cTmpSub, cTmp, eqD_int, neD_int, beq_iff_eq, List.replicate_succ, List.replicate_zero, Option.join_some, rng_len, List.map_cons, List.map_nil, List.cons_append, List.nil_append, List.replicate, List.getElem?_cons_zero, List.getElem?_cons_succ, List.set_cons_zero, List.set_cons_succ, List.length_cons, List.length_nil, Nat.reduceAdd, Nat.reduceSub, ge_iff_le, Int.reduceLE, Int.reduceLT, if_true, if_false, decide_eq_true_eq, Int.toNat_zero, Int.toNat_one, Int.reduceToNat, and_true, true_and]
        refine ⟨lim_le (by decide), lim_le (by decide), ?_⟩
        refine take2 bd (by omega) (by omega) fun xe se xe0 xe1 be ke => ?_
        have ke' := ((kb'.trans kc).trans kd).trans ke
        have hv : ∃ v, itemD [.tup [.int xc, .int u], .tup [.int g, .int xd]] xe = ret v ∧ PairD S v := by
          have : xe = 0 ∨ xe = 1 := by omega
          rcases this with h | h <;> subst h
          · exact ⟨_, rfl, _, _, rfl, xc0, xc1, u0⟩
          · exact ⟨_, rfl, _, _, rfl, g0, g1, xd0, xd1⟩
        obtain ⟨v, i3, pv⟩ := hv
        have i4 : ixN ds.length x9 = some x9.toNat := by unfold MM.ixN; rw [if_pos xb0, if_pos (by omega)]
        have hnn : n ≠ n7 := fun e => n7o _ (List.getElem_mem hx8) (by rw [e1, e])
        have h7' : (se.set n (.lst (ds.set x9.toNat v)))[n7]? = some (.lst rows) := by rw [List.getElem?_set_ne hnn]; exact h7 se ke'
        simp only [wp_run, wp_bnd, wp_ret, wp_chk, wp_alloc, wp_bad, sSeq, sIf, sAsg, sRet, sExp, sNext, c1, c2, cVar, cCon, cCall, cCons, cNil, cTup, cKeep, aDisp, tCmpB, tVal, tNotB, tAndB, tOrB, gVar, gSubD, gTupD, gsCons, gsNil, flwD, ltD, leD, gtD, geD, cmpI, addD, subD, mulD, fdivD, modD, powD, subsD, lenD, intD, setItemD, wp_ite, truD, aComp, MM.iRng1, iSeq, capt, cTmpSub, cTmp, eqD_int, neD_int, beq_iff_eq, List.replicate_succ, List.replicate_zero, Option.join_some, rng_len, List.map_cons, List.map_nil, List.cons_append, List.nil_append, List.replicate, List.getElem?_cons_zero, List.getElem?_cons_succ, List.set_cons_zero, List.set_cons_succ, List.length_cons, List.length_nil, Nat.reduceAdd, Nat.reduceSub, ge_iff_le, Int.reduceLE, Int.reduceLT, if_true, if_false, decide_eq_true_eq, Int.toNat_zero, Int.toNat_one, Int.reduceToNat, and_true, true_and, i3, wp_getL (h7 se ke'), i1, wp_getL (hq se ke'), i4, wp_putL (hq se ke'), wp_getL h7']
        refine ⟨lim_le (by omega), ?_⟩
        refine fin_table (b := b) (S := S) (dn := outs.length) hS1 hS2 hd1 hd2 h7' (by omega) (fun d hd => ((r8 d hd).kept ke').put (by simp [q.len]) (fun x hx => ?_)) (fun d => rfl) fun out ho => ?_
        · rcases List.mem_or_eq_of_mem_set hx with hx | hx
          · exact q.all x hx
          · rw [hx]; exact pv
        · show wp (ret _) _ _
          rw [wp_ret]
          have hnl : s'.length ≤ n := a5 n (by rw [← e1]; exact List.getElem_mem hx8)
          have kz := kf se ke'
          exact h _ _ ho (be.put hn) ⟨by rw [List.length_set]; exact kz.le, fun m hm hmb => by rw [List.getElem?_set_ne (by omega)]; exact kz.at_ m hm hmb⟩
      · rw [wp_getL (h7 s9 k9)]
        refine ⟨lim_le (by omega), ?_⟩
        refine fin_table (b := b) (S := S) (dn := outs.length) hS1 hS2 hd1 hd2 (h7 s9 k9) (by omega) (fun d hd => (r8 d hd).kept k9) (fun d => rfl) fun out ho => ?_
        show wp (ret _) _ _
        rw [wp_ret]
        exact h _ _ ho b9 (kf _ k9)
end My
namespace My
open MM
open PySem (Str)
noncomputable def g_box (A B C E F G H T U : Int) : CS :=
    (sSeq (sAsg (gVar 2) (c2 addD (c2 mulD (cCon (.int A)) (cVar 1)) (cCon (.int B))))
    (sSeq (sIf (tCmpB (c2 ltD (cVar 1) (c1 lenD (cVar 0))))
     (sSeq (sAsg (gVar 2) (c2 subsD (cVar 0) (cVar 1)))
     sNext)
     (sSeq (sIf (tCmpB (c2 gtD (c1 lenD (cVar 0)) (cCon (.int 0))))
      (sSeq (sAsg (gVar 2) (c2 addD (cVar 2) (c2 mulD (c2 modD (c2 subsD (cVar 0) (c2 modD (cVar 1) (c1 lenD (cVar 0)))) (cCon (.int C))) (cCon (.int E)))))
      sNext)
      sNext)
     sNext))
    (sSeq (sAsg (gVar 3) (c2 modD (c2 addD (c2 addD (c2 mulD (c2 modD (cVar 2) (cCon (.int C))) (cCon (.int F))) (c2 mulD (cCon (.int G)) (cVar 1))) (cCon (.int H))) (cCon (.int C))))
    (sSeq (sRet (cKeep (aDisp (cCons (c2 mulD (cVar 2) (c1 intD (c2 geD (cVar 2) (c2 powD (cCon (.int T)) (cCon (.int U)))))) (cCons (cVar 3) cNil)))))
    sNext))))

theorem g_box_ok {s : Sto} {ns : List Int} {i A B C E F G H T U P : Int} {Q : D → Sto → Prop} (hi0 : 0 ≤ i) (hC : 0 < C) (hC2 : C ≤ 2147483648) (p1 : mulOk A i) (p2 : mulOk G i) (p3 : ∀ x, mulOk x E) (p4 : ∀ x, mulOk x F) (hpow : ∀ Q s, wp (powD (.int T) (.int U)) Q s = Q (.int P) s) (p5 : ∀ v : Int, mulOk v (if P ≤ v then 1 else 0))
    (h : ∀ o, BoxAt (s ++ [o]) s.length → Q (.ref s.length) (s ++ [o])) : wp (runDef 4 (g_box A B C E F G H T U) [.lit (ns.map D.int), .int i]) Q s := by
  have fin : ∀ x y : Int, Q (.ref s.length) (s ++ [.lst [.int x, .int (y % C)]]) := fun x y =>
    h _ ⟨x, y % C, by simp, Int.emod_nonneg _ (by omega), by have := Int.emod_lt_of_pos y hC; omega⟩
  have item : ∀ j : Int, 0 ≤ j → j < ns.length → ∃ v : Int, ∀ Q s, wp (itemD (ns.map D.int) j) Q s = Q (.int v) s := fun j h0 h1 => by
    have hl : j.toNat < ns.length := by omega
    exact ⟨ns[j.toNat], fun Q s => by rw [item_nat h0 (by rw [List.getElem?_map, List.getElem?_eq_getElem hl]; rfl), wp_ret]⟩
  by_cases hlt : i < ns.length
  · obtain ⟨v, e⟩ := item i hi0 hlt
    simp only [g_box, ↓x_seq, ↓x_next, ↓x_asg, ↓x_ret, ↓x_exp, ↓x_if, ↓x_cmp, ↓x_andE, ↓x_orE, ↓x_notE, ↓x_ifE, ↓x_truB, ↓x_isB, ↓x_eqB, ↓x_neB, ↓x_tupL, ↓x_lenLL, ↓x_item0, ↓x_item1, ↓x_item2, ↓x_item3, ↓x_tTrue, ↓x_iTmp, ↓x_enum, ↓x_gtup, ↓x_gcons, ↓x_gnil, ↓x_slice, ↓x_none, ↓x_some, ↓x_val, ↓x_not, ↓x_and, ↓x_or, ↓x_gvar, ↓x_gsub, ↓x_var, ↓x_con, ↓x_c1, ↓x_c2, ↓x_call, ↓x_nil, ↓x_cons, ↓x_tup, ↓x_disp, ↓x_keep, ↓x_tmp, ↓x_comp, ↓x_for, ↓x_rng, ↓x_iseq, ↓x_add, ↓x_sub, ↓x_mul, ↓x_div, ↓x_mod, ↓x_lt, ↓x_le, ↓x_gt, ↓x_ge, ↓x_eq, ↓x_ne, ↓x_subsT, ↓x_subsL, ↓x_subsR, ↓x_lenT, ↓x_lenL, ↓x_lenR, ↓x_intB, ↓x_intI, ↓x_setR, ↓x_retF, ↓x_nextF, ↓wp_run, ↓wp_ret, ↓wp_chk, ↓wp_alloc, andB_t, andB_f, andB_or, andB_and, decide_eq_true_eq, List.replicate_succ, List.replicate_zero, Option.join_some, List.map_cons, List.map_nil, List.cons_append, List.nil_append, List.replicate, List.getElem?_cons_zero, List.getElem?_cons_succ, List.set_cons_zero, List.set_cons_succ, List.length_cons, List.length_nil, Nat.reduceAdd, Nat.reduceSub, ge_iff_le, Int.reduceLE, Int.reduceLT, if_true, if_false, and_true, true_and, beq_iff_eq, List.length_map, hlt, ↓e, ↓hpow, p1, p2, p3, p4, p5, hC]
    exact ⟨lim_le (by omega), fin _ _⟩
  by_cases hpos : 0 < (ns.length : Int)
  · obtain ⟨v, e⟩ := item (i % ns.length) (Int.emod_nonneg _ (by omega)) (Int.emod_lt_of_pos _ hpos)
    simp only [g_box, ↓x_seq, ↓x_next, ↓x_asg, ↓x_ret, ↓x_exp, ↓x_if, ↓x_cmp, ↓x_andE, ↓x_orE, ↓x_notE, ↓x_ifE, ↓x_truB, ↓x_isB, ↓x_eqB, ↓x_neB, ↓x_tupL, ↓x_lenLL, ↓x_item0, ↓x_item1, ↓x_item2, ↓x_item3, ↓x_tTrue, ↓x_iTmp, ↓x_enum, ↓x_gtup, ↓x_gcons, ↓x_gnil, ↓x_slice, ↓x_none, ↓x_some, ↓x_val, ↓x_not, ↓x_and, ↓x_or, ↓x_gvar, ↓x_gsub, ↓x_var, ↓x_con, ↓x_c1, ↓x_c2, ↓x_call, ↓x_nil, ↓x_cons, ↓x_tup, ↓x_disp, ↓x_keep, ↓x_tmp, ↓x_comp, ↓x_for, ↓x_rng, ↓x_iseq, ↓x_add, ↓x_sub, ↓x_mul, ↓x_div, ↓x_mod, ↓x_lt, ↓x_le, ↓x_gt, ↓x_ge, ↓x_eq, ↓x_ne, ↓x_subsT, ↓x_subsL, ↓x_subsR, ↓x_lenT, ↓x_lenL, ↓x_lenR, ↓x_intB, ↓x_intI, ↓x_setR, ↓x_retF, ↓x_nextF, ↓wp_run, ↓wp_ret, ↓wp_chk, ↓wp_alloc, andB_t, andB_f, andB_or, andB_and, decide_eq_true_eq, List.replicate_succ, List.replicate_zero, Option.join_some, List.map_cons, List.map_nil, List.cons_append, List.nil_append, List.replicate, List.getElem?_cons_zero, List.getElem?_cons_succ, List.set_cons_zero, List.set_cons_succ, List.length_cons, List.length_nil, Nat.reduceAdd, Nat.reduceSub, ge_iff_le, Int.reduceLE, Int.reduceLT, if_true, if_false, and_true, true_and, beq_iff_eq, List.length_map, hlt, hpos, ↓e, ↓hpow, p1, p2, p3, p4, p5, hC]
    exact ⟨lim_le (by omega), fin _ _⟩
  · simp only [g_box, ↓x_seq, ↓x_next, ↓x_asg, ↓x_ret, ↓x_exp, ↓x_if, ↓x_cmp, ↓x_andE, ↓x_orE, ↓x_notE, ↓x_ifE, ↓x_truB, ↓x_isB, ↓x_eqB, ↓x_neB, ↓x_tupL, ↓x_lenLL, ↓x_item0, ↓x_item1, ↓x_item2, ↓x_item3, ↓x_tTrue, ↓x_iTmp, ↓x_enum, ↓x_gtup, ↓x_gcons, ↓x_gnil, ↓x_slice, ↓x_none, ↓x_some, ↓x_val, ↓x_not, ↓x_and, ↓x_or, ↓x_gvar, ↓x_gsub, ↓x_var, ↓x_con, ↓x_c1, ↓x_c2, ↓x_call, ↓x_nil, ↓x_cons, ↓x_tup, ↓x_disp, ↓x_keep, ↓x_tmp, ↓x_comp, ↓x_for, ↓x_rng, ↓x_iseq, ↓x_add, ↓x_sub, ↓x_mul, ↓x_div, ↓x_mod, ↓x_lt, ↓x_le, ↓x_gt, ↓x_ge, ↓x_eq, ↓x_ne, ↓x_subsT, ↓x_subsL, ↓x_subsR, ↓x_lenT, ↓x_lenL, ↓x_lenR, ↓x_intB, ↓x_intI, ↓x_setR, ↓x_retF, ↓x_nextF, ↓wp_run, ↓wp_ret, ↓wp_chk, ↓wp_alloc, andB_t, andB_f, andB_or, andB_and, decide_eq_true_eq, List.replicate_succ, List.replicate_zero, Option.join_some, List.map_cons, List.map_nil, List.cons_append, List.nil_append, List.replicate, List.getElem?_cons_zero, List.getElem?_cons_succ, List.set_cons_zero, List.set_cons_succ, List.length_cons, List.length_nil, Nat.reduceAdd, Nat.reduceSub, ge_iff_le, Int.reduceLE, Int.reduceLT, if_true, if_false, and_true, true_and, beq_iff_eq, List.length_map, hlt, hpos, ↓hpow, p1, p2, p3, p4, p5, hC]
    exact ⟨lim_le (by omega), fin _ _⟩

theorem box_ok {s : Sto} {ns : List Int} {i : Int} {Q : D → Sto → Prop} (hi0 : 0 ≤ i) (h : ∀ o, BoxAt (s ++ [o]) s.length → Q (.ref s.length) (s ++ [o])) : wp (m_law_box [.lit (ns.map D.int), .int i]) Q s := by
  have m1 : ∀ k i : Int, 0 ≤ k → k < 10000000 → mulOk k i := fun k i h1 h2 => .inl ⟨by omega, by omega⟩
  have m2 : ∀ i k : Int, 0 ≤ k → k < 10000000 → mulOk i k := fun i k h1 h2 => .inr ⟨by omega, by omega⟩
  unfold m_law_box
  exact g_box_ok (A := 104729) (B := 17) (C := 2147483629) (E := 48611) (F := 48271) (G := 7919) (H := 11) (T := 10) (U := 18) (P := 1000000000000000000) hi0 (by omega) (by omega) (m1 _ _ (by omega) (by omega)) (m1 _ _ (by omega) (by omega)) (fun x => m2 _ _ (by omega) (by omega)) (fun x => m2 _ _ (by omega) (by omega)) (fun Q s => rfl) (fun v => m2 _ _ (by split <;> omega) (by split <;> omega)) h
theorem cut_len {xs : List D} {lo hi : Option Int} : (cutD xs lo hi).length ≤ xs.length := by
  unfold cutD; rw [List.length_take, List.length_drop]; omega
end My
namespace My
open MM
open PySem (Str)
/-- a table by its numbers -/
def tabD (S dn : Nat) (nx un : Nat → Nat → Nat) : D := .tup (upto S fun s => .tup (upto dn fun d => .tup [.int (nx s d : Nat), .int (un s d : Nat)]))
theorem tab_of {t : D} (h : IsTable t) : ∃ S dn nx un, t = tabD S dn nx un ∧ 1 ≤ S ∧ S ≤ 4 ∧ 1 ≤ dn ∧ dn ≤ 4 ∧ ∀ s d, s < S → d < dn → nx s d < S ∧ un s d < 4 := by
  obtain ⟨S, dn, rows, et, hS1, hS2, hl, hd1, hd2, hr⟩ := h
  have key : ∀ s : Nat, ∃ p : Nat → Nat × Nat, s < S.toNat → rows[s]? = some (.tup (upto dn fun d => .tup [.int ((p d).1 : Nat), .int ((p d).2 : Nat)])) ∧ ∀ d, d < dn → (p d).1 < S.toNat ∧ (p d).2 < 4 := by
    intro s
    by_cases hs : s < S.toNat
    · have hlt : s < rows.length := by omega
      obtain ⟨ds, e, hdl, hp⟩ := hr rows[s] (List.getElem_mem hlt)
      have k2 : ∀ d : Nat, ∃ p : Nat × Nat, d < dn → ds[d]? = some (.tup [.int (p.1 : Nat), .int (p.2 : Nat)]) ∧ p.1 < S.toNat ∧ p.2 < 4 := by
        intro d
        by_cases hd : d < dn
        · have hdt : d < ds.length := by omega
          obtain ⟨g, u, e2, g0, g1, u0, u9⟩ := hp ds[d] (List.getElem_mem hdt)
          refine ⟨(g.toNat, u.toNat), fun _ => ⟨?_, by show g.toNat < S.toNat; omega, by show u.toNat < 4; omega⟩⟩
          rw [List.getElem?_eq_getElem hdt, e2, Int.toNat_of_nonneg g0, Int.toNat_of_nonneg u0]
        · exact ⟨(0, 0), fun h => (hd h).elim⟩
      refine ⟨fun d => Classical.choose (k2 d), fun _ => ⟨?_, fun d hd => (Classical.choose_spec (k2 d) hd).2⟩⟩
      rw [List.getElem?_eq_getElem hlt, e]
      congr 2
      exact upto_ext hdl fun d hd => (Classical.choose_spec (k2 d) hd).1
    · exact ⟨fun _ => (0, 0), fun h => (hs h).elim⟩
  refine ⟨S.toNat, dn, fun s d => (Classical.choose (key s) d).1, fun s d => (Classical.choose (key s) d).2, ?_, by omega, by omega, hd1, hd2, fun s d hs hd => (Classical.choose_spec (key s) hs).2 d hd⟩
  rw [et]
  unfold tabD
  congr 1
  exact upto_ext hl fun s hs => (Classical.choose_spec (key s) hs).1
end My
namespace My
open MM
open PySem (Str)
theorem settle_eq : ((("settle" : Str)) == "settle") = true := by decide +kernel
theorem do_eq : ((("do" : Str)) == "settle") = false := by decide +kernel
def TabOk (S dn : Nat) (nx un : Nat → Nat → Nat) : Prop := 1 ≤ S ∧ S ≤ 4 ∧ 1 ≤ dn ∧ dn ≤ 4 ∧ ∀ s d, s < S → d < dn → nx s d < S ∧ un s d < 4
def IsBoard (d : D) : Prop := ∃ (S dn : Nat) (nx un : Nat → Nat → Nat) (st : Nat), d = .tup [tabD S dn nx un, .int st] ∧ TabOk S dn nx un ∧ st < S
def IsGoals (m : Nat) (gs : List D) : Prop := ∀ g ∈ gs, ∃ k : Nat, g = .int k ∧ k < m
def IsLine (boards : List D) (m : Nat) (d : D) : Prop := (∃ v : Int, (v = 0 ∨ v = 1) ∧ d = .tup [.str "settle", .int v]) ∨
  ∃ (b dd S dn : Nat) (nx un : Nat → Nat → Nat) (st : Nat) (gs : List D), boards[b]? = some (.tup [tabD S dn nx un, .int st]) ∧ dd < dn ∧ d = .tup [.str "do", .int b, .int dd, .tup gs] ∧ gs.length = 1 + mx (un · dd) S ∧ IsGoals m gs
def IsHand (boards : List D) (d : D) : Prop := ∃ (b0 b1 : Nat) (lines : List D), d = .tup [.tup [.int b0, .int b1], .tup lines] ∧ b0 < lines.length ∧ b1 < lines.length ∧ lines.length ≤ 12 ∧ ∀ l ∈ lines, IsLine boards lines.length l
def IsHouse (h : D) : Prop := ∃ boards hands, h = .tup [.tup boards, .tup hands] ∧ boards.length ≤ 7 ∧ (∀ b ∈ boards, IsBoard b) ∧ 2 ≤ hands.length ∧ hands.length ≤ 3 ∧ ∀ x ∈ hands, IsHand boards x
section
variable {S dn : Nat} {nx un : Nat → Nat → Nat} {Q : D → Sto → Prop} {s : Sto}
theorem answers_ok {j : Nat} (h : TabOk S dn nx un) (hj : j < dn) : wp (m_answers [tabD S dn nx un, .int j]) Q s = Q (.int ((1 + mx (un · j) S : Nat) : Int)) s := by
  obtain ⟨h1, h2, h3, h4, h5⟩ := h
  have w : ∀ Q s, wp (collect (gVar 0) tTrue (c2 subsD (c2 subsD (cVar 0) (cVar 1)) (cCon (.int 1))) anySt (upto S fun s => .tup (upto dn fun d => D.tup [.int (nx s d : Nat), .int (un s d : Nat)])) [none, some (.int j)]) Q s = Q (upto S fun i => .int (un i j : Nat)) s := fun Q s => pure_compR any_st fun i hi Q => by
    simp only [↓x_seq, ↓x_next, ↓x_asg, ↓x_ret, ↓x_exp, ↓x_if, ↓x_cmp, ↓x_andE, ↓x_orE, ↓x_notE, ↓x_ifE, ↓x_truB, ↓x_isB, ↓x_eqB, ↓x_neB, ↓x_tupL, ↓x_lenLL, ↓x_item0, ↓x_item1, ↓x_item2, ↓x_item3, ↓x_tTrue, ↓x_iTmp, ↓x_enum, ↓x_gtup, ↓x_gcons, ↓x_gnil, ↓x_slice, ↓x_none, ↓x_some, ↓x_val, ↓x_not, ↓x_and, ↓x_or, ↓x_gvar, ↓x_gsub, ↓x_var, ↓x_con, ↓x_c1, ↓x_c2, ↓x_call, ↓x_nil, ↓x_cons, ↓x_tup, ↓x_disp, ↓x_keep, ↓x_tmp, ↓x_comp, ↓x_for, ↓x_rng, ↓x_iseq, ↓x_add, ↓x_sub, ↓x_mul, ↓x_div, ↓x_mod, ↓x_lt, ↓x_le, ↓x_gt, ↓x_ge, ↓x_eq, ↓x_ne, ↓x_subsT, ↓x_subsL, ↓x_subsR, ↓x_lenT, ↓x_lenL, ↓x_lenR, ↓x_intB, ↓x_intI, ↓x_setR, ↓x_retF, ↓x_nextF, ↓wp_run, ↓wp_ret, ↓wp_chk, ↓wp_alloc, andB_t, andB_f, andB_or, andB_and, decide_eq_true_eq, List.replicate_succ, List.replicate_zero, Option.join_some, List.map_cons, List.map_nil, List.cons_append, List.nil_append, List.replicate, List.getElem?_cons_zero, List.getElem?_cons_succ, List.set_cons_zero, List.set_cons_succ, List.length_cons, List.length_nil, Nat.reduceAdd, Nat.reduceSub, ge_iff_le, Int.reduceLE, Int.reduceLT, if_true, if_false, and_true, true_and, beq_iff_eq, ↓x_chain, ↓x_append, ↓x_clear, ↓x_pop, ↓x_reverse, ↓x_back, ↓x_listT, ↓x_listR, ↓x_tupleT, ↓x_tupleR, ↓x_isntB, ↓x_isB2, ↓x_inTu, ↓x_eqStr, ↓x_neStr, ↓x_isiL, ↓x_isiT, ↓x_isiI, ↓x_isiB, ↓x_isiBN, ↓x_neg, ↓x_min2, ↓x_max2, ↓x_rng2, ↓x_shl, ↓x_addT, ↓x_tmpSub, ↓x_inTmp, ite_t, ite_f, Bool.not_true, Bool.not_false, ↓x_itemU hj]
  have hl : S ≤ lim := lim_le (by omega)
  have mw : ∀ Q s, wp (maxD (upto S fun i => .int (un i j : Nat))) Q s = Q (.int (mx (un · j) S : Nat)) s := fun Q s => max_upto (f := (un · j)) (by omega)
  have ec : ((1 + mx (un · j) S : Nat) : Int) = 1 + (mx (un · j) S : Nat) := by omega
  rw [ec]
  simp only [m_answers, b_answers, tabD, ↓x_seq, ↓x_next, ↓x_asg, ↓x_ret, ↓x_exp, ↓x_if, ↓x_cmp, ↓x_andE, ↓x_orE, ↓x_notE, ↓x_ifE, ↓x_truB, ↓x_isB, ↓x_eqB, ↓x_neB, ↓x_tupL, ↓x_lenLL, ↓x_item0, ↓x_item1, ↓x_item2, ↓x_item3, ↓x_tTrue, ↓x_iTmp, ↓x_enum, ↓x_gtup, ↓x_gcons, ↓x_gnil, ↓x_slice, ↓x_none, ↓x_some, ↓x_val, ↓x_not, ↓x_and, ↓x_or, ↓x_gvar, ↓x_gsub, ↓x_var, ↓x_con, ↓x_c1, ↓x_c2, ↓x_call, ↓x_nil, ↓x_cons, ↓x_tup, ↓x_disp, ↓x_keep, ↓x_tmp, ↓x_comp, ↓x_for, ↓x_rng, ↓x_iseq, ↓x_add, ↓x_sub, ↓x_mul, ↓x_div, ↓x_mod, ↓x_lt, ↓x_le, ↓x_gt, ↓x_ge, ↓x_eq, ↓x_ne, ↓x_subsT, ↓x_subsL, ↓x_subsR, ↓x_lenT, ↓x_lenL, ↓x_lenR, ↓x_intB, ↓x_intI, ↓x_setR, ↓x_retF, ↓x_nextF, ↓wp_run, ↓wp_ret, ↓wp_chk, ↓wp_alloc, andB_t, andB_f, andB_or, andB_and, decide_eq_true_eq, List.replicate_succ, List.replicate_zero, Option.join_some, List.map_cons, List.map_nil, List.cons_append, List.nil_append, List.replicate, List.getElem?_cons_zero, List.getElem?_cons_succ, List.set_cons_zero, List.set_cons_succ, List.length_cons, List.length_nil, Nat.reduceAdd, Nat.reduceSub, ge_iff_le, Int.reduceLE, Int.reduceLT, if_true, if_false, and_true, true_and, beq_iff_eq, ↓x_chain, ↓x_append, ↓x_clear, ↓x_pop, ↓x_reverse, ↓x_back, ↓x_listT, ↓x_listR, ↓x_tupleT, ↓x_tupleR, ↓x_isntB, ↓x_isB2, ↓x_inTu, ↓x_eqStr, ↓x_neStr, ↓x_isiL, ↓x_isiT, ↓x_isiI, ↓x_isiB, ↓x_isiBN, ↓x_neg, ↓x_min2, ↓x_max2, ↓x_rng2, ↓x_shl, ↓x_addT, ↓x_tmpSub, ↓x_inTmp, ite_t, ite_f, Bool.not_true, Bool.not_false, capt, upto_len, ↓w, ↓mw, hl]
theorem is_state_ok {i : Nat} (h : TabOk S dn nx un) (hi : i < S) : wp (m_is_state [tabD S dn nx un, .tup (upto dn fun d => D.tup [.int (nx i d : Nat), .int (un i d : Nat)])]) Q s = Q (.bl true) s := by
  obtain ⟨h1, h2, h3, h4, h5⟩ := h
  have w : ∀ Q s, wp (collect (gTupD 2 (gsCons (gVar 0) (gsCons (gVar 1) gsNil))) tTrue (cAnd (cChain leD ltD (cCon (.int 0)) (cVar 0) (c1 lenD (cVar 2))) (c2 geD (cVar 1) (cCon (.int 0)))) anySt (upto dn fun d => D.tup [.int (nx i d : Nat), .int (un i d : Nat)]) [none, none, some (.tup (upto S fun s => .tup (upto dn fun d => D.tup [.int (nx s d : Nat), .int (un s d : Nat)])))]) Q s = Q (upto dn fun _ => .bl true) s := fun Q s => pure_comp2R any_st fun d hd Q => by
    have e1 : decide ((0 : Int) ≤ (nx i d : Nat)) = true := decide_eq_true (by omega)
    have e2 : decide (((nx i d : Nat) : Int) < (S : Nat)) = true := decide_eq_true (by have := (h5 i d hi hd).1; omega)
    have e3 : decide ((0 : Int) ≤ (un i d : Nat)) = true := decide_eq_true (by omega)
    simp only [↓x_seq, ↓x_next, ↓x_asg, ↓x_ret, ↓x_exp, ↓x_if, ↓x_cmp, ↓x_andE, ↓x_orE, ↓x_notE, ↓x_ifE, ↓x_truB, ↓x_isB, ↓x_eqB, ↓x_neB, ↓x_tupL, ↓x_lenLL, ↓x_item0, ↓x_item1, ↓x_item2, ↓x_item3, ↓x_tTrue, ↓x_iTmp, ↓x_enum, ↓x_gtup, ↓x_gcons, ↓x_gnil, ↓x_slice, ↓x_none, ↓x_some, ↓x_val, ↓x_not, ↓x_and, ↓x_or, ↓x_gvar, ↓x_gsub, ↓x_var, ↓x_con, ↓x_c1, ↓x_c2, ↓x_call, ↓x_nil, ↓x_cons, ↓x_tup, ↓x_disp, ↓x_keep, ↓x_tmp, ↓x_comp, ↓x_for, ↓x_rng, ↓x_iseq, ↓x_add, ↓x_sub, ↓x_mul, ↓x_div, ↓x_mod, ↓x_lt, ↓x_le, ↓x_gt, ↓x_ge, ↓x_eq, ↓x_ne, ↓x_subsT, ↓x_subsL, ↓x_subsR, ↓x_lenT, ↓x_lenL, ↓x_lenR, ↓x_intB, ↓x_intI, ↓x_setR, ↓x_retF, ↓x_nextF, ↓wp_run, ↓wp_ret, ↓wp_chk, ↓wp_alloc, andB_t, andB_f, andB_or, andB_and, decide_eq_true_eq, List.replicate_succ, List.replicate_zero, Option.join_some, List.map_cons, List.map_nil, List.cons_append, List.nil_append, List.replicate, List.getElem?_cons_zero, List.getElem?_cons_succ, List.set_cons_zero, List.set_cons_succ, List.length_cons, List.length_nil, Nat.reduceAdd, Nat.reduceSub, ge_iff_le, Int.reduceLE, Int.reduceLT, if_true, if_false, and_true, true_and, beq_iff_eq, ↓x_chain, ↓x_append, ↓x_clear, ↓x_pop, ↓x_reverse, ↓x_back, ↓x_listT, ↓x_listR, ↓x_tupleT, ↓x_tupleR, ↓x_isntB, ↓x_isB2, ↓x_inTu, ↓x_eqStr, ↓x_neStr, ↓x_isiL, ↓x_isiT, ↓x_isiI, ↓x_isiB, ↓x_isiBN, ↓x_neg, ↓x_min2, ↓x_max2, ↓x_rng2, ↓x_shl, ↓x_addT, ↓x_tmpSub, ↓x_inTmp, ite_t, ite_f, Bool.not_true, Bool.not_false, upto_len, e1, e2, e3]
  have hl : dn ≤ lim := lim_le (by omega)
  simp only [m_is_state, b_is_state, tabD, ↓x_seq, ↓x_next, ↓x_asg, ↓x_ret, ↓x_exp, ↓x_if, ↓x_cmp, ↓x_andE, ↓x_orE, ↓x_notE, ↓x_ifE, ↓x_truB, ↓x_isB, ↓x_eqB, ↓x_neB, ↓x_tupL, ↓x_lenLL, ↓x_item0, ↓x_item1, ↓x_item2, ↓x_item3, ↓x_tTrue, ↓x_iTmp, ↓x_enum, ↓x_gtup, ↓x_gcons, ↓x_gnil, ↓x_slice, ↓x_none, ↓x_some, ↓x_val, ↓x_not, ↓x_and, ↓x_or, ↓x_gvar, ↓x_gsub, ↓x_var, ↓x_con, ↓x_c1, ↓x_c2, ↓x_call, ↓x_nil, ↓x_cons, ↓x_tup, ↓x_disp, ↓x_keep, ↓x_tmp, ↓x_comp, ↓x_for, ↓x_rng, ↓x_iseq, ↓x_add, ↓x_sub, ↓x_mul, ↓x_div, ↓x_mod, ↓x_lt, ↓x_le, ↓x_gt, ↓x_ge, ↓x_eq, ↓x_ne, ↓x_subsT, ↓x_subsL, ↓x_subsR, ↓x_lenT, ↓x_lenL, ↓x_lenR, ↓x_intB, ↓x_intI, ↓x_setR, ↓x_retF, ↓x_nextF, ↓wp_run, ↓wp_ret, ↓wp_chk, ↓wp_alloc, andB_t, andB_f, andB_or, andB_and, decide_eq_true_eq, List.replicate_succ, List.replicate_zero, Option.join_some, List.map_cons, List.map_nil, List.cons_append, List.nil_append, List.replicate, List.getElem?_cons_zero, List.getElem?_cons_succ, List.set_cons_zero, List.set_cons_succ, List.length_cons, List.length_nil, Nat.reduceAdd, Nat.reduceSub, ge_iff_le, Int.reduceLE, Int.reduceLT, if_true, if_false, and_true, true_and, beq_iff_eq, ↓x_chain, ↓x_append, ↓x_clear, ↓x_pop, ↓x_reverse, ↓x_back, ↓x_listT, ↓x_listR, ↓x_tupleT, ↓x_tupleR, ↓x_isntB, ↓x_isB2, ↓x_inTu, ↓x_eqStr, ↓x_neStr, ↓x_isiL, ↓x_isiT, ↓x_isiI, ↓x_isiB, ↓x_isiBN, ↓x_neg, ↓x_min2, ↓x_max2, ↓x_rng2, ↓x_shl, ↓x_addT, ↓x_tmpSub, ↓x_inTmp, ite_t, ite_f, Bool.not_true, Bool.not_false, capt, upto_len, ↓x_itemU0 (show 0 < S by omega), beq_self_eq_true, ↓w, ↓all_true, hl]
theorem is_table_ok (h : TabOk S dn nx un) : wp (m_is_table [tabD S dn nx un]) Q s = Q (.bl true) s := by
  have h0 := h
  obtain ⟨h1, h2, h3, h4, h5⟩ := h
  have w : ∀ Q s, wp (collect (gVar 0) tTrue (cCall m_is_state (cCons (cVar 1) (cCons (cVar 0) cNil))) anySt (upto S fun s => .tup (upto dn fun d => D.tup [.int (nx s d : Nat), .int (un s d : Nat)])) [none, some (.tup (upto S fun s => .tup (upto dn fun d => D.tup [.int (nx s d : Nat), .int (un s d : Nat)])))]) Q s = Q (upto S fun _ => .bl true) s := fun Q s => pure_compR any_st fun i hi Q => by
    have q : ∀ Q s, wp (m_is_state [tabD S dn nx un, .tup (upto dn fun d => D.tup [.int (nx i d : Nat), .int (un i d : Nat)])]) Q s = Q (.bl true) s := fun Q s => is_state_ok h0 hi
    unfold tabD at q
    simp only [↓x_seq, ↓x_next, ↓x_asg, ↓x_ret, ↓x_exp, ↓x_if, ↓x_cmp, ↓x_andE, ↓x_orE, ↓x_notE, ↓x_ifE, ↓x_truB, ↓x_isB, ↓x_eqB, ↓x_neB, ↓x_tupL, ↓x_lenLL, ↓x_item0, ↓x_item1, ↓x_item2, ↓x_item3, ↓x_tTrue, ↓x_iTmp, ↓x_enum, ↓x_gtup, ↓x_gcons, ↓x_gnil, ↓x_slice, ↓x_none, ↓x_some, ↓x_val, ↓x_not, ↓x_and, ↓x_or, ↓x_gvar, ↓x_gsub, ↓x_var, ↓x_con, ↓x_c1, ↓x_c2, ↓x_call, ↓x_nil, ↓x_cons, ↓x_tup, ↓x_disp, ↓x_keep, ↓x_tmp, ↓x_comp, ↓x_for, ↓x_rng, ↓x_iseq, ↓x_add, ↓x_sub, ↓x_mul, ↓x_div, ↓x_mod, ↓x_lt, ↓x_le, ↓x_gt, ↓x_ge, ↓x_eq, ↓x_ne, ↓x_subsT, ↓x_subsL, ↓x_subsR, ↓x_lenT, ↓x_lenL, ↓x_lenR, ↓x_intB, ↓x_intI, ↓x_setR, ↓x_retF, ↓x_nextF, ↓wp_run, ↓wp_ret, ↓wp_chk, ↓wp_alloc, andB_t, andB_f, andB_or, andB_and, decide_eq_true_eq, List.replicate_succ, List.replicate_zero, Option.join_some, List.map_cons, List.map_nil, List.cons_append, List.nil_append, List.replicate, List.getElem?_cons_zero, List.getElem?_cons_succ, List.set_cons_zero, List.set_cons_succ, List.length_cons, List.length_nil, Nat.reduceAdd, Nat.reduceSub, ge_iff_le, Int.reduceLE, Int.reduceLT, if_true, if_false, and_true, true_and, beq_iff_eq, ↓x_chain, ↓x_append, ↓x_clear, ↓x_pop, ↓x_reverse, ↓x_back, ↓x_listT, ↓x_listR, ↓x_tupleT, ↓x_tupleR, ↓x_isntB, ↓x_isB2, ↓x_inTu, ↓x_eqStr, ↓x_neStr, ↓x_isiL, ↓x_isiT, ↓x_isiI, ↓x_isiB, ↓x_isiBN, ↓x_neg, ↓x_min2, ↓x_max2, ↓x_rng2, ↓x_shl, ↓x_addT, ↓x_tmpSub, ↓x_inTmp, ite_t, ite_f, Bool.not_true, Bool.not_false, ↓q]
  have hl : S ≤ lim := lim_le (by omega)
  have e1 : (((S : Nat) : Int) == 0) = false := by simp; omega
  have e2 : (((dn : Nat) : Int) == 0) = false := by simp; omega
  simp only [m_is_table, b_is_table, tabD, ↓x_seq, ↓x_next, ↓x_asg, ↓x_ret, ↓x_exp, ↓x_if, ↓x_cmp, ↓x_andE, ↓x_orE, ↓x_notE, ↓x_ifE, ↓x_truB, ↓x_isB, ↓x_eqB, ↓x_neB, ↓x_tupL, ↓x_lenLL, ↓x_item0, ↓x_item1, ↓x_item2, ↓x_item3, ↓x_tTrue, ↓x_iTmp, ↓x_enum, ↓x_gtup, ↓x_gcons, ↓x_gnil, ↓x_slice, ↓x_none, ↓x_some, ↓x_val, ↓x_not, ↓x_and, ↓x_or, ↓x_gvar, ↓x_gsub, ↓x_var, ↓x_con, ↓x_c1, ↓x_c2, ↓x_call, ↓x_nil, ↓x_cons, ↓x_tup, ↓x_disp, ↓x_keep, ↓x_tmp, ↓x_comp, ↓x_for, ↓x_rng, ↓x_iseq, ↓x_add, ↓x_sub, ↓x_mul, ↓x_div, ↓x_mod, ↓x_lt, ↓x_le, ↓x_gt, ↓x_ge, ↓x_eq, ↓x_ne, ↓x_subsT, ↓x_subsL, ↓x_subsR, ↓x_lenT, ↓x_lenL, ↓x_lenR, ↓x_intB, ↓x_intI, ↓x_setR, ↓x_retF, ↓x_nextF, ↓wp_run, ↓wp_ret, ↓wp_chk, ↓wp_alloc, andB_t, andB_f, andB_or, andB_and, decide_eq_true_eq, List.replicate_succ, List.replicate_zero, Option.join_some, List.map_cons, List.map_nil, List.cons_append, List.nil_append, List.replicate, List.getElem?_cons_zero, List.getElem?_cons_succ, List.set_cons_zero, List.set_cons_succ, List.length_cons, List.length_nil, Nat.reduceAdd, Nat.reduceSub, ge_iff_le, Int.reduceLE, Int.reduceLT, if_true, if_false, and_true, true_and, beq_iff_eq, ↓x_chain, ↓x_append, ↓x_clear, ↓x_pop, ↓x_reverse, ↓x_back, ↓x_listT, ↓x_listR, ↓x_tupleT, ↓x_tupleR, ↓x_isntB, ↓x_isB2, ↓x_inTu, ↓x_eqStr, ↓x_neStr, ↓x_isiL, ↓x_isiT, ↓x_isiI, ↓x_isiB, ↓x_isiBN, ↓x_neg, ↓x_min2, ↓x_max2, ↓x_rng2, ↓x_shl, ↓x_addT, ↓x_tmpSub, ↓x_inTmp, ite_t, ite_f, Bool.not_true, Bool.not_false, capt, upto_len, e1, e2, ↓x_itemU0 (show 0 < S by omega), ↓w, ↓all_true, hl]
theorem are_lines_ok {gs lines : List D} (h : IsGoals lines.length gs) (hl : gs.length ≤ 100) : wp (m_are_lines [.tup gs, .tup lines]) Q s = Q (.bl true) s := by
  have w : ∀ Q s, wp (collect (gVar 0) tTrue (cChain leD ltD (cCon (.int 0)) (cVar 0) (c1 lenD (cVar 1))) anySt gs [none, some (.tup lines)]) Q s = Q (upto gs.length fun _ => .bl true) s := fun Q s => pure_comp any_st fun i d hd Q => by
    obtain ⟨k, e, hk⟩ := h d (List.mem_of_getElem? hd)
    subst e
    have e1 : decide ((0 : Int) ≤ (k : Nat)) = true := decide_eq_true (by omega)
    have e2 : decide (((k : Nat) : Int) < (lines.length : Nat)) = true := decide_eq_true (by omega)
    simp only [↓x_seq, ↓x_next, ↓x_asg, ↓x_ret, ↓x_exp, ↓x_if, ↓x_cmp, ↓x_andE, ↓x_orE, ↓x_notE, ↓x_ifE, ↓x_truB, ↓x_isB, ↓x_eqB, ↓x_neB, ↓x_tupL, ↓x_lenLL, ↓x_item0, ↓x_item1, ↓x_item2, ↓x_item3, ↓x_tTrue, ↓x_iTmp, ↓x_enum, ↓x_gtup, ↓x_gcons, ↓x_gnil, ↓x_slice, ↓x_none, ↓x_some, ↓x_val, ↓x_not, ↓x_and, ↓x_or, ↓x_gvar, ↓x_gsub, ↓x_var, ↓x_con, ↓x_c1, ↓x_c2, ↓x_call, ↓x_nil, ↓x_cons, ↓x_tup, ↓x_disp, ↓x_keep, ↓x_tmp, ↓x_comp, ↓x_for, ↓x_rng, ↓x_iseq, ↓x_add, ↓x_sub, ↓x_mul, ↓x_div, ↓x_mod, ↓x_lt, ↓x_le, ↓x_gt, ↓x_ge, ↓x_eq, ↓x_ne, ↓x_subsT, ↓x_subsL, ↓x_subsR, ↓x_lenT, ↓x_lenL, ↓x_lenR, ↓x_intB, ↓x_intI, ↓x_setR, ↓x_retF, ↓x_nextF, ↓wp_run, ↓wp_ret, ↓wp_chk, ↓wp_alloc, andB_t, andB_f, andB_or, andB_and, decide_eq_true_eq, List.replicate_succ, List.replicate_zero, Option.join_some, List.map_cons, List.map_nil, List.cons_append, List.nil_append, List.replicate, List.getElem?_cons_zero, List.getElem?_cons_succ, List.set_cons_zero, List.set_cons_succ, List.length_cons, List.length_nil, Nat.reduceAdd, Nat.reduceSub, ge_iff_le, Int.reduceLE, Int.reduceLT, if_true, if_false, and_true, true_and, beq_iff_eq, ↓x_chain, ↓x_append, ↓x_clear, ↓x_pop, ↓x_reverse, ↓x_back, ↓x_listT, ↓x_listR, ↓x_tupleT, ↓x_tupleR, ↓x_isntB, ↓x_isB2, ↓x_inTu, ↓x_eqStr, ↓x_neStr, ↓x_isiL, ↓x_isiT, ↓x_isiI, ↓x_isiB, ↓x_isiBN, ↓x_neg, ↓x_min2, ↓x_max2, ↓x_rng2, ↓x_shl, ↓x_addT, ↓x_tmpSub, ↓x_inTmp, ite_t, ite_f, Bool.not_true, Bool.not_false, e1, e2]
  have hl : gs.length ≤ lim := lim_le (by omega)
  simp only [m_are_lines, b_are_lines, ↓x_seq, ↓x_next, ↓x_asg, ↓x_ret, ↓x_exp, ↓x_if, ↓x_cmp, ↓x_andE, ↓x_orE, ↓x_notE, ↓x_ifE, ↓x_truB, ↓x_isB, ↓x_eqB, ↓x_neB, ↓x_tupL, ↓x_lenLL, ↓x_item0, ↓x_item1, ↓x_item2, ↓x_item3, ↓x_tTrue, ↓x_iTmp, ↓x_enum, ↓x_gtup, ↓x_gcons, ↓x_gnil, ↓x_slice, ↓x_none, ↓x_some, ↓x_val, ↓x_not, ↓x_and, ↓x_or, ↓x_gvar, ↓x_gsub, ↓x_var, ↓x_con, ↓x_c1, ↓x_c2, ↓x_call, ↓x_nil, ↓x_cons, ↓x_tup, ↓x_disp, ↓x_keep, ↓x_tmp, ↓x_comp, ↓x_for, ↓x_rng, ↓x_iseq, ↓x_add, ↓x_sub, ↓x_mul, ↓x_div, ↓x_mod, ↓x_lt, ↓x_le, ↓x_gt, ↓x_ge, ↓x_eq, ↓x_ne, ↓x_subsT, ↓x_subsL, ↓x_subsR, ↓x_lenT, ↓x_lenL, ↓x_lenR, ↓x_intB, ↓x_intI, ↓x_setR, ↓x_retF, ↓x_nextF, ↓wp_run, ↓wp_ret, ↓wp_chk, ↓wp_alloc, andB_t, andB_f, andB_or, andB_and, decide_eq_true_eq, List.replicate_succ, List.replicate_zero, Option.join_some, List.map_cons, List.map_nil, List.cons_append, List.nil_append, List.replicate, List.getElem?_cons_zero, List.getElem?_cons_succ, List.set_cons_zero, List.set_cons_succ, List.length_cons, List.length_nil, Nat.reduceAdd, Nat.reduceSub, ge_iff_le, Int.reduceLE, Int.reduceLT, if_true, if_false, and_true, true_and, beq_iff_eq, ↓x_chain, ↓x_append, ↓x_clear, ↓x_pop, ↓x_reverse, ↓x_back, ↓x_listT, ↓x_listR, ↓x_tupleT, ↓x_tupleR, ↓x_isntB, ↓x_isB2, ↓x_inTu, ↓x_eqStr, ↓x_neStr, ↓x_isiL, ↓x_isiT, ↓x_isiI, ↓x_isiB, ↓x_isiBN, ↓x_neg, ↓x_min2, ↓x_max2, ↓x_rng2, ↓x_shl, ↓x_addT, ↓x_tmpSub, ↓x_inTmp, ite_t, ite_f, Bool.not_true, Bool.not_false, capt, ↓w, ↓all_true, hl]
end
/-- what the answers are, board by board -/
def CountsAt (s : Sto) (n : Nat) (boards : List D) : Prop := ∃ cs, s[n]? = some (.lst cs) ∧ cs.length = boards.length ∧ ∀ (b S dn : Nat) (nx un : Nat → Nat → Nat) (st : Nat), boards[b]? = some (.tup [tabD S dn nx un, .int st]) → ∃ r, cs[b]? = some (.ref r) ∧ s[r]? = some (.lst (upto dn fun d => .int ((1 + mx (un · d) S : Nat) : Int)))
theorem CountsAt.ext {s s' : Sto} {n : Nat} {boards : List D} (h : CountsAt s n boards) (x : Ext s s') : CountsAt s' n boards := by
  obtain ⟨cs, h1, h2, h3⟩ := h
  exact ⟨cs, x.at_ h1, h2, fun b S dn nx un st hb => let ⟨r, a, c⟩ := h3 b S dn nx un st hb; ⟨r, a, x.at_ c⟩⟩
theorem tabD_inj {S dn S' dn' : Nat} {nx un nx' un' : Nat → Nat → Nat} (h : tabD S dn nx un = tabD S' dn' nx' un') : S = S' ∧ (1 ≤ S → dn = dn') ∧ ∀ s d, s < S → d < dn → nx s d = nx' s d ∧ un s d = un' s d := by
  unfold tabD at h
  have h1 := D.tup.inj h
  have e : S = S' := by have := congrArg List.length h1; simpa [upto_len] using this
  subst e
  have row : ∀ s, s < S → (upto dn fun d => D.tup [.int (nx s d : Nat), .int (un s d : Nat)]) = (upto dn' fun d => D.tup [.int (nx' s d : Nat), .int (un' s d : Nat)]) := by
    intro s hs
    have q := congrArg (fun l => l[s]?) h1
    simp only [upto_at hs] at q
    exact D.tup.inj (Option.some.inj q)
  refine ⟨rfl, fun hS => by have := congrArg List.length (row 0 (by omega)); simpa [upto_len] using this, fun s d hs hd => ?_⟩
  have q := row s hs
  have e : dn = dn' := by have := congrArg List.length q; simpa [upto_len] using this
  subst e
  have q2 := congrArg (fun l => l[d]?) q
  simp only [upto_at hd] at q2
  have q3 := D.tup.inj (Option.some.inj q2)
  simp at q3
  exact ⟨by omega, by omega⟩
theorem mx_congr {f g : Nat → Nat} {n : Nat} (h : ∀ i, i < n → f i = g i) : mx f n = mx g n := by
  induction n with
  | zero => rfl
  | succ n ih => unfold mx; rw [ih fun i hi => h i (by omega), h n (by omega)]
section
variable {Q : D → Sto → Prop} {s : Sto}
theorem is_line_ok {n : Nat} {boards lines : List D} {line : D} (hc : CountsAt s n boards) (hbd : ∀ b ∈ boards, IsBoard b) (hbl : boards.length ≤ 7) (h : IsLine boards lines.length line) : wp (m_is_line [.ref n, .tup lines, line]) Q s = Q (.bl true) s := by
  rcases h with ⟨v, hv, e⟩ | ⟨b, dd, S, dn, nx, un, st, gs, hb, hd, e, hg, hgs⟩
  · subst e
    have l2 : 2 ≤ lim := lim_le (by omega)
    simp only [m_is_line, b_is_line, ↓x_seq, ↓x_next, ↓x_asg, ↓x_ret, ↓x_exp, ↓x_if, ↓x_cmp, ↓x_andE, ↓x_orE, ↓x_notE, ↓x_ifE, ↓x_truB, ↓x_isB, ↓x_eqB, ↓x_neB, ↓x_tupL, ↓x_lenLL, ↓x_item0, ↓x_item1, ↓x_item2, ↓x_item3, ↓x_tTrue, ↓x_iTmp, ↓x_enum, ↓x_gtup, ↓x_gcons, ↓x_gnil, ↓x_slice, ↓x_none, ↓x_some, ↓x_val, ↓x_not, ↓x_and, ↓x_or, ↓x_gvar, ↓x_gsub, ↓x_var, ↓x_con, ↓x_c1, ↓x_c2, ↓x_call, ↓x_nil, ↓x_cons, ↓x_tup, ↓x_disp, ↓x_keep, ↓x_tmp, ↓x_comp, ↓x_for, ↓x_rng, ↓x_iseq, ↓x_add, ↓x_sub, ↓x_mul, ↓x_div, ↓x_mod, ↓x_lt, ↓x_le, ↓x_gt, ↓x_ge, ↓x_eq, ↓x_ne, ↓x_subsT, ↓x_subsL, ↓x_subsR, ↓x_lenT, ↓x_lenL, ↓x_lenR, ↓x_intB, ↓x_intI, ↓x_setR, ↓x_retF, ↓x_nextF, ↓wp_run, ↓wp_ret, ↓wp_chk, ↓wp_alloc, andB_t, andB_f, andB_or, andB_and, decide_eq_true_eq, List.replicate_succ, List.replicate_zero, Option.join_some, List.map_cons, List.map_nil, List.cons_append, List.nil_append, List.replicate, List.getElem?_cons_zero, List.getElem?_cons_succ, List.set_cons_zero, List.set_cons_succ, List.length_cons, List.length_nil, Nat.reduceAdd, Nat.reduceSub, ge_iff_le, Int.reduceLE, Int.reduceLT, if_true, if_false, and_true, true_and, beq_iff_eq, ↓x_chain, ↓x_append, ↓x_clear, ↓x_pop, ↓x_reverse, ↓x_back, ↓x_listT, ↓x_listR, ↓x_tupleT, ↓x_tupleR, ↓x_isntB, ↓x_isB2, ↓x_inTu, ↓x_eqStr, ↓x_neStr, ↓x_isiL, ↓x_isiT, ↓x_isiI, ↓x_isiB, ↓x_isiBN, ↓x_neg, ↓x_min2, ↓x_max2, ↓x_rng2, ↓x_shl, ↓x_addT, ↓x_tmpSub, ↓x_inTmp, ite_t, ite_f, Bool.not_true, Bool.not_false, settle_eq, l2, ↓x_in01 hv]
  · subst e
    obtain ⟨cs, c1, c2, c3⟩ := hc
    obtain ⟨r, hr, hr2⟩ := c3 b S dn nx un st hb
    obtain ⟨S', dn', nx', un', st', e, ok, _⟩ := hbd _ (List.mem_of_getElem? hb)
    have hbl2 := (List.getElem?_eq_some_iff.mp hb).1
    have ei := tabD_inj (List.cons.inj (D.tup.inj e)).1
    obtain ⟨o1, o2, o3, o4, o5⟩ := ok
    obtain ⟨eS, ed, eu⟩ := ei
    subst eS
    have hd4 : dn = dn' := ed o1
    subst hd4
    have hm : mx (un · dd) S ≤ 3 := mx_le fun i hi => by have := (o5 i dd hi hd).2; have := (eu i dd hi hd).2; omega
    have g1 : ∀ Q, wp (getL n) Q s = Q cs s := fun Q => wp_getL c1
    have g2 : ∀ Q, wp (getL r) Q s = Q (upto dn fun d => .int ((1 + mx (un · d) S : Nat) : Int)) s := fun Q => wp_getL hr2
    have i1 : ∀ Q, wp (itemD cs (b : Int)) Q s = Q (.ref r) s := fun Q => wp_item hr
    have al : ∀ Q s, wp (m_are_lines [.tup gs, .tup lines]) Q s = Q (.bl true) s := fun Q s => are_lines_ok hgs (by omega)
    have e1 : decide ((0 : Int) ≤ (b : Nat)) = true := decide_eq_true (by omega)
    have e2 : decide (((b : Nat) : Int) < (cs.length : Nat)) = true := decide_eq_true (by omega)
    have e3 : decide ((0 : Int) ≤ (dd : Nat)) = true := decide_eq_true (by omega)
    have e4 : decide (((dd : Nat) : Int) < (dn : Nat)) = true := decide_eq_true (by omega)
    have e5 : ((gs.length : Int) == ((1 + mx (un · dd) S : Nat) : Int)) = true := by rw [hg]; simp
    simp only [m_is_line, b_is_line, ↓x_seq, ↓x_next, ↓x_asg, ↓x_ret, ↓x_exp, ↓x_if, ↓x_cmp, ↓x_andE, ↓x_orE, ↓x_notE, ↓x_ifE, ↓x_truB, ↓x_isB, ↓x_eqB, ↓x_neB, ↓x_tupL, ↓x_lenLL, ↓x_item0, ↓x_item1, ↓x_item2, ↓x_item3, ↓x_tTrue, ↓x_iTmp, ↓x_enum, ↓x_gtup, ↓x_gcons, ↓x_gnil, ↓x_slice, ↓x_none, ↓x_some, ↓x_val, ↓x_not, ↓x_and, ↓x_or, ↓x_gvar, ↓x_gsub, ↓x_var, ↓x_con, ↓x_c1, ↓x_c2, ↓x_call, ↓x_nil, ↓x_cons, ↓x_tup, ↓x_disp, ↓x_keep, ↓x_tmp, ↓x_comp, ↓x_for, ↓x_rng, ↓x_iseq, ↓x_add, ↓x_sub, ↓x_mul, ↓x_div, ↓x_mod, ↓x_lt, ↓x_le, ↓x_gt, ↓x_ge, ↓x_eq, ↓x_ne, ↓x_subsT, ↓x_subsL, ↓x_subsR, ↓x_lenT, ↓x_lenL, ↓x_lenR, ↓x_intB, ↓x_intI, ↓x_setR, ↓x_retF, ↓x_nextF, ↓wp_run, ↓wp_ret, ↓wp_chk, ↓wp_alloc, andB_t, andB_f, andB_or, andB_and, decide_eq_true_eq, List.replicate_succ, List.replicate_zero, Option.join_some, List.map_cons, List.map_nil, List.cons_append, List.nil_append, List.replicate, List.getElem?_cons_zero, List.getElem?_cons_succ, List.set_cons_zero, List.set_cons_succ, List.length_cons, List.length_nil, Nat.reduceAdd, Nat.reduceSub, ge_iff_le, Int.reduceLE, Int.reduceLT, if_true, if_false, and_true, true_and, beq_iff_eq, ↓x_chain, ↓x_append, ↓x_clear, ↓x_pop, ↓x_reverse, ↓x_back, ↓x_listT, ↓x_listR, ↓x_tupleT, ↓x_tupleR, ↓x_isntB, ↓x_isB2, ↓x_inTu, ↓x_eqStr, ↓x_neStr, ↓x_isiL, ↓x_isiT, ↓x_isiI, ↓x_isiB, ↓x_isiBN, ↓x_neg, ↓x_min2, ↓x_max2, ↓x_rng2, ↓x_shl, ↓x_addT, ↓x_tmpSub, ↓x_inTmp, ite_t, ite_f, Bool.not_true, Bool.not_false, do_eq, ↓g1, ↓g2, ↓i1, upto_len, ↓x_itemU hd, e1, e2, e3, e4, e5, ↓al, Bool.false_eq_true, if_false]
end
end My
namespace My
open MM
open PySem (Str)
section
variable {Q : D → Sto → Prop} {s : Sto}
theorem look_boards_ok {boards : List D} (hbd : ∀ b ∈ boards, IsBoard b) : wp (m_look_at_boards [.tup boards]) Q s = Q .non s := by
  apply wp_to_eq
  simp only [m_look_at_boards, b_look_at_boards, ↓x_seq, ↓x_next, ↓x_asg, ↓x_ret, ↓x_exp, ↓x_if, ↓x_cmp, ↓x_andE, ↓x_orE, ↓x_notE, ↓x_ifE, ↓x_truB, ↓x_isB, ↓x_eqB, ↓x_neB, ↓x_tupL, ↓x_lenLL, ↓x_item0, ↓x_item1, ↓x_item2, ↓x_item3, ↓x_tTrue, ↓x_iTmp, ↓x_enum, ↓x_gtup, ↓x_gcons, ↓x_gnil, ↓x_slice, ↓x_none, ↓x_some, ↓x_val, ↓x_not, ↓x_and, ↓x_or, ↓x_gvar, ↓x_gsub, ↓x_var, ↓x_con, ↓x_c1, ↓x_c2, ↓x_call, ↓x_nil, ↓x_cons, ↓x_tup, ↓x_disp, ↓x_keep, ↓x_tmp, ↓x_comp, ↓x_for, ↓x_rng, ↓x_iseq, ↓x_add, ↓x_sub, ↓x_mul, ↓x_div, ↓x_mod, ↓x_lt, ↓x_le, ↓x_gt, ↓x_ge, ↓x_eq, ↓x_ne, ↓x_subsT, ↓x_subsL, ↓x_subsR, ↓x_lenT, ↓x_lenL, ↓x_lenR, ↓x_intB, ↓x_intI, ↓x_setR, ↓x_retF, ↓x_nextF, ↓wp_run, ↓wp_ret, ↓wp_chk, ↓wp_alloc, andB_t, andB_f, andB_or, andB_and, decide_eq_true_eq, List.replicate_succ, List.replicate_zero, Option.join_some, List.map_cons, List.map_nil, List.cons_append, List.nil_append, List.replicate, List.getElem?_cons_zero, List.getElem?_cons_succ, List.set_cons_zero, List.set_cons_succ, List.length_cons, List.length_nil, Nat.reduceAdd, Nat.reduceSub, ge_iff_le, Int.reduceLE, Int.reduceLT, if_true, if_false, and_true, true_and, beq_iff_eq, ↓x_chain, ↓x_append, ↓x_clear, ↓x_pop, ↓x_reverse, ↓x_back, ↓x_listT, ↓x_listR, ↓x_tupleT, ↓x_tupleR, ↓x_isntB, ↓x_isB2, ↓x_inTu, ↓x_eqStr, ↓x_neStr, ↓x_isiL, ↓x_isiT, ↓x_isiI, ↓x_isiB, ↓x_isiBN, ↓x_neg, ↓x_min2, ↓x_max2, ↓x_rng2, ↓x_shl, ↓x_addT, ↓x_tmpSub, ↓x_inTmp, ite_t, ite_f, Bool.not_true, Bool.not_false]
  refine wp_forI (fun i l s' => s' = s ∧ ∃ x1 x2 x3, l = [some (.tup boards), x1, x2, x3]) (fun _ _ _ _ => trivial) ⟨rfl, _, _, _, rfl⟩ (fun i d l s' hd ⟨es, x1, x2, x3, el⟩ => ?_) (fun l s' ⟨es, x1, x2, x3, el⟩ => ?_)
  · subst es
    subst el
    obtain ⟨b, hb, ed⟩ := enum_of hd
    subst ed
    obtain ⟨S, dn, nx, un, st, e, ok, hst⟩ := hbd b (List.mem_of_getElem? hb)
    subst e
    have q : ∀ Q s, wp (m_is_table [tabD S dn nx un]) Q s = Q (.bl true) s := fun Q s => is_table_ok ok
    have w1 : wp (lenD (tabD S dn nx un)) = fun Q s => Q (.int S) s := by
      funext Q s; unfold tabD; rw [x_lenT, upto_len]
    have e1 : decide ((0 : Int) ≤ (st : Nat)) = true := decide_eq_true (by omega)
    have e2 : decide (((st : Nat) : Int) < (S : Nat)) = true := decide_eq_true (by omega)
    simp only [↓x_seq, ↓x_next, ↓x_asg, ↓x_ret, ↓x_exp, ↓x_if, ↓x_cmp, ↓x_andE, ↓x_orE, ↓x_notE, ↓x_ifE, ↓x_truB, ↓x_isB, ↓x_eqB, ↓x_neB, ↓x_tupL, ↓x_lenLL, ↓x_item0, ↓x_item1, ↓x_item2, ↓x_item3, ↓x_tTrue, ↓x_iTmp, ↓x_enum, ↓x_gtup, ↓x_gcons, ↓x_gnil, ↓x_slice, ↓x_none, ↓x_some, ↓x_val, ↓x_not, ↓x_and, ↓x_or, ↓x_gvar, ↓x_gsub, ↓x_var, ↓x_con, ↓x_c1, ↓x_c2, ↓x_call, ↓x_nil, ↓x_cons, ↓x_tup, ↓x_disp, ↓x_keep, ↓x_tmp, ↓x_comp, ↓x_for, ↓x_rng, ↓x_iseq, ↓x_add, ↓x_sub, ↓x_mul, ↓x_div, ↓x_mod, ↓x_lt, ↓x_le, ↓x_gt, ↓x_ge, ↓x_eq, ↓x_ne, ↓x_subsT, ↓x_subsL, ↓x_subsR, ↓x_lenT, ↓x_lenL, ↓x_lenR, ↓x_intB, ↓x_intI, ↓x_setR, ↓x_retF, ↓x_nextF, ↓wp_run, ↓wp_ret, ↓wp_chk, ↓wp_alloc, andB_t, andB_f, andB_or, andB_and, decide_eq_true_eq, List.replicate_succ, List.replicate_zero, Option.join_some, List.map_cons, List.map_nil, List.cons_append, List.nil_append, List.replicate, List.getElem?_cons_zero, List.getElem?_cons_succ, List.set_cons_zero, List.set_cons_succ, List.length_cons, List.length_nil, Nat.reduceAdd, Nat.reduceSub, ge_iff_le, Int.reduceLE, Int.reduceLT, if_true, if_false, and_true, true_and, beq_iff_eq, ↓x_chain, ↓x_append, ↓x_clear, ↓x_pop, ↓x_reverse, ↓x_back, ↓x_listT, ↓x_listR, ↓x_tupleT, ↓x_tupleR, ↓x_isntB, ↓x_isB2, ↓x_inTu, ↓x_eqStr, ↓x_neStr, ↓x_isiL, ↓x_isiT, ↓x_isiI, ↓x_isiB, ↓x_isiBN, ↓x_neg, ↓x_min2, ↓x_max2, ↓x_rng2, ↓x_shl, ↓x_addT, ↓x_tmpSub, ↓x_inTmp, ite_t, ite_f, Bool.not_true, Bool.not_false, ↓q, ↓w1, e1, e2, Bool.false_eq_true, if_false]
    exact ⟨_, _, _, rfl⟩
  · subst es
    simp only [↓x_seq, ↓x_next, ↓x_asg, ↓x_ret, ↓x_exp, ↓x_if, ↓x_cmp, ↓x_andE, ↓x_orE, ↓x_notE, ↓x_ifE, ↓x_truB, ↓x_isB, ↓x_eqB, ↓x_neB, ↓x_tupL, ↓x_lenLL, ↓x_item0, ↓x_item1, ↓x_item2, ↓x_item3, ↓x_tTrue, ↓x_iTmp, ↓x_enum, ↓x_gtup, ↓x_gcons, ↓x_gnil, ↓x_slice, ↓x_none, ↓x_some, ↓x_val, ↓x_not, ↓x_and, ↓x_or, ↓x_gvar, ↓x_gsub, ↓x_var, ↓x_con, ↓x_c1, ↓x_c2, ↓x_call, ↓x_nil, ↓x_cons, ↓x_tup, ↓x_disp, ↓x_keep, ↓x_tmp, ↓x_comp, ↓x_for, ↓x_rng, ↓x_iseq, ↓x_add, ↓x_sub, ↓x_mul, ↓x_div, ↓x_mod, ↓x_lt, ↓x_le, ↓x_gt, ↓x_ge, ↓x_eq, ↓x_ne, ↓x_subsT, ↓x_subsL, ↓x_subsR, ↓x_lenT, ↓x_lenL, ↓x_lenR, ↓x_intB, ↓x_intI, ↓x_setR, ↓x_retF, ↓x_nextF, ↓wp_run, ↓wp_ret, ↓wp_chk, ↓wp_alloc, andB_t, andB_f, andB_or, andB_and, decide_eq_true_eq, List.replicate_succ, List.replicate_zero, Option.join_some, List.map_cons, List.map_nil, List.cons_append, List.nil_append, List.replicate, List.getElem?_cons_zero, List.getElem?_cons_succ, List.set_cons_zero, List.set_cons_succ, List.length_cons, List.length_nil, Nat.reduceAdd, Nat.reduceSub, ge_iff_le, Int.reduceLE, Int.reduceLT, if_true, if_false, and_true, true_and, beq_iff_eq, ↓x_chain, ↓x_append, ↓x_clear, ↓x_pop, ↓x_reverse, ↓x_back, ↓x_listT, ↓x_listR, ↓x_tupleT, ↓x_tupleR, ↓x_isntB, ↓x_isB2, ↓x_inTu, ↓x_eqStr, ↓x_neStr, ↓x_isiL, ↓x_isiT, ↓x_isiI, ↓x_isiB, ↓x_isiBN, ↓x_neg, ↓x_min2, ↓x_max2, ↓x_rng2, ↓x_shl, ↓x_addT, ↓x_tmpSub, ↓x_inTmp, ite_t, ite_f, Bool.not_true, Bool.not_false]
theorem counts_ok {S dn : Nat} {nx un : Nat → Nat → Nat} (h : TabOk S dn nx un) : wp (m_answer_counts [tabD S dn nx un]) Q s = Q (.ref s.length) (s ++ [.lst (upto dn fun d => .int ((1 + mx (un · d) S : Nat) : Int))]) := by
  have h0 := h
  obtain ⟨h1, h2, h3, h4, h5⟩ := h
  have w : ∀ Q s, wp (collect (gVar 0) tTrue (cCall m_answers (cCons (cVar 1) (cCons (cVar 0) cNil))) anySt (upto dn fun i => .int i) [none, some (tabD S dn nx un)]) Q s = Q (upto dn fun d => .int ((1 + mx (un · d) S : Nat) : Int)) s := fun Q s => pure_compR any_st fun j hj Q => by
    have q : ∀ Q s, wp (m_answers [tabD S dn nx un, .int j]) Q s = Q (.int ((1 + mx (un · j) S : Nat) : Int)) s := fun Q s => answers_ok h0 hj
    simp only [↓x_seq, ↓x_next, ↓x_asg, ↓x_ret, ↓x_exp, ↓x_if, ↓x_cmp, ↓x_andE, ↓x_orE, ↓x_notE, ↓x_ifE, ↓x_truB, ↓x_isB, ↓x_eqB, ↓x_neB, ↓x_tupL, ↓x_lenLL, ↓x_item0, ↓x_item1, ↓x_item2, ↓x_item3, ↓x_tTrue, ↓x_iTmp, ↓x_enum, ↓x_gtup, ↓x_gcons, ↓x_gnil, ↓x_slice, ↓x_none, ↓x_some, ↓x_val, ↓x_not, ↓x_and, ↓x_or, ↓x_gvar, ↓x_gsub, ↓x_var, ↓x_con, ↓x_c1, ↓x_c2, ↓x_call, ↓x_nil, ↓x_cons, ↓x_tup, ↓x_disp, ↓x_keep, ↓x_tmp, ↓x_comp, ↓x_for, ↓x_rng, ↓x_iseq, ↓x_add, ↓x_sub, ↓x_mul, ↓x_div, ↓x_mod, ↓x_lt, ↓x_le, ↓x_gt, ↓x_ge, ↓x_eq, ↓x_ne, ↓x_subsT, ↓x_subsL, ↓x_subsR, ↓x_lenT, ↓x_lenL, ↓x_lenR, ↓x_intB, ↓x_intI, ↓x_setR, ↓x_retF, ↓x_nextF, ↓wp_run, ↓wp_ret, ↓wp_chk, ↓wp_alloc, andB_t, andB_f, andB_or, andB_and, decide_eq_true_eq, List.replicate_succ, List.replicate_zero, Option.join_some, List.map_cons, List.map_nil, List.cons_append, List.nil_append, List.replicate, List.getElem?_cons_zero, List.getElem?_cons_succ, List.set_cons_zero, List.set_cons_succ, List.length_cons, List.length_nil, Nat.reduceAdd, Nat.reduceSub, ge_iff_le, Int.reduceLE, Int.reduceLT, if_true, if_false, and_true, true_and, beq_iff_eq, ↓x_chain, ↓x_append, ↓x_clear, ↓x_pop, ↓x_reverse, ↓x_back, ↓x_listT, ↓x_listR, ↓x_tupleT, ↓x_tupleR, ↓x_isntB, ↓x_isB2, ↓x_inTu, ↓x_eqStr, ↓x_neStr, ↓x_isiL, ↓x_isiT, ↓x_isiI, ↓x_isiB, ↓x_isiBN, ↓x_neg, ↓x_min2, ↓x_max2, ↓x_rng2, ↓x_shl, ↓x_addT, ↓x_tmpSub, ↓x_inTmp, ite_t, ite_f, Bool.not_true, Bool.not_false, ↓q]
  have hl : dn ≤ lim := lim_le (by omega)
  have hb : (-(2 ^ 62) ≤ (dn : Int) ∧ (dn : Int) < 2 ^ 62) := by omega
  have tb : wp (subsD (tabD S dn nx un) (.int 0)) = fun Q s => Q (D.tup (upto dn fun d => D.tup [.int (nx 0 d : Nat), .int (un 0 d : Nat)])) s := by
    funext Q s; unfold tabD; rw [x_subsT, x_itemU0 (by omega)]
  simp only [m_answer_counts, b_answer_counts, ↓x_seq, ↓x_next, ↓x_asg, ↓x_ret, ↓x_exp, ↓x_if, ↓x_cmp, ↓x_andE, ↓x_orE, ↓x_notE, ↓x_ifE, ↓x_truB, ↓x_isB, ↓x_eqB, ↓x_neB, ↓x_tupL, ↓x_lenLL, ↓x_item0, ↓x_item1, ↓x_item2, ↓x_item3, ↓x_tTrue, ↓x_iTmp, ↓x_enum, ↓x_gtup, ↓x_gcons, ↓x_gnil, ↓x_slice, ↓x_none, ↓x_some, ↓x_val, ↓x_not, ↓x_and, ↓x_or, ↓x_gvar, ↓x_gsub, ↓x_var, ↓x_con, ↓x_c1, ↓x_c2, ↓x_call, ↓x_nil, ↓x_cons, ↓x_tup, ↓x_disp, ↓x_keep, ↓x_tmp, ↓x_comp, ↓x_for, ↓x_rng, ↓x_iseq, ↓x_add, ↓x_sub, ↓x_mul, ↓x_div, ↓x_mod, ↓x_lt, ↓x_le, ↓x_gt, ↓x_ge, ↓x_eq, ↓x_ne, ↓x_subsT, ↓x_subsL, ↓x_subsR, ↓x_lenT, ↓x_lenL, ↓x_lenR, ↓x_intB, ↓x_intI, ↓x_setR, ↓x_retF, ↓x_nextF, ↓wp_run, ↓wp_ret, ↓wp_chk, ↓wp_alloc, andB_t, andB_f, andB_or, andB_and, decide_eq_true_eq, List.replicate_succ, List.replicate_zero, Option.join_some, List.map_cons, List.map_nil, List.cons_append, List.nil_append, List.replicate, List.getElem?_cons_zero, List.getElem?_cons_succ, List.set_cons_zero, List.set_cons_succ, List.length_cons, List.length_nil, Nat.reduceAdd, Nat.reduceSub, ge_iff_le, Int.reduceLE, Int.reduceLT, if_true, if_false, and_true, true_and, beq_iff_eq, ↓x_chain, ↓x_append, ↓x_clear, ↓x_pop, ↓x_reverse, ↓x_back, ↓x_listT, ↓x_listR, ↓x_tupleT, ↓x_tupleR, ↓x_isntB, ↓x_isB2, ↓x_inTu, ↓x_eqStr, ↓x_neStr, ↓x_isiL, ↓x_isiT, ↓x_isiI, ↓x_isiB, ↓x_isiBN, ↓x_neg, ↓x_min2, ↓x_max2, ↓x_rng2, ↓x_shl, ↓x_addT, ↓x_tmpSub, ↓x_inTmp, ite_t, ite_f, Bool.not_true, Bool.not_false, ↓tb, capt, upto_len, Int.toNat_natCast, rng_upto, ↓w, hl, hb]
theorem all_counts_ok {boards : List D} {A : List D → Sto → Prop} (hbd : ∀ b ∈ boards, IsBoard b) (h : ∀ cs s', Ext s s' → cs.length = boards.length → (∀ (b S dn : Nat) (nx un : Nat → Nat → Nat) (st : Nat), boards[b]? = some (.tup [tabD S dn nx un, .int st]) → ∃ r, cs[b]? = some (.ref r) ∧ s'[r]? = some (.lst (upto dn fun d => .int ((1 + mx (un · d) S : Nat) : Int)))) → A cs s') :
    wp (collect (gTupD 2 (gsCons (gVar 0) (gsCons (gVar 1) gsNil))) tTrue (cCall m_answer_counts (cCons (cVar 0) cNil)) anySt boards [none, none]) A s := by
  have chk : ∀ {s : Sto} {R : Unit → Sto → Prop}, R () s → wp (chkS anySt) R s := fun r => by rw [wp_any]; exact r
  refine wp_collect (Q := A) (fun out xs l s' => ∃ i, xs = boards.drop i ∧ i ≤ boards.length ∧ (∃ x y, l = [x, y]) ∧ out.length = i ∧ Ext s s' ∧ (∀ (b S dn : Nat) (nx un : Nat → Nat → Nat) (st : Nat), b < i → boards[b]? = some (.tup [tabD S dn nx un, .int st]) → ∃ r, out[b]? = some (.ref r) ∧ s'[r]? = some (.lst (upto dn fun d => .int ((1 + mx (un · d) S : Nat) : Int))))) (fun out l s' ⟨i, e1, hi, _, e2, ex, hh⟩ => ?_) (fun out d xs l s' ⟨i, e1, hi, ⟨x, y, el⟩, e2, ex, hh⟩ => ?_) boards [] _ s ⟨0, by simp, Nat.zero_le _, ⟨_, _, rfl⟩, rfl, Ext.refl _, fun b S dn nx un st hb => by omega⟩
  · have : i = boards.length := by
      have := congrArg List.length e1
      simp at this; omega
    subst this
    exact chk (h out s' ex e2 fun b S dn nx un st hb => hh b S dn nx un st (List.getElem?_eq_some_iff.mp hb).1 hb)
  · have hlt : i < boards.length := by
      have := congrArg List.length e1
      simp at this; omega
    rw [List.drop_eq_getElem_cons hlt] at e1
    obtain ⟨e3, e4⟩ := List.cons.inj e1
    obtain ⟨S, dn, nx, un, st, e, ok, hst⟩ := hbd d (by rw [e3]; exact List.getElem_mem hlt)
    have hd : boards[i]? = some (.tup [tabD S dn nx un, .int st]) := by rw [List.getElem?_eq_getElem hlt, ← e3, e]
    subst e
    subst el
    refine chk ?_
    have q : ∀ Q s, wp (m_answer_counts [tabD S dn nx un]) Q s = Q (.ref s.length) (s ++ [.lst (upto dn fun d => .int ((1 + mx (un · d) S : Nat) : Int))]) := fun Q s => counts_ok ok
    simp only [↓x_seq, ↓x_next, ↓x_asg, ↓x_ret, ↓x_exp, ↓x_if, ↓x_cmp, ↓x_andE, ↓x_orE, ↓x_notE, ↓x_ifE, ↓x_truB, ↓x_isB, ↓x_eqB, ↓x_neB, ↓x_tupL, ↓x_lenLL, ↓x_item0, ↓x_item1, ↓x_item2, ↓x_item3, ↓x_tTrue, ↓x_iTmp, ↓x_enum, ↓x_gtup, ↓x_gcons, ↓x_gnil, ↓x_slice, ↓x_none, ↓x_some, ↓x_val, ↓x_not, ↓x_and, ↓x_or, ↓x_gvar, ↓x_gsub, ↓x_var, ↓x_con, ↓x_c1, ↓x_c2, ↓x_call, ↓x_nil, ↓x_cons, ↓x_tup, ↓x_disp, ↓x_keep, ↓x_tmp, ↓x_comp, ↓x_for, ↓x_rng, ↓x_iseq, ↓x_add, ↓x_sub, ↓x_mul, ↓x_div, ↓x_mod, ↓x_lt, ↓x_le, ↓x_gt, ↓x_ge, ↓x_eq, ↓x_ne, ↓x_subsT, ↓x_subsL, ↓x_subsR, ↓x_lenT, ↓x_lenL, ↓x_lenR, ↓x_intB, ↓x_intI, ↓x_setR, ↓x_retF, ↓x_nextF, ↓wp_run, ↓wp_ret, ↓wp_chk, ↓wp_alloc, andB_t, andB_f, andB_or, andB_and, decide_eq_true_eq, List.replicate_succ, List.replicate_zero, Option.join_some, List.map_cons, List.map_nil, List.cons_append, List.nil_append, List.replicate, List.getElem?_cons_zero, List.getElem?_cons_succ, List.set_cons_zero, List.set_cons_succ, List.length_cons, List.length_nil, Nat.reduceAdd, Nat.reduceSub, ge_iff_le, Int.reduceLE, Int.reduceLT, if_true, if_false, and_true, true_and, beq_iff_eq, ↓x_chain, ↓x_append, ↓x_clear, ↓x_pop, ↓x_reverse, ↓x_back, ↓x_listT, ↓x_listR, ↓x_tupleT, ↓x_tupleR, ↓x_isntB, ↓x_isB2, ↓x_inTu, ↓x_eqStr, ↓x_neStr, ↓x_isiL, ↓x_isiT, ↓x_isiI, ↓x_isiB, ↓x_isiBN, ↓x_neg, ↓x_min2, ↓x_max2, ↓x_rng2, ↓x_shl, ↓x_addT, ↓x_tmpSub, ↓x_inTmp, ite_t, ite_f, Bool.not_true, Bool.not_false, ↓q]
    refine ⟨i + 1, e4, hlt, ⟨_, _, rfl⟩, by simp [e2], ex.snoc _, fun b S' dn' nx' un' st' hb hb2 => ?_⟩
    by_cases e : b = i
    · subst e
      rw [hd] at hb2
      have e5 := List.cons.inj (D.tup.inj (Option.some.inj hb2))
      obtain ⟨eS, ed, eu⟩ := tabD_inj e5.1
      subst eS
      have := ed ok.1
      subst this
      refine ⟨s'.length, by rw [← e2]; simp, ?_⟩
      rw [List.getElem?_append_right (Nat.le_refl _)]
      simp only [Nat.sub_self, List.getElem?_cons_zero]
      congr 2
      exact upto_congr fun d hd => by rw [mx_congr fun i hi => (eu i d hi hd).2]
    · obtain ⟨r, r1, r2⟩ := hh b S' dn' nx' un' st' (by omega) hb2
      exact ⟨r, by rw [List.getElem?_append_left (by omega)]; exact r1, (Ext.snoc (Ext.refl _) _).at_ r2⟩
theorem look_hand_ok {n : Nat} {boards : List D} {hand : D} {k : Int} (hc : CountsAt s n boards) (hbd : ∀ b ∈ boards, IsBoard b) (hbl : boards.length ≤ 7) (h : IsHand boards hand) : wp (m_look_at_hand [.ref n, .int k, hand]) Q s = Q .non s := by
  obtain ⟨b0, b1, lines, e, h0, h1, hl, hls⟩ := h
  subst e
  apply wp_to_eq
  have al : ∀ Q s, wp (m_are_lines [.tup [.int b0, .int b1], .tup lines]) Q s = Q (.bl true) s := fun Q s => are_lines_ok (fun g hg => by
    simp at hg
    rcases hg with e | e
    · exact ⟨b0, e, h0⟩
    · exact ⟨b1, e, h1⟩) (by simp)
  simp only [m_look_at_hand, b_look_at_hand, ↓x_seq, ↓x_next, ↓x_asg, ↓x_ret, ↓x_exp, ↓x_if, ↓x_cmp, ↓x_andE, ↓x_orE, ↓x_notE, ↓x_ifE, ↓x_truB, ↓x_isB, ↓x_eqB, ↓x_neB, ↓x_tupL, ↓x_lenLL, ↓x_item0, ↓x_item1, ↓x_item2, ↓x_item3, ↓x_tTrue, ↓x_iTmp, ↓x_enum, ↓x_gtup, ↓x_gcons, ↓x_gnil, ↓x_slice, ↓x_none, ↓x_some, ↓x_val, ↓x_not, ↓x_and, ↓x_or, ↓x_gvar, ↓x_gsub, ↓x_var, ↓x_con, ↓x_c1, ↓x_c2, ↓x_call, ↓x_nil, ↓x_cons, ↓x_tup, ↓x_disp, ↓x_keep, ↓x_tmp, ↓x_comp, ↓x_for, ↓x_rng, ↓x_iseq, ↓x_add, ↓x_sub, ↓x_mul, ↓x_div, ↓x_mod, ↓x_lt, ↓x_le, ↓x_gt, ↓x_ge, ↓x_eq, ↓x_ne, ↓x_subsT, ↓x_subsL, ↓x_subsR, ↓x_lenT, ↓x_lenL, ↓x_lenR, ↓x_intB, ↓x_intI, ↓x_setR, ↓x_retF, ↓x_nextF, ↓wp_run, ↓wp_ret, ↓wp_chk, ↓wp_alloc, andB_t, andB_f, andB_or, andB_and, decide_eq_true_eq, List.replicate_succ, List.replicate_zero, Option.join_some, List.map_cons, List.map_nil, List.cons_append, List.nil_append, List.replicate, List.getElem?_cons_zero, List.getElem?_cons_succ, List.set_cons_zero, List.set_cons_succ, List.length_cons, List.length_nil, Nat.reduceAdd, Nat.reduceSub, ge_iff_le, Int.reduceLE, Int.reduceLT, if_true, if_false, and_true, true_and, beq_iff_eq, ↓x_chain, ↓x_append, ↓x_clear, ↓x_pop, ↓x_reverse, ↓x_back, ↓x_listT, ↓x_listR, ↓x_tupleT, ↓x_tupleR, ↓x_isntB, ↓x_isB2, ↓x_inTu, ↓x_eqStr, ↓x_neStr, ↓x_isiL, ↓x_isiT, ↓x_isiI, ↓x_isiB, ↓x_isiBN, ↓x_neg, ↓x_min2, ↓x_max2, ↓x_rng2, ↓x_shl, ↓x_addT, ↓x_tmpSub, ↓x_inTmp, ite_t, ite_f, Bool.not_true, Bool.not_false, ↓al, Bool.false_eq_true, if_false]
  refine wp_forI (fun i l s' => s' = s ∧ ∃ x4 x5, l = [some (.ref n), some (.int k), some (.tup [.tup [.int b0, .int b1], .tup lines]), some (.tup lines), x4, x5]) (fun _ _ _ _ => trivial) ⟨rfl, _, _, rfl⟩ (fun i d l s' hd ⟨es, x4, x5, el⟩ => ?_) (fun l s' ⟨es, x4, x5, el⟩ => ?_)
  · subst es
    subst el
    obtain ⟨line, hline, ed⟩ := enum_of hd
    subst ed
    have q : ∀ Q, wp (m_is_line [.ref n, .tup lines, line]) Q s' = Q (.bl true) s' := fun Q => is_line_ok hc hbd hbl (hls line (List.mem_of_getElem? hline))
    simp only [↓x_seq, ↓x_next, ↓x_asg, ↓x_ret, ↓x_exp, ↓x_if, ↓x_cmp, ↓x_andE, ↓x_orE, ↓x_notE, ↓x_ifE, ↓x_truB, ↓x_isB, ↓x_eqB, ↓x_neB, ↓x_tupL, ↓x_lenLL, ↓x_item0, ↓x_item1, ↓x_item2, ↓x_item3, ↓x_tTrue, ↓x_iTmp, ↓x_enum, ↓x_gtup, ↓x_gcons, ↓x_gnil, ↓x_slice, ↓x_none, ↓x_some, ↓x_val, ↓x_not, ↓x_and, ↓x_or, ↓x_gvar, ↓x_gsub, ↓x_var, ↓x_con, ↓x_c1, ↓x_c2, ↓x_call, ↓x_nil, ↓x_cons, ↓x_tup, ↓x_disp, ↓x_keep, ↓x_tmp, ↓x_comp, ↓x_for, ↓x_rng, ↓x_iseq, ↓x_add, ↓x_sub, ↓x_mul, ↓x_div, ↓x_mod, ↓x_lt, ↓x_le, ↓x_gt, ↓x_ge, ↓x_eq, ↓x_ne, ↓x_subsT, ↓x_subsL, ↓x_subsR, ↓x_lenT, ↓x_lenL, ↓x_lenR, ↓x_intB, ↓x_intI, ↓x_setR, ↓x_retF, ↓x_nextF, ↓wp_run, ↓wp_ret, ↓wp_chk, ↓wp_alloc, andB_t, andB_f, andB_or, andB_and, decide_eq_true_eq, List.replicate_succ, List.replicate_zero, Option.join_some, List.map_cons, List.map_nil, List.cons_append, List.nil_append, List.replicate, List.getElem?_cons_zero, List.getElem?_cons_succ, List.set_cons_zero, List.set_cons_succ, List.length_cons, List.length_nil, Nat.reduceAdd, Nat.reduceSub, ge_iff_le, Int.reduceLE, Int.reduceLT, if_true, if_false, and_true, true_and, beq_iff_eq, ↓x_chain, ↓x_append, ↓x_clear, ↓x_pop, ↓x_reverse, ↓x_back, ↓x_listT, ↓x_listR, ↓x_tupleT, ↓x_tupleR, ↓x_isntB, ↓x_isB2, ↓x_inTu, ↓x_eqStr, ↓x_neStr, ↓x_isiL, ↓x_isiT, ↓x_isiI, ↓x_isiB, ↓x_isiBN, ↓x_neg, ↓x_min2, ↓x_max2, ↓x_rng2, ↓x_shl, ↓x_addT, ↓x_tmpSub, ↓x_inTmp, ite_t, ite_f, Bool.not_true, Bool.not_false, ↓q, Bool.false_eq_true, if_false]
    exact ⟨_, _, rfl⟩
  · subst es
    simp only [↓x_seq, ↓x_next, ↓x_asg, ↓x_ret, ↓x_exp, ↓x_if, ↓x_cmp, ↓x_andE, ↓x_orE, ↓x_notE, ↓x_ifE, ↓x_truB, ↓x_isB, ↓x_eqB, ↓x_neB, ↓x_tupL, ↓x_lenLL, ↓x_item0, ↓x_item1, ↓x_item2, ↓x_item3, ↓x_tTrue, ↓x_iTmp, ↓x_enum, ↓x_gtup, ↓x_gcons, ↓x_gnil, ↓x_slice, ↓x_none, ↓x_some, ↓x_val, ↓x_not, ↓x_and, ↓x_or, ↓x_gvar, ↓x_gsub, ↓x_var, ↓x_con, ↓x_c1, ↓x_c2, ↓x_call, ↓x_nil, ↓x_cons, ↓x_tup, ↓x_disp, ↓x_keep, ↓x_tmp, ↓x_comp, ↓x_for, ↓x_rng, ↓x_iseq, ↓x_add, ↓x_sub, ↓x_mul, ↓x_div, ↓x_mod, ↓x_lt, ↓x_le, ↓x_gt, ↓x_ge, ↓x_eq, ↓x_ne, ↓x_subsT, ↓x_subsL, ↓x_subsR, ↓x_lenT, ↓x_lenL, ↓x_lenR, ↓x_intB, ↓x_intI, ↓x_setR, ↓x_retF, ↓x_nextF, ↓wp_run, ↓wp_ret, ↓wp_chk, ↓wp_alloc, andB_t, andB_f, andB_or, andB_and, decide_eq_true_eq, List.replicate_succ, List.replicate_zero, Option.join_some, List.map_cons, List.map_nil, List.cons_append, List.nil_append, List.replicate, List.getElem?_cons_zero, List.getElem?_cons_succ, List.set_cons_zero, List.set_cons_succ, List.length_cons, List.length_nil, Nat.reduceAdd, Nat.reduceSub, ge_iff_le, Int.reduceLE, Int.reduceLT, if_true, if_false, and_true, true_and, beq_iff_eq, ↓x_chain, ↓x_append, ↓x_clear, ↓x_pop, ↓x_reverse, ↓x_back, ↓x_listT, ↓x_listR, ↓x_tupleT, ↓x_tupleR, ↓x_isntB, ↓x_isB2, ↓x_inTu, ↓x_eqStr, ↓x_neStr, ↓x_isiL, ↓x_isiT, ↓x_isiI, ↓x_isiB, ↓x_isiBN, ↓x_neg, ↓x_min2, ↓x_max2, ↓x_rng2, ↓x_shl, ↓x_addT, ↓x_tmpSub, ↓x_inTmp, ite_t, ite_f, Bool.not_true, Bool.not_false]
theorem look_ok {h : D} (hh : IsHouse h) (hq : ∀ s', Ext s s' → Q (.bl true) s') : wp (m_look [h]) Q s := by
  obtain ⟨boards, hands, e, hbl, hbd, hn1, hn2, hhs⟩ := hh
  subst e
  have q1 : ∀ Q s, wp (m_look_at_boards [.tup boards]) Q s = Q .non s := fun Q s => look_boards_ok hbd
  have e1 : decide ((2 : Int) ≤ (hands.length : Nat)) = true := decide_eq_true (by omega)
  have e2 : decide (((hands.length : Nat) : Int) ≤ 3) = true := decide_eq_true (by omega)
  have l1 : boards.length ≤ lim := lim_le (by omega)
  simp only [m_look, b_look, ↓x_seq, ↓x_next, ↓x_asg, ↓x_ret, ↓x_exp, ↓x_if, ↓x_cmp, ↓x_andE, ↓x_orE, ↓x_notE, ↓x_ifE, ↓x_truB, ↓x_isB, ↓x_eqB, ↓x_neB, ↓x_tupL, ↓x_lenLL, ↓x_item0, ↓x_item1, ↓x_item2, ↓x_item3, ↓x_tTrue, ↓x_iTmp, ↓x_enum, ↓x_gtup, ↓x_gcons, ↓x_gnil, ↓x_slice, ↓x_none, ↓x_some, ↓x_val, ↓x_not, ↓x_and, ↓x_or, ↓x_gvar, ↓x_gsub, ↓x_var, ↓x_con, ↓x_c1, ↓x_c2, ↓x_call, ↓x_nil, ↓x_cons, ↓x_tup, ↓x_disp, ↓x_keep, ↓x_tmp, ↓x_comp, ↓x_for, ↓x_rng, ↓x_iseq, ↓x_add, ↓x_sub, ↓x_mul, ↓x_div, ↓x_mod, ↓x_lt, ↓x_le, ↓x_gt, ↓x_ge, ↓x_eq, ↓x_ne, ↓x_subsT, ↓x_subsL, ↓x_subsR, ↓x_lenT, ↓x_lenL, ↓x_lenR, ↓x_intB, ↓x_intI, ↓x_setR, ↓x_retF, ↓x_nextF, ↓wp_run, ↓wp_ret, ↓wp_chk, ↓wp_alloc, andB_t, andB_f, andB_or, andB_and, decide_eq_true_eq, List.replicate_succ, List.replicate_zero, Option.join_some, List.map_cons, List.map_nil, List.cons_append, List.nil_append, List.replicate, List.getElem?_cons_zero, List.getElem?_cons_succ, List.set_cons_zero, List.set_cons_succ, List.length_cons, List.length_nil, Nat.reduceAdd, Nat.reduceSub, ge_iff_le, Int.reduceLE, Int.reduceLT, if_true, if_false, and_true, true_and, beq_iff_eq, ↓x_chain, ↓x_append, ↓x_clear, ↓x_pop, ↓x_reverse, ↓x_back, ↓x_listT, ↓x_listR, ↓x_tupleT, ↓x_tupleR, ↓x_isntB, ↓x_isB2, ↓x_inTu, ↓x_eqStr, ↓x_neStr, ↓x_isiL, ↓x_isiT, ↓x_isiI, ↓x_isiB, ↓x_isiBN, ↓x_neg, ↓x_min2, ↓x_max2, ↓x_rng2, ↓x_shl, ↓x_addT, ↓x_tmpSub, ↓x_inTmp, ite_t, ite_f, Bool.not_true, Bool.not_false, ↓q1, e1, e2, Bool.false_eq_true, if_false, capt, l1]
  refine all_counts_ok hbd fun cs s1 x1 hl hcs => ?_
  have hc : CountsAt (s1 ++ [.lst cs]) s1.length boards := ⟨cs, by simp, hl, fun b S dn nx un st hb => let ⟨r, a, c⟩ := hcs b S dn nx un st hb; ⟨r, a, (Ext.snoc (Ext.refl _) _).at_ c⟩⟩
  have x2 : Ext s (s1 ++ [.lst cs]) := x1.snoc _
  generalize s1 ++ [MO.lst cs] = s2 at *
  refine wp_forI (fun i l s' => s' = s2 ∧ ∃ x4 x5, l = [some (.tup [.tup boards, .tup hands]), some (.tup boards), some (.tup hands), some (.ref s1.length), x4, x5]) (fun _ _ _ _ => trivial) ⟨rfl, _, _, rfl⟩ (fun i d l s' hd ⟨es, x4, x5, el⟩ => ?_) (fun l s' ⟨es, x4, x5, el⟩ => ?_)
  · subst es
    subst el
    obtain ⟨hand, hhand, ed⟩ := enum_of hd
    subst ed
    have q : ∀ Q, wp (m_look_at_hand [.ref s1.length, .int i, hand]) Q s' = Q .non s' := fun Q => look_hand_ok hc hbd hbl (hhs hand (List.mem_of_getElem? hhand))
    simp only [↓x_seq, ↓x_next, ↓x_asg, ↓x_ret, ↓x_exp, ↓x_if, ↓x_cmp, ↓x_andE, ↓x_orE, ↓x_notE, ↓x_ifE, ↓x_truB, ↓x_isB, ↓x_eqB, ↓x_neB, ↓x_tupL, ↓x_lenLL, ↓x_item0, ↓x_item1, ↓x_item2, ↓x_item3, ↓x_tTrue, ↓x_iTmp, ↓x_enum, ↓x_gtup, ↓x_gcons, ↓x_gnil, ↓x_slice, ↓x_none, ↓x_some, ↓x_val, ↓x_not, ↓x_and, ↓x_or, ↓x_gvar, ↓x_gsub, ↓x_var, ↓x_con, ↓x_c1, ↓x_c2, ↓x_call, ↓x_nil, ↓x_cons, ↓x_tup, ↓x_disp, ↓x_keep, ↓x_tmp, ↓x_comp, ↓x_for, ↓x_rng, ↓x_iseq, ↓x_add, ↓x_sub, ↓x_mul, ↓x_div, ↓x_mod, ↓x_lt, ↓x_le, ↓x_gt, ↓x_ge, ↓x_eq, ↓x_ne, ↓x_subsT, ↓x_subsL, ↓x_subsR, ↓x_lenT, ↓x_lenL, ↓x_lenR, ↓x_intB, ↓x_intI, ↓x_setR, ↓x_retF, ↓x_nextF, ↓wp_run, ↓wp_ret, ↓wp_chk, ↓wp_alloc, andB_t, andB_f, andB_or, andB_and, decide_eq_true_eq, List.replicate_succ, List.replicate_zero, Option.join_some, List.map_cons, List.map_nil, List.cons_append, List.nil_append, List.replicate, List.getElem?_cons_zero, List.getElem?_cons_succ, List.set_cons_zero, List.set_cons_succ, List.length_cons, List.length_nil, Nat.reduceAdd, Nat.reduceSub, ge_iff_le, Int.reduceLE, Int.reduceLT, if_true, if_false, and_true, true_and, beq_iff_eq, ↓x_chain, ↓x_append, ↓x_clear, ↓x_pop, ↓x_reverse, ↓x_back, ↓x_listT, ↓x_listR, ↓x_tupleT, ↓x_tupleR, ↓x_isntB, ↓x_isB2, ↓x_inTu, ↓x_eqStr, ↓x_neStr, ↓x_isiL, ↓x_isiT, ↓x_isiI, ↓x_isiB, ↓x_isiBN, ↓x_neg, ↓x_min2, ↓x_max2, ↓x_rng2, ↓x_shl, ↓x_addT, ↓x_tmpSub, ↓x_inTmp, ite_t, ite_f, Bool.not_true, Bool.not_false, ↓q]
    exact ⟨_, _, rfl⟩
  · subst es
    subst el
    simp only [↓x_seq, ↓x_next, ↓x_asg, ↓x_ret, ↓x_exp, ↓x_if, ↓x_cmp, ↓x_andE, ↓x_orE, ↓x_notE, ↓x_ifE, ↓x_truB, ↓x_isB, ↓x_eqB, ↓x_neB, ↓x_tupL, ↓x_lenLL, ↓x_item0, ↓x_item1, ↓x_item2, ↓x_item3, ↓x_tTrue, ↓x_iTmp, ↓x_enum, ↓x_gtup, ↓x_gcons, ↓x_gnil, ↓x_slice, ↓x_none, ↓x_some, ↓x_val, ↓x_not, ↓x_and, ↓x_or, ↓x_gvar, ↓x_gsub, ↓x_var, ↓x_con, ↓x_c1, ↓x_c2, ↓x_call, ↓x_nil, ↓x_cons, ↓x_tup, ↓x_disp, ↓x_keep, ↓x_tmp, ↓x_comp, ↓x_for, ↓x_rng, ↓x_iseq, ↓x_add, ↓x_sub, ↓x_mul, ↓x_div, ↓x_mod, ↓x_lt, ↓x_le, ↓x_gt, ↓x_ge, ↓x_eq, ↓x_ne, ↓x_subsT, ↓x_subsL, ↓x_subsR, ↓x_lenT, ↓x_lenL, ↓x_lenR, ↓x_intB, ↓x_intI, ↓x_setR, ↓x_retF, ↓x_nextF, ↓wp_run, ↓wp_ret, ↓wp_chk, ↓wp_alloc, andB_t, andB_f, andB_or, andB_and, decide_eq_true_eq, List.replicate_succ, List.replicate_zero, Option.join_some, List.map_cons, List.map_nil, List.cons_append, List.nil_append, List.replicate, List.getElem?_cons_zero, List.getElem?_cons_succ, List.set_cons_zero, List.set_cons_succ, List.length_cons, List.length_nil, Nat.reduceAdd, Nat.reduceSub, ge_iff_le, Int.reduceLE, Int.reduceLT, if_true, if_false, and_true, true_and, beq_iff_eq, ↓x_chain, ↓x_append, ↓x_clear, ↓x_pop, ↓x_reverse, ↓x_back, ↓x_listT, ↓x_listR, ↓x_tupleT, ↓x_tupleR, ↓x_isntB, ↓x_isB2, ↓x_inTu, ↓x_eqStr, ↓x_neStr, ↓x_isiL, ↓x_isiT, ↓x_isiI, ↓x_isiB, ↓x_isiBN, ↓x_neg, ↓x_min2, ↓x_max2, ↓x_rng2, ↓x_shl, ↓x_addT, ↓x_tmpSub, ↓x_inTmp, ite_t, ite_f, Bool.not_true, Bool.not_false]
    exact hq _ x2
end
end My
namespace My
open MM
open PySem (Str)
section
variable {Q : D → Sto → Prop} {s : Sto} {b : Nat}
theorem Kept.put {s s' : Sto} {n : Nat} {o : MO} (h : Kept b s s') (hn : s.length ≤ n) : Kept b s (s'.set n o) :=
  ⟨by simp; exact h.le, fun m hm hb => by rw [List.getElem?_set_ne (by omega)]; exact h.at_ m hm hb⟩
theorem lt_of_at {s : Sto} {n : Nat} {o : MO} (h : s[n]? = some o) : n < s.length := (List.getElem?_eq_some_iff.mp h).1
theorem Kept.same {s s' : Sto} {n : Nat} {o : MO} (h : Kept b s s') (hn : n ≠ b) (g : s[n]? = some o) : s'[n]? = some o := (h.at_ n (lt_of_at g) hn).trans g
theorem board_of {t : D} (h : IsTable t) : ∃ S dn nx un, t = tabD S dn nx un ∧ TabOk S dn nx un := by
  obtain ⟨S, dn, nx, un, e, h1, h2, h3, h4, h5⟩ := tab_of h
  exact ⟨S, dn, nx, un, e, h1, h2, h3, h4, h5⟩
theorem boards_ok {most : Int} (hb : BoxAt s b) (h0 : 0 ≤ most) (h1 : most ≤ 7) (h : ∀ n boards s', s.length ≤ n → s'[n]? = some (.lst boards) → boards.length ≤ 7 → (∀ x ∈ boards, IsBoard x) → BoxAt s' b → Kept b s s' → Q (.ref n) s') : wp (m_law_boards [.ref b, .int most]) Q s := by
  have hlt := hb.lt
  have l0 : 0 ≤ lim := Nat.zero_le _
  simp only [m_law_boards, b_law_boards, ↓x_seq, ↓x_next, ↓x_asg, ↓x_ret, ↓x_exp, ↓x_if, ↓x_cmp, ↓x_andE, ↓x_orE, ↓x_notE, ↓x_ifE, ↓x_truB, ↓x_isB, ↓x_eqB, ↓x_neB, ↓x_tupL, ↓x_lenLL, ↓x_item0, ↓x_item1, ↓x_item2, ↓x_item3, ↓x_tTrue, ↓x_iTmp, ↓x_enum, ↓x_gtup, ↓x_gcons, ↓x_gnil, ↓x_slice, ↓x_none, ↓x_some, ↓x_val, ↓x_not, ↓x_and, ↓x_or, ↓x_gvar, ↓x_gsub, ↓x_var, ↓x_con, ↓x_c1, ↓x_c2, ↓x_call, ↓x_nil, ↓x_cons, ↓x_tup, ↓x_disp, ↓x_keep, ↓x_tmp, ↓x_comp, ↓x_for, ↓x_rng, ↓x_iseq, ↓x_add, ↓x_sub, ↓x_mul, ↓x_div, ↓x_mod, ↓x_lt, ↓x_le, ↓x_gt, ↓x_ge, ↓x_eq, ↓x_ne, ↓x_subsT, ↓x_subsL, ↓x_subsR, ↓x_lenT, ↓x_lenL, ↓x_lenR, ↓x_intB, ↓x_intI, ↓x_setR, ↓x_retF, ↓x_nextF, ↓wp_run, ↓wp_ret, ↓wp_chk, ↓wp_alloc, andB_t, andB_f, andB_or, andB_and, decide_eq_true_eq, List.replicate_succ, List.replicate_zero, Option.join_some, List.map_cons, List.map_nil, List.cons_append, List.nil_append, List.replicate, List.getElem?_cons_zero, List.getElem?_cons_succ, List.set_cons_zero, List.set_cons_succ, List.length_cons, List.length_nil, Nat.reduceAdd, Nat.reduceSub, ge_iff_le, Int.reduceLE, Int.reduceLT, if_true, if_false, and_true, true_and, beq_iff_eq, ↓x_chain, ↓x_append, ↓x_clear, ↓x_pop, ↓x_reverse, ↓x_back, ↓x_listT, ↓x_listR, ↓x_tupleT, ↓x_tupleR, ↓x_isntB, ↓x_isB2, ↓x_inTu, ↓x_eqStr, ↓x_neStr, ↓x_isiL, ↓x_isiT, ↓x_isiI, ↓x_isiB, ↓x_isiBN, ↓x_neg, ↓x_min2, ↓x_max2, ↓x_rng2, ↓x_shl, ↓x_addT, ↓x_tmpSub, ↓x_inTmp, ite_t, ite_f, Bool.not_true, Bool.not_false, l0]
  have hb1 : BoxAt (s ++ [.lst []]) b := Kept.box (s' := s) hb _
  have k1 : Kept b s (s ++ [.lst []]) := Kept.snoc _
  have g1 : (s ++ [MO.lst []])[s.length]? = some (.lst []) := by simp
  generalize s ++ [MO.lst []] = s1 at *
  refine take2 hb1 (by omega) (by omega) fun r s2 r0 r1 b2 k2 => ?_
  simp only [↓x_seq, ↓x_next, ↓x_asg, ↓x_ret, ↓x_exp, ↓x_if, ↓x_cmp, ↓x_andE, ↓x_orE, ↓x_notE, ↓x_ifE, ↓x_truB, ↓x_isB, ↓x_eqB, ↓x_neB, ↓x_tupL, ↓x_lenLL, ↓x_item0, ↓x_item1, ↓x_item2, ↓x_item3, ↓x_tTrue, ↓x_iTmp, ↓x_enum, ↓x_gtup, ↓x_gcons, ↓x_gnil, ↓x_slice, ↓x_none, ↓x_some, ↓x_val, ↓x_not, ↓x_and, ↓x_or, ↓x_gvar, ↓x_gsub, ↓x_var, ↓x_con, ↓x_c1, ↓x_c2, ↓x_call, ↓x_nil, ↓x_cons, ↓x_tup, ↓x_disp, ↓x_keep, ↓x_tmp, ↓x_comp, ↓x_for, ↓x_rng, ↓x_iseq, ↓x_add, ↓x_sub, ↓x_mul, ↓x_div, ↓x_mod, ↓x_lt, ↓x_le, ↓x_gt, ↓x_ge, ↓x_eq, ↓x_ne, ↓x_subsT, ↓x_subsL, ↓x_subsR, ↓x_lenT, ↓x_lenL, ↓x_lenR, ↓x_intB, ↓x_intI, ↓x_setR, ↓x_retF, ↓x_nextF, ↓wp_run, ↓wp_ret, ↓wp_chk, ↓wp_alloc, andB_t, andB_f, andB_or, andB_and, decide_eq_true_eq, List.replicate_succ, List.replicate_zero, Option.join_some, List.map_cons, List.map_nil, List.cons_append, List.nil_append, List.replicate, List.getElem?_cons_zero, List.getElem?_cons_succ, List.set_cons_zero, List.set_cons_succ, List.length_cons, List.length_nil, Nat.reduceAdd, Nat.reduceSub, ge_iff_le, Int.reduceLE, Int.reduceLT, if_true, if_false, and_true, true_and, beq_iff_eq, ↓x_chain, ↓x_append, ↓x_clear, ↓x_pop, ↓x_reverse, ↓x_back, ↓x_listT, ↓x_listR, ↓x_tupleT, ↓x_tupleR, ↓x_isntB, ↓x_isB2, ↓x_inTu, ↓x_eqStr, ↓x_neStr, ↓x_isiL, ↓x_isiT, ↓x_isiI, ↓x_isiB, ↓x_isiBN, ↓x_neg, ↓x_min2, ↓x_max2, ↓x_rng2, ↓x_shl, ↓x_addT, ↓x_tmpSub, ↓x_inTmp, ite_t, ite_f, Bool.not_true, Bool.not_false]
  refine ⟨⟨by omega, by omega⟩, ?_⟩
  have g2 : s2[s.length]? = some (.lst []) := k2.same (by omega) g1
  refine wp_forI (fun i l s' => ∃ x3 x4 boards, l = [some (.ref b), some (.int most), some (.ref s.length), x3, x4] ∧ s'[s.length]? = some (.lst boards) ∧ boards.length = i ∧ (∀ x ∈ boards, IsBoard x) ∧ BoxAt s' b ∧ Kept b s s') (fun _ _ _ _ => trivial) ⟨_, _, _, rfl, g2, rfl, by simp, b2, k1.trans k2⟩ (fun i d l s' hd ⟨x3, x4, boards, el, g, hl, hbs, hb', hk⟩ => ?_) (fun l s' ⟨x3, x4, boards, el, g, hl, hbs, hb', hk⟩ => ?_)
  · obtain ⟨hi, ed⟩ := rng_of hd
    subst ed
    subst el
    simp only [↓x_seq, ↓x_next, ↓x_asg, ↓x_ret, ↓x_exp, ↓x_if, ↓x_cmp, ↓x_andE, ↓x_orE, ↓x_notE, ↓x_ifE, ↓x_truB, ↓x_isB, ↓x_eqB, ↓x_neB, ↓x_tupL, ↓x_lenLL, ↓x_item0, ↓x_item1, ↓x_item2, ↓x_item3, ↓x_tTrue, ↓x_iTmp, ↓x_enum, ↓x_gtup, ↓x_gcons, ↓x_gnil, ↓x_slice, ↓x_none, ↓x_some, ↓x_val, ↓x_not, ↓x_and, ↓x_or, ↓x_gvar, ↓x_gsub, ↓x_var, ↓x_con, ↓x_c1, ↓x_c2, ↓x_call, ↓x_nil, ↓x_cons, ↓x_tup, ↓x_disp, ↓x_keep, ↓x_tmp, ↓x_comp, ↓x_for, ↓x_rng, ↓x_iseq, ↓x_add, ↓x_sub, ↓x_mul, ↓x_div, ↓x_mod, ↓x_lt, ↓x_le, ↓x_gt, ↓x_ge, ↓x_eq, ↓x_ne, ↓x_subsT, ↓x_subsL, ↓x_subsR, ↓x_lenT, ↓x_lenL, ↓x_lenR, ↓x_intB, ↓x_intI, ↓x_setR, ↓x_retF, ↓x_nextF, ↓wp_run, ↓wp_ret, ↓wp_chk, ↓wp_alloc, andB_t, andB_f, andB_or, andB_and, decide_eq_true_eq, List.replicate_succ, List.replicate_zero, Option.join_some, List.map_cons, List.map_nil, List.cons_append, List.nil_append, List.replicate, List.getElem?_cons_zero, List.getElem?_cons_succ, List.set_cons_zero, List.set_cons_succ, List.length_cons, List.length_nil, Nat.reduceAdd, Nat.reduceSub, ge_iff_le, Int.reduceLE, Int.reduceLT, if_true, if_false, and_true, true_and, beq_iff_eq, ↓x_chain, ↓x_append, ↓x_clear, ↓x_pop, ↓x_reverse, ↓x_back, ↓x_listT, ↓x_listR, ↓x_tupleT, ↓x_tupleR, ↓x_isntB, ↓x_isB2, ↓x_inTu, ↓x_eqStr, ↓x_neStr, ↓x_isiL, ↓x_isiT, ↓x_isiI, ↓x_isiB, ↓x_isiBN, ↓x_neg, ↓x_min2, ↓x_max2, ↓x_rng2, ↓x_shl, ↓x_addT, ↓x_tmpSub, ↓x_inTmp, ite_t, ite_f, Bool.not_true, Bool.not_false]
    refine table_ok hb' fun t s3 ht b3 k3 => ?_
    obtain ⟨S, dn, nx, un, et, ok⟩ := board_of ht
    subst et
    have w1 : wp (lenD (tabD S dn nx un)) = fun Q s => Q (.int S) s := by
      funext Q s; unfold tabD; rw [x_lenT, upto_len]
    simp only [↓x_seq, ↓x_next, ↓x_asg, ↓x_ret, ↓x_exp, ↓x_if, ↓x_cmp, ↓x_andE, ↓x_orE, ↓x_notE, ↓x_ifE, ↓x_truB, ↓x_isB, ↓x_eqB, ↓x_neB, ↓x_tupL, ↓x_lenLL, ↓x_item0, ↓x_item1, ↓x_item2, ↓x_item3, ↓x_tTrue, ↓x_iTmp, ↓x_enum, ↓x_gtup, ↓x_gcons, ↓x_gnil, ↓x_slice, ↓x_none, ↓x_some, ↓x_val, ↓x_not, ↓x_and, ↓x_or, ↓x_gvar, ↓x_gsub, ↓x_var, ↓x_con, ↓x_c1, ↓x_c2, ↓x_call, ↓x_nil, ↓x_cons, ↓x_tup, ↓x_disp, ↓x_keep, ↓x_tmp, ↓x_comp, ↓x_for, ↓x_rng, ↓x_iseq, ↓x_add, ↓x_sub, ↓x_mul, ↓x_div, ↓x_mod, ↓x_lt, ↓x_le, ↓x_gt, ↓x_ge, ↓x_eq, ↓x_ne, ↓x_subsT, ↓x_subsL, ↓x_subsR, ↓x_lenT, ↓x_lenL, ↓x_lenR, ↓x_intB, ↓x_intI, ↓x_setR, ↓x_retF, ↓x_nextF, ↓wp_run, ↓wp_ret, ↓wp_chk, ↓wp_alloc, andB_t, andB_f, andB_or, andB_and, decide_eq_true_eq, List.replicate_succ, List.replicate_zero, Option.join_some, List.map_cons, List.map_nil, List.cons_append, List.nil_append, List.replicate, List.getElem?_cons_zero, List.getElem?_cons_succ, List.set_cons_zero, List.set_cons_succ, List.length_cons, List.length_nil, Nat.reduceAdd, Nat.reduceSub, ge_iff_le, Int.reduceLE, Int.reduceLT, if_true, if_false, and_true, true_and, beq_iff_eq, ↓x_chain, ↓x_append, ↓x_clear, ↓x_pop, ↓x_reverse, ↓x_back, ↓x_listT, ↓x_listR, ↓x_tupleT, ↓x_tupleR, ↓x_isntB, ↓x_isB2, ↓x_inTu, ↓x_eqStr, ↓x_neStr, ↓x_isiL, ↓x_isiT, ↓x_isiI, ↓x_isiB, ↓x_isiBN, ↓x_neg, ↓x_min2, ↓x_max2, ↓x_rng2, ↓x_shl, ↓x_addT, ↓x_tmpSub, ↓x_inTmp, ite_t, ite_f, Bool.not_true, Bool.not_false, ↓w1]
    have o1 := ok.1
    have o2 := ok.2.1
    refine take2 b3 (by omega) (by omega) fun st s4 st0 st1 b4 k4 => ?_
    have g4 : s4[s.length]? = some (.lst boards) := (k3.trans k4).same (by omega) g
    have q1 : ∀ Q, wp (getL s.length) Q s4 = Q boards s4 := fun Q => wp_getL g4
    have q2 : ∀ es Q, wp (putL s.length es) Q s4 = Q () (s4.set s.length (.lst es)) := fun es Q => wp_putL g4
    have l2 : 2 ≤ lim := lim_le (by omega)
    have l3 : boards.length < lim := lim_lt (by omega)
    simp only [↓x_seq, ↓x_next, ↓x_asg, ↓x_ret, ↓x_exp, ↓x_if, ↓x_cmp, ↓x_andE, ↓x_orE, ↓x_notE, ↓x_ifE, ↓x_truB, ↓x_isB, ↓x_eqB, ↓x_neB, ↓x_tupL, ↓x_lenLL, ↓x_item0, ↓x_item1, ↓x_item2, ↓x_item3, ↓x_tTrue, ↓x_iTmp, ↓x_enum, ↓x_gtup, ↓x_gcons, ↓x_gnil, ↓x_slice, ↓x_none, ↓x_some, ↓x_val, ↓x_not, ↓x_and, ↓x_or, ↓x_gvar, ↓x_gsub, ↓x_var, ↓x_con, ↓x_c1, ↓x_c2, ↓x_call, ↓x_nil, ↓x_cons, ↓x_tup, ↓x_disp, ↓x_keep, ↓x_tmp, ↓x_comp, ↓x_for, ↓x_rng, ↓x_iseq, ↓x_add, ↓x_sub, ↓x_mul, ↓x_div, ↓x_mod, ↓x_lt, ↓x_le, ↓x_gt, ↓x_ge, ↓x_eq, ↓x_ne, ↓x_subsT, ↓x_subsL, ↓x_subsR, ↓x_lenT, ↓x_lenL, ↓x_lenR, ↓x_intB, ↓x_intI, ↓x_setR, ↓x_retF, ↓x_nextF, ↓wp_run, ↓wp_ret, ↓wp_chk, ↓wp_alloc, andB_t, andB_f, andB_or, andB_and, decide_eq_true_eq, List.replicate_succ, List.replicate_zero, Option.join_some, List.map_cons, List.map_nil, List.cons_append, List.nil_append, List.replicate, List.getElem?_cons_zero, List.getElem?_cons_succ, List.set_cons_zero, List.set_cons_succ, List.length_cons, List.length_nil, Nat.reduceAdd, Nat.reduceSub, ge_iff_le, Int.reduceLE, Int.reduceLT, if_true, if_false, and_true, true_and, beq_iff_eq, ↓x_chain, ↓x_append, ↓x_clear, ↓x_pop, ↓x_reverse, ↓x_back, ↓x_listT, ↓x_listR, ↓x_tupleT, ↓x_tupleR, ↓x_isntB, ↓x_isB2, ↓x_inTu, ↓x_eqStr, ↓x_neStr, ↓x_isiL, ↓x_isiT, ↓x_isiI, ↓x_isiB, ↓x_isiBN, ↓x_neg, ↓x_min2, ↓x_max2, ↓x_rng2, ↓x_shl, ↓x_addT, ↓x_tmpSub, ↓x_inTmp, ite_t, ite_f, Bool.not_true, Bool.not_false, ↓q1, ↓q2, l2, l3]
    refine ⟨_, _, _, rfl, List.getElem?_set_self (lt_of_at g4), by simp [hl], fun x hx => ?_, b4.put (by omega), ((hk.trans k3).trans k4).put (Nat.le_refl _)⟩
    rcases List.mem_append.mp hx with hx | hx
    · exact hbs x hx
    · rw [List.mem_singleton] at hx
      exact ⟨S, dn, nx, un, st.toNat, by rw [hx, Int.toNat_of_nonneg st0], ok, by omega⟩
  · subst el
    rw [rng_len] at hl
    simp only [↓x_seq, ↓x_next, ↓x_asg, ↓x_ret, ↓x_exp, ↓x_if, ↓x_cmp, ↓x_andE, ↓x_orE, ↓x_notE, ↓x_ifE, ↓x_truB, ↓x_isB, ↓x_eqB, ↓x_neB, ↓x_tupL, ↓x_lenLL, ↓x_item0, ↓x_item1, ↓x_item2, ↓x_item3, ↓x_tTrue, ↓x_iTmp, ↓x_enum, ↓x_gtup, ↓x_gcons, ↓x_gnil, ↓x_slice, ↓x_none, ↓x_some, ↓x_val, ↓x_not, ↓x_and, ↓x_or, ↓x_gvar, ↓x_gsub, ↓x_var, ↓x_con, ↓x_c1, ↓x_c2, ↓x_call, ↓x_nil, ↓x_cons, ↓x_tup, ↓x_disp, ↓x_keep, ↓x_tmp, ↓x_comp, ↓x_for, ↓x_rng, ↓x_iseq, ↓x_add, ↓x_sub, ↓x_mul, ↓x_div, ↓x_mod, ↓x_lt, ↓x_le, ↓x_gt, ↓x_ge, ↓x_eq, ↓x_ne, ↓x_subsT, ↓x_subsL, ↓x_subsR, ↓x_lenT, ↓x_lenL, ↓x_lenR, ↓x_intB, ↓x_intI, ↓x_setR, ↓x_retF, ↓x_nextF, ↓wp_run, ↓wp_ret, ↓wp_chk, ↓wp_alloc, andB_t, andB_f, andB_or, andB_and, decide_eq_true_eq, List.replicate_succ, List.replicate_zero, Option.join_some, List.map_cons, List.map_nil, List.cons_append, List.nil_append, List.replicate, List.getElem?_cons_zero, List.getElem?_cons_succ, List.set_cons_zero, List.set_cons_succ, List.length_cons, List.length_nil, Nat.reduceAdd, Nat.reduceSub, ge_iff_le, Int.reduceLE, Int.reduceLT, if_true, if_false, and_true, true_and, beq_iff_eq, ↓x_chain, ↓x_append, ↓x_clear, ↓x_pop, ↓x_reverse, ↓x_back, ↓x_listT, ↓x_listR, ↓x_tupleT, ↓x_tupleR, ↓x_isntB, ↓x_isB2, ↓x_inTu, ↓x_eqStr, ↓x_neStr, ↓x_isiL, ↓x_isiT, ↓x_isiI, ↓x_isiB, ↓x_isiBN, ↓x_neg, ↓x_min2, ↓x_max2, ↓x_rng2, ↓x_shl, ↓x_addT, ↓x_tmpSub, ↓x_inTmp, ite_t, ite_f, Bool.not_true, Bool.not_false]
    exact h _ _ _ (Nat.le_refl _) g (by omega) hbs hb' hk
theorem goals_ok {nb : Nat} {m : Int} {k : Nat} {A : List D → Sto → Prop} (hb : BoxAt s b) (h1 : 0 < m) (h2 : m < 1073741824)
    (h : ∀ ds s', ds.length = k → IsGoals m.toNat ds → BoxAt s' b → Kept b s s' → A ds s') :
    wp (collect (gVar 0) tTrue (cCall m_law_take (cCons (cVar 1) (cCons (cVar 2) cNil))) anySt (rngD 0 k) [none, some (.ref b), some (.int m)]) A s := by
  refine wp_comp (fun i out s' => out.length = i ∧ IsGoals m.toNat out ∧ BoxAt s' b ∧ Kept b s s') (fun _ _ s _ => trivial) ⟨rfl, fun g hg => by simp at hg, hb, Kept.refl _ _⟩ (fun i d out s1 _ ⟨a1, a2, a3, a4⟩ => ?_) (fun out s1 ⟨a1, a2, a3, a4⟩ => h out s1 (by rw [a1, rng_len]) a2 a3 a4)
  simp only [↓x_seq, ↓x_next, ↓x_asg, ↓x_ret, ↓x_exp, ↓x_if, ↓x_cmp, ↓x_andE, ↓x_orE, ↓x_notE, ↓x_ifE, ↓x_truB, ↓x_isB, ↓x_eqB, ↓x_neB, ↓x_tupL, ↓x_lenLL, ↓x_item0, ↓x_item1, ↓x_item2, ↓x_item3, ↓x_tTrue, ↓x_iTmp, ↓x_enum, ↓x_gtup, ↓x_gcons, ↓x_gnil, ↓x_slice, ↓x_none, ↓x_some, ↓x_val, ↓x_not, ↓x_and, ↓x_or, ↓x_gvar, ↓x_gsub, ↓x_var, ↓x_con, ↓x_c1, ↓x_c2, ↓x_call, ↓x_nil, ↓x_cons, ↓x_tup, ↓x_disp, ↓x_keep, ↓x_tmp, ↓x_comp, ↓x_for, ↓x_rng, ↓x_iseq, ↓x_add, ↓x_sub, ↓x_mul, ↓x_div, ↓x_mod, ↓x_lt, ↓x_le, ↓x_gt, ↓x_ge, ↓x_eq, ↓x_ne, ↓x_subsT, ↓x_subsL, ↓x_subsR, ↓x_lenT, ↓x_lenL, ↓x_lenR, ↓x_intB, ↓x_intI, ↓x_setR, ↓x_retF, ↓x_nextF, ↓wp_run, ↓wp_ret, ↓wp_chk, ↓wp_alloc, andB_t, andB_f, andB_or, andB_and, decide_eq_true_eq, List.replicate_succ, List.replicate_zero, Option.join_some, List.map_cons, List.map_nil, List.cons_append, List.nil_append, List.replicate, List.getElem?_cons_zero, List.getElem?_cons_succ, List.set_cons_zero, List.set_cons_succ, List.length_cons, List.length_nil, Nat.reduceAdd, Nat.reduceSub, ge_iff_le, Int.reduceLE, Int.reduceLT, if_true, if_false, and_true, true_and, beq_iff_eq, ↓x_chain, ↓x_append, ↓x_clear, ↓x_pop, ↓x_reverse, ↓x_back, ↓x_listT, ↓x_listR, ↓x_tupleT, ↓x_tupleR, ↓x_isntB, ↓x_isB2, ↓x_inTu, ↓x_eqStr, ↓x_neStr, ↓x_isiL, ↓x_isiT, ↓x_isiI, ↓x_isiB, ↓x_isiBN, ↓x_neg, ↓x_min2, ↓x_max2, ↓x_rng2, ↓x_shl, ↓x_addT, ↓x_tmpSub, ↓x_inTmp, ite_t, ite_f, Bool.not_true, Bool.not_false]
  refine take2 a3 h1 h2 fun r s2 r0 r1 b2 k2 => ⟨by simp [a1], fun d hd => ?_, b2, a4.trans k2⟩
  rcases List.mem_append.mp hd with hd | hd
  · exact a2 d hd
  · rw [List.mem_singleton] at hd; exact ⟨r.toNat, by rw [hd, Int.toNat_of_nonneg r0], by omega⟩
theorem line_ok {nb : Nat} {boards : List D} {m : Int} (hb : BoxAt s b) (hg : s[nb]? = some (.lst boards)) (hnb : nb ≠ b) (hbl : boards.length ≤ 7) (hbd : ∀ x ∈ boards, IsBoard x) (h1 : 1 ≤ m) (h2 : m ≤ 12)
    (h : ∀ line s', IsLine boards m.toNat line → BoxAt s' b → Kept b s s' → Q line s') : wp (m_law_line [.ref b, .ref nb, .int m]) Q s := by
  have q1 : ∀ Q, wp (getL nb) Q s = Q boards s := fun Q => wp_getL hg
  have l2 : 2 ≤ lim := lim_le (by omega)
  have l4 : 4 ≤ lim := lim_le (by omega)
  have settle : ∀ s1, BoxAt s1 b → Kept b s s1 → wp (m_law_take [.ref b, .int 2]) (fun x s' => 2 ≤ lim ∧ Q (.tup [.str "settle", x]) s') s1 := fun s1 b1 k1 => by
    refine take2 b1 (by omega) (by omega) fun v s2 v0 v1 b2 k2 => ⟨l2, h _ _ (.inl ⟨v, by omega, rfl⟩) b2 (k1.trans k2)⟩
  simp only [m_law_line, b_law_line, ↓x_seq, ↓x_next, ↓x_asg, ↓x_ret, ↓x_exp, ↓x_if, ↓x_cmp, ↓x_andE, ↓x_orE, ↓x_notE, ↓x_ifE, ↓x_truB, ↓x_isB, ↓x_eqB, ↓x_neB, ↓x_tupL, ↓x_lenLL, ↓x_item0, ↓x_item1, ↓x_item2, ↓x_item3, ↓x_tTrue, ↓x_iTmp, ↓x_enum, ↓x_gtup, ↓x_gcons, ↓x_gnil, ↓x_slice, ↓x_none, ↓x_some, ↓x_val, ↓x_not, ↓x_and, ↓x_or, ↓x_gvar, ↓x_gsub, ↓x_var, ↓x_con, ↓x_c1, ↓x_c2, ↓x_call, ↓x_nil, ↓x_cons, ↓x_tup, ↓x_disp, ↓x_keep, ↓x_tmp, ↓x_comp, ↓x_for, ↓x_rng, ↓x_iseq, ↓x_add, ↓x_sub, ↓x_mul, ↓x_div, ↓x_mod, ↓x_lt, ↓x_le, ↓x_gt, ↓x_ge, ↓x_eq, ↓x_ne, ↓x_subsT, ↓x_subsL, ↓x_subsR, ↓x_lenT, ↓x_lenL, ↓x_lenR, ↓x_intB, ↓x_intI, ↓x_setR, ↓x_retF, ↓x_nextF, ↓wp_run, ↓wp_ret, ↓wp_chk, ↓wp_alloc, andB_t, andB_f, andB_or, andB_and, decide_eq_true_eq, List.replicate_succ, List.replicate_zero, Option.join_some, List.map_cons, List.map_nil, List.cons_append, List.nil_append, List.replicate, List.getElem?_cons_zero, List.getElem?_cons_succ, List.set_cons_zero, List.set_cons_succ, List.length_cons, List.length_nil, Nat.reduceAdd, Nat.reduceSub, ge_iff_le, Int.reduceLE, Int.reduceLT, if_true, if_false, and_true, true_and, beq_iff_eq, ↓x_chain, ↓x_append, ↓x_clear, ↓x_pop, ↓x_reverse, ↓x_back, ↓x_listT, ↓x_listR, ↓x_tupleT, ↓x_tupleR, ↓x_isntB, ↓x_isB2, ↓x_inTu, ↓x_eqStr, ↓x_neStr, ↓x_isiL, ↓x_isiT, ↓x_isiI, ↓x_isiB, ↓x_isiBN, ↓x_neg, ↓x_min2, ↓x_max2, ↓x_rng2, ↓x_shl, ↓x_addT, ↓x_tmpSub, ↓x_inTmp, ite_t, ite_f, Bool.not_true, Bool.not_false, ↓q1, l2]
  have settle2 : ∀ s1, BoxAt s1 b → Kept b s s1 → wp (m_law_take [.ref b, .int 2]) (fun x s' => Q (.tup [.str "settle", x]) s') s1 := fun s1 b1 k1 => wp_mono (settle s1 b1 k1) fun x s' q => q.2
  by_cases hz : boards.length = 0
  · rw [if_pos (by omega)]
    exact settle2 s hb (Kept.refl _ _)
  · rw [if_neg (by omega)]
    refine take2 hb (by omega) (by omega) fun r s1 r0 r1 b1 k1 => ?_
    by_cases hr : r = 0
    · subst hr
      simp only [↓x_seq, ↓x_next, ↓x_asg, ↓x_ret, ↓x_exp, ↓x_if, ↓x_cmp, ↓x_andE, ↓x_orE, ↓x_notE, ↓x_ifE, ↓x_truB, ↓x_isB, ↓x_eqB, ↓x_neB, ↓x_tupL, ↓x_lenLL, ↓x_item0, ↓x_item1, ↓x_item2, ↓x_item3, ↓x_tTrue, ↓x_iTmp, ↓x_enum, ↓x_gtup, ↓x_gcons, ↓x_gnil, ↓x_slice, ↓x_none, ↓x_some, ↓x_val, ↓x_not, ↓x_and, ↓x_or, ↓x_gvar, ↓x_gsub, ↓x_var, ↓x_con, ↓x_c1, ↓x_c2, ↓x_call, ↓x_nil, ↓x_cons, ↓x_tup, ↓x_disp, ↓x_keep, ↓x_tmp, ↓x_comp, ↓x_for, ↓x_rng, ↓x_iseq, ↓x_add, ↓x_sub, ↓x_mul, ↓x_div, ↓x_mod, ↓x_lt, ↓x_le, ↓x_gt, ↓x_ge, ↓x_eq, ↓x_ne, ↓x_subsT, ↓x_subsL, ↓x_subsR, ↓x_lenT, ↓x_lenL, ↓x_lenR, ↓x_intB, ↓x_intI, ↓x_setR, ↓x_retF, ↓x_nextF, ↓wp_run, ↓wp_ret, ↓wp_chk, ↓wp_alloc, andB_t, andB_f, andB_or, andB_and, decide_eq_true_eq, List.replicate_succ, List.replicate_zero, Option.join_some, List.map_cons, List.map_nil, List.cons_append, List.nil_append, List.replicate, List.getElem?_cons_zero, List.getElem?_cons_succ, List.set_cons_zero, List.set_cons_succ, List.length_cons, List.length_nil, Nat.reduceAdd, Nat.reduceSub, ge_iff_le, Int.reduceLE, Int.reduceLT, if_true, if_false, and_true, true_and, beq_iff_eq, ↓x_chain, ↓x_append, ↓x_clear, ↓x_pop, ↓x_reverse, ↓x_back, ↓x_listT, ↓x_listR, ↓x_tupleT, ↓x_tupleR, ↓x_isntB, ↓x_isB2, ↓x_inTu, ↓x_eqStr, ↓x_neStr, ↓x_isiL, ↓x_isiT, ↓x_isiI, ↓x_isiB, ↓x_isiBN, ↓x_neg, ↓x_min2, ↓x_max2, ↓x_rng2, ↓x_shl, ↓x_addT, ↓x_tmpSub, ↓x_inTmp, ite_t, ite_f, Bool.not_true, Bool.not_false]
      exact settle2 s1 b1 k1
    · have e2 : (r == 0) = false := by simp [hr]
      have q2 : ∀ Q, wp (getL nb) Q s1 = Q boards s1 := fun Q => wp_getL (k1.same hnb hg)
      simp only [↓x_seq, ↓x_next, ↓x_asg, ↓x_ret, ↓x_exp, ↓x_if, ↓x_cmp, ↓x_andE, ↓x_orE, ↓x_notE, ↓x_ifE, ↓x_truB, ↓x_isB, ↓x_eqB, ↓x_neB, ↓x_tupL, ↓x_lenLL, ↓x_item0, ↓x_item1, ↓x_item2, ↓x_item3, ↓x_tTrue, ↓x_iTmp, ↓x_enum, ↓x_gtup, ↓x_gcons, ↓x_gnil, ↓x_slice, ↓x_none, ↓x_some, ↓x_val, ↓x_not, ↓x_and, ↓x_or, ↓x_gvar, ↓x_gsub, ↓x_var, ↓x_con, ↓x_c1, ↓x_c2, ↓x_call, ↓x_nil, ↓x_cons, ↓x_tup, ↓x_disp, ↓x_keep, ↓x_tmp, ↓x_comp, ↓x_for, ↓x_rng, ↓x_iseq, ↓x_add, ↓x_sub, ↓x_mul, ↓x_div, ↓x_mod, ↓x_lt, ↓x_le, ↓x_gt, ↓x_ge, ↓x_eq, ↓x_ne, ↓x_subsT, ↓x_subsL, ↓x_subsR, ↓x_lenT, ↓x_lenL, ↓x_lenR, ↓x_intB, ↓x_intI, ↓x_setR, ↓x_retF, ↓x_nextF, ↓wp_run, ↓wp_ret, ↓wp_chk, ↓wp_alloc, andB_t, andB_f, andB_or, andB_and, decide_eq_true_eq, List.replicate_succ, List.replicate_zero, Option.join_some, List.map_cons, List.map_nil, List.cons_append, List.nil_append, List.replicate, List.getElem?_cons_zero, List.getElem?_cons_succ, List.set_cons_zero, List.set_cons_succ, List.length_cons, List.length_nil, Nat.reduceAdd, Nat.reduceSub, ge_iff_le, Int.reduceLE, Int.reduceLT, if_true, if_false, and_true, true_and, beq_iff_eq, ↓x_chain, ↓x_append, ↓x_clear, ↓x_pop, ↓x_reverse, ↓x_back, ↓x_listT, ↓x_listR, ↓x_tupleT, ↓x_tupleR, ↓x_isntB, ↓x_isB2, ↓x_inTu, ↓x_eqStr, ↓x_neStr, ↓x_isiL, ↓x_isiT, ↓x_isiI, ↓x_isiB, ↓x_isiBN, ↓x_neg, ↓x_min2, ↓x_max2, ↓x_rng2, ↓x_shl, ↓x_addT, ↓x_tmpSub, ↓x_inTmp, ite_t, ite_f, Bool.not_true, Bool.not_false, ↓q2]
      rw [if_neg hr]
      refine take2 b1 (by omega) (by omega) fun bi s2 bi0 bi1 b2 k2 => ?_
      have hbi : bi.toNat < boards.length := by omega
      have hat : boards[bi.toNat]? = some boards[bi.toNat] := List.getElem?_eq_getElem hbi
      obtain ⟨S, dn, nx, un, st, e, ok, hst⟩ := hbd boards[bi.toNat] (List.getElem_mem hbi)
      rw [e] at hat
      have q3 : ∀ Q, wp (getL nb) Q s2 = Q boards s2 := fun Q => wp_getL ((k1.trans k2).same hnb hg)
      have q4 : ∀ Q s, wp (itemD boards bi) Q s = Q (.tup [tabD S dn nx un, .int st]) s := fun Q s => by rw [item_nat (d := .tup [tabD S dn nx un, .int st]) bi0 hat, wp_ret]
      obtain ⟨o1, o2, o3, o4, o5⟩ := ok
      have tb : wp (subsD (tabD S dn nx un) (.int 0)) = fun Q s => Q (D.tup (upto dn fun d => D.tup [.int (nx 0 d : Nat), .int (un 0 d : Nat)])) s := by
        funext Q s; unfold tabD; rw [x_subsT, x_itemU0 (by omega)]
      simp only [↓x_seq, ↓x_next, ↓x_asg, ↓x_ret, ↓x_exp, ↓x_if, ↓x_cmp, ↓x_andE, ↓x_orE, ↓x_notE, ↓x_ifE, ↓x_truB, ↓x_isB, ↓x_eqB, ↓x_neB, ↓x_tupL, ↓x_lenLL, ↓x_item0, ↓x_item1, ↓x_item2, ↓x_item3, ↓x_tTrue, ↓x_iTmp, ↓x_enum, ↓x_gtup, ↓x_gcons, ↓x_gnil, ↓x_slice, ↓x_none, ↓x_some, ↓x_val, ↓x_not, ↓x_and, ↓x_or, ↓x_gvar, ↓x_gsub, ↓x_var, ↓x_con, ↓x_c1, ↓x_c2, ↓x_call, ↓x_nil, ↓x_cons, ↓x_tup, ↓x_disp, ↓x_keep, ↓x_tmp, ↓x_comp, ↓x_for, ↓x_rng, ↓x_iseq, ↓x_add, ↓x_sub, ↓x_mul, ↓x_div, ↓x_mod, ↓x_lt, ↓x_le, ↓x_gt, ↓x_ge, ↓x_eq, ↓x_ne, ↓x_subsT, ↓x_subsL, ↓x_subsR, ↓x_lenT, ↓x_lenL, ↓x_lenR, ↓x_intB, ↓x_intI, ↓x_setR, ↓x_retF, ↓x_nextF, ↓wp_run, ↓wp_ret, ↓wp_chk, ↓wp_alloc, andB_t, andB_f, andB_or, andB_and, decide_eq_true_eq, List.replicate_succ, List.replicate_zero, Option.join_some, List.map_cons, List.map_nil, List.cons_append, List.nil_append, List.replicate, List.getElem?_cons_zero, List.getElem?_cons_succ, List.set_cons_zero, List.set_cons_succ, List.length_cons, List.length_nil, Nat.reduceAdd, Nat.reduceSub, ge_iff_le, Int.reduceLE, Int.reduceLT, if_true, if_false, and_true, true_and, beq_iff_eq, ↓x_chain, ↓x_append, ↓x_clear, ↓x_pop, ↓x_reverse, ↓x_back, ↓x_listT, ↓x_listR, ↓x_tupleT, ↓x_tupleR, ↓x_isntB, ↓x_isB2, ↓x_inTu, ↓x_eqStr, ↓x_neStr, ↓x_isiL, ↓x_isiT, ↓x_isiI, ↓x_isiB, ↓x_isiBN, ↓x_neg, ↓x_min2, ↓x_max2, ↓x_rng2, ↓x_shl, ↓x_addT, ↓x_tmpSub, ↓x_inTmp, ite_t, ite_f, Bool.not_true, Bool.not_false, ↓q3, ↓q4, ↓tb, upto_len]
      refine take2 b2 (by omega) (by omega) fun dd s3 dd0 dd1 b3 k3 => ?_
      have hdd : dd.toNat < dn := by omega
      have edd : dd = ((dd.toNat : Nat) : Int) := (Int.toNat_of_nonneg dd0).symm
      generalize dd.toNat = j at hdd edd
      subst edd
      have w : ∀ Q s, wp (collect (gVar 0) tTrue (c2 subsD (c2 subsD (cVar 0) (cVar 1)) (cCon (.int 1))) anySt (upto S fun s => .tup (upto dn fun d => D.tup [.int (nx s d : Nat), .int (un s d : Nat)])) [none, some (.int j)]) Q s = Q (upto S fun i => .int (un i j : Nat)) s := fun Q s => pure_compR any_st fun i hi Q => by
        simp only [↓x_seq, ↓x_next, ↓x_asg, ↓x_ret, ↓x_exp, ↓x_if, ↓x_cmp, ↓x_andE, ↓x_orE, ↓x_notE, ↓x_ifE, ↓x_truB, ↓x_isB, ↓x_eqB, ↓x_neB, ↓x_tupL, ↓x_lenLL, ↓x_item0, ↓x_item1, ↓x_item2, ↓x_item3, ↓x_tTrue, ↓x_iTmp, ↓x_enum, ↓x_gtup, ↓x_gcons, ↓x_gnil, ↓x_slice, ↓x_none, ↓x_some, ↓x_val, ↓x_not, ↓x_and, ↓x_or, ↓x_gvar, ↓x_gsub, ↓x_var, ↓x_con, ↓x_c1, ↓x_c2, ↓x_call, ↓x_nil, ↓x_cons, ↓x_tup, ↓x_disp, ↓x_keep, ↓x_tmp, ↓x_comp, ↓x_for, ↓x_rng, ↓x_iseq, ↓x_add, ↓x_sub, ↓x_mul, ↓x_div, ↓x_mod, ↓x_lt, ↓x_le, ↓x_gt, ↓x_ge, ↓x_eq, ↓x_ne, ↓x_subsT, ↓x_subsL, ↓x_subsR, ↓x_lenT, ↓x_lenL, ↓x_lenR, ↓x_intB, ↓x_intI, ↓x_setR, ↓x_retF, ↓x_nextF, ↓wp_run, ↓wp_ret, ↓wp_chk, ↓wp_alloc, andB_t, andB_f, andB_or, andB_and, decide_eq_true_eq, List.replicate_succ, List.replicate_zero, Option.join_some, List.map_cons, List.map_nil, List.cons_append, List.nil_append, List.replicate, List.getElem?_cons_zero, List.getElem?_cons_succ, List.set_cons_zero, List.set_cons_succ, List.length_cons, List.length_nil, Nat.reduceAdd, Nat.reduceSub, ge_iff_le, Int.reduceLE, Int.reduceLT, if_true, if_false, and_true, true_and, beq_iff_eq, ↓x_chain, ↓x_append, ↓x_clear, ↓x_pop, ↓x_reverse, ↓x_back, ↓x_listT, ↓x_listR, ↓x_tupleT, ↓x_tupleR, ↓x_isntB, ↓x_isB2, ↓x_inTu, ↓x_eqStr, ↓x_neStr, ↓x_isiL, ↓x_isiT, ↓x_isiI, ↓x_isiB, ↓x_isiBN, ↓x_neg, ↓x_min2, ↓x_max2, ↓x_rng2, ↓x_shl, ↓x_addT, ↓x_tmpSub, ↓x_inTmp, ite_t, ite_f, Bool.not_true, Bool.not_false, ↓x_itemU hdd]
      have mw : ∀ Q s, wp (maxD (upto S fun i => .int (un i j : Nat))) Q s = Q (.int (mx (un · j) S : Nat)) s := fun Q s => max_upto (f := (un · j)) (by omega)
      have hl : S ≤ lim := lim_le (by omega)
      have hm : mx (un · j) S ≤ 3 := mx_le fun i hi => by have := (o5 i j hi hdd).2; omega
      have hb1 : (-(2 ^ 62) ≤ (1 + ((mx (un · j) S : Nat) : Int)) ∧ (1 + ((mx (un · j) S : Nat) : Int)) < 2 ^ 62) := by omega
      have hl2 : (1 + ((mx (un · j) S : Nat) : Int)).toNat ≤ lim := lim_le (by omega)
      simp only [↓x_seq, ↓x_next, ↓x_asg, ↓x_ret, ↓x_exp, ↓x_if, ↓x_cmp, ↓x_andE, ↓x_orE, ↓x_notE, ↓x_ifE, ↓x_truB, ↓x_isB, ↓x_eqB, ↓x_neB, ↓x_tupL, ↓x_lenLL, ↓x_item0, ↓x_item1, ↓x_item2, ↓x_item3, ↓x_tTrue, ↓x_iTmp, ↓x_enum, ↓x_gtup, ↓x_gcons, ↓x_gnil, ↓x_slice, ↓x_none, ↓x_some, ↓x_val, ↓x_not, ↓x_and, ↓x_or, ↓x_gvar, ↓x_gsub, ↓x_var, ↓x_con, ↓x_c1, ↓x_c2, ↓x_call, ↓x_nil, ↓x_cons, ↓x_tup, ↓x_disp, ↓x_keep, ↓x_tmp, ↓x_comp, ↓x_for, ↓x_rng, ↓x_iseq, ↓x_add, ↓x_sub, ↓x_mul, ↓x_div, ↓x_mod, ↓x_lt, ↓x_le, ↓x_gt, ↓x_ge, ↓x_eq, ↓x_ne, ↓x_subsT, ↓x_subsL, ↓x_subsR, ↓x_lenT, ↓x_lenL, ↓x_lenR, ↓x_intB, ↓x_intI, ↓x_setR, ↓x_retF, ↓x_nextF, ↓wp_run, ↓wp_ret, ↓wp_chk, ↓wp_alloc, andB_t, andB_f, andB_or, andB_and, decide_eq_true_eq, List.replicate_succ, List.replicate_zero, Option.join_some, List.map_cons, List.map_nil, List.cons_append, List.nil_append, List.replicate, List.getElem?_cons_zero, List.getElem?_cons_succ, List.set_cons_zero, List.set_cons_succ, List.length_cons, List.length_nil, Nat.reduceAdd, Nat.reduceSub, ge_iff_le, Int.reduceLE, Int.reduceLT, if_true, if_false, and_true, true_and, beq_iff_eq, ↓x_chain, ↓x_append, ↓x_clear, ↓x_pop, ↓x_reverse, ↓x_back, ↓x_listT, ↓x_listR, ↓x_tupleT, ↓x_tupleR, ↓x_isntB, ↓x_isB2, ↓x_inTu, ↓x_eqStr, ↓x_neStr, ↓x_isiL, ↓x_isiT, ↓x_isiI, ↓x_isiB, ↓x_isiBN, ↓x_neg, ↓x_min2, ↓x_max2, ↓x_rng2, ↓x_shl, ↓x_addT, ↓x_tmpSub, ↓x_inTmp, ite_t, ite_f, Bool.not_true, Bool.not_false, tabD, capt, upto_len, hl, ↓w, ↓mw, hb1, rng_len, hl2]
      refine goals_ok (nb := nb) (m := m) b3 (by omega) (by omega) fun gs s4 hgl hgs b4 k4 => ?_
      have g5 : (s4 ++ [MO.lst gs])[s4.length]? = some (.lst gs) := by simp
      have b5 : BoxAt (s4 ++ [.lst gs]) b := Kept.box (s' := s) b4 _
      have k5 : Kept b s (s4 ++ [.lst gs]) := ((((k1.trans k2).trans k3).trans k4).trans (Kept.snoc _))
      generalize s4 ++ [MO.lst gs] = s5 at *
      have q5 : ∀ Q, wp (getL s4.length) Q s5 = Q gs s5 := fun Q => wp_getL g5
      simp only [↓x_seq, ↓x_next, ↓x_asg, ↓x_ret, ↓x_exp, ↓x_if, ↓x_cmp, ↓x_andE, ↓x_orE, ↓x_notE, ↓x_ifE, ↓x_truB, ↓x_isB, ↓x_eqB, ↓x_neB, ↓x_tupL, ↓x_lenLL, ↓x_item0, ↓x_item1, ↓x_item2, ↓x_item3, ↓x_tTrue, ↓x_iTmp, ↓x_enum, ↓x_gtup, ↓x_gcons, ↓x_gnil, ↓x_slice, ↓x_none, ↓x_some, ↓x_val, ↓x_not, ↓x_and, ↓x_or, ↓x_gvar, ↓x_gsub, ↓x_var, ↓x_con, ↓x_c1, ↓x_c2, ↓x_call, ↓x_nil, ↓x_cons, ↓x_tup, ↓x_disp, ↓x_keep, ↓x_tmp, ↓x_comp, ↓x_for, ↓x_rng, ↓x_iseq, ↓x_add, ↓x_sub, ↓x_mul, ↓x_div, ↓x_mod, ↓x_lt, ↓x_le, ↓x_gt, ↓x_ge, ↓x_eq, ↓x_ne, ↓x_subsT, ↓x_subsL, ↓x_subsR, ↓x_lenT, ↓x_lenL, ↓x_lenR, ↓x_intB, ↓x_intI, ↓x_setR, ↓x_retF, ↓x_nextF, ↓wp_run, ↓wp_ret, ↓wp_chk, ↓wp_alloc, andB_t, andB_f, andB_or, andB_and, decide_eq_true_eq, List.replicate_succ, List.replicate_zero, Option.join_some, List.map_cons, List.map_nil, List.cons_append, List.nil_append, List.replicate, List.getElem?_cons_zero, List.getElem?_cons_succ, List.set_cons_zero, List.set_cons_succ, List.length_cons, List.length_nil, Nat.reduceAdd, Nat.reduceSub, ge_iff_le, Int.reduceLE, Int.reduceLT, if_true, if_false, and_true, true_and, beq_iff_eq, ↓x_chain, ↓x_append, ↓x_clear, ↓x_pop, ↓x_reverse, ↓x_back, ↓x_listT, ↓x_listR, ↓x_tupleT, ↓x_tupleR, ↓x_isntB, ↓x_isB2, ↓x_inTu, ↓x_eqStr, ↓x_neStr, ↓x_isiL, ↓x_isiT, ↓x_isiI, ↓x_isiB, ↓x_isiBN, ↓x_neg, ↓x_min2, ↓x_max2, ↓x_rng2, ↓x_shl, ↓x_addT, ↓x_tmpSub, ↓x_inTmp, ite_t, ite_f, Bool.not_true, Bool.not_false, ↓q5, l4]
      refine h _ _ (.inr ⟨bi.toNat, j, S, dn, nx, un, st, gs, hat, hdd, ?_, by omega, hgs⟩) b5 k5
      rw [Int.toNat_of_nonneg bi0]
theorem lines_ok {nb : Nat} {boards : List D} {m : Int} {A : List D → Sto → Prop} (hb : BoxAt s b) (hg : s[nb]? = some (.lst boards)) (hnb : nb ≠ b) (hbl : boards.length ≤ 7) (hbd : ∀ x ∈ boards, IsBoard x) (h1 : 1 ≤ m) (h2 : m ≤ 12)
    (h : ∀ ls s', ls.length = m.toNat → (∀ l ∈ ls, IsLine boards m.toNat l) → BoxAt s' b → Kept b s s' → A ls s') : wp (collect (gVar 0) tTrue (cCall m_law_line (cCons (cVar 1) (cCons (cVar 2) (cCons (cVar 3) cNil)))) anySt (rngD 0 m.toNat) [none, some (.ref b), some (.ref nb), some (.int m)]) A s := by
  refine wp_comp (fun i out s' => out.length = i ∧ (∀ l ∈ out, IsLine boards m.toNat l) ∧ BoxAt s' b ∧ Kept b s s') (fun _ _ s _ => trivial) ⟨rfl, fun g hg => by simp at hg, hb, Kept.refl _ _⟩ (fun i d out s1 _ ⟨a1, a2, a3, a4⟩ => ?_) (fun out s1 ⟨a1, a2, a3, a4⟩ => h out s1 (by rw [a1, rng_len]) a2 a3 a4)
  simp only [↓x_seq, ↓x_next, ↓x_asg, ↓x_ret, ↓x_exp, ↓x_if, ↓x_cmp, ↓x_andE, ↓x_orE, ↓x_notE, ↓x_ifE, ↓x_truB, ↓x_isB, ↓x_eqB, ↓x_neB, ↓x_tupL, ↓x_lenLL, ↓x_item0, ↓x_item1, ↓x_item2, ↓x_item3, ↓x_tTrue, ↓x_iTmp, ↓x_enum, ↓x_gtup, ↓x_gcons, ↓x_gnil, ↓x_slice, ↓x_none, ↓x_some, ↓x_val, ↓x_not, ↓x_and, ↓x_or, ↓x_gvar, ↓x_gsub, ↓x_var, ↓x_con, ↓x_c1, ↓x_c2, ↓x_call, ↓x_nil, ↓x_cons, ↓x_tup, ↓x_disp, ↓x_keep, ↓x_tmp, ↓x_comp, ↓x_for, ↓x_rng, ↓x_iseq, ↓x_add, ↓x_sub, ↓x_mul, ↓x_div, ↓x_mod, ↓x_lt, ↓x_le, ↓x_gt, ↓x_ge, ↓x_eq, ↓x_ne, ↓x_subsT, ↓x_subsL, ↓x_subsR, ↓x_lenT, ↓x_lenL, ↓x_lenR, ↓x_intB, ↓x_intI, ↓x_setR, ↓x_retF, ↓x_nextF, ↓wp_run, ↓wp_ret, ↓wp_chk, ↓wp_alloc, andB_t, andB_f, andB_or, andB_and, decide_eq_true_eq, List.replicate_succ, List.replicate_zero, Option.join_some, List.map_cons, List.map_nil, List.cons_append, List.nil_append, List.replicate, List.getElem?_cons_zero, List.getElem?_cons_succ, List.set_cons_zero, List.set_cons_succ, List.length_cons, List.length_nil, Nat.reduceAdd, Nat.reduceSub, ge_iff_le, Int.reduceLE, Int.reduceLT, if_true, if_false, and_true, true_and, beq_iff_eq, ↓x_chain, ↓x_append, ↓x_clear, ↓x_pop, ↓x_reverse, ↓x_back, ↓x_listT, ↓x_listR, ↓x_tupleT, ↓x_tupleR, ↓x_isntB, ↓x_isB2, ↓x_inTu, ↓x_eqStr, ↓x_neStr, ↓x_isiL, ↓x_isiT, ↓x_isiI, ↓x_isiB, ↓x_isiBN, ↓x_neg, ↓x_min2, ↓x_max2, ↓x_rng2, ↓x_shl, ↓x_addT, ↓x_tmpSub, ↓x_inTmp, ite_t, ite_f, Bool.not_true, Bool.not_false]
  refine line_ok a3 (a4.same hnb hg) hnb hbl hbd h1 h2 fun line s2 hl b2 k2 => ⟨by simp [a1], fun d hd => ?_, b2, a4.trans k2⟩
  rcases List.mem_append.mp hd with hd | hd
  · exact a2 d hd
  · rw [List.mem_singleton] at hd; rw [hd]; exact hl
theorem house_ok {most hands lines : Int} (hb : BoxAt s b) (h0 : 0 ≤ most) (h1 : most ≤ 7) (h2 : 2 ≤ hands) (h3 : hands ≤ 3) (h4 : 1 ≤ lines) (h5 : lines ≤ 12) (h : ∀ x s', IsHouse x → BoxAt s' b → Kept b s s' → Q x s') : wp (m_law_house [.ref b, .int most, .int hands, .int lines]) Q s := by
  have hlt := hb.lt
  have l0 : 0 ≤ lim := Nat.zero_le _
  have l2 : 2 ≤ lim := lim_le (by omega)
  simp only [m_law_house, b_law_house, ↓x_seq, ↓x_next, ↓x_asg, ↓x_ret, ↓x_exp, ↓x_if, ↓x_cmp, ↓x_andE, ↓x_orE, ↓x_notE, ↓x_ifE, ↓x_truB, ↓x_isB, ↓x_eqB, ↓x_neB, ↓x_tupL, ↓x_lenLL, ↓x_item0, ↓x_item1, ↓x_item2, ↓x_item3, ↓x_tTrue, ↓x_iTmp, ↓x_enum, ↓x_gtup, ↓x_gcons, ↓x_gnil, ↓x_slice, ↓x_none, ↓x_some, ↓x_val, ↓x_not, ↓x_and, ↓x_or, ↓x_gvar, ↓x_gsub, ↓x_var, ↓x_con, ↓x_c1, ↓x_c2, ↓x_call, ↓x_nil, ↓x_cons, ↓x_tup, ↓x_disp, ↓x_keep, ↓x_tmp, ↓x_comp, ↓x_for, ↓x_rng, ↓x_iseq, ↓x_add, ↓x_sub, ↓x_mul, ↓x_div, ↓x_mod, ↓x_lt, ↓x_le, ↓x_gt, ↓x_ge, ↓x_eq, ↓x_ne, ↓x_subsT, ↓x_subsL, ↓x_subsR, ↓x_lenT, ↓x_lenL, ↓x_lenR, ↓x_intB, ↓x_intI, ↓x_setR, ↓x_retF, ↓x_nextF, ↓wp_run, ↓wp_ret, ↓wp_chk, ↓wp_alloc, andB_t, andB_f, andB_or, andB_and, decide_eq_true_eq, List.replicate_succ, List.replicate_zero, Option.join_some, List.map_cons, List.map_nil, List.cons_append, List.nil_append, List.replicate, List.getElem?_cons_zero, List.getElem?_cons_succ, List.set_cons_zero, List.set_cons_succ, List.length_cons, List.length_nil, Nat.reduceAdd, Nat.reduceSub, ge_iff_le, Int.reduceLE, Int.reduceLT, if_true, if_false, and_true, true_and, beq_iff_eq, ↓x_chain, ↓x_append, ↓x_clear, ↓x_pop, ↓x_reverse, ↓x_back, ↓x_listT, ↓x_listR, ↓x_tupleT, ↓x_tupleR, ↓x_isntB, ↓x_isB2, ↓x_inTu, ↓x_eqStr, ↓x_neStr, ↓x_isiL, ↓x_isiT, ↓x_isiI, ↓x_isiB, ↓x_isiBN, ↓x_neg, ↓x_min2, ↓x_max2, ↓x_rng2, ↓x_shl, ↓x_addT, ↓x_tmpSub, ↓x_inTmp, ite_t, ite_f, Bool.not_true, Bool.not_false]
  refine boards_ok hb h0 h1 fun nb boards s1 hnb g1 hbl hbd b1 k1 => ?_
  have hnl := lt_of_at g1
  simp only [↓x_seq, ↓x_next, ↓x_asg, ↓x_ret, ↓x_exp, ↓x_if, ↓x_cmp, ↓x_andE, ↓x_orE, ↓x_notE, ↓x_ifE, ↓x_truB, ↓x_isB, ↓x_eqB, ↓x_neB, ↓x_tupL, ↓x_lenLL, ↓x_item0, ↓x_item1, ↓x_item2, ↓x_item3, ↓x_tTrue, ↓x_iTmp, ↓x_enum, ↓x_gtup, ↓x_gcons, ↓x_gnil, ↓x_slice, ↓x_none, ↓x_some, ↓x_val, ↓x_not, ↓x_and, ↓x_or, ↓x_gvar, ↓x_gsub, ↓x_var, ↓x_con, ↓x_c1, ↓x_c2, ↓x_call, ↓x_nil, ↓x_cons, ↓x_tup, ↓x_disp, ↓x_keep, ↓x_tmp, ↓x_comp, ↓x_for, ↓x_rng, ↓x_iseq, ↓x_add, ↓x_sub, ↓x_mul, ↓x_div, ↓x_mod, ↓x_lt, ↓x_le, ↓x_gt, ↓x_ge, ↓x_eq, ↓x_ne, ↓x_subsT, ↓x_subsL, ↓x_subsR, ↓x_lenT, ↓x_lenL, ↓x_lenR, ↓x_intB, ↓x_intI, ↓x_setR, ↓x_retF, ↓x_nextF, ↓wp_run, ↓wp_ret, ↓wp_chk, ↓wp_alloc, andB_t, andB_f, andB_or, andB_and, decide_eq_true_eq, List.replicate_succ, List.replicate_zero, Option.join_some, List.map_cons, List.map_nil, List.cons_append, List.nil_append, List.replicate, List.getElem?_cons_zero, List.getElem?_cons_succ, List.set_cons_zero, List.set_cons_succ, List.length_cons, List.length_nil, Nat.reduceAdd, Nat.reduceSub, ge_iff_le, Int.reduceLE, Int.reduceLT, if_true, if_false, and_true, true_and, beq_iff_eq, ↓x_chain, ↓x_append, ↓x_clear, ↓x_pop, ↓x_reverse, ↓x_back, ↓x_listT, ↓x_listR, ↓x_tupleT, ↓x_tupleR, ↓x_isntB, ↓x_isB2, ↓x_inTu, ↓x_eqStr, ↓x_neStr, ↓x_isiL, ↓x_isiT, ↓x_isiI, ↓x_isiB, ↓x_isiBN, ↓x_neg, ↓x_min2, ↓x_max2, ↓x_rng2, ↓x_shl, ↓x_addT, ↓x_tmpSub, ↓x_inTmp, ite_t, ite_f, Bool.not_true, Bool.not_false, l0]
  have b2 : BoxAt (s1 ++ [.lst []]) b := Kept.box (s' := s) b1 _
  have k2 : Kept b s (s1 ++ [.lst []]) := k1.trans (Kept.snoc _)
  have g2 : (s1 ++ [MO.lst []])[s1.length]? = some (.lst []) := by simp
  have g3 : (s1 ++ [MO.lst []])[nb]? = some (.lst boards) := by rw [List.getElem?_append_left hnl]; exact g1
  have hs1 : s.length ≤ s1.length := k1.le
  generalize s1 ++ [MO.lst []] = s2 at *
  refine ⟨⟨by omega, by omega⟩, ?_⟩
  refine wp_forI (fun i l s' => ∃ x6 x7 x8 hs, l = [some (.ref b), some (.int most), some (.int hands), some (.int lines), some (.ref nb), some (.ref s1.length), x6, x7, x8] ∧ s'[s1.length]? = some (.lst hs) ∧ s'[nb]? = some (.lst boards) ∧ hs.length = i ∧ (∀ x ∈ hs, IsHand boards x) ∧ BoxAt s' b ∧ Kept b s s') (fun _ _ _ _ => trivial) ⟨_, _, _, _, rfl, g2, g3, rfl, by simp, b2, k2⟩ (fun i d l s' hd ⟨x6, x7, x8, hs, el, g, g', hl, hhs, hb', hk⟩ => ?_) (fun l s' ⟨x6, x7, x8, hs, el, g, g', hl, hhs, hb', hk⟩ => ?_)
  · obtain ⟨hi, ed⟩ := rng_of hd
    subst ed
    subst el
    simp only [↓x_seq, ↓x_next, ↓x_asg, ↓x_ret, ↓x_exp, ↓x_if, ↓x_cmp, ↓x_andE, ↓x_orE, ↓x_notE, ↓x_ifE, ↓x_truB, ↓x_isB, ↓x_eqB, ↓x_neB, ↓x_tupL, ↓x_lenLL, ↓x_item0, ↓x_item1, ↓x_item2, ↓x_item3, ↓x_tTrue, ↓x_iTmp, ↓x_enum, ↓x_gtup, ↓x_gcons, ↓x_gnil, ↓x_slice, ↓x_none, ↓x_some, ↓x_val, ↓x_not, ↓x_and, ↓x_or, ↓x_gvar, ↓x_gsub, ↓x_var, ↓x_con, ↓x_c1, ↓x_c2, ↓x_call, ↓x_nil, ↓x_cons, ↓x_tup, ↓x_disp, ↓x_keep, ↓x_tmp, ↓x_comp, ↓x_for, ↓x_rng, ↓x_iseq, ↓x_add, ↓x_sub, ↓x_mul, ↓x_div, ↓x_mod, ↓x_lt, ↓x_le, ↓x_gt, ↓x_ge, ↓x_eq, ↓x_ne, ↓x_subsT, ↓x_subsL, ↓x_subsR, ↓x_lenT, ↓x_lenL, ↓x_lenR, ↓x_intB, ↓x_intI, ↓x_setR, ↓x_retF, ↓x_nextF, ↓wp_run, ↓wp_ret, ↓wp_chk, ↓wp_alloc, andB_t, andB_f, andB_or, andB_and, decide_eq_true_eq, List.replicate_succ, List.replicate_zero, Option.join_some, List.map_cons, List.map_nil, List.cons_append, List.nil_append, List.replicate, List.getElem?_cons_zero, List.getElem?_cons_succ, List.set_cons_zero, List.set_cons_succ, List.length_cons, List.length_nil, Nat.reduceAdd, Nat.reduceSub, ge_iff_le, Int.reduceLE, Int.reduceLT, if_true, if_false, and_true, true_and, beq_iff_eq, ↓x_chain, ↓x_append, ↓x_clear, ↓x_pop, ↓x_reverse, ↓x_back, ↓x_listT, ↓x_listR, ↓x_tupleT, ↓x_tupleR, ↓x_isntB, ↓x_isB2, ↓x_inTu, ↓x_eqStr, ↓x_neStr, ↓x_isiL, ↓x_isiT, ↓x_isiI, ↓x_isiB, ↓x_isiBN, ↓x_neg, ↓x_min2, ↓x_max2, ↓x_rng2, ↓x_shl, ↓x_addT, ↓x_tmpSub, ↓x_inTmp, ite_t, ite_f, Bool.not_true, Bool.not_false]
    refine take2 hb' (by omega) (by omega) fun r s3 r0 r1 b3 k3 => ?_
    have hm1 : (-(2 ^ 62) ≤ (1 + r) ∧ (1 + r) < 2 ^ 62) := by omega
    have hm2 : (1 + r).toNat ≤ lim := lim_le (by omega)
    simp only [↓x_seq, ↓x_next, ↓x_asg, ↓x_ret, ↓x_exp, ↓x_if, ↓x_cmp, ↓x_andE, ↓x_orE, ↓x_notE, ↓x_ifE, ↓x_truB, ↓x_isB, ↓x_eqB, ↓x_neB, ↓x_tupL, ↓x_lenLL, ↓x_item0, ↓x_item1, ↓x_item2, ↓x_item3, ↓x_tTrue, ↓x_iTmp, ↓x_enum, ↓x_gtup, ↓x_gcons, ↓x_gnil, ↓x_slice, ↓x_none, ↓x_some, ↓x_val, ↓x_not, ↓x_and, ↓x_or, ↓x_gvar, ↓x_gsub, ↓x_var, ↓x_con, ↓x_c1, ↓x_c2, ↓x_call, ↓x_nil, ↓x_cons, ↓x_tup, ↓x_disp, ↓x_keep, ↓x_tmp, ↓x_comp, ↓x_for, ↓x_rng, ↓x_iseq, ↓x_add, ↓x_sub, ↓x_mul, ↓x_div, ↓x_mod, ↓x_lt, ↓x_le, ↓x_gt, ↓x_ge, ↓x_eq, ↓x_ne, ↓x_subsT, ↓x_subsL, ↓x_subsR, ↓x_lenT, ↓x_lenL, ↓x_lenR, ↓x_intB, ↓x_intI, ↓x_setR, ↓x_retF, ↓x_nextF, ↓wp_run, ↓wp_ret, ↓wp_chk, ↓wp_alloc, andB_t, andB_f, andB_or, andB_and, decide_eq_true_eq, List.replicate_succ, List.replicate_zero, Option.join_some, List.map_cons, List.map_nil, List.cons_append, List.nil_append, List.replicate, List.getElem?_cons_zero, List.getElem?_cons_succ, List.set_cons_zero, List.set_cons_succ, List.length_cons, List.length_nil, Nat.reduceAdd, Nat.reduceSub, ge_iff_le, Int.reduceLE, Int.reduceLT, if_true, if_false, and_true, true_and, beq_iff_eq, ↓x_chain, ↓x_append, ↓x_clear, ↓x_pop, ↓x_reverse, ↓x_back, ↓x_listT, ↓x_listR, ↓x_tupleT, ↓x_tupleR, ↓x_isntB, ↓x_isB2, ↓x_inTu, ↓x_eqStr, ↓x_neStr, ↓x_isiL, ↓x_isiT, ↓x_isiI, ↓x_isiB, ↓x_isiBN, ↓x_neg, ↓x_min2, ↓x_max2, ↓x_rng2, ↓x_shl, ↓x_addT, ↓x_tmpSub, ↓x_inTmp, ite_t, ite_f, Bool.not_true, Bool.not_false, hm1, rng_len, hm2, capt]
    refine lines_ok (nb := nb) (boards := boards) (m := 1 + r) b3 (k3.same (by omega) g') (by omega) hbl hbd (by omega) (by omega) fun ls s4 hll hls b4 k4 => ?_
    have g5 : (s4 ++ [MO.lst ls])[s4.length]? = some (.lst ls) := by simp
    have b5 : BoxAt (s4 ++ [.lst ls]) b := Kept.box (s' := s) b4 _
    have k5 : Kept b s' (s4 ++ [.lst ls]) := (k3.trans k4).trans (Kept.snoc _)
    have hs4 : s'.length ≤ s4.length := (k3.trans k4).le
    have hl1 := lt_of_at g
    generalize s4 ++ [MO.lst ls] = s5 at *
    refine take2 b5 (by omega) (by omega) fun v0 s6 v00 v01 b6 k6 => ?_
    refine take2 b6 (by omega) (by omega) fun v1 s7 v10 v11 b7 k7 => ?_
    have k8 : Kept b s' s7 := (k5.trans k6).trans k7
    have q1 : ∀ Q, wp (getL s4.length) Q s7 = Q ls s7 := fun Q => wp_getL ((k6.trans k7).same (by omega) g5)
    have g8 : s7[s1.length]? = some (.lst hs) := k8.same (by omega) g
    have q2 : ∀ Q, wp (getL s1.length) Q s7 = Q hs s7 := fun Q => wp_getL g8
    have q3 : ∀ es Q, wp (putL s1.length es) Q s7 = Q () (s7.set s1.length (.lst es)) := fun es Q => wp_putL g8
    have l3 : hs.length < lim := lim_lt (by omega)
    simp only [↓x_seq, ↓x_next, ↓x_asg, ↓x_ret, ↓x_exp, ↓x_if, ↓x_cmp, ↓x_andE, ↓x_orE, ↓x_notE, ↓x_ifE, ↓x_truB, ↓x_isB, ↓x_eqB, ↓x_neB, ↓x_tupL, ↓x_lenLL, ↓x_item0, ↓x_item1, ↓x_item2, ↓x_item3, ↓x_tTrue, ↓x_iTmp, ↓x_enum, ↓x_gtup, ↓x_gcons, ↓x_gnil, ↓x_slice, ↓x_none, ↓x_some, ↓x_val, ↓x_not, ↓x_and, ↓x_or, ↓x_gvar, ↓x_gsub, ↓x_var, ↓x_con, ↓x_c1, ↓x_c2, ↓x_call, ↓x_nil, ↓x_cons, ↓x_tup, ↓x_disp, ↓x_keep, ↓x_tmp, ↓x_comp, ↓x_for, ↓x_rng, ↓x_iseq, ↓x_add, ↓x_sub, ↓x_mul, ↓x_div, ↓x_mod, ↓x_lt, ↓x_le, ↓x_gt, ↓x_ge, ↓x_eq, ↓x_ne, ↓x_subsT, ↓x_subsL, ↓x_subsR, ↓x_lenT, ↓x_lenL, ↓x_lenR, ↓x_intB, ↓x_intI, ↓x_setR, ↓x_retF, ↓x_nextF, ↓wp_run, ↓wp_ret, ↓wp_chk, ↓wp_alloc, andB_t, andB_f, andB_or, andB_and, decide_eq_true_eq, List.replicate_succ, List.replicate_zero, Option.join_some, List.map_cons, List.map_nil, List.cons_append, List.nil_append, List.replicate, List.getElem?_cons_zero, List.getElem?_cons_succ, List.set_cons_zero, List.set_cons_succ, List.length_cons, List.length_nil, Nat.reduceAdd, Nat.reduceSub, ge_iff_le, Int.reduceLE, Int.reduceLT, if_true, if_false, and_true, true_and, beq_iff_eq, ↓x_chain, ↓x_append, ↓x_clear, ↓x_pop, ↓x_reverse, ↓x_back, ↓x_listT, ↓x_listR, ↓x_tupleT, ↓x_tupleR, ↓x_isntB, ↓x_isB2, ↓x_inTu, ↓x_eqStr, ↓x_neStr, ↓x_isiL, ↓x_isiT, ↓x_isiI, ↓x_isiB, ↓x_isiBN, ↓x_neg, ↓x_min2, ↓x_max2, ↓x_rng2, ↓x_shl, ↓x_addT, ↓x_tmpSub, ↓x_inTmp, ite_t, ite_f, Bool.not_true, Bool.not_false, l2, l3, ↓q1, ↓q2, ↓q3]
    refine ⟨_, _, _, _, rfl, List.getElem?_set_self (lt_of_at g8), by rw [List.getElem?_set_ne (by omega)]; exact k8.same (by omega) g', by simp [hl], fun x hx => ?_, b7.put (by omega), (hk.trans k8).put hs1⟩
    rcases List.mem_append.mp hx with hx | hx
    · exact hhs x hx
    · rw [List.mem_singleton] at hx
      refine ⟨v0.toNat, v1.toNat, ls, by rw [hx, Int.toNat_of_nonneg v00, Int.toNat_of_nonneg v10], by omega, by omega, by omega, fun l hl => ?_⟩
      rw [hll]; exact hls l hl
  · subst el
    rw [rng_len] at hl
    have q1 : ∀ Q, wp (getL nb) Q s' = Q boards s' := fun Q => wp_getL g'
    have q2 : ∀ Q, wp (getL s1.length) Q s' = Q hs s' := fun Q => wp_getL g
    simp only [↓x_seq, ↓x_next, ↓x_asg, ↓x_ret, ↓x_exp, ↓x_if, ↓x_cmp, ↓x_andE, ↓x_orE, ↓x_notE, ↓x_ifE, ↓x_truB, ↓x_isB, ↓x_eqB, ↓x_neB, ↓x_tupL, ↓x_lenLL, ↓x_item0, ↓x_item1, ↓x_item2, ↓x_item3, ↓x_tTrue, ↓x_iTmp, ↓x_enum, ↓x_gtup, ↓x_gcons, ↓x_gnil, ↓x_slice, ↓x_none, ↓x_some, ↓x_val, ↓x_not, ↓x_and, ↓x_or, ↓x_gvar, ↓x_gsub, ↓x_var, ↓x_con, ↓x_c1, ↓x_c2, ↓x_call, ↓x_nil, ↓x_cons, ↓x_tup, ↓x_disp, ↓x_keep, ↓x_tmp, ↓x_comp, ↓x_for, ↓x_rng, ↓x_iseq, ↓x_add, ↓x_sub, ↓x_mul, ↓x_div, ↓x_mod, ↓x_lt, ↓x_le, ↓x_gt, ↓x_ge, ↓x_eq, ↓x_ne, ↓x_subsT, ↓x_subsL, ↓x_subsR, ↓x_lenT, ↓x_lenL, ↓x_lenR, ↓x_intB, ↓x_intI, ↓x_setR, ↓x_retF, ↓x_nextF, ↓wp_run, ↓wp_ret, ↓wp_chk, ↓wp_alloc, andB_t, andB_f, andB_or, andB_and, decide_eq_true_eq, List.replicate_succ, List.replicate_zero, Option.join_some, List.map_cons, List.map_nil, List.cons_append, List.nil_append, List.replicate, List.getElem?_cons_zero, List.getElem?_cons_succ, List.set_cons_zero, List.set_cons_succ, List.length_cons, List.length_nil, Nat.reduceAdd, Nat.reduceSub, ge_iff_le, Int.reduceLE, Int.reduceLT, if_true, if_false, and_true, true_and, beq_iff_eq, ↓x_chain, ↓x_append, ↓x_clear, ↓x_pop, ↓x_reverse, ↓x_back, ↓x_listT, ↓x_listR, ↓x_tupleT, ↓x_tupleR, ↓x_isntB, ↓x_isB2, ↓x_inTu, ↓x_eqStr, ↓x_neStr, ↓x_isiL, ↓x_isiT, ↓x_isiI, ↓x_isiB, ↓x_isiBN, ↓x_neg, ↓x_min2, ↓x_max2, ↓x_rng2, ↓x_shl, ↓x_addT, ↓x_tmpSub, ↓x_inTmp, ite_t, ite_f, Bool.not_true, Bool.not_false, ↓q1, ↓q2, l2]
    exact h _ _ ⟨boards, hs, rfl, hbl, hbd, by omega, by omega, hhs⟩ hb' hk
end
end My
namespace My
open MM
open PySem (Str)
/-- all inputs of so many hands -/
def inps : Nat → List (List D)
  | 0 => [[]]
  | n + 1 => (inps n).flatMap fun x => [x ++ [.int 0], x ++ [.int 1]]
def inpD (n : Nat) : List D := (inps n).map D.tup
theorem inps_len : ∀ n, ∀ x ∈ inps n, x.length = n
  | 0, x, h => by simp [inps] at h; simp [h]
  | n + 1, x, h => by
    simp only [inps, List.mem_flatMap] at h
    obtain ⟨y, hy, hx⟩ := h
    have := inps_len n y hy
    simp at hx
    rcases hx with e | e <;> subst e <;> simp [this]
theorem inps_count : ∀ n, (inps n).length = 2 ^ n
  | 0 => rfl
  | n + 1 => by
    have : ∀ xs : List (List D), (xs.flatMap fun x => [x ++ [D.int 0], x ++ [D.int 1]]).length = 2 * xs.length := by
      intro xs
      induction xs with
      | nil => rfl
      | cons x xs ih => simp only [List.flatMap_cons, List.length_append, ih, List.length_cons, List.length_nil]; omega
    simp only [inps, this, inps_count n, Nat.pow_succ]; omega
section
variable {Q : D → Sto → Prop} {s : Sto}
theorem inputs_of_ok {h : D} {boards hands : List D} (eh : h = .tup [.tup boards, .tup hands]) (hn : hands.length ≤ 3) (hq : ∀ n s', s.length ≤ n → s'[n]? = some (.lst (inpD hands.length)) → Ext s s' → Q (.ref n) s') : wp (m_inputs_of [h]) Q s := by
  subst eh
  have l0 : 0 ≤ lim := Nat.zero_le _
  have l1 : 1 ≤ lim := lim_le (by omega)
  simp only [m_inputs_of, b_inputs_of, ↓x_seq, ↓x_next, ↓x_asg, ↓x_ret, ↓x_exp, ↓x_if, ↓x_cmp, ↓x_andE, ↓x_orE, ↓x_notE, ↓x_ifE, ↓x_truB, ↓x_isB, ↓x_eqB, ↓x_neB, ↓x_tupL, ↓x_lenLL, ↓x_item0, ↓x_item1, ↓x_item2, ↓x_item3, ↓x_tTrue, ↓x_iTmp, ↓x_enum, ↓x_gtup, ↓x_gcons, ↓x_gnil, ↓x_slice, ↓x_none, ↓x_some, ↓x_val, ↓x_not, ↓x_and, ↓x_or, ↓x_gvar, ↓x_gsub, ↓x_var, ↓x_con, ↓x_c1, ↓x_c2, ↓x_call, ↓x_nil, ↓x_cons, ↓x_tup, ↓x_disp, ↓x_keep, ↓x_tmp, ↓x_comp, ↓x_for, ↓x_rng, ↓x_iseq, ↓x_add, ↓x_sub, ↓x_mul, ↓x_div, ↓x_mod, ↓x_lt, ↓x_le, ↓x_gt, ↓x_ge, ↓x_eq, ↓x_ne, ↓x_subsT, ↓x_subsL, ↓x_subsR, ↓x_lenT, ↓x_lenL, ↓x_lenR, ↓x_intB, ↓x_intI, ↓x_setR, ↓x_retF, ↓x_nextF, ↓wp_run, ↓wp_ret, ↓wp_chk, ↓wp_alloc, andB_t, andB_f, andB_or, andB_and, decide_eq_true_eq, List.replicate_succ, List.replicate_zero, Option.join_some, List.map_cons, List.map_nil, List.cons_append, List.nil_append, List.replicate, List.getElem?_cons_zero, List.getElem?_cons_succ, List.set_cons_zero, List.set_cons_succ, List.length_cons, List.length_nil, Nat.reduceAdd, Nat.reduceSub, ge_iff_le, Int.reduceLE, Int.reduceLT, if_true, if_false, and_true, true_and, beq_iff_eq, ↓x_chain, ↓x_append, ↓x_clear, ↓x_pop, ↓x_reverse, ↓x_back, ↓x_listT, ↓x_listR, ↓x_tupleT, ↓x_tupleR, ↓x_isntB, ↓x_isB2, ↓x_inTu, ↓x_eqStr, ↓x_neStr, ↓x_isiL, ↓x_isiT, ↓x_isiI, ↓x_isiB, ↓x_isiBN, ↓x_neg, ↓x_min2, ↓x_max2, ↓x_rng2, ↓x_shl, ↓x_addT, ↓x_tmpSub, ↓x_inTmp, ite_t, ite_f, Bool.not_true, Bool.not_false, l0, l1]
  refine wp_forI (fun i l s' => ∃ n x2 x3 x4, l = [some (.tup [.tup boards, .tup hands]), some (.ref n), x2, x3, x4] ∧ s.length ≤ n ∧ s'[n]? = some (.lst (inpD i)) ∧ Ext s s') (fun _ _ _ _ => trivial) ⟨_, _, _, _, rfl, Nat.le_refl _, by simp [inpD, inps], (Ext.refl _).snoc _⟩ (fun i d l s' hd ⟨n, x2, x3, x4, el, hn', g, ex⟩ => ?_) (fun l s' ⟨n, x2, x3, x4, el, hn', g, ex⟩ => ?_)
  · subst el
    have hi := (List.getElem?_eq_some_iff.mp hd).1
    have g1 : (s' ++ [MO.lst []])[n]? = some (.lst (inpD i)) := by rw [List.getElem?_append_left (lt_of_at g)]; exact g
    have q1 : ∀ Q, wp (getL n) Q (s' ++ [MO.lst []]) = Q (inpD i) (s' ++ [MO.lst []]) := fun Q => wp_getL g1
    simp only [↓x_seq, ↓x_next, ↓x_asg, ↓x_ret, ↓x_exp, ↓x_if, ↓x_cmp, ↓x_andE, ↓x_orE, ↓x_notE, ↓x_ifE, ↓x_truB, ↓x_isB, ↓x_eqB, ↓x_neB, ↓x_tupL, ↓x_lenLL, ↓x_item0, ↓x_item1, ↓x_item2, ↓x_item3, ↓x_tTrue, ↓x_iTmp, ↓x_enum, ↓x_gtup, ↓x_gcons, ↓x_gnil, ↓x_slice, ↓x_none, ↓x_some, ↓x_val, ↓x_not, ↓x_and, ↓x_or, ↓x_gvar, ↓x_gsub, ↓x_var, ↓x_con, ↓x_c1, ↓x_c2, ↓x_call, ↓x_nil, ↓x_cons, ↓x_tup, ↓x_disp, ↓x_keep, ↓x_tmp, ↓x_comp, ↓x_for, ↓x_rng, ↓x_iseq, ↓x_add, ↓x_sub, ↓x_mul, ↓x_div, ↓x_mod, ↓x_lt, ↓x_le, ↓x_gt, ↓x_ge, ↓x_eq, ↓x_ne, ↓x_subsT, ↓x_subsL, ↓x_subsR, ↓x_lenT, ↓x_lenL, ↓x_lenR, ↓x_intB, ↓x_intI, ↓x_setR, ↓x_retF, ↓x_nextF, ↓wp_run, ↓wp_ret, ↓wp_chk, ↓wp_alloc, andB_t, andB_f, andB_or, andB_and, decide_eq_true_eq, List.replicate_succ, List.replicate_zero, Option.join_some, List.map_cons, List.map_nil, List.cons_append, List.nil_append, List.replicate, List.getElem?_cons_zero, List.getElem?_cons_succ, List.set_cons_zero, List.set_cons_succ, List.length_cons, List.length_nil, Nat.reduceAdd, Nat.reduceSub, ge_iff_le, Int.reduceLE, Int.reduceLT, if_true, if_false, and_true, true_and, beq_iff_eq, ↓x_chain, ↓x_append, ↓x_clear, ↓x_pop, ↓x_reverse, ↓x_back, ↓x_listT, ↓x_listR, ↓x_tupleT, ↓x_tupleR, ↓x_isntB, ↓x_isB2, ↓x_inTu, ↓x_eqStr, ↓x_neStr, ↓x_isiL, ↓x_isiT, ↓x_isiI, ↓x_isiB, ↓x_isiBN, ↓x_neg, ↓x_min2, ↓x_max2, ↓x_rng2, ↓x_shl, ↓x_addT, ↓x_tmpSub, ↓x_inTmp, ite_t, ite_f, Bool.not_true, Bool.not_false, l0, ↓q1]
    have hnl := lt_of_at g
    have hsl := ex.le
    refine wp_forI (fun j l s2 => ∃ x4, l = [some (.tup [.tup boards, .tup hands]), some (.ref n), some d, some (.ref s'.length), x4] ∧ s2[n]? = some (.lst (inpD i)) ∧ s2[s'.length]? = some (.lst ((((inps i).take j).flatMap fun x => [x ++ [D.int 0], x ++ [D.int 1]]).map D.tup)) ∧ Ext s s2) (fun _ _ _ ⟨_, _, a, _, _⟩ => a) ⟨_, rfl, g1, by simp, ex.snoc _⟩ (fun j d2 l s2 hd2 ⟨x4, el, a1, a2, a3⟩ => ?_) (fun l s2 ⟨x4, el, a1, a2, a3⟩ => ?_)
    · subst el
      unfold inpD at hd2
      rw [List.getElem?_map] at hd2
      cases hx : (inps i)[j]? with
      | none => rw [hx] at hd2; cases hd2
      | some x =>
        rw [hx] at hd2
        have ed : d2 = .tup x := (Option.some.inj hd2).symm
        subst ed
        have hxl := inps_len i x (List.mem_of_getElem? hx)
        have hc := inps_count i
        have hjl := (List.getElem?_eq_some_iff.mp hx).1
        have hi8 : 2 ^ i ≤ 8 := by
          have : i ≤ 3 := by omega
          calc 2 ^ i ≤ 2 ^ 3 := Nat.pow_le_pow_right (by omega) this
            _ = 8 := rfl
        have hfl : ∀ xs : List (List D), (xs.flatMap fun x => [x ++ [D.int 0], x ++ [D.int 1]]).length = 2 * xs.length := by
          intro xs
          induction xs with
          | nil => rfl
          | cons x xs ih => simp only [List.flatMap_cons, List.length_append, ih, List.length_cons, List.length_nil]; omega
        generalize hout : (((inps i).take j).flatMap fun x => [x ++ [D.int 0], x ++ [D.int 1]]).map D.tup = out at a2
        have hol : out.length ≤ 100 := by
          rw [← hout, List.length_map, hfl, List.length_take]; omega
        have q2 : ∀ Q, wp (getL s'.length) Q s2 = Q out s2 := fun Q => wp_getL a2
        have q3 : ∀ es Q, wp (putL s'.length es) Q s2 = Q () (s2.set s'.length (.lst es)) := fun es Q => wp_putL a2
        have a4 : ∀ es, (s2.set s'.length (MO.lst es))[s'.length]? = some (.lst es) := fun es => List.getElem?_set_self (lt_of_at a2)
        have q4 : ∀ es Q, wp (getL s'.length) Q (s2.set s'.length (MO.lst es)) = Q es (s2.set s'.length (MO.lst es)) := fun es Q => wp_getL (a4 es)
        have q5 : ∀ es fs Q, wp (putL s'.length fs) Q (s2.set s'.length (MO.lst es)) = Q () ((s2.set s'.length (MO.lst es)).set s'.length (.lst fs)) := fun es fs Q => wp_putL (a4 es)
        have m1 : x.length + 1 ≤ lim := lim_le (by omega)
        have m2 : out.length < lim := lim_lt (by omega)
        have m3 : (out ++ [D.tup (x ++ [D.int 0])]).length < lim := lim_lt (by simp; omega)
        simp only [↓x_seq, ↓x_next, ↓x_asg, ↓x_ret, ↓x_exp, ↓x_if, ↓x_cmp, ↓x_andE, ↓x_orE, ↓x_notE, ↓x_ifE, ↓x_truB, ↓x_isB, ↓x_eqB, ↓x_neB, ↓x_tupL, ↓x_lenLL, ↓x_item0, ↓x_item1, ↓x_item2, ↓x_item3, ↓x_tTrue, ↓x_iTmp, ↓x_enum, ↓x_gtup, ↓x_gcons, ↓x_gnil, ↓x_slice, ↓x_none, ↓x_some, ↓x_val, ↓x_not, ↓x_and, ↓x_or, ↓x_gvar, ↓x_gsub, ↓x_var, ↓x_con, ↓x_c1, ↓x_c2, ↓x_call, ↓x_nil, ↓x_cons, ↓x_tup, ↓x_disp, ↓x_keep, ↓x_tmp, ↓x_comp, ↓x_for, ↓x_rng, ↓x_iseq, ↓x_add, ↓x_sub, ↓x_mul, ↓x_div, ↓x_mod, ↓x_lt, ↓x_le, ↓x_gt, ↓x_ge, ↓x_eq, ↓x_ne, ↓x_subsT, ↓x_subsL, ↓x_subsR, ↓x_lenT, ↓x_lenL, ↓x_lenR, ↓x_intB, ↓x_intI, ↓x_setR, ↓x_retF, ↓x_nextF, ↓wp_run, ↓wp_ret, ↓wp_chk, ↓wp_alloc, andB_t, andB_f, andB_or, andB_and, decide_eq_true_eq, List.replicate_succ, List.replicate_zero, Option.join_some, List.map_cons, List.map_nil, List.cons_append, List.nil_append, List.replicate, List.getElem?_cons_zero, List.getElem?_cons_succ, List.set_cons_zero, List.set_cons_succ, List.length_cons, List.length_nil, Nat.reduceAdd, Nat.reduceSub, ge_iff_le, Int.reduceLE, Int.reduceLT, if_true, if_false, and_true, true_and, beq_iff_eq, ↓x_chain, ↓x_append, ↓x_clear, ↓x_pop, ↓x_reverse, ↓x_back, ↓x_listT, ↓x_listR, ↓x_tupleT, ↓x_tupleR, ↓x_isntB, ↓x_isB2, ↓x_inTu, ↓x_eqStr, ↓x_neStr, ↓x_isiL, ↓x_isiT, ↓x_isiI, ↓x_isiB, ↓x_isiBN, ↓x_neg, ↓x_min2, ↓x_max2, ↓x_rng2, ↓x_shl, ↓x_addT, ↓x_tmpSub, ↓x_inTmp, ite_t, ite_f, Bool.not_true, Bool.not_false, l1, m1, m2, ↓q2, ↓q3, ↓q4, ↓q5]
        refine ⟨m3, _, rfl, ?_, ?_, (a3.put hsl).put hsl⟩
        · rw [List.getElem?_set_ne (by omega), List.getElem?_set_ne (by omega)]; exact a1
        · rw [List.getElem?_set_self (by simp; exact lt_of_at a2), List.take_add_one, hx, ← hout]
          simp [List.flatMap_append]
    · subst el
      simp only [↓x_seq, ↓x_next, ↓x_asg, ↓x_ret, ↓x_exp, ↓x_if, ↓x_cmp, ↓x_andE, ↓x_orE, ↓x_notE, ↓x_ifE, ↓x_truB, ↓x_isB, ↓x_eqB, ↓x_neB, ↓x_tupL, ↓x_lenLL, ↓x_item0, ↓x_item1, ↓x_item2, ↓x_item3, ↓x_tTrue, ↓x_iTmp, ↓x_enum, ↓x_gtup, ↓x_gcons, ↓x_gnil, ↓x_slice, ↓x_none, ↓x_some, ↓x_val, ↓x_not, ↓x_and, ↓x_or, ↓x_gvar, ↓x_gsub, ↓x_var, ↓x_con, ↓x_c1, ↓x_c2, ↓x_call, ↓x_nil, ↓x_cons, ↓x_tup, ↓x_disp, ↓x_keep, ↓x_tmp, ↓x_comp, ↓x_for, ↓x_rng, ↓x_iseq, ↓x_add, ↓x_sub, ↓x_mul, ↓x_div, ↓x_mod, ↓x_lt, ↓x_le, ↓x_gt, ↓x_ge, ↓x_eq, ↓x_ne, ↓x_subsT, ↓x_subsL, ↓x_subsR, ↓x_lenT, ↓x_lenL, ↓x_lenR, ↓x_intB, ↓x_intI, ↓x_setR, ↓x_retF, ↓x_nextF, ↓wp_run, ↓wp_ret, ↓wp_chk, ↓wp_alloc, andB_t, andB_f, andB_or, andB_and, decide_eq_true_eq, List.replicate_succ, List.replicate_zero, Option.join_some, List.map_cons, List.map_nil, List.cons_append, List.nil_append, List.replicate, List.getElem?_cons_zero, List.getElem?_cons_succ, List.set_cons_zero, List.set_cons_succ, List.length_cons, List.length_nil, Nat.reduceAdd, Nat.reduceSub, ge_iff_le, Int.reduceLE, Int.reduceLT, if_true, if_false, and_true, true_and, beq_iff_eq, ↓x_chain, ↓x_append, ↓x_clear, ↓x_pop, ↓x_reverse, ↓x_back, ↓x_listT, ↓x_listR, ↓x_tupleT, ↓x_tupleR, ↓x_isntB, ↓x_isB2, ↓x_inTu, ↓x_eqStr, ↓x_neStr, ↓x_isiL, ↓x_isiT, ↓x_isiI, ↓x_isiB, ↓x_isiBN, ↓x_neg, ↓x_min2, ↓x_max2, ↓x_rng2, ↓x_shl, ↓x_addT, ↓x_tmpSub, ↓x_inTmp, ite_t, ite_f, Bool.not_true, Bool.not_false]
      refine ⟨s'.length, _, _, _, rfl, hsl, ?_, a3⟩
      rw [a2]
      unfold inpD
      rw [List.length_map, List.take_length]; rfl
  · subst el
    simp only [↓x_seq, ↓x_next, ↓x_asg, ↓x_ret, ↓x_exp, ↓x_if, ↓x_cmp, ↓x_andE, ↓x_orE, ↓x_notE, ↓x_ifE, ↓x_truB, ↓x_isB, ↓x_eqB, ↓x_neB, ↓x_tupL, ↓x_lenLL, ↓x_item0, ↓x_item1, ↓x_item2, ↓x_item3, ↓x_tTrue, ↓x_iTmp, ↓x_enum, ↓x_gtup, ↓x_gcons, ↓x_gnil, ↓x_slice, ↓x_none, ↓x_some, ↓x_val, ↓x_not, ↓x_and, ↓x_or, ↓x_gvar, ↓x_gsub, ↓x_var, ↓x_con, ↓x_c1, ↓x_c2, ↓x_call, ↓x_nil, ↓x_cons, ↓x_tup, ↓x_disp, ↓x_keep, ↓x_tmp, ↓x_comp, ↓x_for, ↓x_rng, ↓x_iseq, ↓x_add, ↓x_sub, ↓x_mul, ↓x_div, ↓x_mod, ↓x_lt, ↓x_le, ↓x_gt, ↓x_ge, ↓x_eq, ↓x_ne, ↓x_subsT, ↓x_subsL, ↓x_subsR, ↓x_lenT, ↓x_lenL, ↓x_lenR, ↓x_intB, ↓x_intI, ↓x_setR, ↓x_retF, ↓x_nextF, ↓wp_run, ↓wp_ret, ↓wp_chk, ↓wp_alloc, andB_t, andB_f, andB_or, andB_and, decide_eq_true_eq, List.replicate_succ, List.replicate_zero, Option.join_some, List.map_cons, List.map_nil, List.cons_append, List.nil_append, List.replicate, List.getElem?_cons_zero, List.getElem?_cons_succ, List.set_cons_zero, List.set_cons_succ, List.length_cons, List.length_nil, Nat.reduceAdd, Nat.reduceSub, ge_iff_le, Int.reduceLE, Int.reduceLT, if_true, if_false, and_true, true_and, beq_iff_eq, ↓x_chain, ↓x_append, ↓x_clear, ↓x_pop, ↓x_reverse, ↓x_back, ↓x_listT, ↓x_listR, ↓x_tupleT, ↓x_tupleR, ↓x_isntB, ↓x_isB2, ↓x_inTu, ↓x_eqStr, ↓x_neStr, ↓x_isiL, ↓x_isiT, ↓x_isiI, ↓x_isiB, ↓x_isiBN, ↓x_neg, ↓x_min2, ↓x_max2, ↓x_rng2, ↓x_shl, ↓x_addT, ↓x_tmpSub, ↓x_inTmp, ite_t, ite_f, Bool.not_true, Bool.not_false]
    exact hq n s' hn' g ex
theorem law_inputs_ok {n : Nat} (hn : n = 2 ∨ n = 3) (hq : ∀ p s', s.length ≤ p → s'[p]? = some (.lst (inpD n)) → Ext s s' → Q (.ref p) s') : wp (m_law_inputs [.int n]) Q s := by
  have l0 : 0 ≤ lim := Nat.zero_le _
  have k1 : ((0 : Int) ≤ (n : Nat) ∧ ((n : Nat) : Int) ≤ 1000000 ∧ (1 : Int).natAbs < 2 ^ 64) := ⟨by omega, by omega, by decide⟩
  have k2 : (1 : Int) * 2 ^ n = ((2 ^ n : Nat) : Int) := by rcases hn with e | e <;> subst e <;> rfl
  have k3 : 2 ^ n ≤ 8 := by rcases hn with e | e <;> subst e <;> decide
  have k4 : (-(2 ^ 62) ≤ ((2 ^ n : Nat) : Int) ∧ ((2 ^ n : Nat) : Int) < 2 ^ 62) := by rcases hn with e | e <;> subst e <;> decide
  simp only [m_law_inputs, b_law_inputs, ↓x_seq, ↓x_next, ↓x_asg, ↓x_ret, ↓x_exp, ↓x_if, ↓x_cmp, ↓x_andE, ↓x_orE, ↓x_notE, ↓x_ifE, ↓x_truB, ↓x_isB, ↓x_eqB, ↓x_neB, ↓x_tupL, ↓x_lenLL, ↓x_item0, ↓x_item1, ↓x_item2, ↓x_item3, ↓x_tTrue, ↓x_iTmp, ↓x_enum, ↓x_gtup, ↓x_gcons, ↓x_gnil, ↓x_slice, ↓x_none, ↓x_some, ↓x_val, ↓x_not, ↓x_and, ↓x_or, ↓x_gvar, ↓x_gsub, ↓x_var, ↓x_con, ↓x_c1, ↓x_c2, ↓x_call, ↓x_nil, ↓x_cons, ↓x_tup, ↓x_disp, ↓x_keep, ↓x_tmp, ↓x_comp, ↓x_for, ↓x_rng, ↓x_iseq, ↓x_add, ↓x_sub, ↓x_mul, ↓x_div, ↓x_mod, ↓x_lt, ↓x_le, ↓x_gt, ↓x_ge, ↓x_eq, ↓x_ne, ↓x_subsT, ↓x_subsL, ↓x_subsR, ↓x_lenT, ↓x_lenL, ↓x_lenR, ↓x_intB, ↓x_intI, ↓x_setR, ↓x_retF, ↓x_nextF, ↓wp_run, ↓wp_ret, ↓wp_chk, ↓wp_alloc, andB_t, andB_f, andB_or, andB_and, decide_eq_true_eq, List.replicate_succ, List.replicate_zero, Option.join_some, List.map_cons, List.map_nil, List.cons_append, List.nil_append, List.replicate, List.getElem?_cons_zero, List.getElem?_cons_succ, List.set_cons_zero, List.set_cons_succ, List.length_cons, List.length_nil, Nat.reduceAdd, Nat.reduceSub, ge_iff_le, Int.reduceLE, Int.reduceLT, if_true, if_false, and_true, true_and, beq_iff_eq, ↓x_chain, ↓x_append, ↓x_clear, ↓x_pop, ↓x_reverse, ↓x_back, ↓x_listT, ↓x_listR, ↓x_tupleT, ↓x_tupleR, ↓x_isntB, ↓x_isB2, ↓x_inTu, ↓x_eqStr, ↓x_neStr, ↓x_isiL, ↓x_isiT, ↓x_isiI, ↓x_isiB, ↓x_isiBN, ↓x_neg, ↓x_min2, ↓x_max2, ↓x_rng2, ↓x_shl, ↓x_addT, ↓x_tmpSub, ↓x_inTmp, ite_t, ite_f, Bool.not_true, Bool.not_false, l0, k1, k2, k4, Int.toNat_natCast, rng_upto]
  refine wp_forR (n := 2 ^ n) (fun i l s' => ∃ x2, l = [some (.int n), some (.ref s.length), x2] ∧ s'[s.length]? = some (.lst (upto i fun N => .tup (upto n fun k => .int ((N : Int) / 2 ^ (n - 1 - k) % 2)))) ∧ Ext s s') (fun _ _ _ _ => trivial) ⟨_, rfl, by simp [upto], (Ext.refl _).snoc _⟩ (fun i l s' hi ⟨x2, el, g, ex⟩ => ?_) (fun l s' ⟨x2, el, g, ex⟩ => ?_)
  · subst el
    have hb : (-(2 ^ 62) ≤ (n : Int) ∧ (n : Int) < 2 ^ 62) := by omega
    have hl : n ≤ lim := lim_le (by omega)
    have w : ∀ Q s, wp (collect (gVar 0) tTrue (c2 modD (c2 fdivD (cVar 2) (c2 shlD (cCon (.int 1)) (c2 subD (c2 subD (cVar 1) (cCon (.int 1))) (cVar 0)))) (cCon (.int 2))) anySt (upto n fun k => .int k) [none, some (.int n), some (.int i)]) Q s = Q (upto n fun k => .int ((i : Int) / 2 ^ (n - 1 - k) % 2)) s := fun Q s => pure_compR any_st fun k hk Q => by
      have d1 : ((n : Int) - 1 - (k : Int)).toNat = n - 1 - k := by omega
      have d2 : ((0 : Int) ≤ (n : Int) - 1 - (k : Int) ∧ (n : Int) - 1 - (k : Int) ≤ 1000000 ∧ (1 : Int).natAbs < 2 ^ 64) := ⟨by omega, by omega, by decide⟩
      have d3 : ((0 : Int) < 1 * 2 ^ (n - 1 - k) ∧ (1 : Int) * 2 ^ (n - 1 - k) < 1073741824) := by
        have h4 : n - 1 - k = 0 ∨ n - 1 - k = 1 ∨ n - 1 - k = 2 := by omega
        rcases h4 with e | e | e <;> rw [e] <;> decide
      have d4 : (0 : Int) < 2 := by omega
      simp only [↓x_seq, ↓x_next, ↓x_asg, ↓x_ret, ↓x_exp, ↓x_if, ↓x_cmp, ↓x_andE, ↓x_orE, ↓x_notE, ↓x_ifE, ↓x_truB, ↓x_isB, ↓x_eqB, ↓x_neB, ↓x_tupL, ↓x_lenLL, ↓x_item0, ↓x_item1, ↓x_item2, ↓x_item3, ↓x_tTrue, ↓x_iTmp, ↓x_enum, ↓x_gtup, ↓x_gcons, ↓x_gnil, ↓x_slice, ↓x_none, ↓x_some, ↓x_val, ↓x_not, ↓x_and, ↓x_or, ↓x_gvar, ↓x_gsub, ↓x_var, ↓x_con, ↓x_c1, ↓x_c2, ↓x_call, ↓x_nil, ↓x_cons, ↓x_tup, ↓x_disp, ↓x_keep, ↓x_tmp, ↓x_comp, ↓x_for, ↓x_rng, ↓x_iseq, ↓x_add, ↓x_sub, ↓x_mul, ↓x_div, ↓x_mod, ↓x_lt, ↓x_le, ↓x_gt, ↓x_ge, ↓x_eq, ↓x_ne, ↓x_subsT, ↓x_subsL, ↓x_subsR, ↓x_lenT, ↓x_lenL, ↓x_lenR, ↓x_intB, ↓x_intI, ↓x_setR, ↓x_retF, ↓x_nextF, ↓wp_run, ↓wp_ret, ↓wp_chk, ↓wp_alloc, andB_t, andB_f, andB_or, andB_and, decide_eq_true_eq, List.replicate_succ, List.replicate_zero, Option.join_some, List.map_cons, List.map_nil, List.cons_append, List.nil_append, List.replicate, List.getElem?_cons_zero, List.getElem?_cons_succ, List.set_cons_zero, List.set_cons_succ, List.length_cons, List.length_nil, Nat.reduceAdd, Nat.reduceSub, ge_iff_le, Int.reduceLE, Int.reduceLT, if_true, if_false, and_true, true_and, beq_iff_eq, ↓x_chain, ↓x_append, ↓x_clear, ↓x_pop, ↓x_reverse, ↓x_back, ↓x_listT, ↓x_listR, ↓x_tupleT, ↓x_tupleR, ↓x_isntB, ↓x_isB2, ↓x_inTu, ↓x_eqStr, ↓x_neStr, ↓x_isiL, ↓x_isiT, ↓x_isiI, ↓x_isiB, ↓x_isiBN, ↓x_neg, ↓x_min2, ↓x_max2, ↓x_rng2, ↓x_shl, ↓x_addT, ↓x_tmpSub, ↓x_inTmp, ite_t, ite_f, Bool.not_true, Bool.not_false, d1, d2, d3, d4, Int.one_mul]
      have d5 : ((0 : Int) < 2 ^ (n - 1 - k) ∧ (2 : Int) ^ (n - 1 - k) < 1073741824) := by rw [Int.one_mul] at d3; exact d3
      simp only [d5, and_self, true_and]
    have q2 : ∀ Q, wp (getL s.length) Q s' = Q (upto i fun N => .tup (upto n fun k => .int ((N : Int) / 2 ^ (n - 1 - k) % 2))) s' := fun Q => wp_getL g
    have q3 : ∀ es Q, wp (putL s.length es) Q s' = Q () (s'.set s.length (.lst es)) := fun es Q => wp_putL g
    have m2 : i < lim := lim_lt (by omega)
    simp only [↓x_seq, ↓x_next, ↓x_asg, ↓x_ret, ↓x_exp, ↓x_if, ↓x_cmp, ↓x_andE, ↓x_orE, ↓x_notE, ↓x_ifE, ↓x_truB, ↓x_isB, ↓x_eqB, ↓x_neB, ↓x_tupL, ↓x_lenLL, ↓x_item0, ↓x_item1, ↓x_item2, ↓x_item3, ↓x_tTrue, ↓x_iTmp, ↓x_enum, ↓x_gtup, ↓x_gcons, ↓x_gnil, ↓x_slice, ↓x_none, ↓x_some, ↓x_val, ↓x_not, ↓x_and, ↓x_or, ↓x_gvar, ↓x_gsub, ↓x_var, ↓x_con, ↓x_c1, ↓x_c2, ↓x_call, ↓x_nil, ↓x_cons, ↓x_tup, ↓x_disp, ↓x_keep, ↓x_tmp, ↓x_comp, ↓x_for, ↓x_rng, ↓x_iseq, ↓x_add, ↓x_sub, ↓x_mul, ↓x_div, ↓x_mod, ↓x_lt, ↓x_le, ↓x_gt, ↓x_ge, ↓x_eq, ↓x_ne, ↓x_subsT, ↓x_subsL, ↓x_subsR, ↓x_lenT, ↓x_lenL, ↓x_lenR, ↓x_intB, ↓x_intI, ↓x_setR, ↓x_retF, ↓x_nextF, ↓wp_run, ↓wp_ret, ↓wp_chk, ↓wp_alloc, andB_t, andB_f, andB_or, andB_and, decide_eq_true_eq, List.replicate_succ, List.replicate_zero, Option.join_some, List.map_cons, List.map_nil, List.cons_append, List.nil_append, List.replicate, List.getElem?_cons_zero, List.getElem?_cons_succ, List.set_cons_zero, List.set_cons_succ, List.length_cons, List.length_nil, Nat.reduceAdd, Nat.reduceSub, ge_iff_le, Int.reduceLE, Int.reduceLT, if_true, if_false, and_true, true_and, beq_iff_eq, ↓x_chain, ↓x_append, ↓x_clear, ↓x_pop, ↓x_reverse, ↓x_back, ↓x_listT, ↓x_listR, ↓x_tupleT, ↓x_tupleR, ↓x_isntB, ↓x_isB2, ↓x_inTu, ↓x_eqStr, ↓x_neStr, ↓x_isiL, ↓x_isiT, ↓x_isiI, ↓x_isiB, ↓x_isiBN, ↓x_neg, ↓x_min2, ↓x_max2, ↓x_rng2, ↓x_shl, ↓x_addT, ↓x_tmpSub, ↓x_inTmp, ite_t, ite_f, Bool.not_true, Bool.not_false, capt, hb, hl, Int.toNat_natCast, rng_upto, upto_len, ↓w, ↓q2, ↓q3, m2]
    refine ⟨_, rfl, ?_, ex.put (Nat.le_refl _)⟩
    rw [List.getElem?_set_self (lt_of_at g), upto_succ]
  · subst el
    simp only [↓x_seq, ↓x_next, ↓x_asg, ↓x_ret, ↓x_exp, ↓x_if, ↓x_cmp, ↓x_andE, ↓x_orE, ↓x_notE, ↓x_ifE, ↓x_truB, ↓x_isB, ↓x_eqB, ↓x_neB, ↓x_tupL, ↓x_lenLL, ↓x_item0, ↓x_item1, ↓x_item2, ↓x_item3, ↓x_tTrue, ↓x_iTmp, ↓x_enum, ↓x_gtup, ↓x_gcons, ↓x_gnil, ↓x_slice, ↓x_none, ↓x_some, ↓x_val, ↓x_not, ↓x_and, ↓x_or, ↓x_gvar, ↓x_gsub, ↓x_var, ↓x_con, ↓x_c1, ↓x_c2, ↓x_call, ↓x_nil, ↓x_cons, ↓x_tup, ↓x_disp, ↓x_keep, ↓x_tmp, ↓x_comp, ↓x_for, ↓x_rng, ↓x_iseq, ↓x_add, ↓x_sub, ↓x_mul, ↓x_div, ↓x_mod, ↓x_lt, ↓x_le, ↓x_gt, ↓x_ge, ↓x_eq, ↓x_ne, ↓x_subsT, ↓x_subsL, ↓x_subsR, ↓x_lenT, ↓x_lenL, ↓x_lenR, ↓x_intB, ↓x_intI, ↓x_setR, ↓x_retF, ↓x_nextF, ↓wp_run, ↓wp_ret, ↓wp_chk, ↓wp_alloc, andB_t, andB_f, andB_or, andB_and, decide_eq_true_eq, List.replicate_succ, List.replicate_zero, Option.join_some, List.map_cons, List.map_nil, List.cons_append, List.nil_append, List.replicate, List.getElem?_cons_zero, List.getElem?_cons_succ, List.set_cons_zero, List.set_cons_succ, List.length_cons, List.length_nil, Nat.reduceAdd, Nat.reduceSub, ge_iff_le, Int.reduceLE, Int.reduceLT, if_true, if_false, and_true, true_and, beq_iff_eq, ↓x_chain, ↓x_append, ↓x_clear, ↓x_pop, ↓x_reverse, ↓x_back, ↓x_listT, ↓x_listR, ↓x_tupleT, ↓x_tupleR, ↓x_isntB, ↓x_isB2, ↓x_inTu, ↓x_eqStr, ↓x_neStr, ↓x_isiL, ↓x_isiT, ↓x_isiI, ↓x_isiB, ↓x_isiBN, ↓x_neg, ↓x_min2, ↓x_max2, ↓x_rng2, ↓x_shl, ↓x_addT, ↓x_tmpSub, ↓x_inTmp, ite_t, ite_f, Bool.not_true, Bool.not_false]
    refine hq _ s' (Nat.le_refl _) ?_ ex
    rw [g]
    congr 2
    rcases hn with e | e <;> subst e <;> rfl

theorem whole_ok {i : Int} : wp (m_law_whole [.int i]) Q s = Q (.bl true) s := by
  simp only [m_law_whole, b_law_whole, ↓x_seq, ↓x_next, ↓x_asg, ↓x_ret, ↓x_exp, ↓x_if, ↓x_cmp, ↓x_andE, ↓x_orE, ↓x_notE, ↓x_ifE, ↓x_truB, ↓x_isB, ↓x_eqB, ↓x_neB, ↓x_tupL, ↓x_lenLL, ↓x_item0, ↓x_item1, ↓x_item2, ↓x_item3, ↓x_tTrue, ↓x_iTmp, ↓x_enum, ↓x_gtup, ↓x_gcons, ↓x_gnil, ↓x_slice, ↓x_none, ↓x_some, ↓x_val, ↓x_not, ↓x_and, ↓x_or, ↓x_gvar, ↓x_gsub, ↓x_var, ↓x_con, ↓x_c1, ↓x_c2, ↓x_call, ↓x_nil, ↓x_cons, ↓x_tup, ↓x_disp, ↓x_keep, ↓x_tmp, ↓x_comp, ↓x_for, ↓x_rng, ↓x_iseq, ↓x_add, ↓x_sub, ↓x_mul, ↓x_div, ↓x_mod, ↓x_lt, ↓x_le, ↓x_gt, ↓x_ge, ↓x_eq, ↓x_ne, ↓x_subsT, ↓x_subsL, ↓x_subsR, ↓x_lenT, ↓x_lenL, ↓x_lenR, ↓x_intB, ↓x_intI, ↓x_setR, ↓x_retF, ↓x_nextF, ↓wp_run, ↓wp_ret, ↓wp_chk, ↓wp_alloc, andB_t, andB_f, andB_or, andB_and, decide_eq_true_eq, List.replicate_succ, List.replicate_zero, Option.join_some, List.map_cons, List.map_nil, List.cons_append, List.nil_append, List.replicate, List.getElem?_cons_zero, List.getElem?_cons_succ, List.set_cons_zero, List.set_cons_succ, List.length_cons, List.length_nil, Nat.reduceAdd, Nat.reduceSub, ge_iff_le, Int.reduceLE, Int.reduceLT, if_true, if_false, and_true, true_and, beq_iff_eq, ↓x_chain, ↓x_append, ↓x_clear, ↓x_pop, ↓x_reverse, ↓x_back, ↓x_listT, ↓x_listR, ↓x_tupleT, ↓x_tupleR, ↓x_isntB, ↓x_isB2, ↓x_inTu, ↓x_eqStr, ↓x_neStr, ↓x_isiL, ↓x_isiT, ↓x_isiI, ↓x_isiB, ↓x_isiBN, ↓x_neg, ↓x_min2, ↓x_max2, ↓x_rng2, ↓x_shl, ↓x_addT, ↓x_tmpSub, ↓x_inTmp, ite_t, ite_f, Bool.not_true, Bool.not_false]
theorem inps_int : ∀ n, ∀ x ∈ inps n, ∀ d ∈ x, ∃ i : Int, d = .int i
  | 0, x, h => by simp [inps] at h; simp [h]
  | n + 1, x, h => by
    simp only [inps, List.mem_flatMap] at h
    obtain ⟨y, hy, hx⟩ := h
    have := inps_int n y hy
    simp at hx
    intro d hd
    rcases hx with e | e <;> subst e <;> rcases List.mem_append.mp hd with hd | hd <;> first | exact this d hd | exact ⟨_, List.mem_singleton.mp hd⟩
theorem right_ok {h : D} (hh : IsHouse h) : wp (m_law_right [h]) (fun d s' => d = .bl true ∧ Ext s s') s := by
  have hh0 := hh
  obtain ⟨boards, hands, e, hbl, hbd, hn1, hn2, hhs⟩ := hh
  simp only [m_law_right, b_law_right, ↓x_seq, ↓x_next, ↓x_asg, ↓x_ret, ↓x_exp, ↓x_if, ↓x_cmp, ↓x_andE, ↓x_orE, ↓x_notE, ↓x_ifE, ↓x_truB, ↓x_isB, ↓x_eqB, ↓x_neB, ↓x_tupL, ↓x_lenLL, ↓x_item0, ↓x_item1, ↓x_item2, ↓x_item3, ↓x_tTrue, ↓x_iTmp, ↓x_enum, ↓x_gtup, ↓x_gcons, ↓x_gnil, ↓x_slice, ↓x_none, ↓x_some, ↓x_val, ↓x_not, ↓x_and, ↓x_or, ↓x_gvar, ↓x_gsub, ↓x_var, ↓x_con, ↓x_c1, ↓x_c2, ↓x_call, ↓x_nil, ↓x_cons, ↓x_tup, ↓x_disp, ↓x_keep, ↓x_tmp, ↓x_comp, ↓x_for, ↓x_rng, ↓x_iseq, ↓x_add, ↓x_sub, ↓x_mul, ↓x_div, ↓x_mod, ↓x_lt, ↓x_le, ↓x_gt, ↓x_ge, ↓x_eq, ↓x_ne, ↓x_subsT, ↓x_subsL, ↓x_subsR, ↓x_lenT, ↓x_lenL, ↓x_lenR, ↓x_intB, ↓x_intI, ↓x_setR, ↓x_retF, ↓x_nextF, ↓wp_run, ↓wp_ret, ↓wp_chk, ↓wp_alloc, andB_t, andB_f, andB_or, andB_and, decide_eq_true_eq, List.replicate_succ, List.replicate_zero, Option.join_some, List.map_cons, List.map_nil, List.cons_append, List.nil_append, List.replicate, List.getElem?_cons_zero, List.getElem?_cons_succ, List.set_cons_zero, List.set_cons_succ, List.length_cons, List.length_nil, Nat.reduceAdd, Nat.reduceSub, ge_iff_le, Int.reduceLE, Int.reduceLT, if_true, if_false, and_true, true_and, beq_iff_eq, ↓x_chain, ↓x_append, ↓x_clear, ↓x_pop, ↓x_reverse, ↓x_back, ↓x_listT, ↓x_listR, ↓x_tupleT, ↓x_tupleR, ↓x_isntB, ↓x_isB2, ↓x_inTu, ↓x_eqStr, ↓x_neStr, ↓x_isiL, ↓x_isiT, ↓x_isiI, ↓x_isiB, ↓x_isiBN, ↓x_neg, ↓x_min2, ↓x_max2, ↓x_rng2, ↓x_shl, ↓x_addT, ↓x_tmpSub, ↓x_inTmp, ite_t, ite_f, Bool.not_true, Bool.not_false]
  refine look_ok hh0 fun s1 x1 => ?_
  have hs1 := x1.le
  simp only [↓x_seq, ↓x_next, ↓x_asg, ↓x_ret, ↓x_exp, ↓x_if, ↓x_cmp, ↓x_andE, ↓x_orE, ↓x_notE, ↓x_ifE, ↓x_truB, ↓x_isB, ↓x_eqB, ↓x_neB, ↓x_tupL, ↓x_lenLL, ↓x_item0, ↓x_item1, ↓x_item2, ↓x_item3, ↓x_tTrue, ↓x_iTmp, ↓x_enum, ↓x_gtup, ↓x_gcons, ↓x_gnil, ↓x_slice, ↓x_none, ↓x_some, ↓x_val, ↓x_not, ↓x_and, ↓x_or, ↓x_gvar, ↓x_gsub, ↓x_var, ↓x_con, ↓x_c1, ↓x_c2, ↓x_call, ↓x_nil, ↓x_cons, ↓x_tup, ↓x_disp, ↓x_keep, ↓x_tmp, ↓x_comp, ↓x_for, ↓x_rng, ↓x_iseq, ↓x_add, ↓x_sub, ↓x_mul, ↓x_div, ↓x_mod, ↓x_lt, ↓x_le, ↓x_gt, ↓x_ge, ↓x_eq, ↓x_ne, ↓x_subsT, ↓x_subsL, ↓x_subsR, ↓x_lenT, ↓x_lenL, ↓x_lenR, ↓x_intB, ↓x_intI, ↓x_setR, ↓x_retF, ↓x_nextF, ↓wp_run, ↓wp_ret, ↓wp_chk, ↓wp_alloc, andB_t, andB_f, andB_or, andB_and, decide_eq_true_eq, List.replicate_succ, List.replicate_zero, Option.join_some, List.map_cons, List.map_nil, List.cons_append, List.nil_append, List.replicate, List.getElem?_cons_zero, List.getElem?_cons_succ, List.set_cons_zero, List.set_cons_succ, List.length_cons, List.length_nil, Nat.reduceAdd, Nat.reduceSub, ge_iff_le, Int.reduceLE, Int.reduceLT, if_true, if_false, and_true, true_and, beq_iff_eq, ↓x_chain, ↓x_append, ↓x_clear, ↓x_pop, ↓x_reverse, ↓x_back, ↓x_listT, ↓x_listR, ↓x_tupleT, ↓x_tupleR, ↓x_isntB, ↓x_isB2, ↓x_inTu, ↓x_eqStr, ↓x_neStr, ↓x_isiL, ↓x_isiT, ↓x_isiI, ↓x_isiB, ↓x_isiBN, ↓x_neg, ↓x_min2, ↓x_max2, ↓x_rng2, ↓x_shl, ↓x_addT, ↓x_tmpSub, ↓x_inTmp, ite_t, ite_f, Bool.not_true, Bool.not_false, beq_self_eq_true, Bool.false_eq_true, if_false]
  rw [e]
  simp only [↓x_seq, ↓x_next, ↓x_asg, ↓x_ret, ↓x_exp, ↓x_if, ↓x_cmp, ↓x_andE, ↓x_orE, ↓x_notE, ↓x_ifE, ↓x_truB, ↓x_isB, ↓x_eqB, ↓x_neB, ↓x_tupL, ↓x_lenLL, ↓x_item0, ↓x_item1, ↓x_item2, ↓x_item3, ↓x_tTrue, ↓x_iTmp, ↓x_enum, ↓x_gtup, ↓x_gcons, ↓x_gnil, ↓x_slice, ↓x_none, ↓x_some, ↓x_val, ↓x_not, ↓x_and, ↓x_or, ↓x_gvar, ↓x_gsub, ↓x_var, ↓x_con, ↓x_c1, ↓x_c2, ↓x_call, ↓x_nil, ↓x_cons, ↓x_tup, ↓x_disp, ↓x_keep, ↓x_tmp, ↓x_comp, ↓x_for, ↓x_rng, ↓x_iseq, ↓x_add, ↓x_sub, ↓x_mul, ↓x_div, ↓x_mod, ↓x_lt, ↓x_le, ↓x_gt, ↓x_ge, ↓x_eq, ↓x_ne, ↓x_subsT, ↓x_subsL, ↓x_subsR, ↓x_lenT, ↓x_lenL, ↓x_lenR, ↓x_intB, ↓x_intI, ↓x_setR, ↓x_retF, ↓x_nextF, ↓wp_run, ↓wp_ret, ↓wp_chk, ↓wp_alloc, andB_t, andB_f, andB_or, andB_and, decide_eq_true_eq, List.replicate_succ, List.replicate_zero, Option.join_some, List.map_cons, List.map_nil, List.cons_append, List.nil_append, List.replicate, List.getElem?_cons_zero, List.getElem?_cons_succ, List.set_cons_zero, List.set_cons_succ, List.length_cons, List.length_nil, Nat.reduceAdd, Nat.reduceSub, ge_iff_le, Int.reduceLE, Int.reduceLT, if_true, if_false, and_true, true_and, beq_iff_eq, ↓x_chain, ↓x_append, ↓x_clear, ↓x_pop, ↓x_reverse, ↓x_back, ↓x_listT, ↓x_listR, ↓x_tupleT, ↓x_tupleR, ↓x_isntB, ↓x_isB2, ↓x_inTu, ↓x_eqStr, ↓x_neStr, ↓x_isiL, ↓x_isiT, ↓x_isiI, ↓x_isiB, ↓x_isiBN, ↓x_neg, ↓x_min2, ↓x_max2, ↓x_rng2, ↓x_shl, ↓x_addT, ↓x_tmpSub, ↓x_inTmp, ite_t, ite_f, Bool.not_true, Bool.not_false]
  have hn : hands.length = 2 ∨ hands.length = 3 := by omega
  refine law_inputs_ok hn fun p s2 hp g2 x2 => ?_
  have hs2 := x2.le
  have hb : (-(2 ^ 62) ≤ (2 : Int) ∧ (2 : Int) < 2 ^ 62) := by omega
  simp only [↓x_seq, ↓x_next, ↓x_asg, ↓x_ret, ↓x_exp, ↓x_if, ↓x_cmp, ↓x_andE, ↓x_orE, ↓x_notE, ↓x_ifE, ↓x_truB, ↓x_isB, ↓x_eqB, ↓x_neB, ↓x_tupL, ↓x_lenLL, ↓x_item0, ↓x_item1, ↓x_item2, ↓x_item3, ↓x_tTrue, ↓x_iTmp, ↓x_enum, ↓x_gtup, ↓x_gcons, ↓x_gnil, ↓x_slice, ↓x_none, ↓x_some, ↓x_val, ↓x_not, ↓x_and, ↓x_or, ↓x_gvar, ↓x_gsub, ↓x_var, ↓x_con, ↓x_c1, ↓x_c2, ↓x_call, ↓x_nil, ↓x_cons, ↓x_tup, ↓x_disp, ↓x_keep, ↓x_tmp, ↓x_comp, ↓x_for, ↓x_rng, ↓x_iseq, ↓x_add, ↓x_sub, ↓x_mul, ↓x_div, ↓x_mod, ↓x_lt, ↓x_le, ↓x_gt, ↓x_ge, ↓x_eq, ↓x_ne, ↓x_subsT, ↓x_subsL, ↓x_subsR, ↓x_lenT, ↓x_lenL, ↓x_lenR, ↓x_intB, ↓x_intI, ↓x_setR, ↓x_retF, ↓x_nextF, ↓wp_run, ↓wp_ret, ↓wp_chk, ↓wp_alloc, andB_t, andB_f, andB_or, andB_and, decide_eq_true_eq, List.replicate_succ, List.replicate_zero, Option.join_some, List.map_cons, List.map_nil, List.cons_append, List.nil_append, List.replicate, List.getElem?_cons_zero, List.getElem?_cons_succ, List.set_cons_zero, List.set_cons_succ, List.length_cons, List.length_nil, Nat.reduceAdd, Nat.reduceSub, ge_iff_le, Int.reduceLE, Int.reduceLT, if_true, if_false, and_true, true_and, beq_iff_eq, ↓x_chain, ↓x_append, ↓x_clear, ↓x_pop, ↓x_reverse, ↓x_back, ↓x_listT, ↓x_listR, ↓x_tupleT, ↓x_tupleR, ↓x_isntB, ↓x_isB2, ↓x_inTu, ↓x_eqStr, ↓x_neStr, ↓x_isiL, ↓x_isiT, ↓x_isiI, ↓x_isiB, ↓x_isiBN, ↓x_neg, ↓x_min2, ↓x_max2, ↓x_rng2, ↓x_shl, ↓x_addT, ↓x_tmpSub, ↓x_inTmp, ite_t, ite_f, Bool.not_true, Bool.not_false, hb]
  refine wp_forI (fun i l s' => ∃ y2 y3 y4, l = [some (.tup [.tup boards, .tup hands]), some (.ref p), y2, y3, y4] ∧ s'[p]? = some (.lst (inpD hands.length)) ∧ Ext s s') (fun _ _ _ _ => trivial) ⟨_, _, _, rfl, g2, x1.trans x2⟩ (fun i d l s' hd ⟨y2, y3, y4, el, g, ex⟩ => ?_) (fun l s' ⟨y2, y3, y4, el, g, ex⟩ => ?_)
  · subst el
    have hs' := ex.le
    simp only [↓x_seq, ↓x_next, ↓x_asg, ↓x_ret, ↓x_exp, ↓x_if, ↓x_cmp, ↓x_andE, ↓x_orE, ↓x_notE, ↓x_ifE, ↓x_truB, ↓x_isB, ↓x_eqB, ↓x_neB, ↓x_tupL, ↓x_lenLL, ↓x_item0, ↓x_item1, ↓x_item2, ↓x_item3, ↓x_tTrue, ↓x_iTmp, ↓x_enum, ↓x_gtup, ↓x_gcons, ↓x_gnil, ↓x_slice, ↓x_none, ↓x_some, ↓x_val, ↓x_not, ↓x_and, ↓x_or, ↓x_gvar, ↓x_gsub, ↓x_var, ↓x_con, ↓x_c1, ↓x_c2, ↓x_call, ↓x_nil, ↓x_cons, ↓x_tup, ↓x_disp, ↓x_keep, ↓x_tmp, ↓x_comp, ↓x_for, ↓x_rng, ↓x_iseq, ↓x_add, ↓x_sub, ↓x_mul, ↓x_div, ↓x_mod, ↓x_lt, ↓x_le, ↓x_gt, ↓x_ge, ↓x_eq, ↓x_ne, ↓x_subsT, ↓x_subsL, ↓x_subsR, ↓x_lenT, ↓x_lenL, ↓x_lenR, ↓x_intB, ↓x_intI, ↓x_setR, ↓x_retF, ↓x_nextF, ↓wp_run, ↓wp_ret, ↓wp_chk, ↓wp_alloc, andB_t, andB_f, andB_or, andB_and, decide_eq_true_eq, List.replicate_succ, List.replicate_zero, Option.join_some, List.map_cons, List.map_nil, List.cons_append, List.nil_append, List.replicate, List.getElem?_cons_zero, List.getElem?_cons_succ, List.set_cons_zero, List.set_cons_succ, List.length_cons, List.length_nil, Nat.reduceAdd, Nat.reduceSub, ge_iff_le, Int.reduceLE, Int.reduceLT, if_true, if_false, and_true, true_and, beq_iff_eq, ↓x_chain, ↓x_append, ↓x_clear, ↓x_pop, ↓x_reverse, ↓x_back, ↓x_listT, ↓x_listR, ↓x_tupleT, ↓x_tupleR, ↓x_isntB, ↓x_isB2, ↓x_inTu, ↓x_eqStr, ↓x_neStr, ↓x_isiL, ↓x_isiT, ↓x_isiI, ↓x_isiB, ↓x_isiBN, ↓x_neg, ↓x_min2, ↓x_max2, ↓x_rng2, ↓x_shl, ↓x_addT, ↓x_tmpSub, ↓x_inTmp, ite_t, ite_f, Bool.not_true, Bool.not_false]
    refine inputs_of_ok rfl hn2 fun q s3 hq g3 x3 => ?_
    have hpl := lt_of_at g
    have g3' : s3[p]? = some (.lst (inpD hands.length)) := x3.at_ g
    have hall : allF (eqF 50) (inpD hands.length) (inpD hands.length) = some true := by rcases hn with e | e <;> rw [e] <;> rfl
    have ng : ∀ Q, wp (neD (.ref q) (.ref p)) Q s3 = Q (.bl false) s3 := fun Q => by
      unfold neD eqB
      rw [wp_bnd, wp_bnd, wp_getL g3, wp_bnd, wp_getL g3', if_pos rfl, hall]
      dsimp only
      rw [wp_ret, wp_ret]; rfl
    have q1 : ∀ Q, wp (getL q) Q s3 = Q (inpD hands.length) s3 := fun Q => wp_getL g3
    simp only [↓x_seq, ↓x_next, ↓x_asg, ↓x_ret, ↓x_exp, ↓x_if, ↓x_cmp, ↓x_andE, ↓x_orE, ↓x_notE, ↓x_ifE, ↓x_truB, ↓x_isB, ↓x_eqB, ↓x_neB, ↓x_tupL, ↓x_lenLL, ↓x_item0, ↓x_item1, ↓x_item2, ↓x_item3, ↓x_tTrue, ↓x_iTmp, ↓x_enum, ↓x_gtup, ↓x_gcons, ↓x_gnil, ↓x_slice, ↓x_none, ↓x_some, ↓x_val, ↓x_not, ↓x_and, ↓x_or, ↓x_gvar, ↓x_gsub, ↓x_var, ↓x_con, ↓x_c1, ↓x_c2, ↓x_call, ↓x_nil, ↓x_cons, ↓x_tup, ↓x_disp, ↓x_keep, ↓x_tmp, ↓x_comp, ↓x_for, ↓x_rng, ↓x_iseq, ↓x_add, ↓x_sub, ↓x_mul, ↓x_div, ↓x_mod, ↓x_lt, ↓x_le, ↓x_gt, ↓x_ge, ↓x_eq, ↓x_ne, ↓x_subsT, ↓x_subsL, ↓x_subsR, ↓x_lenT, ↓x_lenL, ↓x_lenR, ↓x_intB, ↓x_intI, ↓x_setR, ↓x_retF, ↓x_nextF, ↓wp_run, ↓wp_ret, ↓wp_chk, ↓wp_alloc, andB_t, andB_f, andB_or, andB_and, decide_eq_true_eq, List.replicate_succ, List.replicate_zero, Option.join_some, List.map_cons, List.map_nil, List.cons_append, List.nil_append, List.replicate, List.getElem?_cons_zero, List.getElem?_cons_succ, List.set_cons_zero, List.set_cons_succ, List.length_cons, List.length_nil, Nat.reduceAdd, Nat.reduceSub, ge_iff_le, Int.reduceLE, Int.reduceLT, if_true, if_false, and_true, true_and, beq_iff_eq, ↓x_chain, ↓x_append, ↓x_clear, ↓x_pop, ↓x_reverse, ↓x_back, ↓x_listT, ↓x_listR, ↓x_tupleT, ↓x_tupleR, ↓x_isntB, ↓x_isB2, ↓x_inTu, ↓x_eqStr, ↓x_neStr, ↓x_isiL, ↓x_isiT, ↓x_isiI, ↓x_isiB, ↓x_isiBN, ↓x_neg, ↓x_min2, ↓x_max2, ↓x_rng2, ↓x_shl, ↓x_addT, ↓x_tmpSub, ↓x_inTmp, ite_t, ite_f, Bool.not_true, Bool.not_false, ↓ng, ↓q1, Bool.false_eq_true, if_false]
    refine wp_forI (fun j l s4 => ∃ y4, l = [some (.tup [.tup boards, .tup hands]), some (.ref p), some d, some (.ref q), y4] ∧ s4 = s3) (fun _ _ _ ⟨_, _, e⟩ => by rw [e]; exact g3) ⟨_, rfl, rfl⟩ (fun j d2 l s4 hd2 ⟨y4, el, es⟩ => ?_) (fun l s4 ⟨y4, el, es⟩ => ?_)
    · subst el
      subst es
      unfold inpD at hd2
      rw [List.getElem?_map] at hd2
      cases hx : (inps hands.length)[j]? with
      | none => rw [hx] at hd2; cases hd2
      | some x =>
        rw [hx] at hd2
        have ed : d2 = .tup x := (Option.some.inj hd2).symm
        subst ed
        have hxl := inps_len _ x (List.mem_of_getElem? hx)
        have w : ∀ Q s, wp (collect (gVar 0) tTrue (cCall m_law_whole (cCons (cVar 0) cNil)) anySt x [none]) Q s = Q (upto x.length fun _ => .bl true) s := fun Q s => pure_comp any_st fun i d hd Q => by
          obtain ⟨v, ev⟩ := inps_int _ x (List.mem_of_getElem? hx) d (List.mem_of_getElem? hd)
          subst ev
          have wq : ∀ Q s, wp (m_law_whole [.int v]) Q s = Q (.bl true) s := fun Q s => whole_ok
          simp only [↓x_seq, ↓x_next, ↓x_asg, ↓x_ret, ↓x_exp, ↓x_if, ↓x_cmp, ↓x_andE, ↓x_orE, ↓x_notE, ↓x_ifE, ↓x_truB, ↓x_isB, ↓x_eqB, ↓x_neB, ↓x_tupL, ↓x_lenLL, ↓x_item0, ↓x_item1, ↓x_item2, ↓x_item3, ↓x_tTrue, ↓x_iTmp, ↓x_enum, ↓x_gtup, ↓x_gcons, ↓x_gnil, ↓x_slice, ↓x_none, ↓x_some, ↓x_val, ↓x_not, ↓x_and, ↓x_or, ↓x_gvar, ↓x_gsub, ↓x_var, ↓x_con, ↓x_c1, ↓x_c2, ↓x_call, ↓x_nil, ↓x_cons, ↓x_tup, ↓x_disp, ↓x_keep, ↓x_tmp, ↓x_comp, ↓x_for, ↓x_rng, ↓x_iseq, ↓x_add, ↓x_sub, ↓x_mul, ↓x_div, ↓x_mod, ↓x_lt, ↓x_le, ↓x_gt, ↓x_ge, ↓x_eq, ↓x_ne, ↓x_subsT, ↓x_subsL, ↓x_subsR, ↓x_lenT, ↓x_lenL, ↓x_lenR, ↓x_intB, ↓x_intI, ↓x_setR, ↓x_retF, ↓x_nextF, ↓wp_run, ↓wp_ret, ↓wp_chk, ↓wp_alloc, andB_t, andB_f, andB_or, andB_and, decide_eq_true_eq, List.replicate_succ, List.replicate_zero, Option.join_some, List.map_cons, List.map_nil, List.cons_append, List.nil_append, List.replicate, List.getElem?_cons_zero, List.getElem?_cons_succ, List.set_cons_zero, List.set_cons_succ, List.length_cons, List.length_nil, Nat.reduceAdd, Nat.reduceSub, ge_iff_le, Int.reduceLE, Int.reduceLT, if_true, if_false, and_true, true_and, beq_iff_eq, ↓x_chain, ↓x_append, ↓x_clear, ↓x_pop, ↓x_reverse, ↓x_back, ↓x_listT, ↓x_listR, ↓x_tupleT, ↓x_tupleR, ↓x_isntB, ↓x_isB2, ↓x_inTu, ↓x_eqStr, ↓x_neStr, ↓x_isiL, ↓x_isiT, ↓x_isiI, ↓x_isiB, ↓x_isiBN, ↓x_neg, ↓x_min2, ↓x_max2, ↓x_rng2, ↓x_shl, ↓x_addT, ↓x_tmpSub, ↓x_inTmp, ite_t, ite_f, Bool.not_true, Bool.not_false, ↓wq]
        have hl : x.length ≤ lim := lim_le (by omega)
        simp only [↓x_seq, ↓x_next, ↓x_asg, ↓x_ret, ↓x_exp, ↓x_if, ↓x_cmp, ↓x_andE, ↓x_orE, ↓x_notE, ↓x_ifE, ↓x_truB, ↓x_isB, ↓x_eqB, ↓x_neB, ↓x_tupL, ↓x_lenLL, ↓x_item0, ↓x_item1, ↓x_item2, ↓x_item3, ↓x_tTrue, ↓x_iTmp, ↓x_enum, ↓x_gtup, ↓x_gcons, ↓x_gnil, ↓x_slice, ↓x_none, ↓x_some, ↓x_val, ↓x_not, ↓x_and, ↓x_or, ↓x_gvar, ↓x_gsub, ↓x_var, ↓x_con, ↓x_c1, ↓x_c2, ↓x_call, ↓x_nil, ↓x_cons, ↓x_tup, ↓x_disp, ↓x_keep, ↓x_tmp, ↓x_comp, ↓x_for, ↓x_rng, ↓x_iseq, ↓x_add, ↓x_sub, ↓x_mul, ↓x_div, ↓x_mod, ↓x_lt, ↓x_le, ↓x_gt, ↓x_ge, ↓x_eq, ↓x_ne, ↓x_subsT, ↓x_subsL, ↓x_subsR, ↓x_lenT, ↓x_lenL, ↓x_lenR, ↓x_intB, ↓x_intI, ↓x_setR, ↓x_retF, ↓x_nextF, ↓wp_run, ↓wp_ret, ↓wp_chk, ↓wp_alloc, andB_t, andB_f, andB_or, andB_and, decide_eq_true_eq, List.replicate_succ, List.replicate_zero, Option.join_some, List.map_cons, List.map_nil, List.cons_append, List.nil_append, List.replicate, List.getElem?_cons_zero, List.getElem?_cons_succ, List.set_cons_zero, List.set_cons_succ, List.length_cons, List.length_nil, Nat.reduceAdd, Nat.reduceSub, ge_iff_le, Int.reduceLE, Int.reduceLT, if_true, if_false, and_true, true_and, beq_iff_eq, ↓x_chain, ↓x_append, ↓x_clear, ↓x_pop, ↓x_reverse, ↓x_back, ↓x_listT, ↓x_listR, ↓x_tupleT, ↓x_tupleR, ↓x_isntB, ↓x_isB2, ↓x_inTu, ↓x_eqStr, ↓x_neStr, ↓x_isiL, ↓x_isiT, ↓x_isiI, ↓x_isiB, ↓x_isiBN, ↓x_neg, ↓x_min2, ↓x_max2, ↓x_rng2, ↓x_shl, ↓x_addT, ↓x_tmpSub, ↓x_inTmp, ite_t, ite_f, Bool.not_true, Bool.not_false, capt, ↓w, ↓all_true, hl, Bool.false_eq_true, if_false]
        exact ⟨_, rfl⟩
    · subst el
      subst es
      have q3 : ∀ es Q, wp (putL q es) Q s4 = Q () (s4.set q (.lst es)) := fun es Q => wp_putL g3
      simp only [↓x_seq, ↓x_next, ↓x_asg, ↓x_ret, ↓x_exp, ↓x_if, ↓x_cmp, ↓x_andE, ↓x_orE, ↓x_notE, ↓x_ifE, ↓x_truB, ↓x_isB, ↓x_eqB, ↓x_neB, ↓x_tupL, ↓x_lenLL, ↓x_item0, ↓x_item1, ↓x_item2, ↓x_item3, ↓x_tTrue, ↓x_iTmp, ↓x_enum, ↓x_gtup, ↓x_gcons, ↓x_gnil, ↓x_slice, ↓x_none, ↓x_some, ↓x_val, ↓x_not, ↓x_and, ↓x_or, ↓x_gvar, ↓x_gsub, ↓x_var, ↓x_con, ↓x_c1, ↓x_c2, ↓x_call, ↓x_nil, ↓x_cons, ↓x_tup, ↓x_disp, ↓x_keep, ↓x_tmp, ↓x_comp, ↓x_for, ↓x_rng, ↓x_iseq, ↓x_add, ↓x_sub, ↓x_mul, ↓x_div, ↓x_mod, ↓x_lt, ↓x_le, ↓x_gt, ↓x_ge, ↓x_eq, ↓x_ne, ↓x_subsT, ↓x_subsL, ↓x_subsR, ↓x_lenT, ↓x_lenL, ↓x_lenR, ↓x_intB, ↓x_intI, ↓x_setR, ↓x_retF, ↓x_nextF, ↓wp_run, ↓wp_ret, ↓wp_chk, ↓wp_alloc, andB_t, andB_f, andB_or, andB_and, decide_eq_true_eq, List.replicate_succ, List.replicate_zero, Option.join_some, List.map_cons, List.map_nil, List.cons_append, List.nil_append, List.replicate, List.getElem?_cons_zero, List.getElem?_cons_succ, List.set_cons_zero, List.set_cons_succ, List.length_cons, List.length_nil, Nat.reduceAdd, Nat.reduceSub, ge_iff_le, Int.reduceLE, Int.reduceLT, if_true, if_false, and_true, true_and, beq_iff_eq, ↓x_chain, ↓x_append, ↓x_clear, ↓x_pop, ↓x_reverse, ↓x_back, ↓x_listT, ↓x_listR, ↓x_tupleT, ↓x_tupleR, ↓x_isntB, ↓x_isB2, ↓x_inTu, ↓x_eqStr, ↓x_neStr, ↓x_isiL, ↓x_isiT, ↓x_isiI, ↓x_isiB, ↓x_isiBN, ↓x_neg, ↓x_min2, ↓x_max2, ↓x_rng2, ↓x_shl, ↓x_addT, ↓x_tmpSub, ↓x_inTmp, ite_t, ite_f, Bool.not_true, Bool.not_false, ↓q3]
      exact ⟨_, _, _, rfl, by rw [List.getElem?_set_ne (by omega)]; exact g3', (ex.trans x3).put (by omega)⟩
  · subst el
    simp only [↓x_seq, ↓x_next, ↓x_asg, ↓x_ret, ↓x_exp, ↓x_if, ↓x_cmp, ↓x_andE, ↓x_orE, ↓x_notE, ↓x_ifE, ↓x_truB, ↓x_isB, ↓x_eqB, ↓x_neB, ↓x_tupL, ↓x_lenLL, ↓x_item0, ↓x_item1, ↓x_item2, ↓x_item3, ↓x_tTrue, ↓x_iTmp, ↓x_enum, ↓x_gtup, ↓x_gcons, ↓x_gnil, ↓x_slice, ↓x_none, ↓x_some, ↓x_val, ↓x_not, ↓x_and, ↓x_or, ↓x_gvar, ↓x_gsub, ↓x_var, ↓x_con, ↓x_c1, ↓x_c2, ↓x_call, ↓x_nil, ↓x_cons, ↓x_tup, ↓x_disp, ↓x_keep, ↓x_tmp, ↓x_comp, ↓x_for, ↓x_rng, ↓x_iseq, ↓x_add, ↓x_sub, ↓x_mul, ↓x_div, ↓x_mod, ↓x_lt, ↓x_le, ↓x_gt, ↓x_ge, ↓x_eq, ↓x_ne, ↓x_subsT, ↓x_subsL, ↓x_subsR, ↓x_lenT, ↓x_lenL, ↓x_lenR, ↓x_intB, ↓x_intI, ↓x_setR, ↓x_retF, ↓x_nextF, ↓wp_run, ↓wp_ret, ↓wp_chk, ↓wp_alloc, andB_t, andB_f, andB_or, andB_and, decide_eq_true_eq, List.replicate_succ, List.replicate_zero, Option.join_some, List.map_cons, List.map_nil, List.cons_append, List.nil_append, List.replicate, List.getElem?_cons_zero, List.getElem?_cons_succ, List.set_cons_zero, List.set_cons_succ, List.length_cons, List.length_nil, Nat.reduceAdd, Nat.reduceSub, ge_iff_le, Int.reduceLE, Int.reduceLT, if_true, if_false, and_true, true_and, beq_iff_eq, ↓x_chain, ↓x_append, ↓x_clear, ↓x_pop, ↓x_reverse, ↓x_back, ↓x_listT, ↓x_listR, ↓x_tupleT, ↓x_tupleR, ↓x_isntB, ↓x_isB2, ↓x_inTu, ↓x_eqStr, ↓x_neStr, ↓x_isiL, ↓x_isiT, ↓x_isiI, ↓x_isiB, ↓x_isiBN, ↓x_neg, ↓x_min2, ↓x_max2, ↓x_rng2, ↓x_shl, ↓x_addT, ↓x_tmpSub, ↓x_inTmp, ite_t, ite_f, Bool.not_true, Bool.not_false]
    exact ex
theorem law_wp (ns : List Int) (hn : ns.length ≤ 63) (s0 : Sto) (Q : D → Sto → Prop) (hQ : ∀ s, Q (.bl true) s) : wp (m_law [.lit (ns.map D.int)]) Q s0 := by
  have l0 : 0 ≤ lim := Nat.zero_le _
  have l2 : 2 ≤ lim := lim_le (by omega)
  have cl := @cut_len (ns.map D.int) (some 2) (some 6)
  rw [List.length_map] at cl
  have hb : (-(2 ^ 62) ≤ (2 + ((cutD (ns.map D.int) (some 2) (some 6)).length : Int)) ∧ (2 + ((cutD (ns.map D.int) (some 2) (some 6)).length : Int)) < 2 ^ 62) := by omega
  simp only [m_law, b_law, ↓x_seq, ↓x_next, ↓x_asg, ↓x_ret, ↓x_exp, ↓x_if, ↓x_cmp, ↓x_andE, ↓x_orE, ↓x_notE, ↓x_ifE, ↓x_truB, ↓x_isB, ↓x_eqB, ↓x_neB, ↓x_tupL, ↓x_lenLL, ↓x_item0, ↓x_item1, ↓x_item2, ↓x_item3, ↓x_tTrue, ↓x_iTmp, ↓x_enum, ↓x_gtup, ↓x_gcons, ↓x_gnil, ↓x_slice, ↓x_none, ↓x_some, ↓x_val, ↓x_not, ↓x_and, ↓x_or, ↓x_gvar, ↓x_gsub, ↓x_var, ↓x_con, ↓x_c1, ↓x_c2, ↓x_call, ↓x_nil, ↓x_cons, ↓x_tup, ↓x_disp, ↓x_keep, ↓x_tmp, ↓x_comp, ↓x_for, ↓x_rng, ↓x_iseq, ↓x_add, ↓x_sub, ↓x_mul, ↓x_div, ↓x_mod, ↓x_lt, ↓x_le, ↓x_gt, ↓x_ge, ↓x_eq, ↓x_ne, ↓x_subsT, ↓x_subsL, ↓x_subsR, ↓x_lenT, ↓x_lenL, ↓x_lenR, ↓x_intB, ↓x_intI, ↓x_setR, ↓x_retF, ↓x_nextF, ↓wp_run, ↓wp_ret, ↓wp_chk, ↓wp_alloc, andB_t, andB_f, andB_or, andB_and, decide_eq_true_eq, List.replicate_succ, List.replicate_zero, Option.join_some, List.map_cons, List.map_nil, List.cons_append, List.nil_append, List.replicate, List.getElem?_cons_zero, List.getElem?_cons_succ, List.set_cons_zero, List.set_cons_succ, List.length_cons, List.length_nil, Nat.reduceAdd, Nat.reduceSub, ge_iff_le, Int.reduceLE, Int.reduceLT, if_true, if_false, and_true, true_and, beq_iff_eq, ↓x_chain, ↓x_append, ↓x_clear, ↓x_pop, ↓x_reverse, ↓x_back, ↓x_listT, ↓x_listR, ↓x_tupleT, ↓x_tupleR, ↓x_isntB, ↓x_isB2, ↓x_inTu, ↓x_eqStr, ↓x_neStr, ↓x_isiL, ↓x_isiT, ↓x_isiI, ↓x_isiB, ↓x_isiBN, ↓x_neg, ↓x_min2, ↓x_max2, ↓x_rng2, ↓x_shl, ↓x_addT, ↓x_tmpSub, ↓x_inTmp, ite_t, ite_f, Bool.not_true, Bool.not_false, l0, hb]
  refine wp_forI (fun i l s' => ∃ y2 y3 y4 y5 hs, l = [some (.lit (ns.map D.int)), some (.ref s0.length), y2, y3, y4, y5] ∧ s'[s0.length]? = some (.lst hs) ∧ hs.length ≤ i ∧ ∀ h ∈ hs, IsHouse h) (fun _ _ _ _ => trivial) ⟨_, _, _, _, [], rfl, by simp, Nat.le_refl _, by simp⟩ (fun i d l s' hd ⟨y2, y3, y4, y5, hs, el, g, hl, hhs⟩ => ?_) (fun l s' ⟨y2, y3, y4, y5, hs, el, g, hl, hhs⟩ => ?_)
  · obtain ⟨hi, ed⟩ := rng_of hd
    subst ed
    subst el
    simp only [↓x_seq, ↓x_next, ↓x_asg, ↓x_ret, ↓x_exp, ↓x_if, ↓x_cmp, ↓x_andE, ↓x_orE, ↓x_notE, ↓x_ifE, ↓x_truB, ↓x_isB, ↓x_eqB, ↓x_neB, ↓x_tupL, ↓x_lenLL, ↓x_item0, ↓x_item1, ↓x_item2, ↓x_item3, ↓x_tTrue, ↓x_iTmp, ↓x_enum, ↓x_gtup, ↓x_gcons, ↓x_gnil, ↓x_slice, ↓x_none, ↓x_some, ↓x_val, ↓x_not, ↓x_and, ↓x_or, ↓x_gvar, ↓x_gsub, ↓x_var, ↓x_con, ↓x_c1, ↓x_c2, ↓x_call, ↓x_nil, ↓x_cons, ↓x_tup, ↓x_disp, ↓x_keep, ↓x_tmp, ↓x_comp, ↓x_for, ↓x_rng, ↓x_iseq, ↓x_add, ↓x_sub, ↓x_mul, ↓x_div, ↓x_mod, ↓x_lt, ↓x_le, ↓x_gt, ↓x_ge, ↓x_eq, ↓x_ne, ↓x_subsT, ↓x_subsL, ↓x_subsR, ↓x_lenT, ↓x_lenL, ↓x_lenR, ↓x_intB, ↓x_intI, ↓x_setR, ↓x_retF, ↓x_nextF, ↓wp_run, ↓wp_ret, ↓wp_chk, ↓wp_alloc, andB_t, andB_f, andB_or, andB_and, decide_eq_true_eq, List.replicate_succ, List.replicate_zero, Option.join_some, List.map_cons, List.map_nil, List.cons_append, List.nil_append, List.replicate, List.getElem?_cons_zero, List.getElem?_cons_succ, List.set_cons_zero, List.set_cons_succ, List.length_cons, List.length_nil, Nat.reduceAdd, Nat.reduceSub, ge_iff_le, Int.reduceLE, Int.reduceLT, if_true, if_false, and_true, true_and, beq_iff_eq, ↓x_chain, ↓x_append, ↓x_clear, ↓x_pop, ↓x_reverse, ↓x_back, ↓x_listT, ↓x_listR, ↓x_tupleT, ↓x_tupleR, ↓x_isntB, ↓x_isB2, ↓x_inTu, ↓x_eqStr, ↓x_neStr, ↓x_isiL, ↓x_isiT, ↓x_isiI, ↓x_isiB, ↓x_isiBN, ↓x_neg, ↓x_min2, ↓x_max2, ↓x_rng2, ↓x_shl, ↓x_addT, ↓x_tmpSub, ↓x_inTmp, ite_t, ite_f, Bool.not_true, Bool.not_false]
    refine box_ok (by omega) fun o hbox => ?_
    have g1 : (s' ++ [o])[s0.length]? = some (.lst hs) := (Ext.snoc (Ext.refl _) _).at_ g
    have hne : s0.length ≠ s'.length := by have := lt_of_at g; omega
    generalize s' ++ [o] = s1 at *
    refine take2 hbox (by omega) (by omega) fun r s2 r0 r1 b2 k2 => ?_
    have hlim : hs.length < lim := lim_lt (by omega)
    by_cases hr : r = 1
    · subst hr
      simp only [↓x_seq, ↓x_next, ↓x_asg, ↓x_ret, ↓x_exp, ↓x_if, ↓x_cmp, ↓x_andE, ↓x_orE, ↓x_notE, ↓x_ifE, ↓x_truB, ↓x_isB, ↓x_eqB, ↓x_neB, ↓x_tupL, ↓x_lenLL, ↓x_item0, ↓x_item1, ↓x_item2, ↓x_item3, ↓x_tTrue, ↓x_iTmp, ↓x_enum, ↓x_gtup, ↓x_gcons, ↓x_gnil, ↓x_slice, ↓x_none, ↓x_some, ↓x_val, ↓x_not, ↓x_and, ↓x_or, ↓x_gvar, ↓x_gsub, ↓x_var, ↓x_con, ↓x_c1, ↓x_c2, ↓x_call, ↓x_nil, ↓x_cons, ↓x_tup, ↓x_disp, ↓x_keep, ↓x_tmp, ↓x_comp, ↓x_for, ↓x_rng, ↓x_iseq, ↓x_add, ↓x_sub, ↓x_mul, ↓x_div, ↓x_mod, ↓x_lt, ↓x_le, ↓x_gt, ↓x_ge, ↓x_eq, ↓x_ne, ↓x_subsT, ↓x_subsL, ↓x_subsR, ↓x_lenT, ↓x_lenL, ↓x_lenR, ↓x_intB, ↓x_intI, ↓x_setR, ↓x_retF, ↓x_nextF, ↓wp_run, ↓wp_ret, ↓wp_chk, ↓wp_alloc, andB_t, andB_f, andB_or, andB_and, decide_eq_true_eq, List.replicate_succ, List.replicate_zero, Option.join_some, List.map_cons, List.map_nil, List.cons_append, List.nil_append, List.replicate, List.getElem?_cons_zero, List.getElem?_cons_succ, List.set_cons_zero, List.set_cons_succ, List.length_cons, List.length_nil, Nat.reduceAdd, Nat.reduceSub, ge_iff_le, Int.reduceLE, Int.reduceLT, if_true, if_false, and_true, true_and, beq_iff_eq, ↓x_chain, ↓x_append, ↓x_clear, ↓x_pop, ↓x_reverse, ↓x_back, ↓x_listT, ↓x_listR, ↓x_tupleT, ↓x_tupleR, ↓x_isntB, ↓x_isB2, ↓x_inTu, ↓x_eqStr, ↓x_neStr, ↓x_isiL, ↓x_isiT, ↓x_isiI, ↓x_isiB, ↓x_isiBN, ↓x_neg, ↓x_min2, ↓x_max2, ↓x_rng2, ↓x_shl, ↓x_addT, ↓x_tmpSub, ↓x_inTmp, ite_t, ite_f, Bool.not_true, Bool.not_false, beq_self_eq_true, l2, if_true]
      refine take2 b2 (by omega) (by omega) fun r2 s3 r20 r21 b3 k3 => ?_
      try simp only [↓x_seq, ↓x_next, ↓x_asg, ↓x_ret, ↓x_exp, ↓x_if, ↓x_cmp, ↓x_andE, ↓x_orE, ↓x_notE, ↓x_ifE, ↓x_truB, ↓x_isB, ↓x_eqB, ↓x_neB, ↓x_tupL, ↓x_lenLL, ↓x_item0, ↓x_item1, ↓x_item2, ↓x_item3, ↓x_tTrue, ↓x_iTmp, ↓x_enum, ↓x_gtup, ↓x_gcons, ↓x_gnil, ↓x_slice, ↓x_none, ↓x_some, ↓x_val, ↓x_not, ↓x_and, ↓x_or, ↓x_gvar, ↓x_gsub, ↓x_var, ↓x_con, ↓x_c1, ↓x_c2, ↓x_call, ↓x_nil, ↓x_cons, ↓x_tup, ↓x_disp, ↓x_keep, ↓x_tmp, ↓x_comp, ↓x_for, ↓x_rng, ↓x_iseq, ↓x_add, ↓x_sub, ↓x_mul, ↓x_div, ↓x_mod, ↓x_lt, ↓x_le, ↓x_gt, ↓x_ge, ↓x_eq, ↓x_ne, ↓x_subsT, ↓x_subsL, ↓x_subsR, ↓x_lenT, ↓x_lenL, ↓x_lenR, ↓x_intB, ↓x_intI, ↓x_setR, ↓x_retF, ↓x_nextF, ↓wp_run, ↓wp_ret, ↓wp_chk, ↓wp_alloc, andB_t, andB_f, andB_or, andB_and, decide_eq_true_eq, List.replicate_succ, List.replicate_zero, Option.join_some, List.map_cons, List.map_nil, List.cons_append, List.nil_append, List.replicate, List.getElem?_cons_zero, List.getElem?_cons_succ, List.set_cons_zero, List.set_cons_succ, List.length_cons, List.length_nil, Nat.reduceAdd, Nat.reduceSub, ge_iff_le, Int.reduceLE, Int.reduceLT, if_true, if_false, and_true, true_and, beq_iff_eq, ↓x_chain, ↓x_append, ↓x_clear, ↓x_pop, ↓x_reverse, ↓x_back, ↓x_listT, ↓x_listR, ↓x_tupleT, ↓x_tupleR, ↓x_isntB, ↓x_isB2, ↓x_inTu, ↓x_eqStr, ↓x_neStr, ↓x_isiL, ↓x_isiT, ↓x_isiI, ↓x_isiB, ↓x_isiBN, ↓x_neg, ↓x_min2, ↓x_max2, ↓x_rng2, ↓x_shl, ↓x_addT, ↓x_tmpSub, ↓x_inTmp, ite_t, ite_f, Bool.not_true, Bool.not_false, l2, if_true]
      refine house_ok b3 (by omega) (by omega) (by omega) (by omega) (by omega) (by omega) fun h s4 hh b4 k4 => ?_
      refine look_ok hh fun s5 x5 => ?_
      simp only [↓x_seq, ↓x_next, ↓x_asg, ↓x_ret, ↓x_exp, ↓x_if, ↓x_cmp, ↓x_andE, ↓x_orE, ↓x_notE, ↓x_ifE, ↓x_truB, ↓x_isB, ↓x_eqB, ↓x_neB, ↓x_tupL, ↓x_lenLL, ↓x_item0, ↓x_item1, ↓x_item2, ↓x_item3, ↓x_tTrue, ↓x_iTmp, ↓x_enum, ↓x_gtup, ↓x_gcons, ↓x_gnil, ↓x_slice, ↓x_none, ↓x_some, ↓x_val, ↓x_not, ↓x_and, ↓x_or, ↓x_gvar, ↓x_gsub, ↓x_var, ↓x_con, ↓x_c1, ↓x_c2, ↓x_call, ↓x_nil, ↓x_cons, ↓x_tup, ↓x_disp, ↓x_keep, ↓x_tmp, ↓x_comp, ↓x_for, ↓x_rng, ↓x_iseq, ↓x_add, ↓x_sub, ↓x_mul, ↓x_div, ↓x_mod, ↓x_lt, ↓x_le, ↓x_gt, ↓x_ge, ↓x_eq, ↓x_ne, ↓x_subsT, ↓x_subsL, ↓x_subsR, ↓x_lenT, ↓x_lenL, ↓x_lenR, ↓x_intB, ↓x_intI, ↓x_setR, ↓x_retF, ↓x_nextF, ↓wp_run, ↓wp_ret, ↓wp_chk, ↓wp_alloc, andB_t, andB_f, andB_or, andB_and, decide_eq_true_eq, List.replicate_succ, List.replicate_zero, Option.join_some, List.map_cons, List.map_nil, List.cons_append, List.nil_append, List.replicate, List.getElem?_cons_zero, List.getElem?_cons_succ, List.set_cons_zero, List.set_cons_succ, List.length_cons, List.length_nil, Nat.reduceAdd, Nat.reduceSub, ge_iff_le, Int.reduceLE, Int.reduceLT, if_true, if_false, and_true, true_and, beq_iff_eq, ↓x_chain, ↓x_append, ↓x_clear, ↓x_pop, ↓x_reverse, ↓x_back, ↓x_listT, ↓x_listR, ↓x_tupleT, ↓x_tupleR, ↓x_isntB, ↓x_isB2, ↓x_inTu, ↓x_eqStr, ↓x_neStr, ↓x_isiL, ↓x_isiT, ↓x_isiI, ↓x_isiB, ↓x_isiBN, ↓x_neg, ↓x_min2, ↓x_max2, ↓x_rng2, ↓x_shl, ↓x_addT, ↓x_tmpSub, ↓x_inTmp, ite_t, ite_f, Bool.not_true, Bool.not_false, beq_self_eq_true, Bool.false_eq_true, if_false]
      exact ⟨_, _, _, _, hs, rfl, x5.at_ (((k2.trans k3).trans k4).same hne g1), by omega, hhs⟩
    · have e1 : (r == 1) = false := by simp [hr]
      simp only [↓x_seq, ↓x_next, ↓x_asg, ↓x_ret, ↓x_exp, ↓x_if, ↓x_cmp, ↓x_andE, ↓x_orE, ↓x_notE, ↓x_ifE, ↓x_truB, ↓x_isB, ↓x_eqB, ↓x_neB, ↓x_tupL, ↓x_lenLL, ↓x_item0, ↓x_item1, ↓x_item2, ↓x_item3, ↓x_tTrue, ↓x_iTmp, ↓x_enum, ↓x_gtup, ↓x_gcons, ↓x_gnil, ↓x_slice, ↓x_none, ↓x_some, ↓x_val, ↓x_not, ↓x_and, ↓x_or, ↓x_gvar, ↓x_gsub, ↓x_var, ↓x_con, ↓x_c1, ↓x_c2, ↓x_call, ↓x_nil, ↓x_cons, ↓x_tup, ↓x_disp, ↓x_keep, ↓x_tmp, ↓x_comp, ↓x_for, ↓x_rng, ↓x_iseq, ↓x_add, ↓x_sub, ↓x_mul, ↓x_div, ↓x_mod, ↓x_lt, ↓x_le, ↓x_gt, ↓x_ge, ↓x_eq, ↓x_ne, ↓x_subsT, ↓x_subsL, ↓x_subsR, ↓x_lenT, ↓x_lenL, ↓x_lenR, ↓x_intB, ↓x_intI, ↓x_setR, ↓x_retF, ↓x_nextF, ↓wp_run, ↓wp_ret, ↓wp_chk, ↓wp_alloc, andB_t, andB_f, andB_or, andB_and, decide_eq_true_eq, List.replicate_succ, List.replicate_zero, Option.join_some, List.map_cons, List.map_nil, List.cons_append, List.nil_append, List.replicate, List.getElem?_cons_zero, List.getElem?_cons_succ, List.set_cons_zero, List.set_cons_succ, List.length_cons, List.length_nil, Nat.reduceAdd, Nat.reduceSub, ge_iff_le, Int.reduceLE, Int.reduceLT, if_true, if_false, and_true, true_and, beq_iff_eq, ↓x_chain, ↓x_append, ↓x_clear, ↓x_pop, ↓x_reverse, ↓x_back, ↓x_listT, ↓x_listR, ↓x_tupleT, ↓x_tupleR, ↓x_isntB, ↓x_isB2, ↓x_inTu, ↓x_eqStr, ↓x_neStr, ↓x_isiL, ↓x_isiT, ↓x_isiI, ↓x_isiB, ↓x_isiBN, ↓x_neg, ↓x_min2, ↓x_max2, ↓x_rng2, ↓x_shl, ↓x_addT, ↓x_tmpSub, ↓x_inTmp, ite_t, ite_f, Bool.not_true, Bool.not_false, e1, l2, Bool.false_eq_true, if_false]
      refine take2 b2 (by omega) (by omega) fun r2 s3 r20 r21 b3 k3 => ?_
      try simp only [↓x_seq, ↓x_next, ↓x_asg, ↓x_ret, ↓x_exp, ↓x_if, ↓x_cmp, ↓x_andE, ↓x_orE, ↓x_notE, ↓x_ifE, ↓x_truB, ↓x_isB, ↓x_eqB, ↓x_neB, ↓x_tupL, ↓x_lenLL, ↓x_item0, ↓x_item1, ↓x_item2, ↓x_item3, ↓x_tTrue, ↓x_iTmp, ↓x_enum, ↓x_gtup, ↓x_gcons, ↓x_gnil, ↓x_slice, ↓x_none, ↓x_some, ↓x_val, ↓x_not, ↓x_and, ↓x_or, ↓x_gvar, ↓x_gsub, ↓x_var, ↓x_con, ↓x_c1, ↓x_c2, ↓x_call, ↓x_nil, ↓x_cons, ↓x_tup, ↓x_disp, ↓x_keep, ↓x_tmp, ↓x_comp, ↓x_for, ↓x_rng, ↓x_iseq, ↓x_add, ↓x_sub, ↓x_mul, ↓x_div, ↓x_mod, ↓x_lt, ↓x_le, ↓x_gt, ↓x_ge, ↓x_eq, ↓x_ne, ↓x_subsT, ↓x_subsL, ↓x_subsR, ↓x_lenT, ↓x_lenL, ↓x_lenR, ↓x_intB, ↓x_intI, ↓x_setR, ↓x_retF, ↓x_nextF, ↓wp_run, ↓wp_ret, ↓wp_chk, ↓wp_alloc, andB_t, andB_f, andB_or, andB_and, decide_eq_true_eq, List.replicate_succ, List.replicate_zero, Option.join_some, List.map_cons, List.map_nil, List.cons_append, List.nil_append, List.replicate, List.getElem?_cons_zero, List.getElem?_cons_succ, List.set_cons_zero, List.set_cons_succ, List.length_cons, List.length_nil, Nat.reduceAdd, Nat.reduceSub, ge_iff_le, Int.reduceLE, Int.reduceLT, if_true, if_false, and_true, true_and, beq_iff_eq, ↓x_chain, ↓x_append, ↓x_clear, ↓x_pop, ↓x_reverse, ↓x_back, ↓x_listT, ↓x_listR, ↓x_tupleT, ↓x_tupleR, ↓x_isntB, ↓x_isB2, ↓x_inTu, ↓x_eqStr, ↓x_neStr, ↓x_isiL, ↓x_isiT, ↓x_isiI, ↓x_isiB, ↓x_isiBN, ↓x_neg, ↓x_min2, ↓x_max2, ↓x_rng2, ↓x_shl, ↓x_addT, ↓x_tmpSub, ↓x_inTmp, ite_t, ite_f, Bool.not_true, Bool.not_false, l2, Bool.false_eq_true, if_false]
      refine house_ok b3 (by omega) (by omega) (by omega) (by omega) (by omega) (by omega) fun h s4 hh b4 k4 => ?_
      have g4 : s4[s0.length]? = some (.lst hs) := ((k2.trans k3).trans k4).same hne g1
      have q2 : ∀ Q, wp (getL s0.length) Q s4 = Q hs s4 := fun Q => wp_getL g4
      have q3 : ∀ es Q, wp (putL s0.length es) Q s4 = Q () (s4.set s0.length (.lst es)) := fun es Q => wp_putL g4
      simp only [↓x_seq, ↓x_next, ↓x_asg, ↓x_ret, ↓x_exp, ↓x_if, ↓x_cmp, ↓x_andE, ↓x_orE, ↓x_notE, ↓x_ifE, ↓x_truB, ↓x_isB, ↓x_eqB, ↓x_neB, ↓x_tupL, ↓x_lenLL, ↓x_item0, ↓x_item1, ↓x_item2, ↓x_item3, ↓x_tTrue, ↓x_iTmp, ↓x_enum, ↓x_gtup, ↓x_gcons, ↓x_gnil, ↓x_slice, ↓x_none, ↓x_some, ↓x_val, ↓x_not, ↓x_and, ↓x_or, ↓x_gvar, ↓x_gsub, ↓x_var, ↓x_con, ↓x_c1, ↓x_c2, ↓x_call, ↓x_nil, ↓x_cons, ↓x_tup, ↓x_disp, ↓x_keep, ↓x_tmp, ↓x_comp, ↓x_for, ↓x_rng, ↓x_iseq, ↓x_add, ↓x_sub, ↓x_mul, ↓x_div, ↓x_mod, ↓x_lt, ↓x_le, ↓x_gt, ↓x_ge, ↓x_eq, ↓x_ne, ↓x_subsT, ↓x_subsL, ↓x_subsR, ↓x_lenT, ↓x_lenL, ↓x_lenR, ↓x_intB, ↓x_intI, ↓x_setR, ↓x_retF, ↓x_nextF, ↓wp_run, ↓wp_ret, ↓wp_chk, ↓wp_alloc, andB_t, andB_f, andB_or, andB_and, decide_eq_true_eq, List.replicate_succ, List.replicate_zero, Option.join_some, List.map_cons, List.map_nil, List.cons_append, List.nil_append, List.replicate, List.getElem?_cons_zero, List.getElem?_cons_succ, List.set_cons_zero, List.set_cons_succ, List.length_cons, List.length_nil, Nat.reduceAdd, Nat.reduceSub, ge_iff_le, Int.reduceLE, Int.reduceLT, if_true, if_false, and_true, true_and, beq_iff_eq, ↓x_chain, ↓x_append, ↓x_clear, ↓x_pop, ↓x_reverse, ↓x_back, ↓x_listT, ↓x_listR, ↓x_tupleT, ↓x_tupleR, ↓x_isntB, ↓x_isB2, ↓x_inTu, ↓x_eqStr, ↓x_neStr, ↓x_isiL, ↓x_isiT, ↓x_isiI, ↓x_isiB, ↓x_isiBN, ↓x_neg, ↓x_min2, ↓x_max2, ↓x_rng2, ↓x_shl, ↓x_addT, ↓x_tmpSub, ↓x_inTmp, ite_t, ite_f, Bool.not_true, Bool.not_false, ↓q2, ↓q3, hlim, Bool.false_eq_true, if_false]
      refine ⟨_, _, _, _, _, rfl, List.getElem?_set_self (lt_of_at g4), by simp; omega, fun x hx => ?_⟩
      rcases List.mem_append.mp hx with hx | hx
      · exact hhs x hx
      · rw [List.mem_singleton] at hx; rw [hx]; exact hh
  · subst el
    rw [rng_len] at hl
    generalize s0.length = n at g
    have q1 : ∀ Q, wp (getL n) Q s' = Q hs s' := fun Q => wp_getL g
    simp only [↓x_seq, ↓x_next, ↓x_asg, ↓x_ret, ↓x_exp, ↓x_if, ↓x_cmp, ↓x_andE, ↓x_orE, ↓x_notE, ↓x_ifE, ↓x_truB, ↓x_isB, ↓x_eqB, ↓x_neB, ↓x_tupL, ↓x_lenLL, ↓x_item0, ↓x_item1, ↓x_item2, ↓x_item3, ↓x_tTrue, ↓x_iTmp, ↓x_enum, ↓x_gtup, ↓x_gcons, ↓x_gnil, ↓x_slice, ↓x_none, ↓x_some, ↓x_val, ↓x_not, ↓x_and, ↓x_or, ↓x_gvar, ↓x_gsub, ↓x_var, ↓x_con, ↓x_c1, ↓x_c2, ↓x_call, ↓x_nil, ↓x_cons, ↓x_tup, ↓x_disp, ↓x_keep, ↓x_tmp, ↓x_comp, ↓x_for, ↓x_rng, ↓x_iseq, ↓x_add, ↓x_sub, ↓x_mul, ↓x_div, ↓x_mod, ↓x_lt, ↓x_le, ↓x_gt, ↓x_ge, ↓x_eq, ↓x_ne, ↓x_subsT, ↓x_subsL, ↓x_subsR, ↓x_lenT, ↓x_lenL, ↓x_lenR, ↓x_intB, ↓x_intI, ↓x_setR, ↓x_retF, ↓x_nextF, ↓wp_run, ↓wp_ret, ↓wp_chk, ↓wp_alloc, andB_t, andB_f, andB_or, andB_and, decide_eq_true_eq, List.replicate_succ, List.replicate_zero, Option.join_some, List.map_cons, List.map_nil, List.cons_append, List.nil_append, List.replicate, List.getElem?_cons_zero, List.getElem?_cons_succ, List.set_cons_zero, List.set_cons_succ, List.length_cons, List.length_nil, Nat.reduceAdd, Nat.reduceSub, ge_iff_le, Int.reduceLE, Int.reduceLT, if_true, if_false, and_true, true_and, beq_iff_eq, ↓x_chain, ↓x_append, ↓x_clear, ↓x_pop, ↓x_reverse, ↓x_back, ↓x_listT, ↓x_listR, ↓x_tupleT, ↓x_tupleR, ↓x_isntB, ↓x_isB2, ↓x_inTu, ↓x_eqStr, ↓x_neStr, ↓x_isiL, ↓x_isiT, ↓x_isiI, ↓x_isiB, ↓x_isiBN, ↓x_neg, ↓x_min2, ↓x_max2, ↓x_rng2, ↓x_shl, ↓x_addT, ↓x_tmpSub, ↓x_inTmp, ite_t, ite_f, Bool.not_true, Bool.not_false, ↓q1]
    have hc : (cutD hs none (some 1)).length ≤ hs.length := cut_len
    have hcm : ∀ t ∈ cutD hs none (some 1), t ∈ hs := fun t h => by unfold cutD at h; exact List.mem_of_mem_drop (List.mem_of_mem_take h)
    generalize cutD hs none (some 1) = cc at *
    have g1 : (s' ++ [MO.lst cc])[n]? = some (.lst hs) := (Ext.snoc (Ext.refl _) _).at_ g
    have g2 : (s' ++ [MO.lst cc])[s'.length]? = some (.lst cc) := by simp
    rw [x_addR g1 g2]
    refine ⟨lim_le (by omega), ?_⟩
    generalize s' ++ [MO.lst cc] = s1 at *
    have g3 : (s1 ++ [MO.lst (hs ++ cc)])[s1.length]? = some (.lst (hs ++ cc)) := by simp
    generalize s1 ++ [MO.lst (hs ++ cc)] = s2 at *
    have q3 : ∀ Q, wp (getL s1.length) Q s2 = Q (hs ++ cc) s2 := fun Q => wp_getL g3
    simp only [↓x_seq, ↓x_next, ↓x_asg, ↓x_ret, ↓x_exp, ↓x_if, ↓x_cmp, ↓x_andE, ↓x_orE, ↓x_notE, ↓x_ifE, ↓x_truB, ↓x_isB, ↓x_eqB, ↓x_neB, ↓x_tupL, ↓x_lenLL, ↓x_item0, ↓x_item1, ↓x_item2, ↓x_item3, ↓x_tTrue, ↓x_iTmp, ↓x_enum, ↓x_gtup, ↓x_gcons, ↓x_gnil, ↓x_slice, ↓x_none, ↓x_some, ↓x_val, ↓x_not, ↓x_and, ↓x_or, ↓x_gvar, ↓x_gsub, ↓x_var, ↓x_con, ↓x_c1, ↓x_c2, ↓x_call, ↓x_nil, ↓x_cons, ↓x_tup, ↓x_disp, ↓x_keep, ↓x_tmp, ↓x_comp, ↓x_for, ↓x_rng, ↓x_iseq, ↓x_add, ↓x_sub, ↓x_mul, ↓x_div, ↓x_mod, ↓x_lt, ↓x_le, ↓x_gt, ↓x_ge, ↓x_eq, ↓x_ne, ↓x_subsT, ↓x_subsL, ↓x_subsR, ↓x_lenT, ↓x_lenL, ↓x_lenR, ↓x_intB, ↓x_intI, ↓x_setR, ↓x_retF, ↓x_nextF, ↓wp_run, ↓wp_ret, ↓wp_chk, ↓wp_alloc, andB_t, andB_f, andB_or, andB_and, decide_eq_true_eq, List.replicate_succ, List.replicate_zero, Option.join_some, List.map_cons, List.map_nil, List.cons_append, List.nil_append, List.replicate, List.getElem?_cons_zero, List.getElem?_cons_succ, List.set_cons_zero, List.set_cons_succ, List.length_cons, List.length_nil, Nat.reduceAdd, Nat.reduceSub, ge_iff_le, Int.reduceLE, Int.reduceLT, if_true, if_false, and_true, true_and, beq_iff_eq, ↓x_chain, ↓x_append, ↓x_clear, ↓x_pop, ↓x_reverse, ↓x_back, ↓x_listT, ↓x_listR, ↓x_tupleT, ↓x_tupleR, ↓x_isntB, ↓x_isB2, ↓x_inTu, ↓x_eqStr, ↓x_neStr, ↓x_isiL, ↓x_isiT, ↓x_isiI, ↓x_isiB, ↓x_isiBN, ↓x_neg, ↓x_min2, ↓x_max2, ↓x_rng2, ↓x_shl, ↓x_addT, ↓x_tmpSub, ↓x_inTmp, ite_t, ite_f, Bool.not_true, Bool.not_false, ↓q3, capt]
    refine ⟨lim_le (by simp; omega), ?_⟩
    refine wp_comp (fun i out s' => out = List.replicate i (.bl true) ∧ Ext s2 s') (fun _ _ s' h => h.2.at_ g3) ⟨rfl, Ext.refl _⟩ (fun i d out s' hd ⟨a1, a2⟩ => ?_) (fun out s' ⟨a1, a2⟩ => ?_)
    · simp only [↓x_seq, ↓x_next, ↓x_asg, ↓x_ret, ↓x_exp, ↓x_if, ↓x_cmp, ↓x_andE, ↓x_orE, ↓x_notE, ↓x_ifE, ↓x_truB, ↓x_isB, ↓x_eqB, ↓x_neB, ↓x_tupL, ↓x_lenLL, ↓x_item0, ↓x_item1, ↓x_item2, ↓x_item3, ↓x_tTrue, ↓x_iTmp, ↓x_enum, ↓x_gtup, ↓x_gcons, ↓x_gnil, ↓x_slice, ↓x_none, ↓x_some, ↓x_val, ↓x_not, ↓x_and, ↓x_or, ↓x_gvar, ↓x_gsub, ↓x_var, ↓x_con, ↓x_c1, ↓x_c2, ↓x_call, ↓x_nil, ↓x_cons, ↓x_tup, ↓x_disp, ↓x_keep, ↓x_tmp, ↓x_comp, ↓x_for, ↓x_rng, ↓x_iseq, ↓x_add, ↓x_sub, ↓x_mul, ↓x_div, ↓x_mod, ↓x_lt, ↓x_le, ↓x_gt, ↓x_ge, ↓x_eq, ↓x_ne, ↓x_subsT, ↓x_subsL, ↓x_subsR, ↓x_lenT, ↓x_lenL, ↓x_lenR, ↓x_intB, ↓x_intI, ↓x_setR, ↓x_retF, ↓x_nextF, ↓wp_run, ↓wp_ret, ↓wp_chk, ↓wp_alloc, andB_t, andB_f, andB_or, andB_and, decide_eq_true_eq, List.replicate_succ, List.replicate_zero, Option.join_some, List.map_cons, List.map_nil, List.cons_append, List.nil_append, List.replicate, List.getElem?_cons_zero, List.getElem?_cons_succ, List.set_cons_zero, List.set_cons_succ, List.length_cons, List.length_nil, Nat.reduceAdd, Nat.reduceSub, ge_iff_le, Int.reduceLE, Int.reduceLT, if_true, if_false, and_true, true_and, beq_iff_eq, ↓x_chain, ↓x_append, ↓x_clear, ↓x_pop, ↓x_reverse, ↓x_back, ↓x_listT, ↓x_listR, ↓x_tupleT, ↓x_tupleR, ↓x_isntB, ↓x_isB2, ↓x_inTu, ↓x_eqStr, ↓x_neStr, ↓x_isiL, ↓x_isiT, ↓x_isiI, ↓x_isiB, ↓x_isiBN, ↓x_neg, ↓x_min2, ↓x_max2, ↓x_rng2, ↓x_shl, ↓x_addT, ↓x_tmpSub, ↓x_inTmp, ite_t, ite_f, Bool.not_true, Bool.not_false]
      have hd : IsHouse d := by
        rcases List.mem_append.mp (List.mem_of_getElem? hd) with h | h
        · exact hhs d h
        · exact hhs d (hcm d h)
      refine wp_mono (right_ok hd) fun x s3 ⟨e, ex⟩ => ⟨?_, a2.trans ex⟩
      rw [e, a1, ← List.replicate_succ, List.replicate_succ']
    · rw [a1]
      unfold allD
      rw [bools_rep]
      dsimp only
      rw [wp_ret]
      have e : (List.replicate (hs ++ cc).length true).all id = true := by simp
      rw [e]; exact hQ _
theorem wp_out {α : Type} {m : M α} {v : α} {s : Sto} (h : wp m (fun a _ => a = v) s) : ∃ s', m s = .ok v s' := by
  unfold wp at h
  cases e : m s with
  | ok a s' => rw [e] at h; exact ⟨s', by rw [show a = v from h]⟩
  | exc _ _ => rw [e] at h; exact h.elim
  | bad => rw [e] at h; exact h.elim
theorem law_true (ns : List Int) (h : ns.length ≤ 63) : ∃ st', m_law [.lit (ns.map D.int)] [] = .ok (.bl true) st' := wp_out (m := m_law [.lit (ns.map D.int)]) (v := .bl true) (s := []) (law_wp ns h [] (fun a _ => a = .bl true) fun _ => rfl)
end
end My
namespace My
open PySem PySem.Spec PyProof.Rows L2 MM
theorem txt_mk {K : PySem.W.Frag} {h : Heap} {mg : Str → Option Value} {fa : Addr} (X : K.In h) (G : h.Ns mainGlobals mg) (hfa : mg "law" = some (.ref fa))
    {f0 : Addr} {od0 an0 : Option Addr} {sl0 : Array (Option Value)} {oc0 kV0 dc0 pm0 cd0 ct0 : Value}
    {f1 : Addr} {od1 an1 : Option Addr} {sl1 : Array (Option Value)} {oc1 kV1 dc1 pm1 cd1 ct1 : Value}
    {f2 : Addr} {od2 an2 : Option Addr} {sl2 : Array (Option Value)} {oc2 kV2 dc2 pm2 cd2 ct2 : Value}
    {f3 : Addr} {od3 an3 : Option Addr} {sl3 : Array (Option Value)} {oc3 kV3 dc3 pm3 cd3 ct3 : Value}
    {f4 : Addr} {od4 an4 : Option Addr} {sl4 : Array (Option Value)} {oc4 kV4 dc4 pm4 cd4 ct4 : Value}
    {f5 : Addr} {od5 an5 : Option Addr} {sl5 : Array (Option Value)} {oc5 kV5 dc5 pm5 cd5 ct5 : Value}
    {f6 : Addr} {od6 an6 : Option Addr} {sl6 : Array (Option Value)} {oc6 kV6 dc6 pm6 cd6 ct6 : Value}
    {f7 : Addr} {od7 an7 : Option Addr} {sl7 : Array (Option Value)} {oc7 kV7 dc7 pm7 cd7 ct7 : Value}
    {f8 : Addr} {od8 an8 : Option Addr} {sl8 : Array (Option Value)} {oc8 kV8 dc8 pm8 cd8 ct8 : Value}
    {f9 : Addr} {od9 an9 : Option Addr} {sl9 : Array (Option Value)} {oc9 kV9 dc9 pm9 cd9 ct9 : Value}
    {f10 : Addr} {od10 an10 : Option Addr} {sl10 : Array (Option Value)} {oc10 kV10 dc10 pm10 cd10 ct10 : Value}
    {f11 : Addr} {od11 an11 : Option Addr} {sl11 : Array (Option Value)} {oc11 kV11 dc11 pm11 cd11 ct11 : Value}
    {f12 : Addr} {od12 an12 : Option Addr} {sl12 : Array (Option Value)} {oc12 kV12 dc12 pm12 cd12 ct12 : Value}
    {f13 : Addr} {od13 an13 : Option Addr} {sl13 : Array (Option Value)} {oc13 kV13 dc13 pm13 cd13 ct13 : Value}
    {f14 : Addr} {od14 an14 : Option Addr} {sl14 : Array (Option Value)} {oc14 kV14 dc14 pm14 cd14 ct14 : Value}
    {f15 : Addr} {od15 an15 : Option Addr} {sl15 : Array (Option Value)} {oc15 kV15 dc15 pm15 cd15 ct15 : Value}
    {f16 : Addr} {od16 an16 : Option Addr} {sl16 : Array (Option Value)} {oc16 kV16 dc16 pm16 cd16 ct16 : Value}
    {f17 : Addr} {od17 an17 : Option Addr} {sl17 : Array (Option Value)} {oc17 kV17 dc17 pm17 cd17 ct17 : Value}
    {f18 : Addr} {od18 an18 : Option Addr} {sl18 : Array (Option Value)} {oc18 kV18 dc18 pm18 cd18 ct18 : Value}
    {f19 : Addr} {od19 an19 : Option Addr} {sl19 : Array (Option Value)} {oc19 kV19 dc19 pm19 cd19 ct19 : Value}
    {f20 : Addr} {od20 an20 : Option Addr} {sl20 : Array (Option Value)} {oc20 kV20 dc20 pm20 cd20 ct20 : Value}
    (a0 : PySem.W.nsIn K mainGlobals "answers" = some (some (.ref f0))) (l0 : K.lookup f0 = some ⟨oc0, od0, .func (PySem.W.fnOf "answers" "answers" (defArgs s_answers) (defBody s_answers) (defScope s_answers) .none kV0 dc0 pm0 an0 cd0 ct0), sl0⟩) (c0 : PySem.W.codeIn K cd0 "answers" = true) (k0 : PySem.W.keepIn K (.ref f0) = true)
    (a1 : PySem.W.nsIn K mainGlobals "is_state" = some (some (.ref f1))) (l1 : K.lookup f1 = some ⟨oc1, od1, .func (PySem.W.fnOf "is_state" "is_state" (defArgs s_is_state) (defBody s_is_state) (defScope s_is_state) .none kV1 dc1 pm1 an1 cd1 ct1), sl1⟩) (c1 : PySem.W.codeIn K cd1 "is_state" = true) (k1 : PySem.W.keepIn K (.ref f1) = true)
    (a2 : PySem.W.nsIn K mainGlobals "answer_counts" = some (some (.ref f2))) (l2 : K.lookup f2 = some ⟨oc2, od2, .func (PySem.W.fnOf "answer_counts" "answer_counts" (defArgs s_answer_counts) (defBody s_answer_counts) (defScope s_answer_counts) .none kV2 dc2 pm2 an2 cd2 ct2), sl2⟩) (c2 : PySem.W.codeIn K cd2 "answer_counts" = true) (k2 : PySem.W.keepIn K (.ref f2) = true)
    (a3 : PySem.W.nsIn K mainGlobals "are_lines" = some (some (.ref f3))) (l3 : K.lookup f3 = some ⟨oc3, od3, .func (PySem.W.fnOf "are_lines" "are_lines" (defArgs s_are_lines) (defBody s_are_lines) (defScope s_are_lines) .none kV3 dc3 pm3 an3 cd3 ct3), sl3⟩) (c3 : PySem.W.codeIn K cd3 "are_lines" = true) (k3 : PySem.W.keepIn K (.ref f3) = true)
    (a4 : PySem.W.nsIn K mainGlobals "is_line" = some (some (.ref f4))) (l4 : K.lookup f4 = some ⟨oc4, od4, .func (PySem.W.fnOf "is_line" "is_line" (defArgs s_is_line) (defBody s_is_line) (defScope s_is_line) .none kV4 dc4 pm4 an4 cd4 ct4), sl4⟩) (c4 : PySem.W.codeIn K cd4 "is_line" = true) (k4 : PySem.W.keepIn K (.ref f4) = true)
    (a5 : PySem.W.nsIn K mainGlobals "inputs_of" = some (some (.ref f5))) (l5 : K.lookup f5 = some ⟨oc5, od5, .func (PySem.W.fnOf "inputs_of" "inputs_of" (defArgs s_inputs_of) (defBody s_inputs_of) (defScope s_inputs_of) .none kV5 dc5 pm5 an5 cd5 ct5), sl5⟩) (c5 : PySem.W.codeIn K cd5 "inputs_of" = true) (k5 : PySem.W.keepIn K (.ref f5) = true)
    (a6 : PySem.W.nsIn K mainGlobals "_law_box" = some (some (.ref f6))) (l6 : K.lookup f6 = some ⟨oc6, od6, .func (PySem.W.fnOf "_law_box" "_law_box" (defArgs s_law_box) (defBody s_law_box) (defScope s_law_box) .none kV6 dc6 pm6 an6 cd6 ct6), sl6⟩) (c6 : PySem.W.codeIn K cd6 "_law_box" = true) (k6 : PySem.W.keepIn K (.ref f6) = true)
    (a7 : PySem.W.nsIn K mainGlobals "_law_take" = some (some (.ref f7))) (l7 : K.lookup f7 = some ⟨oc7, od7, .func (PySem.W.fnOf "_law_take" "_law_take" (defArgs s_law_take) (defBody s_law_take) (defScope s_law_take) .none kV7 dc7 pm7 an7 cd7 ct7), sl7⟩) (c7 : PySem.W.codeIn K cd7 "_law_take" = true) (k7 : PySem.W.keepIn K (.ref f7) = true)
    (a8 : PySem.W.nsIn K mainGlobals "_law_deed" = some (some (.ref f8))) (l8 : K.lookup f8 = some ⟨oc8, od8, .func (PySem.W.fnOf "_law_deed" "_law_deed" (defArgs s_law_deed) (defBody s_law_deed) (defScope s_law_deed) .none kV8 dc8 pm8 an8 cd8 ct8), sl8⟩) (c8 : PySem.W.codeIn K cd8 "_law_deed" = true) (k8 : PySem.W.keepIn K (.ref f8) = true)
    (a9 : PySem.W.nsIn K mainGlobals "_law_table" = some (some (.ref f9))) (l9 : K.lookup f9 = some ⟨oc9, od9, .func (PySem.W.fnOf "_law_table" "_law_table" (defArgs s_law_table) (defBody s_law_table) (defScope s_law_table) .none kV9 dc9 pm9 an9 cd9 ct9), sl9⟩) (c9 : PySem.W.codeIn K cd9 "_law_table" = true) (k9 : PySem.W.keepIn K (.ref f9) = true)
    (a10 : PySem.W.nsIn K mainGlobals "_law_boards" = some (some (.ref f10))) (l10 : K.lookup f10 = some ⟨oc10, od10, .func (PySem.W.fnOf "_law_boards" "_law_boards" (defArgs s_law_boards) (defBody s_law_boards) (defScope s_law_boards) .none kV10 dc10 pm10 an10 cd10 ct10), sl10⟩) (c10 : PySem.W.codeIn K cd10 "_law_boards" = true) (k10 : PySem.W.keepIn K (.ref f10) = true)
    (a11 : PySem.W.nsIn K mainGlobals "_law_line" = some (some (.ref f11))) (l11 : K.lookup f11 = some ⟨oc11, od11, .func (PySem.W.fnOf "_law_line" "_law_line" (defArgs s_law_line) (defBody s_law_line) (defScope s_law_line) .none kV11 dc11 pm11 an11 cd11 ct11), sl11⟩) (c11 : PySem.W.codeIn K cd11 "_law_line" = true) (k11 : PySem.W.keepIn K (.ref f11) = true)
    (a12 : PySem.W.nsIn K mainGlobals "_law_house" = some (some (.ref f12))) (l12 : K.lookup f12 = some ⟨oc12, od12, .func (PySem.W.fnOf "_law_house" "_law_house" (defArgs s_law_house) (defBody s_law_house) (defScope s_law_house) .none kV12 dc12 pm12 an12 cd12 ct12), sl12⟩) (c12 : PySem.W.codeIn K cd12 "_law_house" = true) (k12 : PySem.W.keepIn K (.ref f12) = true)
    (a13 : PySem.W.nsIn K mainGlobals "_law_whole" = some (some (.ref f13))) (l13 : K.lookup f13 = some ⟨oc13, od13, .func (PySem.W.fnOf "_law_whole" "_law_whole" (defArgs s_law_whole) (defBody s_law_whole) (defScope s_law_whole) .none kV13 dc13 pm13 an13 cd13 ct13), sl13⟩) (c13 : PySem.W.codeIn K cd13 "_law_whole" = true) (k13 : PySem.W.keepIn K (.ref f13) = true)
    (a14 : PySem.W.nsIn K mainGlobals "_law_inputs" = some (some (.ref f14))) (l14 : K.lookup f14 = some ⟨oc14, od14, .func (PySem.W.fnOf "_law_inputs" "_law_inputs" (defArgs s_law_inputs) (defBody s_law_inputs) (defScope s_law_inputs) .none kV14 dc14 pm14 an14 cd14 ct14), sl14⟩) (c14 : PySem.W.codeIn K cd14 "_law_inputs" = true) (k14 : PySem.W.keepIn K (.ref f14) = true)
    (a15 : PySem.W.nsIn K mainGlobals "is_table" = some (some (.ref f15))) (l15 : K.lookup f15 = some ⟨oc15, od15, .func (PySem.W.fnOf "is_table" "is_table" (defArgs s_is_table) (defBody s_is_table) (defScope s_is_table) .none kV15 dc15 pm15 an15 cd15 ct15), sl15⟩) (c15 : PySem.W.codeIn K cd15 "is_table" = true) (k15 : PySem.W.keepIn K (.ref f15) = true)
    (a16 : PySem.W.nsIn K mainGlobals "look_at_boards" = some (some (.ref f16))) (l16 : K.lookup f16 = some ⟨oc16, od16, .func (PySem.W.fnOf "look_at_boards" "look_at_boards" (defArgs s_look_at_boards) (defBody s_look_at_boards) (defScope s_look_at_boards) .none kV16 dc16 pm16 an16 cd16 ct16), sl16⟩) (c16 : PySem.W.codeIn K cd16 "look_at_boards" = true) (k16 : PySem.W.keepIn K (.ref f16) = true)
    (a17 : PySem.W.nsIn K mainGlobals "look_at_hand" = some (some (.ref f17))) (l17 : K.lookup f17 = some ⟨oc17, od17, .func (PySem.W.fnOf "look_at_hand" "look_at_hand" (defArgs s_look_at_hand) (defBody s_look_at_hand) (defScope s_look_at_hand) .none kV17 dc17 pm17 an17 cd17 ct17), sl17⟩) (c17 : PySem.W.codeIn K cd17 "look_at_hand" = true) (k17 : PySem.W.keepIn K (.ref f17) = true)
    (a18 : PySem.W.nsIn K mainGlobals "look" = some (some (.ref f18))) (l18 : K.lookup f18 = some ⟨oc18, od18, .func (PySem.W.fnOf "look" "look" (defArgs s_look) (defBody s_look) (defScope s_look) .none kV18 dc18 pm18 an18 cd18 ct18), sl18⟩) (c18 : PySem.W.codeIn K cd18 "look" = true) (k18 : PySem.W.keepIn K (.ref f18) = true)
    (a19 : PySem.W.nsIn K mainGlobals "_law_right" = some (some (.ref f19))) (l19 : K.lookup f19 = some ⟨oc19, od19, .func (PySem.W.fnOf "_law_right" "_law_right" (defArgs s_law_right) (defBody s_law_right) (defScope s_law_right) .none kV19 dc19 pm19 an19 cd19 ct19), sl19⟩) (c19 : PySem.W.codeIn K cd19 "_law_right" = true) (k19 : PySem.W.keepIn K (.ref f19) = true)
    (a20 : PySem.W.nsIn K mainGlobals "law" = some (some (.ref f20))) (l20 : K.lookup f20 = some ⟨oc20, od20, .func (PySem.W.fnOf "law" "law" (defArgs s_law) (defBody s_law) (defScope s_law) .none kV20 dc20 pm20 an20 cd20 ct20), sl20⟩) (c20 : PySem.W.codeIn K cd20 "law" = true) (k20 : PySem.W.keepIn K (.ref f20) = true)
    (z_all : PySem.W.nsIn K mainGlobals "all" = some none)
    (z_bool : PySem.W.nsIn K mainGlobals "bool" = some none)
    (z_enumerate : PySem.W.nsIn K mainGlobals "enumerate" = some none)
    (z_int : PySem.W.nsIn K mainGlobals "int" = some none)
    (z_isinstance : PySem.W.nsIn K mainGlobals "isinstance" = some none)
    (z_len : PySem.W.nsIn K mainGlobals "len" = some none)
    (z_list : PySem.W.nsIn K mainGlobals "list" = some none)
    (z_max : PySem.W.nsIn K mainGlobals "max" = some none)
    (z_range : PySem.W.nsIn K mainGlobals "range" = some none)
    (z_tuple : PySem.W.nsIn K mainGlobals "tuple" = some none) :
    ∃ T : Txt K mg, T.a_law = fa := by
  have e : some (Value.ref fa) = some (Value.ref f20) := hfa.symm.trans (PySem.W.mg_of X G a20)
  have e2 : fa = f20 := by injection e with e1; injection e1
  exact ⟨{ a_answers := f0, fd_answers := _, F_answers := fun_mk (st := s_answers) l0 c0 k0, m_answers := PySem.W.mg_of X G a0, a_is_state := f1, fd_is_state := _, F_is_state := fun_mk (st := s_is_state) l1 c1 k1, m_is_state := PySem.W.mg_of X G a1, a_answer_counts := f2, fd_answer_counts := _, F_answer_counts := fun_mk (st := s_answer_counts) l2 c2 k2, m_answer_counts := PySem.W.mg_of X G a2, a_are_lines := f3, fd_are_lines := _, F_are_lines := fun_mk (st := s_are_lines) l3 c3 k3, m_are_lines := PySem.W.mg_of X G a3, a_is_line := f4, fd_is_line := _, F_is_line := fun_mk (st := s_is_line) l4 c4 k4, m_is_line := PySem.W.mg_of X G a4, a_inputs_of := f5, fd_inputs_of := _, F_inputs_of := fun_mk (st := s_inputs_of) l5 c5 k5, m_inputs_of := PySem.W.mg_of X G a5, a_law_box := f6, fd_law_box := _, F_law_box := fun_mk (st := s_law_box) l6 c6 k6, m_law_box := PySem.W.mg_of X G a6, a_law_take := f7, fd_law_take := _, F_law_take := fun_mk (st := s_law_take) l7 c7 k7, m_law_take := PySem.W.mg_of X G a7, a_law_deed := f8, fd_law_deed := _, F_law_deed := fun_mk (st := s_law_deed) l8 c8 k8, m_law_deed := PySem.W.mg_of X G a8, a_law_table := f9, fd_law_table := _, F_law_table := fun_mk (st := s_law_table) l9 c9 k9, m_law_table := PySem.W.mg_of X G a9, a_law_boards := f10, fd_law_boards := _, F_law_boards := fun_mk (st := s_law_boards) l10 c10 k10, m_law_boards := PySem.W.mg_of X G a10, a_law_line := f11, fd_law_line := _, F_law_line := fun_mk (st := s_law_line) l11 c11 k11, m_law_line := PySem.W.mg_of X G a11, a_law_house := f12, fd_law_house := _, F_law_house := fun_mk (st := s_law_house) l12 c12 k12, m_law_house := PySem.W.mg_of X G a12, a_law_whole := f13, fd_law_whole := _, F_law_whole := fun_mk (st := s_law_whole) l13 c13 k13, m_law_whole := PySem.W.mg_of X G a13, a_law_inputs := f14, fd_law_inputs := _, F_law_inputs := fun_mk (st := s_law_inputs) l14 c14 k14, m_law_inputs := PySem.W.mg_of X G a14, a_is_table := f15, fd_is_table := _, F_is_table := fun_mk (st := s_is_table) l15 c15 k15, m_is_table := PySem.W.mg_of X G a15, a_look_at_boards := f16, fd_look_at_boards := _, F_look_at_boards := fun_mk (st := s_look_at_boards) l16 c16 k16, m_look_at_boards := PySem.W.mg_of X G a16, a_look_at_hand := f17, fd_look_at_hand := _, F_look_at_hand := fun_mk (st := s_look_at_hand) l17 c17 k17, m_look_at_hand := PySem.W.mg_of X G a17, a_look := f18, fd_look := _, F_look := fun_mk (st := s_look) l18 c18 k18, m_look := PySem.W.mg_of X G a18, a_law_right := f19, fd_law_right := _, F_law_right := fun_mk (st := s_law_right) l19 c19 k19, m_law_right := PySem.W.mg_of X G a19, a_law := f20, fd_law := _, F_law := fun_mk (st := s_law) l20 c20 k20, m_law := PySem.W.mg_of X G a20, z_all := PySem.W.mg_none_of X G z_all, z_bool := PySem.W.mg_none_of X G z_bool, z_enumerate := PySem.W.mg_none_of X G z_enumerate, z_int := PySem.W.mg_none_of X G z_int, z_isinstance := PySem.W.mg_none_of X G z_isinstance, z_len := PySem.W.mg_none_of X G z_len, z_list := PySem.W.mg_none_of X G z_list, z_max := PySem.W.mg_none_of X G z_max, z_range := PySem.W.mg_none_of X G z_range, z_tuple := PySem.W.mg_none_of X G z_tuple }, e2.symm⟩
theorem walk {l : PySem.W.OpenLaw} {q : Program} {loose : List Str} {XP : (Str → Option Value) → Heap → Prop} {YP : World → Heap → Prop} {d : DefRec} {K : Params → PySem.W.Frag} (hn : l.most = some 63) (hdf : d.params.defaults = [])
    (hY : ∀ (w : World) (h : Heap), YP w h → (K w.params).In h) (F : ∀ (w : World) (mg : Str → Option Value) (fa : Addr) (h : Heap), (K w.params).In h → h.Ns mainGlobals mg → mg d.name = some (.ref fa) → ∃ T : Txt (K w.params) mg, T.a_law = fa) :
    PySem.W.WalkO q loose XP YP l.row.toRowW d [] (fun f vs => PySem.call f vs) := by
  refine L2.walk_ofK (n := 63) (k := 6) (x := "_law_script") (CX := CX0) (K := K) (sp := fun K => spOf K 1 m_law) hn (by decide) hdf ⟨rfl, by decide, by decide⟩ hY (fun w mg fa h kin ns hmg => ?_) (fun K H a ns hl hO hS => law_sp hO hS (law_true ns hl)) (fun _ _ _ _ z => z)
  obtain ⟨T, e⟩ := F w mg fa h kin ns hmg
  subst e
  refine ⟨T.fd_law, fun s u => ?_, fun base _ _ => ok_law T⟩
  obtain ⟨oc, od, kV, doc, pm, an, cdv, ct, osl, e, lk, hcd⟩ := T.F_law.ex
  rw [e]
  exact .of_eq rfl
end My
open PySem PySem.W PyProof.Rows
set_option maxRecDepth 100000 in
set_option maxHeartbeats 0 in
theorem PySem.Challenge.cw_pactboards_k16_houses_and_inputs_holds : PySem.Challenge.rw_pactboards_k16_houses_and_inputs.Holds := by
  w_on; o_law; k_head; (case hw => w_witness2)
  k_fill
  refine My.walk (l := PySem.Challenge.rw_pactboards_k16_houses_and_inputs) rfl rfl (fun w h Y => PySem.W.kIn_of Y) ?F
  case F =>
    intro w mg fa h KX G hmg
    refine' My.txt_mk KX G hmg ?a0 ?l0 ?c0 ?k0 ?a1 ?l1 ?c1 ?k1 ?a2 ?l2 ?c2 ?k2 ?a3 ?l3 ?c3 ?k3 ?a4 ?l4 ?c4 ?k4 ?a5 ?l5 ?c5 ?k5 ?a6 ?l6 ?c6 ?k6 ?a7 ?l7 ?c7 ?k7 ?a8 ?l8 ?c8 ?k8 ?a9 ?l9 ?c9 ?k9 ?a10 ?l10 ?c10 ?k10 ?a11 ?l11 ?c11 ?k11 ?a12 ?l12 ?c12 ?k12 ?a13 ?l13 ?c13 ?k13 ?a14 ?l14 ?c14 ?k14 ?a15 ?l15 ?c15 ?k15 ?a16 ?l16 ?c16 ?k16 ?a17 ?l17 ?c17 ?k17 ?a18 ?l18 ?c18 ?k18 ?a19 ?l19 ?c19 ?k19 ?a20 ?l20 ?c20 ?k20 ?z_all ?z_bool ?z_enumerate ?z_int ?z_isinstance ?z_len ?z_list ?z_max ?z_range ?z_tuple
    (case a0 => k_is)
    (case l0 => k_is)
    (case c0 => k_is)
    (case k0 => k_is)
    (case a1 => k_is)
    (case l1 => k_is)
    (case c1 => k_is)
    (case k1 => k_is)
    (case a2 => k_is)
    (case l2 => k_is)
    (case c2 => k_is)
    (case k2 => k_is)
    (case a3 => k_is)
    (case l3 => k_is)
    (case c3 => k_is)
    (case k3 => k_is)
    (case a4 => k_is)
    (case l4 => k_is)
    (case c4 => k_is)
    (case k4 => k_is)
    (case a5 => k_is)
    (case l5 => k_is)
    (case c5 => k_is)
    (case k5 => k_is)
    (case a6 => k_is)
    (case l6 => k_is)
    (case c6 => k_is)
    (case k6 => k_is)
    (case a7 => k_is)
    (case l7 => k_is)
    (case c7 => k_is)
    (case k7 => k_is)
    (case a8 => k_is)
    (case l8 => k_is)
    (case c8 => k_is)
    (case k8 => k_is)
    (case a9 => k_is)
    (case l9 => k_is)
    (case c9 => k_is)
    (case k9 => k_is)
    (case a10 => k_is)
    (case l10 => k_is)
    (case c10 => k_is)
    (case k10 => k_is)
    (case a11 => k_is)
    (case l11 => k_is)
    (case c11 => k_is)
    (case k11 => k_is)
    (case a12 => k_is)
    (case l12 => k_is)
    (case c12 => k_is)
    (case k12 => k_is)
    (case a13 => k_is)
    (case l13 => k_is)
    (case c13 => k_is)
    (case k13 => k_is)
    (case a14 => k_is)
    (case l14 => k_is)
    (case c14 => k_is)
    (case k14 => k_is)
    (case a15 => k_is)
    (case l15 => k_is)
    (case c15 => k_is)
    (case k15 => k_is)
    (case a16 => k_is)
    (case l16 => k_is)
    (case c16 => k_is)
    (case k16 => k_is)
    (case a17 => k_is)
    (case l17 => k_is)
    (case c17 => k_is)
    (case k17 => k_is)
    (case a18 => k_is)
    (case l18 => k_is)
    (case c18 => k_is)
    (case k18 => k_is)
    (case a19 => k_is)
    (case l19 => k_is)
    (case c19 => k_is)
    (case k19 => k_is)
    (case a20 => k_is)
    (case l20 => k_is)
    (case c20 => k_is)
    (case k20 => k_is)
    (case z_all => k_is)
    (case z_bool => k_is)
    (case z_enumerate => k_is)
    (case z_int => k_is)
    (case z_isinstance => k_is)
    (case z_len => k_is)
    (case z_list => k_is)
    (case z_max => k_is)
    (case z_range => k_is)
    (case z_tuple => k_is)
