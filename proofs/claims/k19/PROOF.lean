import PyProof.Rows.All
import Wide.All
import OpenK.AllK
import Wide.FinOn
import Lean
import KE.KSortTup
import PyProof.EqAt
import PyProof.EqKinds
import PyProof.TupleCall
import PyProof.NeKinds
import PyProof.MeetsIn
import PyProof.DictIter
import PyProof.DictKind
import PyProof.ZipIter
import KE.KTurns
import KE.KRevIter
import PyProof.FString5
import KE.KDictSum
import PyProof.CompMap
import PyProof.CompUse
import PyProof.WalksEnum
import PyProof.EnumMake
import PyProof.Rows.EnumRows
import KE.LcSums
import PyProof.Rows.MinMaxN
import PySem.Challenge.RW_recordgate_k19_how_deep_forms_lean
set_option Elab.async false
set_option linter.all false
set_option maxRecDepth 100000
set_option maxHeartbeats 4000000
namespace Rg
open PySem PySem.W PyProof.Rows
/-! what a sort may end with, whatever the comparisons answer -/
def KOk {α : Type} (n : Nat) (P : α → Prop) : KasT α → Prop
  | .ret a => P a
  | .ask i j k => i < n ∧ j < n ∧ ∀ b, KOk n P (k b)
theorem KOk.bind {α β : Type} {n : Nat} {P : β → Prop} {f : α → KasT β} : ∀ {t : KasT α}, KOk n (fun a => KOk n P (f a)) t → KOk n P (t.bind f)
  | .ret _, h => h
  | .ask _ _ k, h => ⟨h.1, h.2.1, fun b => KOk.bind (t := k b) (h.2.2 b)⟩
theorem KOk.imp {α : Type} {n : Nat} {P P' : α → Prop} (hp : ∀ a, P a → P' a) : ∀ {t : KasT α}, KOk n P t → KOk n P' t
  | .ret _, h => hp _ h
  | .ask _ _ k, h => ⟨h.1, h.2.1, fun b => KOk.imp hp (t := k b) (h.2.2 b)⟩
theorem KOk.ite {α : Type} {n : Nat} {P : α → Prop} {c : Prop} [Decidable c] {t u : KasT α} (h1 : KOk n P t) (h2 : KOk n P u) : KOk n P (if c then t else u) := by
  split
  · exact h1
  · exact h2
def Pm (n : Nat) (p : Array Nat) : Prop := p.toList.Perm (List.range n)
theorem Pm.lt {n : Nat} {p : Array Nat} (h : Pm n p) (hn : 0 < n) (i : Nat) : p.getD i 0 < n := by
  by_cases hi : i < p.size
  · have e : p.getD i 0 = p[i] := by simp [Array.getD, hi]
    rw [e]
    exact List.mem_range.mp (h.mem_iff.mp (by simp))
  · have e : p.getD i 0 = 0 := by simp [Array.getD, hi]
    rw [e]
    exact hn
theorem Pm.rev {n : Nat} {p : Array Nat} (h : Pm n p) (i j : Nat) : Pm n (kas_rev p i j) := (Array.perm_iff_toList_perm.mp (mirror_perm p i j ((j - i) / 2))).trans h
theorem Pm.bub {n : Nat} {p : Array Nat} (h : Pm n p) (i j : Nat) : Pm n (bubble p i j) := (Array.perm_iff_toList_perm.mp (bubble_perm p i j)).trans h
theorem Pm.start (n : Nat) : Pm n (List.toArray (List.range n)) := by
  unfold Pm
  exact List.Perm.refl _
section
variable {n : Nat} {p : Array Nat}
theorem asc_ok (h : Pm n p) (hn : 0 < n) : ∀ f m : Nat, KOk n (fun _ => True) (kas_asc p f m)
  | 0, _ => trivial
  | f + 1, m => ⟨h.lt hn _, h.lt hn _, fun b => KOk.ite trivial (asc_ok h hn f (m + 1))⟩
theorem desc_ok (hn : 0 < n) : ∀ (f : Nat) (p : Array Nat) (m q : Nat), Pm n p → KOk n (fun r => Pm n r.1) (kas_desc f p m q)
  | 0, _, _, _, h => h
  | f + 1, p, m, q, h => ⟨h.lt hn _, h.lt hn _, fun b => KOk.ite (KOk.ite (desc_ok hn f _ _ _ (h.rev _ _)) (desc_ok hn f _ _ _ h)) ⟨h.lt hn _, h.lt hn _, fun d => KOk.ite h (desc_ok hn f _ _ _ h)⟩⟩
theorem tail3_ok (h : Pm n p) (hn : 0 < n) (k m : Nat) : KOk n (fun r => Pm n r.2) (kas_tail3 k m p) :=
  KOk.bind (KOk.imp (fun _ _ => h.rev _ _) (asc_ok (h.rev 0 k) hn _ _))
theorem descPart_ok (h : Pm n p) (hn : 0 < n) (k m : Nat) : KOk n (fun r => Pm n r.2) (kas_descPart k m p) :=
  KOk.bind (KOk.imp (fun r hr => KOk.ite (tail3_ok (hr.rev _ _) hn _ _) (tail3_ok hr hn _ _)) (desc_ok hn _ p _ _ h))
theorem count_ok (h : Pm n p) (hn : 0 < n) (m : Nat) : KOk n (fun r => Pm n r.2) (kas_count m p) := by
  unfold kas_count
  refine KOk.bind (KOk.imp (fun k _ => ?_) (asc_ok h hn _ _))
  refine KOk.ite ?_ (KOk.ite ?_ (descPart_ok h hn _ _))
  · exact h
  · refine ⟨h.lt hn _, h.lt hn _, fun b => KOk.ite ?_ (descPart_ok (h.rev _ _) hn _ _)⟩
    exact h
theorem place_ok (h : Pm n p) (hn : 0 < n) (k : Nat) : ∀ f l r : Nat, KOk n (fun _ => True) (kas_place p k f l r)
  | 0, _, _ => trivial
  | f + 1, l, r => KOk.ite trivial ⟨h.lt hn _, h.lt hn _, fun b => KOk.ite (place_ok h hn k f _ _) (place_ok h hn k f _ _)⟩
theorem bin_ok (hn : 0 < n) : ∀ (f : Nat) (p : Array Nat) (k : Nat), Pm n p → KOk n (Pm n) (kas_bin f p k)
  | 0, _, _, h => h
  | f + 1, p, k, h => KOk.bind (KOk.imp (fun l _ => bin_ok hn f _ _ (h.bub _ _)) (place_ok h hn k k 0 k))
theorem sort_ok (hn : 0 < n) : KOk n (Pm n) (kas_sort n) := by
  unfold kas_sort
  refine KOk.bind (KOk.imp (fun r hr => ?_) (count_ok (Pm.start n) hn n))
  refine KOk.ite (bin_ok hn _ _ _ hr) ?_
  exact hr
end
end Rg
-- CHANGE: your row's module here, as the last of these rows
set_option Elab.async false
set_option linter.all false
set_option maxRecDepth 100000
/-! THE HAND LAYER, for ints, bools, texts, own classes, LISTS and tuples (index, slices, in, append, pop ..), calls, loops. Paste it whole ahead of your own text; what your proof does not reach may be deleted. -/
namespace L2
open PySem PySem.Spec PyProof.Rows
/-- a key: an int or a str -/
abbrev Key := Sum Int Str
def keyIs : Key → Value → Bool
  | .inl k, v => Value.isInt k v
  | .inr x, v => Value.isStrOf x v
def keyH (w : World) : Key → Int
  | .inl k => hashInt k
  | .inr x => hashStr w x
theorem keyIs_shape : ∀ {k : Key} {v : Value}, keyIs k v = true → (∃ i t, k = Sum.inl i ∧ v = Value.int i t) ∨ (∃ x t, k = Sum.inr x ∧ v = Value.str x t)
  | .inl i, v, h => by
    obtain ⟨t, e⟩ := Value.isInt_shape (k := i) (v := v) h
    exact .inl ⟨i, t, rfl, e⟩
  | .inr x, v, h => by
    obtain ⟨t, e⟩ := Value.isStrOf_shape (x := x) (v := v) h
    exact .inr ⟨x, t, rfl, e⟩
theorem keyIs_int (i : Int) (t : Tok) : keyIs (.inl i) (.int i t) = true := by simp [keyIs, Value.isInt]
theorem keyIs_str (x : Str) (t : Tok) : keyIs (.inr x) (.str x t) = true := by simp [keyIs, Value.isStrOf]
theorem key_ll (a b : Int) : decide ((Sum.inl a : Key) = Sum.inl b) = (a == b) := by
  by_cases e : a = b
  · subst e; simp
  · have h : ¬ (Sum.inl a : Key) = Sum.inl b := fun q => e (Sum.inl.inj q)
    rw [decide_eq_false h]
    exact (beq_eq_false_iff_ne.mpr e).symm
theorem key_rr (a b : Str) : decide ((Sum.inr a : Key) = Sum.inr b) = decide (a = b) := by
  by_cases e : a = b
  · subst e; simp
  · have h : ¬ (Sum.inr a : Key) = Sum.inr b := fun q => e (Sum.inr.inj q)
    rw [decide_eq_false h, decide_eq_false e]
theorem key_lr (a : Int) (b : Str) : decide ((Sum.inl a : Key) = Sum.inr b) = false := decide_eq_false (fun q => nomatch q)
theorem key_rl (a : Str) (b : Int) : decide ((Sum.inr a : Key) = Sum.inl b) = false := decide_eq_false (fun q => nomatch q)
def mixKind (prog : Program) (w : World) : PySem.KeyKind prog w Key where
  is := keyIs
  hash := keyH w
  inj := fun v a b ha hb => by
    rcases keyIs_shape ha with ⟨i, t, rfl, rfl⟩ | ⟨x, t, rfl, rfl⟩
    · rcases keyIs_shape hb with ⟨j, u, rfl, e⟩ | ⟨y, u, rfl, e⟩
      · injection e with e1 _; rw [e1]
      · exact nomatch e
    · rcases keyIs_shape hb with ⟨j, u, rfl, e⟩ | ⟨y, u, rfl, e⟩
      · exact nomatch e
      · injection e with e1 _; rw [e1]
  byValue := fun k v h => by
    rcases keyIs_shape h with ⟨i, t, rfl, rfl⟩ | ⟨x, t, rfl, rfl⟩ <;> rfl
  pyHash := fun hv h => by
    rcases keyIs_shape hv with ⟨i, t, rfl, rfl⟩ | ⟨x, t, rfl, rfl⟩
    · exact wpAny_pyHash_int h
    · exact wpAny_pyHash_str h
  eqBool := fun hu hv h => by
    rcases keyIs_shape hu with ⟨i, t, rfl, rfl⟩ | ⟨x, t, rfl, rfl⟩
    · rcases keyIs_shape hv with ⟨j, u, rfl, rfl⟩ | ⟨y, u, rfl, rfl⟩
      · rw [key_ll] at h; exact wpAny_eqBool_int h
      · rw [key_lr] at h; exact SeqAt.EqAt.int_str i t y u _ _ _ _ h
    · rcases keyIs_shape hv with ⟨j, u, rfl, rfl⟩ | ⟨y, u, rfl, rfl⟩
      · rw [key_rl] at h; exact SeqAt.EqAt.str_int x t j u _ _ _ _ h
      · rw [key_rr] at h; exact wpAny_eqBool_str h
  «strs» := fun k x t v h => by
    rcases keyIs_shape h with ⟨i, u, rfl, e⟩ | ⟨y, u, rfl, e⟩
    · exact nomatch e
    · injection e with e1 _
      subst e1
      cases v <;> rfl
theorem mixKind_int (prog : Program) (w : World) (i : Int) (t : Tok) : (mixKind prog w).is (.inl i) (.int i t) = true := keyIs_int i t
theorem mixKind_str (prog : Program) (w : World) (x : Str) (t : Tok) : (mixKind prog w).is (.inr x) (.str x t) = true := keyIs_str x t
end L2
namespace L2
open PySem PySem.Spec PyProof.Rows
/-- a value, without the heap -/
inductive V where
  | non | bl (b : Bool) | int (i : Int) | str (x : Str) | byt (b : Array UInt8) | flt (b : UInt64) | ref (a : Addr) | ty (n : String)
  deriving DecidableEq
def RelV : V → Value → Prop
  | .non, u => u = Value.none
  | .bl b, u => u = Value.bool b
  | .int i, u => ∃ t, u = Value.int i t
  | .str x, u => ∃ t, u = Value.str x t
  | .byt b, u => ∃ t, u = Value.bytes b t
  | .flt b, u => ∃ t, u = Value.float b t
  | .ref a, u => u = Value.ref a
  | .ty n, u => u = Value.type n
abbrev Vals : List V → List Value → Prop := Paired RelV
theorem Vals.length {xs : List V} {us : List Value} (r : Vals xs us) : xs.length = us.length := Paired.length r
theorem Vals.get : ∀ {xs : List V} {us : List Value} {i : Nat} {x : V}, Vals xs us → xs[i]? = some x → ∃ u, us[i]? = some u ∧ RelV x u
  | _, _, _, _, .nil, e => by simp at e
  | _, _, 0, _, .cons r _, e => by simp at e; subst e; exact ⟨_, rfl, r⟩
  | _, _, i + 1, x, .cons _ t, e => by
    obtain ⟨u, h1, h2⟩ := Vals.get (i := i) (x := x) t (by simpa using e)
    exact ⟨u, by simpa using h1, h2⟩
theorem Vals.set {x : V} {u : Value} (r : RelV x u) : ∀ {xs : List V} {us : List Value} (i : Nat), Vals xs us → Vals (xs.set i x) (us.set i u)
  | _, _, _, .nil => .nil
  | _, _, 0, .cons _ t => .cons r t
  | _, _, i + 1, .cons q t => .cons q (Vals.set r i t)
theorem Vals.append : ∀ {xs ys : List V} {us ws : List Value}, Vals xs us → Vals ys ws → Vals (xs ++ ys) (us ++ ws)
  | _, _, _, _, .nil, s => s
  | _, _, _, _, .cons r t, s => .cons r (Vals.append t s)
theorem Vals.take : ∀ {xs : List V} {us : List Value} (n : Nat), Vals xs us → Vals (xs.take n) (us.take n)
  | _, _, 0, _ => .nil
  | _, _, _ + 1, .nil => .nil
  | _, _, n + 1, .cons r t => .cons r (Vals.take n t)
theorem Vals.drop : ∀ {xs : List V} {us : List Value} (n : Nat), Vals xs us → Vals (xs.drop n) (us.drop n)
  | _, _, 0, r => r
  | _, _, _ + 1, .nil => .nil
  | _, _, n + 1, .cons _ t => Vals.drop n t
theorem Vals.none_of : ∀ {xs : List V} {us : List Value} {i : Nat}, Vals xs us → xs[i]? = none → us[i]? = none := fun {xs us i} r e => by
  have h1 := r.length
  have h2 : xs.length ≤ i := List.getElem?_eq_none_iff.mp e
  exact List.getElem?_eq_none_iff.mpr (by omega)
def RelO : Option V → Option Value → Prop
  | some v, some u => RelV v u
  | none, none => True
  | _, _ => False
def KV {κ : Type} : List (κ × V) → List (κ × Value) → Prop := Paired fun (p : κ × V) (q : κ × Value) => p.1 = q.1 ∧ RelV p.2 q.2
/-- a key of a dict (00_mix): an int or a text -/
def kV : Key → V
  | .inl i => .int i
  | .inr x => .str x
/-- what stands at a tracked address -/
inductive HO where
  /-- a list -/
  | lst (xs : List V)
  /-- a tuple (never changes) -/
  | tup (xs : List V)
  /-- a dict whose keys are ints and texts; one whose keys are tuples of ints and texts (the empty one is both) -/
  | dK (kvs : List (Key × V)) | dT (kvs : List (List Key × V))
  /-- a set of ints: its members, its size -/
  | set (S : Int → Bool) (n : Nat)
  /-- an instance of the class at C, its dict at dx, its attributes -/
  | ins (C dx : Addr) (fs : List (Str × V))
  /-- the dict of the instance at x -/
  | own (x : Addr)
  /-- the dict of an exception -/
  | xd (fs : List (Str × V))
  /-- a bound method, f of x -/
  | met (f x : Addr)
  /-- a range object lo, lo + 1, .. below hi -/
  | rng (lo hi : Int)
  /-- a thing that is known to the object (the script; a dict while a loop walks it): read, never written while it is so -/
  | frz (o : Obj) (u : HO)
  /-- a code object's table -/
  | tbl (ps : Array Value)
  /-- any other thing, by what is true of its one object (a def of one's own: SetO a S n := HO.ext fun h => ..) -/
  | ext (φ : Heap → Prop)
abbrev Hp := Addr → Option HO
def upd (H : Hp) (a : Addr) (o : HO) : Hp := fun b => if b = a then some o else H b
theorem upd_same {H : Hp} {a : Addr} {o : HO} : upd H a o a = some o := by unfold upd; rw [if_pos rfl]
theorem upd_ne {H : Hp} {a b : Addr} {o : HO} (h : b ≠ a) : upd H a o b = H b := by unfold upd; rw [if_neg h]
/-- two objects of different content stand apart -/
theorem ne_of {H : Hp} {a b : Addr} {o u : HO} (h : H a = some o) (h' : H b = some u) (d : o ≠ u) : a ≠ b := by
  intro e; subst e; rw [h] at h'; exact d (Option.some.inj h')
theorem ne_of_none {H : Hp} {a b : Addr} {o : HO} (h : H a = some o) (h' : H b = none) : a ≠ b := by
  intro e; subst e; rw [h] at h'; cases h'
section
variable (P : Program) (w : World)
def ObjOk (H : Hp) (h : Heap) (a : Addr) : HO → Prop
  | .lst xs => xs.length ≤ sizeLine ∧ ∃ (its : List Value) (n : Nat), Vals xs its ∧ h.get? a = some { cls := .type "list", data := .seq its.toArray n }
  | .tup xs => xs.length ≤ sizeLine ∧ ∃ its : List Value, Vals xs its ∧ IsTup h a its.toArray
  | .dK kvs => kvs.length ≤ sizeLine ∧ (a == sysModules) = false ∧ ∃ vs, KV kvs vs ∧ h.DictOf (mixKind P w) a vs
  | .dT kvs => kvs.length ≤ sizeLine ∧ (a == sysModules) = false ∧ ∃ xs : List (List Key × Addr × Value),
      Paired (fun (p : List Key × V) (q : List Key × Addr × Value) => p.1 = q.1 ∧ H q.2.1 = some (.tup (p.1.map kV)) ∧ RelV p.2 q.2.2) kvs xs ∧
      ∃ o es ep, h.get? a = some o ∧ o.ExactDict ∧ o.data = .dict es ep ∧ es.toList = xs.map (entryOfKey (tupleKind (mixKind P w))) ∧ (xs.map (·.1)).Nodup
  | .set S n => h.SetOf (intKind P w) a S n
  | .ins C dx fs => H dx = some (.own a) ∧ fs.length ≤ 1000 ∧ dx ≠ a ∧ h.get? a = some (PySem.W.instObj C dx) ∧
      ∃ mA, h.Ns1 dx mA ∧ (∀ f, RelO (fs.lookup f) (mA f)) ∧ PySem.Within mA (fs.map (·.1))
  | .own _ => ∃ o, h.get? a = some o
  | .xd fs => ∃ mA, h.Ns1 a mA ∧ ∀ f, RelO (fs.lookup f) (mA f)
  | .rng lo hi => ∃ t u v, h.get? a = some { cls := .type "range", data := .fields #[.int lo t, .int hi u, .int 1 v] }
  | .frz o u => h.get? a = some o ∧ ObjOk H h a u
  | .tbl ps => h.get? a = some { cls := .none, data := .fields ps }
  | .met f x => h.get? a = some (PySem.W.methodObj (.ref f) (.ref x))
  | .ext φ => φ h ∧ (∃ o, h.get? a = some o) ∧ ∀ h1 h2 : Heap, φ h1 → (∀ o, h1.get? a = some o → h2.get? a = some o) → φ h2
/-- the abstract heap is held -/
def HOk (H : Hp) (h : Heap) : Prop := ∀ a o, H a = some o → ObjOk P w H h a o
end
section
variable {P : Program} {w : World} {H H' : Hp} {h h' : Heap} {a : Addr} {o : HO}
theorem ObjOk.lt (x : ObjOk P w H h a o) : a < h.objs.size := by
  cases o with
  | lst xs => obtain ⟨_, _, _, _, e⟩ := x; exact Heap.lt_size e
  | tup xs => obtain ⟨_, _, _, p⟩ := x; exact p.lt
  | dK kvs => obtain ⟨_, _, _, _, o, _, _, e, _⟩ := x; exact Heap.lt_size e
  | dT kvs => obtain ⟨_, _, _, _, o, _, _, e, _⟩ := x; exact Heap.lt_size e
  | set S n => obtain ⟨o, _, _, _, e, _⟩ := x; exact Heap.lt_size e
  | ins C dx fs => obtain ⟨_, _, _, e, _⟩ := x; exact Heap.lt_size e
  | own y => obtain ⟨_, e⟩ := x; exact Heap.lt_size e
  | xd fs => obtain ⟨_, ⟨_, _, _, e, _⟩, _⟩ := x; exact Heap.lt_size e
  | rng lo hi => obtain ⟨_, _, _, e⟩ := x; exact Heap.lt_size e
  | frz ob u => obtain ⟨e, _⟩ := x; exact Heap.lt_size e
  | tbl ps => exact Heap.lt_size (show h.get? a = some _ from x)
  | met f y => exact Heap.lt_size (show h.get? a = some _ from x)
  | ext φ => obtain ⟨_, ⟨_, e⟩, _⟩ := x; exact Heap.lt_size e
theorem Paired.mapP {α β : Type} {F G : α → β → Prop} : ∀ {l₁ : List α} {l₂ : List β}, Paired F l₁ l₂ → (∀ a b, F a b → G a b) → Paired G l₁ l₂
  | _, _, .nil, _ => .nil
  | _, _, .cons r t, f => .cons (f _ _ r) (Paired.mapP t f)
/-- what an object's description leans on: its own object, its own dict, the tuples -/
theorem ObjOk.stay (x : ObjOk P w H h a o) (k : ∀ b u, (b = a ∨ H b = some (.own a)) → h.get? b = some u → h'.get? b = some u)
    (ho : ∀ b, H b = some (.own a) → H' b = some (.own a)) (ht : ∀ b xs, H b = some (.tup xs) → H' b = some (.tup xs)) : ObjOk P w H' h' a o := by
  induction o with
  | lst xs => obtain ⟨z, its, n, r, e⟩ := x; exact ⟨z, its, n, r, k _ _ (.inl rfl) e⟩
  | tup xs => obtain ⟨z, its, r, ob, e, c⟩ := x; exact ⟨z, its, r, ob, k _ _ (.inl rfl) e, c⟩
  | dK kvs => obtain ⟨z, y, vs, r, ob, es, ep, e, c⟩ := x; exact ⟨z, y, vs, r, ob, es, ep, k _ _ (.inl rfl) e, c⟩
  | dT kvs =>
    obtain ⟨z, y, xs, r, ob, es, ep, e, c⟩ := x
    exact ⟨z, y, xs, Paired.mapP r fun p q z => ⟨z.1, ht _ _ z.2.1, z.2.2⟩, ob, es, ep, k _ _ (.inl rfl) e, c⟩
  | set S n => obtain ⟨ob, es, ep, t, e, c⟩ := x; exact ⟨ob, es, ep, t, k _ _ (.inl rfl) e, c⟩
  | ins C dx fs =>
    obtain ⟨d, z, ne, e, mA, ⟨od, es, ep, e2, c⟩, r⟩ := x
    exact ⟨ho _ d, z, ne, k _ _ (.inl rfl) e, mA, ⟨od, es, ep, k _ _ (.inr d) e2, c⟩, r⟩
  | own y => obtain ⟨ob, e⟩ := x; exact ⟨ob, k _ _ (.inl rfl) e⟩
  | xd fs => obtain ⟨mA, ⟨od, es, ep, e, c⟩, r⟩ := x; exact ⟨mA, ⟨od, es, ep, k _ _ (.inl rfl) e, c⟩, r⟩
  | rng lo hi => obtain ⟨t, u, v, e⟩ := x; exact ⟨t, u, v, k _ _ (.inl rfl) e⟩
  | frz ob u ih => obtain ⟨e, q⟩ := x; exact ⟨k _ _ (.inl rfl) e, ih q⟩
  | tbl ps =>
    have e : h.get? a = some { cls := .none, data := .fields ps } := x
    show h'.get? a = some { cls := .none, data := .fields ps }
    exact k a _ (.inl rfl) e
  | met f y =>
    have e : h.get? a = some (PySem.W.methodObj (.ref f) (.ref y)) := x
    show h'.get? a = some (PySem.W.methodObj (.ref f) (.ref y))
    exact k a _ (.inl rfl) e
  | ext φ => obtain ⟨p, ⟨o, e⟩, st⟩ := x; exact ⟨st _ _ p fun o q => k _ _ (.inl rfl) q, ⟨o, k _ _ (.inl rfl) e⟩, st⟩
theorem HOk.lt (x : HOk P w H h) (e : H a = some o) : a < h.objs.size := (x a o e).lt
theorem HOk.fresh (x : HOk P w H h) (e : h.objs.size ≤ a) : H a = none := by
  cases q : H a with
  | none => rfl
  | some u => exact absurd (Nat.lt_of_lt_of_le (x.lt q) e) (Nat.lt_irrefl _)
/-- every object of the heap is kept -/
theorem HOk.kept (x : HOk P w H h) (k : ∀ b u, h.get? b = some u → h'.get? b = some u) : HOk P w H h' := fun a o e =>
  (x a o e).stay (fun b u _ q => k b u q) (fun _ q => q) fun _ _ q => q
/-- a new object is laid and tracked -/
theorem HOk.laid (x : HOk P w H h) (k : ∀ b u, h.get? b = some u → h'.get? b = some u) (hp : h.objs.size ≤ a) (new : ObjOk P w (upd H a o) h' a o) : HOk P w (upd H a o) h' := fun b u e => by
  have hn := x.fresh hp
  by_cases hb : b = a
  · subst hb; rw [upd_same] at e; cases e; exact new
  · rw [upd_ne hb] at e
    exact (x b u e).stay (fun c v _ q => k c v q) (fun c q => by rw [upd_ne (ne_of_none q hn)]; exact q) fun c xs q => by rw [upd_ne (ne_of_none q hn)]; exact q
end
/-- what may be read as u: it is u, or a known u -/
def Rd (H : Hp) (a : Addr) (u : HO) : Prop := H a = some u ∨ ∃ o, H a = some (.frz o u)
theorem Rd.of {H : Hp} {a : Addr} {u : HO} (h : H a = some u) : Rd H a u := .inl h
theorem Rd.ok {P : Program} {w : World} {H : Hp} {h : Heap} {a : Addr} {u : HO} (r : Rd H a u) (x : HOk P w H h) : ObjOk P w H h a u := by
  rcases r with r | ⟨o, r⟩
  · exact x a u r
  · obtain ⟨_, q⟩ := x a _ r
    exact q
/-- what may be written -/
def Mut : Option HO → Prop
  | some (.lst _) => True
  | some (.dK _) => True
  | some (.dT _) => True
  | some (.set _ _) => True
  | some (.ins _ _ _) => True
  | some (.ext _) => True
  | _ => False
section
variable {P : Program} {w : World} {H : Hp} {h h' : Heap} {x e : Addr} {o' : HO}
/-- the object at e is changed: x itself, or the dict of the instance x -/
theorem HOk.write (ok : HOk P w H h) (mu : Mut (H x)) (he : e = x ∨ H e = some (.own x)) (k : ∀ b u, b ≠ e → h.get? b = some u → h'.get? b = some u) (heo : ∃ u, h'.get? e = some u)
    (new : ObjOk P w (upd H x o') h' x o') : HOk P w (upd H x o') h' := fun b u q => by
  have nown : ∀ c y, H c = some (.own y) → c ≠ x := fun c y r z => by subst z; rw [r] at mu; exact mu
  have ntup : ∀ c xs, H c = some (.tup xs) → c ≠ x := fun c xs r z => by subst z; rw [r] at mu; exact mu
  by_cases hb : b = x
  · subst hb; rw [upd_same] at q; cases q; exact new
  · rw [upd_ne hb] at q
    by_cases hbe : b = e
    · have q' : H b = some (.own x) := by
        rcases he with z | z
        · exact absurd (hbe.trans z) hb
        · rw [hbe]; exact z
      rw [q] at q'; cases q'
      obtain ⟨v, hv⟩ := heo
      exact ⟨v, by rw [hbe]; exact hv⟩
    · refine (ok b u q).stay (fun c v hc r => k c v ?_ r) (fun c r => by rw [upd_ne (nown c b r)]; exact r) fun c xs r => by rw [upd_ne (ntup c xs r)]; exact r
      rcases hc with rfl | hc
      · exact hbe
      · rintro rfl
        rcases he with z | z
        · exact nown c b hc z
        · rw [hc] at z; cases z; exact hb rfl
end
/-! ### kept unless tracked; of the frames at fs (the callers') the slots may change (an exception that passes writes there); of the records at ex (iterators) nothing is said -/
structure Un (fs ex : List Addr) (H H' : Hp) (h h' : Heap) : Prop where
  keep : ∀ b o, h.get? b = some o → H b = none → b ∉ fs → b ∉ ex → h'.get? b = some o
  slot : ∀ b o, h.get? b = some o → H b = none → b ∈ fs → b ∉ ex → ∃ sl, h'.get? b = some { o with slots := sl }
  free : ∀ b o, h.get? b = some o → H b = none → b ∉ ex → H' b = none
  there : ∀ b o, h.get? b = some o → b ∉ ex → ∃ o', h'.get? b = some o'
  tups : ∀ b xs, H b = some (.tup xs) → H' b = some (.tup xs)
  frzs : ∀ b o u, H b = some (.frz o u) → H' b = some (.frz o u)
  tbls : ∀ b ps, H b = some (.tbl ps) → ∃ more, H' b = some (.tbl (ps ++ more))
section
variable {fs fs' ex ex' : List Addr} {H H1 H2 : Hp} {h h1 h2 h' : Heap} {a x e : Addr} {o : HO}
theorem Un.any (u : Un fs ex H H1 h h1) {b : Addr} {ob : Obj} (q : h.get? b = some ob) (n : H b = none) (hx : b ∉ ex) : ∃ sl, h1.get? b = some { ob with slots := sl } := by
  by_cases hb : b ∈ fs
  · exact u.slot b ob q n hb hx
  · exact ⟨ob.slots, u.keep b ob q n hb hx⟩
theorem Un.trans (a : Un fs ex H H1 h h1) (b : Un fs ex H1 H2 h1 h2) : Un fs ex H H2 h h2 where
  keep := fun c ob q n hc hx => b.keep c ob (a.keep c ob q n hc hx) (a.free c ob q n hx) hc hx
  slot := fun c ob q n hc hx => by
    obtain ⟨sl, e1⟩ := a.slot c ob q n hc hx
    obtain ⟨sl', e2⟩ := b.slot c _ e1 (a.free c ob q n hx) hc hx
    exact ⟨sl', e2⟩
  free := fun c ob q n hx => by
    obtain ⟨o', e1⟩ := a.there c ob q hx
    exact b.free c o' e1 (a.free c ob q n hx) hx
  there := fun c ob q hx => by
    obtain ⟨o', e1⟩ := a.there c ob q hx
    exact b.there c o' e1 hx
  tups := fun c xs q => b.tups c xs (a.tups c xs q)
  frzs := fun c ob xs q => b.frzs c ob xs (a.frzs c ob xs q)
  tbls := fun c ps q => by
    obtain ⟨m1, e1⟩ := a.tbls c ps q
    obtain ⟨m2, e2⟩ := b.tbls c _ e1
    exact ⟨m1 ++ m2, by rw [e2, Array.append_assoc]⟩
theorem Un.kept (k : ∀ b u, h.get? b = some u → h'.get? b = some u) : Un fs ex H H h h' :=
  ⟨fun b ob q _ _ _ => k b ob q, fun b ob q _ _ _ => ⟨ob.slots, k b ob q⟩, fun _ _ _ n _ => n, fun b ob q _ => ⟨ob, k b ob q⟩, fun _ _ q => q, fun _ _ _ q => q, fun _ ps q => ⟨#[], by rw [q]; simp⟩⟩
theorem Un.refl : Un fs ex H H h h := Un.kept fun _ _ q => q
theorem Un.laid (k : ∀ b u, h.get? b = some u → h'.get? b = some u) (hp : h.objs.size ≤ a) (hn : H a = none) : Un fs ex H (upd H a o) h h' where
  keep := fun b u q _ _ _ => k b u q
  slot := fun b u q _ _ _ => ⟨u.slots, k b u q⟩
  free := fun b u q n _ => by rw [upd_ne (Nat.ne_of_lt (Nat.lt_of_lt_of_le (Heap.lt_size q) hp))]; exact n
  there := fun b u q _ => ⟨u, k b u q⟩
  tups := fun b xs q => by rw [upd_ne (ne_of_none q hn)]; exact q
  frzs := fun b u xs q => by rw [upd_ne (ne_of_none q hn)]; exact q
  tbls := fun b ps q => ⟨#[], by rw [upd_ne (ne_of_none q hn), q]; simp⟩
theorem Un.write (mu : Mut (H x)) (he : e = x ∨ H e = some (.own x)) (k : ∀ b u, b ≠ e → h.get? b = some u → h'.get? b = some u) (heo : ∃ u, h'.get? e = some u) : Un fs ex H (upd H x o) h h' := by
  have hx : ∀ b, H b = none → b ≠ x := fun b n z => by subst z; rw [n] at mu; exact mu
  have hb : ∀ b, H b = none → b ≠ e := fun b n z => by
    subst z
    rcases he with r | r
    · exact hx b n r
    · rw [n] at r; cases r
  have hm : ∀ b u, H b = some u → ¬ Mut (some u) → b ≠ x := fun b u q nm z => by subst z; rw [q] at mu; exact nm mu
  refine ⟨fun b u q n _ _ => k b u (hb b n) q, fun b u q n _ _ => ⟨u.slots, k b u (hb b n) q⟩, fun b u q n _ => by rw [upd_ne (hx b n)]; exact n, fun b u q _ => ?_,
    fun b xs q => by rw [upd_ne (hm b _ q fun z => z)]; exact q, fun b u xs q => by rw [upd_ne (hm b _ q fun z => z)]; exact q, fun b ps q => ⟨#[], by rw [upd_ne (hm b _ q fun z => z), q]; simp⟩⟩
  by_cases hbe : b = e
  · subst hbe; exact heo
  · exact ⟨u, k b u hbe q⟩
theorem Un.mono (u : Un fs ex H H1 h h1) (hs : ∀ b ∈ fs, b ∈ fs') (hx : ∀ b ∈ ex, b ∈ ex') : Un fs' ex' H H1 h h1 :=
  ⟨fun b ob q n hb he => u.keep b ob q n (fun z => hb (hs b z)) fun z => he (hx b z), fun _ _ q n _ he => u.any q n fun z => he (hx _ z), fun b ob q n he => u.free b ob q n fun z => he (hx b z), fun b ob q he => u.there b ob q fun z => he (hx b z), u.tups, u.frzs, u.tbls⟩
end
/-! ### the heap without what is tracked -/
def trk (h : Heap) (H : Hp) : List Addr := (List.range h.objs.size).filter fun a => (H a).isSome
def hidT (h : Heap) (H : Hp) : Heap := PySem.W.hideAll h (trk h H)
theorem hidT_size (h : Heap) (H : Hp) : (hidT h H).objs.size = h.objs.size := PySem.W.hideAll_size _ _
theorem hidT_get {h : Heap} {H : Hp} {b : Addr} {o : Obj} (e : h.get? b = some o) (n : H b = none) : (hidT h H).get? b = some o :=
  PySem.W.hideAll_get _ e fun hm => by
    have q : (H b).isSome = true := (List.mem_filter.mp hm).2
    rw [n] at q; simp at q
theorem of_hidT {h : Heap} {H : Hp} {b : Addr} {o : Obj} (e : (hidT h H).get? b = some o) : h.get? b = some o ∧ H b = none := by
  have e' : h.get? b = some o := PySem.W.of_hideAll (trk h H) e
  refine ⟨e', ?_⟩
  cases q : H b with
  | none => rfl
  | some x =>
    have hm : b ∈ trk h H := List.mem_filter.mpr ⟨List.mem_range.mpr (Heap.lt_size e'), by simp [q]⟩
    have z : (hidT h H).get? b = none := PySem.W.hideAll_none (trk h H) hm
    rw [z] at e; cases e
/-! ### OpenK's ledger, filled with every new object but one -/
def allNews (g h : Heap) (L : Addr) : List (Addr × Obj) := (List.range h.objs.size).filterMap fun a => if a = L ∨ (g.get? a).isSome = true then none else (h.get? a).map fun o => (a, o)
def rest (g h : Heap) (L d : Addr) : List (Addr × Obj) := (allNews g h L).filter fun p => decide (p.1 ≠ d)
end L2
namespace L2
open PySem PySem.Spec PyProof.Rows
/-- the module's facts, over the base: the heap at the law's entry without what is tracked there -/
structure Mod (K : PySem.W.Frag) (mg : Str → Option Value) (base : Heap) : Prop where
  kin : K.In base
  glob : base.Ns mainGlobals mg
  blt : ∃ mb, base.Ns builtinsNs mb ∧ ∀ x : Str, x ≠ "__name__" → mb x = bootBuiltins x
  nolimit : base.NoLimit
/-- the context: a def's body (or a comprehension's block) running. base: fixed through the whole law; s₀, H₀: the entry; outer: the frames whose slots others may change (a def's callers); stack: all frames that run;
   ex: iterators that were made ahead of the entry and are walked here (a comprehension's); fn: the names whose cells were made at the entry (a def: all; a comprehension's block: its own); calm: not within an except suite; pn: pins that every state bears; xe: what is wanted of an exception that leaves the code -/
structure Cx where
  prog : Program
  w : World
  K : PySem.W.Frag
  mg : Str → Option Value
  base : Heap
  A : Around
  N : List Str
  s₀ : Shared
  H₀ : Hp
  env : Env
  outer : List Env
  stack : List Env
  ex : List Addr
  fn : Str → Bool
  calm : Bool
  pn : List (Addr × Obj)
  xe : Value → Shared → Prop
/-- the callers' frames -/
def frs (l : List Env) : List Addr := l.filterMap (·.frame)
abbrev Cx.fs (X : Cx) : List Addr := frs X.outer
def Vis (sc : Scope) (x : Str) : Prop := sc.names.lookup x = some .local ∨ sc.names.lookup x = some .cell ∨ sc.names.lookup x = some .free
def Loc (sc : Scope) (x : Str) : Prop := sc.names.lookup x = some .local ∨ sc.names.lookup x = some .cell
def Look (env : Env) (h : Heap) (m : Str → Option Value) (x : Str) (u : Value) : Prop :=
  (env.kindOf x = some .local ∧ m x = some u) ∨ ((env.kindOf x = some .cell ∨ env.kindOf x = some .free) ∧ ∃ c, env.cells.lookup x = some c ∧ h.IsCell c (some u))
structure Cx.Ok (X : Cx) : Prop where
  mod : Mod X.K X.mg X.base
  kind : X.env.scope.kind = .function
  glob : X.env.globals = mainGlobals
  blt : X.env.builtins = builtinsNs
  above : X.s₀.heap.objs.size ≤ X.env.locals
  inj : ∀ x y c, X.env.cells.lookup x = some c → X.env.cells.lookup y = some c → x = y
  has : ∀ x, (X.env.kindOf x = some .cell ∨ X.env.kindOf x = some .free) → ∃ c, X.env.cells.lookup x = some c
  cab : ∀ x c, X.fn x = true → X.env.cells.lookup x = some c → X.s₀.heap.objs.size ≤ c
  hd : X.calm = true → X.A.handled = none
  frames : X.A.frames = some X.stack
  stk : X.stack = X.outer ∨ (X.stack = X.env :: X.outer ∧ X.env.frame = some X.env.locals)
  exf : ∀ b ∈ X.ex, b ≠ X.env.locals ∧ ∀ x c, X.env.cells.lookup x = some c → c ≠ b
  bs : ∀ b o, X.base.get? b = some o → X.s₀.heap.get? b = some o ∧ X.H₀ b = none
  bsz : X.base.objs.size ≤ X.s₀.heap.objs.size
  noex : ∀ b o, X.base.get? b = some o → b ∉ X.ex
  exfs : ∀ b ∈ X.ex, b ∉ X.fs
  funs : X.s₀.heap.FunFrames X.base X.outer
  frf : ∀ b ∈ X.fs, X.H₀ b = none
structure Inv (X : Cx) (pins : List (Addr × Obj)) (σ : List (Option V)) (H : Hp) (s : Shared) : Prop where
  ok : X.Ok
  os : s.os = X.s₀.os
  bare : AllBare s.gens
  base : Un X.fs X.ex X.H₀ H X.s₀.heap s.heap
  loc : ∃ m, s.heap.Ns X.env.locals m ∧ ∀ (i : Nat) (x : Str) (v : V), X.N[i]? = some x → σ[i]? = some (some v) → Vis X.env.scope x → ∃ u, RelV v u ∧ Look X.env s.heap m x u
  cell : ∀ x c, X.env.cells.lookup x = some c → ∃ v, s.heap.IsCell c v
  free : H X.env.locals = none
  freeC : ∀ x c, X.env.cells.lookup x = some c → H c = none
  pin : ∀ p ∈ X.pn ++ pins, s.heap.get? p.1 = some p.2 ∧ H p.1 = none ∧ p.1 ≠ X.env.locals ∧ p.1 ∉ X.fs ∧ ∀ v, p.2.data ≠ .cell v
  hok : HOk X.prog X.w H s.heap
  len : σ.length = X.N.length
section
variable {X : Cx} {pins : List (Addr × Obj)} {σ : List (Option V)} {H H' : Hp} {s : Shared} {h' : Heap}
theorem Cx.Ok.nofr (ok : X.Ok) {b : Addr} {o : Obj} (e : X.base.get? b = some o) : b ∉ X.fs := fun hb => by
  have := (ok.funs.mem hb).1
  rw [e] at this; cases this
theorem Inv.bs (I : Inv X pins σ H s) : ∀ b o, X.base.get? b = some o → s.heap.get? b = some o ∧ H b = none := fun b o e =>
  ⟨I.base.keep b o (I.ok.bs b o e).1 (I.ok.bs b o e).2 (I.ok.nofr e) (I.ok.noex b o e), I.base.free b o (I.ok.bs b o e).1 (I.ok.bs b o e).2 (I.ok.noex b o e)⟩
theorem Inv.bk (I : Inv X pins σ H s) : ∀ b o, X.base.get? b = some o → s.heap.get? b = some o := fun b o e => (I.bs b o e).1
theorem Inv.mod (I : Inv X pins σ H s) : Mod X.K X.mg X.base := I.ok.mod
theorem Inv.kIn (I : Inv X pins σ H s) : X.K.In s.heap := I.ok.mod.kin.keeps I.bk
theorem Inv.nolimit (I : Inv X pins σ H s) : s.heap.NoLimit := I.ok.mod.nolimit.keeps I.bk
/-- the frame over the base: for OpenK's rules (K.In X.base is I.mod.kin) -/
theorem Inv.fr (I : Inv X pins σ H s) : ∃ m, Fr X.base X.env.locals s.heap m :=
  let ⟨m, hn, _⟩ := I.loc
  ⟨m, hn, I.bk, Nat.le_trans I.ok.bsz I.ok.above⟩
theorem Inv.lt (I : Inv X pins σ H s) : X.env.locals < s.heap.objs.size := let ⟨_, hn, _⟩ := I.loc; hn.lt
theorem Inv.sz (I : Inv X pins σ H s) : X.s₀.heap.objs.size ≤ s.heap.objs.size := Nat.le_trans I.ok.above (Nat.le_of_lt I.lt)
theorem Inv.nofs (I : Inv X pins σ H s) {a : Addr} (h : s.heap.objs.size ≤ a) : a ∉ X.fs := fun hb => by
  obtain ⟨_, o, ho, _⟩ := I.ok.funs.mem hb
  exact absurd (Nat.lt_of_lt_of_le (Heap.lt_size ho) (Nat.le_trans I.sz h)) (Nat.lt_irrefl _)
theorem Inv.cne (I : Inv X pins σ H s) : ∀ x c, X.env.cells.lookup x = some c → c ≠ X.env.locals := fun x c e z => by
  obtain ⟨v, o, ho, hd⟩ := I.cell x c e
  obtain ⟨m, ⟨o', es, ep, ho', hd', _⟩, _⟩ := I.loc
  rw [z, ho'] at ho; cases ho; rw [hd'] at hd; cases hd
theorem Inv.funs (I : Inv X pins σ H s) : s.heap.FunFrames X.base X.outer := by
  have all : ∀ (l : List Env), (∀ b ∈ frs l, b ∈ X.fs) → X.s₀.heap.FunFrames X.base l → s.heap.FunFrames X.base l := by
    intro l
    induction l with
    | nil => intro _ _; trivial
    | cons env r ih =>
      intro hs hl
      obtain ⟨hk, ⟨L, o, hf, hn, ho, hd⟩, hr⟩ := hl
      have hL : L ∈ X.fs := hs L (by unfold frs; rw [List.filterMap_cons, hf]; exact List.mem_cons_self)
      obtain ⟨sl, e⟩ := I.base.slot L o ho (I.ok.frf L hL) hL fun z => I.ok.exfs L z hL
      exact ⟨hk, ⟨L, _, hf, hn, e, hd⟩, ih (fun b hb => hs b (by unfold frs; rw [List.filterMap_cons, hf]; exact List.mem_cons_of_mem _ hb)) hr⟩
  exact all X.outer (fun _ hb => hb) I.ok.funs
/-- the frames that run, for a call -/
theorem Inv.stack (I : Inv X pins σ H s) : s.heap.FunFrames X.base X.stack := by
  rcases I.ok.stk with e | ⟨e, hf⟩
  · rw [e]; exact I.funs
  · rw [e]
    obtain ⟨m, hn, _⟩ := I.loc
    refine .cons (by rw [I.ok.kind]; decide) hf hn ?_ I.funs
    exact Heap.get?_none_of_le (Nat.le_trans I.ok.bsz I.ok.above)
theorem Inv.stkSub (I : Inv X pins σ H s) : ∀ b ∈ frs X.stack, b ∈ X.env.locals :: X.fs := fun b hb => by
  rcases I.ok.stk with e | ⟨e, hf⟩
  · rw [e] at hb; exact List.mem_cons_of_mem _ hb
  · rw [e] at hb
    unfold frs at hb
    rw [List.filterMap_cons, hf] at hb
    exact hb
theorem Inv.stkFree (I : Inv X pins σ H s) : ∀ b ∈ frs X.stack, H b = none := fun b hb => by
  rcases List.mem_cons.mp (I.stkSub b hb) with e | hb
  · rw [e]; exact I.free
  · obtain ⟨_, o, ho, _⟩ := I.ok.funs.mem hb
    exact I.base.free b o ho (I.ok.frf b hb) fun z => I.ok.exfs b z hb
/-- THE STEP: the untracked objects but the frame and the records at ch are kept (the callers' frames up to slots), the frame's map is kept, the new abstract heap is held -/
theorem Inv.step {g' : Array GenState} {t' : Nat} {d' : Drawn} {ch : List Addr} (I : Inv X pins σ H s)
    (hch : ∀ b ∈ ch, (b ∈ X.ex ∨ X.s₀.heap.objs.size ≤ b) ∧ b ≠ X.env.locals ∧ (∀ x c, X.env.cells.lookup x = some c → c ≠ b) ∧ ∀ p ∈ X.pn ++ pins, p.1 ≠ b)
    (keep : ∀ b o, b ≠ X.env.locals → b ∉ X.fs → b ∉ ch → s.heap.get? b = some o → H b = none → h'.get? b = some o)
    (slot : ∀ b o, b ≠ X.env.locals → b ∈ X.fs → b ∉ ch → s.heap.get? b = some o → H b = none → ∃ sl, h'.get? b = some { o with slots := sl }) (free : ∀ b o, b ∉ ch → s.heap.get? b = some o → H b = none → H' b = none)
    (there : ∀ b o, b ∉ ch → s.heap.get? b = some o → ∃ o', h'.get? b = some o')
    (tups : ∀ b xs, H b = some (.tup xs) → H' b = some (.tup xs)) (frzs : ∀ b o u, H b = some (.frz o u) → H' b = some (.frz o u)) (tbls : ∀ b ps, H b = some (.tbl ps) → ∃ more, H' b = some (.tbl (ps ++ more)))
    (ns : ∀ m, s.heap.Ns X.env.locals m → h'.Ns X.env.locals m) (hok : HOk X.prog X.w H' h') (hg : AllBare g') :
    Inv X pins σ H' { s with heap := h', gens := g', drawn := d', toks := t' } := by
  have neL : ∀ b o, X.s₀.heap.get? b = some o → b ≠ X.env.locals := fun b o e => Nat.ne_of_lt (Nat.lt_of_lt_of_le (Heap.lt_size e) I.ok.above)
  have neC : ∀ b o, X.s₀.heap.get? b = some o → b ∉ X.ex → b ∉ ch := fun b o e hx hb => by
    rcases (hch b hb).1 with z | z
    · exact hx z
    · exact absurd (Nat.lt_of_lt_of_le (Heap.lt_size e) z) (Nat.lt_irrefl _)
  have cellK : ∀ x c, X.env.cells.lookup x = some c → ∀ v, s.heap.IsCell c v → h'.IsCell c v := fun x c e v ⟨o, ho, hd⟩ => by
    have nch : c ∉ ch := fun z => (hch c z).2.2.1 x c e rfl
    by_cases hc : c ∈ X.fs
    · obtain ⟨sl, q⟩ := slot c o (I.cne x c e) hc nch ho (I.freeC x c e)
      exact ⟨_, q, hd⟩
    · exact ⟨o, keep c o (I.cne x c e) hc nch ho (I.freeC x c e), hd⟩
  refine ⟨I.ok, I.os, hg, ⟨fun b o e n hb hx => ?_, fun b o e n hb hx => ?_, fun b o e n hx => ?_, fun b o e hx => ?_, fun b xs e => tups b xs (I.base.tups b xs e), fun b o xs e => frzs b o xs (I.base.frzs b o xs e), fun b ps e => ?_⟩, ?_, fun x c e => ?_, ?_, fun x c e => ?_, fun p hp => ?_, hok, I.len⟩
  · exact keep b o (neL b o e) hb (neC b o e hx) (I.base.keep b o e n hb hx) (I.base.free b o e n hx)
  · obtain ⟨sl, e1⟩ := I.base.slot b o e n hb hx
    obtain ⟨sl', e2⟩ := slot b _ (neL b o e) hb (neC b o e hx) e1 (I.base.free b o e n hx)
    exact ⟨sl', e2⟩
  · obtain ⟨o', e1⟩ := I.base.there b o e hx
    exact free b o' (neC b o e hx) e1 (I.base.free b o e n hx)
  · obtain ⟨o', e1⟩ := I.base.there b o e hx
    exact there b o' (neC b o e hx) e1
  · obtain ⟨m1, e1⟩ := I.base.tbls b ps e
    obtain ⟨m2, e2⟩ := tbls b _ e1
    exact ⟨m1 ++ m2, by rw [e2, Array.append_assoc]⟩
  · obtain ⟨m, hn, hl⟩ := I.loc
    refine ⟨m, ns m hn, fun i x v e1 e2 e3 => ?_⟩
    obtain ⟨u, r, l⟩ := hl i x v e1 e2 e3
    refine ⟨u, r, ?_⟩
    rcases l with l | ⟨k, c, e, z⟩
    · exact .inl l
    · exact .inr ⟨k, c, e, cellK x c e _ z⟩
  · obtain ⟨v, z⟩ := I.cell x c e
    exact ⟨v, cellK x c e v z⟩
  · obtain ⟨m, ⟨o, _, _, ho, _⟩, _⟩ := I.loc
    exact free _ o (fun z => (hch _ z).2.1 rfl) ho I.free
  · obtain ⟨v, o, ho, hd⟩ := I.cell x c e
    exact free c o (fun z => (hch c z).2.2.1 x c e rfl) ho (I.freeC x c e)
  · obtain ⟨e, n, ne, nf, d⟩ := I.pin p hp
    have nch : p.1 ∉ ch := fun z => (hch p.1 z).2.2.2 p hp rfl
    exact ⟨keep p.1 p.2 ne nf nch e n, free p.1 p.2 nch e n, ne, nf, d⟩
/-- .. where the frame's own object is kept too -/
theorem Inv.un {t' : Nat} (I : Inv X pins σ H s) (u : Un X.fs [] H H' s.heap h') (hok : HOk X.prog X.w H' h') : Inv X pins σ H' { s with heap := h', toks := t' } := by
  obtain ⟨m, ⟨o, es, ep, ho, r⟩, _⟩ := id I.loc
  obtain ⟨sl, hL⟩ := u.any ho I.free (by simp)
  exact I.step (g' := s.gens) (d' := s.drawn) (ch := []) (fun _ z => nomatch z) (fun b o _ hb _ e n => u.keep b o e n hb (by simp)) (fun b o _ hb _ e n => u.slot b o e n hb (by simp)) (fun b o _ e n => u.free b o e n (by simp)) (fun b o _ e => u.there b o e (by simp)) u.tups u.frzs u.tbls (fun m' hm => by
    obtain ⟨o', es', ep', ho', r'⟩ := hm
    rw [ho] at ho'; cases ho'
    exact ⟨_, es', ep', hL, r'⟩) hok I.bare
/-- behind a call (or a comprehension's block): the slots of this frame may have changed too, the records at ch may have turned -/
theorem Inv.call {g' : Array GenState} {t' : Nat} {d' : Drawn} {ch : List Addr} (I : Inv X pins σ H s) (u : Un (frs X.stack) ch H H' s.heap h') (hok : HOk X.prog X.w H' h') (hg : AllBare g')
    (hch : ∀ b ∈ ch, (b ∈ X.ex ∨ X.s₀.heap.objs.size ≤ b) ∧ b ≠ X.env.locals ∧ (∀ x c, X.env.cells.lookup x = some c → c ≠ b) ∧ ∀ p ∈ X.pn ++ pins, p.1 ≠ b) :
    Inv X pins σ H' { s with heap := h', gens := g', drawn := d', toks := t' } := by
  obtain ⟨m, ⟨o, es, ep, ho, r⟩, _⟩ := id I.loc
  obtain ⟨sl, hL⟩ := u.any ho I.free fun z => (hch _ z).2.1 rfl
  exact I.step (ch := ch) hch (fun b o hL hb hc e n => u.keep b o e n (fun z => (List.mem_cons.mp (I.stkSub b z)).elim hL hb) hc) (fun b o _ _ hc e n => u.any e n hc) (fun b o hc e n => u.free b o e n hc) (fun b o hc e => u.there b o e hc) u.tups u.frzs u.tbls (fun m' hm => by
    obtain ⟨o', es', ep', ho', r'⟩ := hm
    rw [ho] at ho'; cases ho'
    exact ⟨_, es', ep', hL, r'⟩) hok hg
/-- an untracked record of ours (an iterator) has turned -/
theorem Inv.turned {t' : Nat} {it : Addr} (I : Inv X pins σ H s) (k : ∀ b o, b ≠ it → s.heap.get? b = some o → h'.get? b = some o) (hn : H it = none) (hL : it ≠ X.env.locals)
    (h1 : it ∈ X.ex ∨ X.s₀.heap.objs.size ≤ it) (h2 : ∀ x c, X.env.cells.lookup x = some c → c ≠ it) (h3 : ∀ p ∈ X.pn ++ pins, p.1 ≠ it) : Inv X pins σ H { s with heap := h', toks := t' } := by
  have nit : ∀ b u, H b = some u → b ≠ it := fun b u e z => by rw [z, hn] at e; cases e
  refine I.step (g' := s.gens) (d' := s.drawn) (ch := [it]) (fun b hb => ?_) (fun b o _ _ hc e _ => k b o (fun z => hc (by simp [z])) e) (fun b o _ _ hc e _ => ⟨o.slots, k b o (fun z => hc (by simp [z])) e⟩) (fun _ _ _ _ n => n)
    (fun b o hc e => ⟨o, k b o (fun z => hc (by simp [z])) e⟩) (fun _ _ e => e) (fun _ _ _ e => e) (fun b ps e => ⟨#[], by rw [e]; simp⟩) (fun m hm => ?_) (fun b u e => ?_) I.bare
  · have e : b = it := by simpa using hb
    subst e
    exact ⟨h1, hL, h2, h3⟩
  · obtain ⟨o, es, ep, ho, r⟩ := hm
    exact ⟨o, es, ep, k _ o (Ne.symm hL) ho, r⟩
  · refine (I.hok b u e).stay (fun c v hc q => k c v ?_ q) (fun _ q => q) fun _ _ q => q
    rcases hc with z | z
    · rw [z]; exact nit b u e
    · exact nit c _ z
theorem Inv.tok (I : Inv X pins σ H s) (t : Nat) : Inv X pins σ H { s with toks := t } := I.un (h' := s.heap) (t' := t) Un.refl I.hok
/-- all objects kept -/
theorem Inv.kept {t' : Nat} (I : Inv X pins σ H s) (k : ∀ b u, s.heap.get? b = some u → h'.get? b = some u) : Inv X pins σ H { s with heap := h', toks := t' } := I.un (Un.kept k) (I.hok.kept k)
/-- a new object laid and tracked -/
theorem Inv.laid {a : Addr} {o : HO} {t' : Nat} (I : Inv X pins σ H s) (k : ∀ b u, s.heap.get? b = some u → h'.get? b = some u) (hp : s.heap.objs.size ≤ a) (new : ObjOk X.prog X.w (upd H a o) h' a o) :
    Inv X pins σ (upd H a o) { s with heap := h', toks := t' } := I.un (Un.laid k hp (I.hok.fresh hp)) (I.hok.laid k hp new)
/-- an object written -/
theorem Inv.write {x e : Addr} {o : HO} {t' : Nat} (I : Inv X pins σ H s) (mu : Mut (H x)) (he : e = x ∨ H e = some (.own x)) (k : ∀ b u, b ≠ e → s.heap.get? b = some u → h'.get? b = some u) (heo : ∃ u, h'.get? e = some u)
    (new : ObjOk X.prog X.w (upd H x o) h' x o) : Inv X pins σ (upd H x o) { s with heap := h', toks := t' } := I.un (Un.write mu he k heo) (I.hok.write mu he k heo new)
/-- forgetting slots, pins -/
theorem Inv.weak {σ' : List (Option V)} (I : Inv X pins σ H s) (hl : σ'.length = σ.length) (w : ∀ (i : Nat) v, σ'[i]? = some (some v) → σ[i]? = some (some v)) : Inv X pins σ' H s :=
  ⟨I.ok, I.os, I.bare, I.base, let ⟨m, hn, hl'⟩ := I.loc; ⟨m, hn, fun i x v e1 e2 e3 => hl' i x v e1 (w i v e2) e3⟩, I.cell, I.free, I.freeC, I.pin, I.hok, hl.trans I.len⟩
theorem Inv.pins_of {pins' : List (Addr × Obj)} (I : Inv X pins σ H s) (h : ∀ p ∈ pins', s.heap.get? p.1 = some p.2 ∧ H p.1 = none ∧ p.1 ≠ X.env.locals ∧ p.1 ∉ X.fs ∧ ∀ v, p.2.data ≠ .cell v) : Inv X pins' σ H s :=
  ⟨I.ok, I.os, I.bare, I.base, I.loc, I.cell, I.free, I.freeC, fun p hp => (List.mem_append.mp hp).elim (fun z => I.pin p (List.mem_append_left _ z)) (h p), I.hok, I.len⟩
theorem nodup_ix {N : List Str} (hN : N.Nodup) {i j : Nat} {x : Str} (a : N[i]? = some x) (b : N[j]? = some x) : i = j := by
  obtain ⟨h1, e1⟩ := List.getElem?_eq_some_iff.mp a
  obtain ⟨h2, e2⟩ := List.getElem?_eq_some_iff.mp b
  exact (List.getElem_inj hN).mp (e1.trans e2.symm)
/-- a name is stored; what changed -/
theorem store_ok2 {M : Model} {A : Around} {E : Value → Shared → Prop} {i : Nat} {x : Str} {v : V} {u : Value} {Q : Unit → Shared → Prop} (I : Inv X pins σ H s) (hN : X.N.Nodup) (hi : X.N[i]? = some x) (hx : Loc X.env.scope x) (r : RelV v u)
    (h : ∀ s', Inv X pins (σ.set i (some v)) H s' → (∃ a, Heap.SameBut a s.heap s'.heap ∧ (a = X.env.locals ∨ X.env.cells.lookup x = some a)) → Q () s') (hf : X.fn x = true ∨ X.env.scope.names.lookup x = some .local := by first | exact .inl rfl | exact .inr rfl | assumption) : wpAny M A (storeName X.env x u) Q E s := by
  obtain ⟨m, hn, hl⟩ := id I.loc
  have hcls : (X.env.scope.kind == .class || (X.env.scope.kind == .module && X.env.locals != X.env.globals)) = false := by rw [I.ok.kind]; rfl
  have hiσ : i < σ.length := by rw [I.len]; exact (List.getElem?_eq_some_iff.mp hi).1
  have cne := I.cne
  have tracked : ∀ {a : Addr} {h' : Heap}, (∃ o, s.heap.get? a = some o ∧ H a = none) → Heap.SameBut a s.heap h' → HOk X.prog X.w H h' := fun {a h'} ha hs b ob e => by
    obtain ⟨_, _, hfree⟩ := ha
    refine (I.hok b ob e).stay (fun c w' hc q => (hs.2 c ?_).trans q) (fun _ q => q) fun _ _ q => q
    rintro rfl
    rcases hc with rfl | hc
    · rw [hfree] at e; cases e
    · rw [hfree] at hc; cases hc
  rcases hx with hk | hk
  · refine wpAny_storeName_local hk hn (fun h' hn' hs => ?_) hcls
    obtain ⟨oL, _, _, hoL, _⟩ := id hn
    refine h _ ⟨I.ok, I.os, I.bare, ⟨fun b o e n hb hx => ?_, fun b o e n hb hx => ?_, I.base.free, fun b o e hx => ?_, I.base.tups, I.base.frzs, I.base.tbls⟩, ⟨_, hn', fun j y v' e1 e2 e3 => ?_⟩, fun y c e => ?_, I.free, I.freeC, fun p hp => ?_, tracked ⟨oL, hoL, I.free⟩ hs, by simpa using I.len⟩ ⟨_, hs, .inl rfl⟩
    · exact (hs.2 b (Nat.ne_of_lt (Nat.lt_of_lt_of_le (Heap.lt_size e) I.ok.above))).trans (I.base.keep b o e n hb hx)
    · obtain ⟨sl, e1⟩ := I.base.slot b o e n hb hx
      exact ⟨sl, (hs.2 b (Nat.ne_of_lt (Nat.lt_of_lt_of_le (Heap.lt_size e) I.ok.above))).trans e1⟩
    · obtain ⟨o', e1⟩ := I.base.there b o e hx
      exact ⟨o', (hs.2 b (Nat.ne_of_lt (Nat.lt_of_lt_of_le (Heap.lt_size e) I.ok.above))).trans e1⟩
    · by_cases hj : j = i
      · subst hj
        rw [hi] at e1; cases e1
        rw [List.getElem?_set_self hiσ] at e2
        cases e2
        exact ⟨u, r, .inl ⟨hk, by simp⟩⟩
      · rw [List.getElem?_set_ne (Ne.symm hj)] at e2
        obtain ⟨u', r', q⟩ := hl j y v' e1 e2 e3
        refine ⟨u', r', ?_⟩
        rcases q with ⟨k, e⟩ | ⟨k, c, e, z⟩
        · refine .inl ⟨k, ?_⟩
          have : y ≠ x := fun e => hj (nodup_ix hN e1 (e ▸ hi))
          simp [this, e]
        · exact .inr ⟨k, c, e, z.sameBut hs (cne y c e)⟩
    · obtain ⟨w', z⟩ := I.cell y c e
      exact ⟨w', z.sameBut hs (cne y c e)⟩
    · obtain ⟨e, n, ne, nf, d⟩ := I.pin p hp
      exact ⟨(hs.2 p.1 ne).trans e, n, ne, nf, d⟩
  · have hfn : X.fn x = true := by
      rcases hf with z | z
      · exact z
      · rw [z] at hk; cases hk
    obtain ⟨c, hc⟩ := I.ok.has x (.inl hk)
    obtain ⟨w', z⟩ := I.cell x c hc
    refine wpAny_storeName_cell I.ok.kind hk hc z (fun h' hc' hs => ?_)
    obtain ⟨oc, hoc, hocd⟩ := id z
    refine h { s with heap := h' } ⟨I.ok, I.os, I.bare, ⟨fun b o e n hb hx => ?_, fun b o e n hb hx => ?_, I.base.free, fun b o e hx => ?_, I.base.tups, I.base.frzs, I.base.tbls⟩, ⟨m, hn.sameBut hs (Ne.symm (cne x c hc)), fun j y v' e1 e2 e3 => ?_⟩, fun y c' e => ?_, I.free, I.freeC, fun p hp => ?_, tracked ⟨oc, hoc, I.freeC x c hc⟩ hs, by simpa using I.len⟩ ⟨c, hs, .inr hc⟩
    · exact (hs.2 b (Nat.ne_of_lt (Nat.lt_of_lt_of_le (Heap.lt_size e) (I.ok.cab x c hfn hc)))).trans (I.base.keep b o e n hb hx)
    · obtain ⟨sl, e1⟩ := I.base.slot b o e n hb hx
      exact ⟨sl, (hs.2 b (Nat.ne_of_lt (Nat.lt_of_lt_of_le (Heap.lt_size e) (I.ok.cab x c hfn hc)))).trans e1⟩
    · obtain ⟨o', e1⟩ := I.base.there b o e hx
      exact ⟨o', (hs.2 b (Nat.ne_of_lt (Nat.lt_of_lt_of_le (Heap.lt_size e) (I.ok.cab x c hfn hc)))).trans e1⟩
    · by_cases hj : j = i
      · subst hj
        rw [hi] at e1; cases e1
        rw [List.getElem?_set_self hiσ] at e2
        cases e2
        exact ⟨u, r, .inr ⟨.inl hk, c, hc, hc'⟩⟩
      · rw [List.getElem?_set_ne (Ne.symm hj)] at e2
        obtain ⟨u', r', q⟩ := hl j y v' e1 e2 e3
        refine ⟨u', r', ?_⟩
        rcases q with q | ⟨k, c', e, z'⟩
        · exact .inl q
        · refine .inr ⟨k, c', e, z'.sameBut hs ?_⟩
          rintro rfl
          exact hj (nodup_ix hN e1 (I.ok.inj _ _ _ e hc ▸ hi))
    · by_cases hcc : c' = c
      · subst hcc; exact ⟨_, hc'⟩
      · obtain ⟨w2, z2⟩ := I.cell y c' e
        exact ⟨w2, z2.sameBut hs hcc⟩
    · obtain ⟨e, n, ne, nf, d⟩ := I.pin p hp
      refine ⟨(hs.2 p.1 ?_).trans e, n, ne, nf, d⟩
      intro q
      rw [q, hoc] at e
      have q' : oc = p.2 := Option.some.inj e
      exact d w' (by rw [← q']; exact hocd)
theorem store_ok {M : Model} {A : Around} {E : Value → Shared → Prop} {i : Nat} {x : Str} {v : V} {u : Value} {Q : Unit → Shared → Prop} (I : Inv X pins σ H s) (hN : X.N.Nodup) (hi : X.N[i]? = some x) (hx : Loc X.env.scope x) (r : RelV v u)
    (h : ∀ s', Inv X pins (σ.set i (some v)) H s' → Q () s') (hf : X.fn x = true ∨ X.env.scope.names.lookup x = some .local := by first | exact .inl rfl | exact .inr rfl | assumption) : wpAny M A (storeName X.env x u) Q E s :=
  store_ok2 I hN hi hx r (fun s' I' _ => h s' I') hf
/-- behind a call or a block, the state as it is -/
theorem Inv.call' {s' : Shared} {ch : List Addr} (I : Inv X pins σ H s) (ho : s'.os = s.os) (u : Un (frs X.stack) ch H H' s.heap s'.heap) (hok : HOk X.prog X.w H' s'.heap) (hg : AllBare s'.gens)
    (hch : ∀ b ∈ ch, (b ∈ X.ex ∨ X.s₀.heap.objs.size ≤ b) ∧ b ≠ X.env.locals ∧ (∀ x c, X.env.cells.lookup x = some c → c ≠ b) ∧ ∀ p ∈ X.pn ++ pins, p.1 ≠ b) : Inv X pins σ H' s' := by
  obtain ⟨h', g', d', t', o'⟩ := s'
  have e : o' = s.os := ho
  subst e
  exact I.call (g' := g') (t' := t') (d' := d') u hok hg hch
end
/-! ### the judgements -/
/-- an exception: its class, its own dict's address (where it has one), the abstract heap behind it -/
abbrev XK := Value → Option Addr → Hp → Prop
abbrev St := List (Option V)
abbrev VK := V → Hp → Prop
/-- an expression's reading; a test's; an argument list's -/
abbrev TE := St → Hp → VK → Prop
abbrev TT := St → Hp → (Bool → Hp → Prop) → Prop
abbrev TA := St → Hp → (List V → Hp → Prop) → Prop
/-- what is wanted behind a statement -/
structure Ends where
  nx : St → Hp → Prop
  rt : VK
  bk : St → Hp → Prop := fun _ _ => False
  ct : St → Hp → Prop := fun _ _ => False
abbrev TS := Ends → St → Hp → Prop
def EP (X : Cx) (pins : List (Addr × Obj)) (σ : St) (Q : VK) (u : Value) (s' : Shared) : Prop := ∃ v H', Inv X pins σ H' s' ∧ RelV v u ∧ Q v H'
def TP (X : Cx) (pins : List (Addr × Obj)) (σ : St) (Q : Bool → Hp → Prop) (b : Bool) (s' : Shared) : Prop := ∃ H', Inv X pins σ H' s' ∧ Q b H'
def AP (X : Cx) (pins : List (Addr × Obj)) (σ : St) (Q : List V → Hp → Prop) (us : List Value) (s' : Shared) : Prop := ∃ vs H', Inv X pins σ H' s' ∧ Vals vs us ∧ Q vs H'
def SP (X : Cx) (pins : List (Addr × Obj)) (D : Ends) (f : Flow) (s' : Shared) : Prop :=
  match f with
  | .next => ∃ σ' H', Inv X pins σ' H' s' ∧ D.nx σ' H'
  | .brk => ∃ σ' H', Inv X pins σ' H' s' ∧ D.bk σ' H'
  | .cont => ∃ σ' H', Inv X pins σ' H' s' ∧ D.ct σ' H'
  | .ret u => ∃ v σ' H', Inv X pins σ' H' s' ∧ RelV v u ∧ D.rt v H'
def PE (X : Cx) (e : Expr) (t : TE) : Prop :=
  ∀ (pins : List (Addr × Obj)) (s : Shared) (σ : St) (H : Hp) (Q : VK), Inv X pins σ H s → t σ H Q → wpAny (model X.prog X.w) X.A (eval e X.env) (EP X pins σ Q) X.xe s
def PT (X : Cx) (e : Expr) (t : TT) : Prop :=
  ∀ (pins : List (Addr × Obj)) (s : Shared) (σ : St) (H : Hp) (Q : Bool → Hp → Prop), Inv X pins σ H s → t σ H Q → wpAny (model X.prog X.w) X.A (isTrue e X.env (eval e X.env)) (TP X pins σ Q) X.xe s
/-- a test whatever its 'whole' is (and, or) -/
def PW (X : Cx) (e : Expr) (t : TT) : Prop :=
  ∀ (whole : Sem Value) (pins : List (Addr × Obj)) (s : Shared) (σ : St) (H : Hp) (Q : Bool → Hp → Prop), Inv X pins σ H s → t σ H Q → wpAny (model X.prog X.w) X.A (isTrue e X.env whole) (TP X pins σ Q) X.xe s
theorem PW.pt {X : Cx} {e : Expr} {t : TT} (h : PW X e t) : PT X e t := h _
/-- an argument list (no star), from the left -/
def PA (X : Cx) (es : List Expr) (t : TA) : Prop :=
  ∀ (pos : Pos) (pins : List (Addr × Obj)) (s : Shared) (σ : St) (H : Hp) (Q : List V → Hp → Prop), Inv X pins σ H s → t σ H Q → wpAny (model X.prog X.w) X.A (spliced (backTo pos (starEach es X.env))) (AP X pins σ Q) X.xe s
def PS (X : Cx) (st : Stmt) (t : TS) : Prop :=
  ∀ (pins : List (Addr × Obj)) (s : Shared) (σ : St) (H : Hp) (D : Ends), Inv X pins σ H s → t D σ H → wpAny (model X.prog X.w) X.A (exec st X.env) (SP X pins D) X.xe s
def PSs (X : Cx) (st : List Stmt) (t : TS) : Prop :=
  ∀ (pins : List (Addr × Obj)) (s : Shared) (σ : St) (H : Hp) (D : Ends), Inv X pins σ H s → t D σ H → wpAny (model X.prog X.w) X.A (execs st X.env) (SP X pins D) X.xe s
/-- weaken the end -/
theorem thn {α : Type} {t : Sem α} {Q Q' : α → Shared → Prop} {M : Model} {A : Around} {E : Value → Shared → Prop} {s : Shared} (h : wpAny M A t Q E s) (hQ : ∀ a s, Q a s → Q' a s) : wpAny M A t Q' E s := wpAny_mono h hQ fun _ _ x => x
end L2
namespace L2
open PySem PySem.Spec PyProof.Rows
section
variable {X : Cx}
/-! ### names and constants -/
def tVar (i : Nat) : TE := fun σ H Q => ∃ v, σ[i]? = some (some v) ∧ Q v H
def tC (v : V) : TE := fun _ H Q => Q v H
theorem pe_var {i : Nat} {x : Str} {pos : Pos} (hN : X.N[i]? = some x) (hv : Vis X.env.scope x) (hd : (x == ("__debug__" : Str)) = false := by decide) (hcd : (x == ("__classdict__" : Str)) = false := by decide) : PE X (.Name x pos) (tVar i) := by
  intro pins s σ H Q I h
  obtain ⟨v, e, h⟩ := h
  obtain ⟨m, hn, hl⟩ := I.loc
  obtain ⟨u, r, l⟩ := hl i x v hN e hv
  have fin : EP X pins σ Q u s := ⟨v, H, I, r, h⟩
  rcases l with ⟨hk, hm⟩ | ⟨hk, c, hc, hcell⟩
  · exact wpAny_Name (wpAny_loadName_local I.ok.kind hk hn hm fin) hd
  · rcases hk with hk | hk
    · exact wpAny_Name (wpAny_loadName_cell I.ok.kind hk hc hcell fin) hd
    · exact wpAny_Name (wpAny_loadName_free I.ok.kind hk hc hcell fin hcd) hd
theorem pe_int {i j pos} : PE X (.Constant (.int i) j pos) (tC (.int i)) := fun _ _ _ H _ I h => wpAny_Constant_int ⟨.int i, H, I.tok _, ⟨_, rfl⟩, h⟩
theorem pe_bl {b j pos} : PE X (.Constant (.bool b) j pos) (tC (.bl b)) := fun _ _ _ H _ I h => Constant_bool ⟨.bl b, H, I, rfl, h⟩
theorem pe_non {j pos} : PE X (.Constant .none j pos) (tC .non) := fun _ _ _ H _ I h => Constant_none ⟨.non, H, I, rfl, h⟩
theorem pe_str {x j pos} : PE X (.Constant (.str x) j pos) (tC (.str x)) := fun _ _ _ H _ I h => Calls.Constant_str ⟨.str x, H, I.tok _, ⟨_, rfl⟩, h⟩
/-- a global name of the def -/
def Gl (X : Cx) (x : Str) : Prop := X.env.kindOf x = some .globalImplicit
theorem ld_glob {E : Value → Shared → Prop} {pins : List (Addr × Obj)} {s : Shared} {σ : St} {H : Hp} {x : Str} {u : Value} {pos : Pos} {Q : Value → Shared → Prop} (I : Inv X pins σ H s) (hg : Gl X x) (hm : X.mg x = some u) (h : Q u s)
    (hd : (x == ("__debug__" : Str)) = false := by decide) : wpAny (model X.prog X.w) X.A (eval (.Name x pos) X.env) Q E s :=
  Calls.Name_function_global I.ok.kind hg (Calls.loadGlobal_global (by rw [I.ok.glob]; exact I.mod.glob.keeps I.bk) hm h) hd
theorem ld_blt {E : Value → Shared → Prop} {pins : List (Addr × Obj)} {s : Shared} {σ : St} {H : Hp} {x : Str} {u : Value} {pos : Pos} {Q : Value → Shared → Prop} (I : Inv X pins σ H s) (hg : Gl X x) (hm : X.mg x = none) (hv : bootBuiltins x = some u) (h : Q u s)
    (hn : x ≠ "__name__" := by decide) (hd : (x == ("__debug__" : Str)) = false := by decide) : wpAny (model X.prog X.w) X.A (eval (.Name x pos) X.env) Q E s := by
  obtain ⟨mb, h1, h2⟩ := I.mod.blt
  exact Calls.Name_function_global I.ok.kind hg (Calls.loadGlobal_builtin (by rw [I.ok.glob]; exact I.mod.glob.keeps I.bk) hm (by rw [I.ok.blt]; exact h1.keeps I.bk) ((h2 x hn).trans hv) h) hd
theorem pe_bltn {x : Str} {v : V} {u : Value} {pos : Pos} (hg : Gl X x) (hm : X.mg x = none) (hv : bootBuiltins x = some u) (r : RelV v u) (hn : x ≠ "__name__" := by decide) (hd : (x == ("__debug__" : Str)) = false := by decide) : PE X (.Name x pos) (tC v) :=
  fun _ _ _ H _ I h => ld_blt I hg hm hv ⟨v, H, I, r, h⟩ hn hd
/-! ### arithmetic -/
/-- two ints -/
def t2I (ta tb : TE) (k : Int → Int → Hp → Prop) : St → Hp → Prop := fun σ H => ta σ H fun x H1 => tb σ H1 fun y H2 => ∃ i j, x = .int i ∧ y = .int j ∧ k i j H2
def tAdd (ta tb : TE) : TE := fun σ H Q => t2I ta tb (fun i j H2 => Q (.int (i + j)) H2) σ H
def tSub (ta tb : TE) : TE := fun σ H Q => t2I ta tb (fun i j H2 => Q (.int (i - j)) H2) σ H
/-- the left factor below 2^64 -/
def tMul (ta tb : TE) : TE := fun σ H Q => t2I ta tb (fun i j H2 => (-(2 ^ 64) < i ∧ i < 2 ^ 64) ∧ Q (.int (i * j)) H2) σ H
variable {a b : Expr} {ta tb : TE} {pos : Pos}
/-! ### comparisons -/
def PC (X : Cx) (op : CmpOp) (a b : Expr) (t : TE) : Prop :=
  ∀ (pins : List (Addr × Obj)) (s : Shared) (σ : St) (H : Hp) (Q : VK), Inv X pins σ H s → t σ H Q →
    wpAny (model X.prog X.w) X.A (eval a X.env) (fun v s₁ => wpAny (model X.prog X.w) X.A (eval b X.env) (fun u s₂ => wpAny (model X.prog X.w) X.A (compareOp op v u) (EP X pins σ Q) X.xe s₂) X.xe s₁) X.xe s
def tCmp (p : Int → Int → Bool) (ta tb : TE) : TE := fun σ H Q => t2I ta tb (fun i j H2 => Q (.bl (p i j)) H2) σ H
abbrev tLt : TE → TE → TE := tCmp fun i j => decide (i < j)
abbrev tLe : TE → TE → TE := tCmp fun i j => decide (i ≤ j)
abbrev tGt : TE → TE → TE := tCmp fun i j => decide (j < i)
abbrev tGe : TE → TE → TE := tCmp fun i j => decide (j ≤ i)
abbrev tEqI : TE → TE → TE := tCmp fun i j => decide (i = j)
abbrev tNeI : TE → TE → TE := tCmp fun i j => !decide (i = j)
/-- is None -/
def tIsN (ta : TE) : TE := fun σ H Q => ta σ H fun x H1 => Q (.bl (decide (x = .non))) H1
def tNotN (ta : TE) : TE := fun σ H Q => ta σ H fun x H1 => Q (.bl (!decide (x = .non))) H1
/-- a comparison as a value, as a test -/
def tB (t : TE) : TT := fun σ H Q => t σ H fun x H1 => ∃ c, x = .bl c ∧ Q c H1
/-! ### and, or, not -/
variable {tA tB' : TT} {rest : List Expr}
def tAnd (t u : TT) : TT := fun σ H Q => t σ H fun c H1 => if c = true then u σ H1 Q else Q false H1
def tOr (t u : TT) : TT := fun σ H Q => t σ H fun c H1 => if c = true then Q true H1 else u σ H1 Q
def tNot (t : TT) : TT := fun σ H Q => t σ H fun c H1 => Q (!c) H1
theorem pw_and1 (ha : PT X a tA) : PW X (.BoolOp .And [a] pos) tA := by
  intro wh pins s σ H Q I h
  refine isTrue_and (thn (ha pins s σ H Q I h) fun c s1 e => ?_)
  cases c with
  | true => exact isTrue_and_nil e
  | false => exact e
theorem pw_or1 (ha : PT X a tA) : PW X (.BoolOp .Or [a] pos) tA := by
  intro wh pins s σ H Q I h
  refine isTrue_or (thn (ha pins s σ H Q I h) fun c s1 e => ?_)
  cases c with
  | false => exact isTrue_or_nil e
  | true => exact e
theorem pw_and (ha : PT X a tA) (hb : PW X (.BoolOp .And (b :: rest) pos) tB') : PW X (.BoolOp .And (a :: b :: rest) pos) (tAnd tA tB') := by
  intro wh pins s σ H Q I h
  refine isTrue_and (thn (ha pins s σ H _ I h) fun c s1 ⟨H1, I1, q1⟩ => ?_)
  cases c with
  | true => exact hb wh pins s1 σ H1 Q I1 q1
  | false => exact ⟨H1, I1, q1⟩
theorem pw_or (ha : PT X a tA) (hb : PW X (.BoolOp .Or (b :: rest) pos) tB') : PW X (.BoolOp .Or (a :: b :: rest) pos) (tOr tA tB') := by
  intro wh pins s σ H Q I h
  refine isTrue_or (thn (ha pins s σ H _ I h) fun c s1 ⟨H1, I1, q1⟩ => ?_)
  cases c with
  | true => exact ⟨H1, I1, q1⟩
  | false => exact hb wh pins s1 σ H1 Q I1 q1
theorem pt_not (ha : PT X a tA) : PT X (.UnaryOp .Not a pos) (tNot tA) := by
  intro pins s σ H Q I h
  exact isTrue_not (ha pins s σ H (fun c H1 => Q (!c) H1) I h)
/-- .. as values (bools) -/
def tAndV (ta tb : TE) : TE := fun σ H Q => ta σ H fun x H1 => ∃ c, x = .bl c ∧ if c = true then tb σ H1 Q else Q (.bl false) H1
def tOrV (ta tb : TE) : TE := fun σ H Q => ta σ H fun x H1 => ∃ c, x = .bl c ∧ if c = true then Q (.bl true) H1 else tb σ H1 Q
def tNotV (ta : TE) : TE := fun σ H Q => ta σ H fun x H1 => ∃ c, x = .bl c ∧ Q (.bl (!c)) H1
theorem pe_one {op} {t : TE} (h : PE X a t) : PE X (.BoolOp op [a] pos) t := fun pins s σ H Q I hw => BoolOp_one (h pins s σ H Q I hw)
theorem pe_and (ha : PE X a ta) (hb : PE X (.BoolOp .And (b :: rest) pos) tb) : PE X (.BoolOp .And (a :: b :: rest) pos) (tAndV ta tb) := by
  intro pins s σ H Q I h
  refine BoolOp_and (thn (ha pins s σ H _ I h) fun v s1 ⟨x, H1, I1, r1, q1⟩ => ?_)
  obtain ⟨c, rfl, q1⟩ := q1
  cases r1
  refine wpAny_truthy_bool ?_
  cases c with
  | true => exact hb pins s1 σ H1 Q I1 q1
  | false => exact ⟨.bl false, H1, I1, rfl, q1⟩
theorem pe_not (ha : PE X a ta) : PE X (.UnaryOp .Not a pos) (tNotV ta) := by
  intro pins s σ H Q I h
  refine UnaryOp_ (thn (ha pins s σ H _ I h) fun v s1 ⟨x, H1, I1, r1, q1⟩ => ?_)
  obtain ⟨c, rfl, q1⟩ := q1
  cases r1
  exact not_of (wpAny_truthy_bool ⟨.bl (!c), H1, I1, rfl, q1⟩)
/-- a if t else b -/
def tIf (t : TT) (ta tb : TE) : TE := fun σ H Q => t σ H fun c H1 => if c = true then ta σ H1 Q else tb σ H1 Q
theorem pe_ifExp {c : Expr} (hc : PT X c tA) (ha : PE X a ta) (hb : PE X b tb) : PE X (.IfExp c a b pos) (tIf tA ta tb) := by
  intro pins s σ H Q I h
  refine wpAny_IfExp (thn (hc pins s σ H _ I h) fun d s1 ⟨H1, I1, q1⟩ => ?_)
  cases d with
  | true => exact ha pins s1 σ H1 Q I1 q1
  | false => exact hb pins s1 σ H1 Q I1 q1
end
end L2
namespace L2
open PySem PySem.Spec PyProof.Rows
/-! ### a list, a tuple that is read: tracked, frozen, or an object of the module -/
def SqL (K : PySem.W.Frag) (H : Hp) (a : Addr) (xs : List V) : Prop :=
  Rd H a (.lst xs) ∨
    ∃ (o : Obj) (its : Array Value) (n : Nat), K.lookup a = some o ∧ o.cls = .type "list" ∧ o.dict = none ∧ o.data = .seq its n ∧ its.size ≤ sizeLine ∧ Vals xs its.toList
def SqT (K : PySem.W.Frag) (H : Hp) (a : Addr) (xs : List V) : Prop :=
  Rd H a (.tup xs) ∨
    ∃ (o : Obj) (its : Array Value) (n : Nat), K.lookup a = some o ∧ o.cls = .type "tuple" ∧ o.data = .seq its n ∧ its.size ≤ sizeLine ∧ Vals xs its.toList
def absV : Value → Option V
  | .none => some .non
  | .bool b => some (.bl b)
  | .int i _ => some (.int i)
  | .str x _ => some (.str x)
  | .bytes b _ => some (.byt b)
  | .float b _ => some (.flt b)
  | .ref a => some (.ref a)
  | .type n => some (.ty n)
  | _ => none
theorem RelV.abs {x : V} {u : Value} (r : RelV x u) : absV u = some x := by
  cases x with
  | non => cases r; rfl
  | bl _ => cases r; rfl
  | int _ => obtain ⟨t, rfl⟩ := r; rfl
  | str _ => obtain ⟨t, rfl⟩ := r; rfl
  | byt _ => obtain ⟨t, rfl⟩ := r; rfl
  | flt _ => obtain ⟨t, rfl⟩ := r; rfl
  | ref _ => cases r; rfl
  | ty _ => cases r; rfl
theorem RelV.inj {x y : V} {u : Value} (r : RelV x u) (q : RelV y u) : x = y := Option.some.inj (r.abs.symm.trans q.abs)
theorem Vals.inj : ∀ {xs ys : List V} {us : List Value}, Vals xs us → Vals ys us → xs = ys
  | _, _, _, .nil, .nil => rfl
  | _, _, _, .cons r t, .cons r' t' => by rw [r.inj r', Vals.inj t t']
section
variable {X : Cx} {pins : List (Addr × Obj)} {σ : St} {H : Hp} {s : Shared} {a : Addr} {xs ys : List V}
theorem SqL.of {K : PySem.W.Frag} (h : H a = some (.lst xs)) : SqL K H a xs := .inl (.inl h)
theorem SqT.of {K : PySem.W.Frag} (h : H a = some (.tup xs)) : SqT K H a xs := .inl (.inl h)
theorem Inv.list (I : Inv X pins σ H s) (h : SqL X.K H a xs) : ∃ its : List Value, Vals xs its ∧ PlainL s.heap a its.toArray ∧ xs.length ≤ sizeLine := by
  rcases h with h | ⟨o, its, n, hk, hc, hd, hs, hz, r⟩
  · obtain ⟨z, its, n, r, e⟩ := h.ok I.hok
    exact ⟨its, r, ⟨_, n, e, rfl, rfl, rfl⟩, z⟩
  · refine ⟨its.toList, r, ⟨o, n, I.kIn a o hk, hc, hd, by simpa using hs⟩, ?_⟩
    have e := r.length
    simp only [Array.length_toList] at e
    omega
theorem Inv.tuple (I : Inv X pins σ H s) (h : SqT X.K H a xs) : ∃ its : List Value, Vals xs its ∧ IsTup s.heap a its.toArray ∧ xs.length ≤ sizeLine := by
  rcases h with h | ⟨o, its, n, hk, hc, hs, hz, r⟩
  · obtain ⟨z, its, r, p⟩ := h.ok I.hok
    exact ⟨its, r, p, z⟩
  · refine ⟨its.toList, r, ⟨o, I.kIn a o hk, hc, n, by simpa using hs⟩, ?_⟩
    have e := r.length
    simp only [Array.length_toList] at e
    omega
theorem Inv.list_inj (I : Inv X pins σ H s) (h : SqL X.K H a xs) (h' : SqL X.K H a ys) : xs = ys := by
  obtain ⟨its, r, ⟨o, n, e, _, _, d⟩, _⟩ := I.list h
  obtain ⟨its', r', ⟨o', n', e', _, _, d'⟩, _⟩ := I.list h'
  rw [e] at e'; cases e'
  rw [d] at d'
  injection d' with d1 _
  have : its = its' := by simpa using congrArg Array.toList d1
  subst this
  exact r.inj r'
theorem Inv.tuple_inj (I : Inv X pins σ H s) (h : SqT X.K H a xs) (h' : SqT X.K H a ys) : xs = ys := by
  obtain ⟨its, r, ⟨o, e, _, n, d⟩, _⟩ := I.tuple h
  obtain ⟨its', r', ⟨o', e', _, n', d'⟩, _⟩ := I.tuple h'
  rw [e] at e'; cases e'
  rw [d] at d'
  injection d' with d1 _
  have : its = its' := by simpa using congrArg Array.toList d1
  subst this
  exact r.inj r'
end
/-! ### another wish about exceptions -/
abbrev Cx.wish (X : Cx) (E : Value → Shared → Prop) : Cx := { X with xe := E }
/-- no exception leaves -/
abbrev Cx.nox (X : Cx) : Cx := X.wish fun _ _ => False
theorem Cx.Ok.wish {X : Cx} (ok : X.Ok) (E : Value → Shared → Prop) : (X.wish E).Ok :=
  ⟨ok.mod, ok.kind, ok.glob, ok.blt, ok.above, ok.inj, ok.has, ok.cab, ok.hd, ok.frames, ok.stk, ok.exf, ok.bs, ok.bsz, ok.noex, ok.exfs, ok.funs, ok.frf⟩
theorem Cx.Ok.unwish {X : Cx} {E : Value → Shared → Prop} (ok : (X.wish E).Ok) : X.Ok :=
  ⟨ok.mod, ok.kind, ok.glob, ok.blt, ok.above, ok.inj, ok.has, ok.cab, ok.hd, ok.frames, ok.stk, ok.exf, ok.bs, ok.bsz, ok.noex, ok.exfs, ok.funs, ok.frf⟩
section
variable {X : Cx} {pins : List (Addr × Obj)} {σ : St} {H : Hp} {s : Shared} {E : Value → Shared → Prop}
theorem Inv.wish (I : Inv X pins σ H s) (E : Value → Shared → Prop) : Inv (X.wish E) pins σ H s := ⟨I.ok.wish E, I.os, I.bare, I.base, I.loc, I.cell, I.free, I.freeC, I.pin, I.hok, I.len⟩
theorem Inv.unwish (I : Inv (X.wish E) pins σ H s) : Inv X pins σ H s := ⟨I.ok.unwish, I.os, I.bare, I.base, I.loc, I.cell, I.free, I.freeC, I.pin, I.hok, I.len⟩
theorem SP.unwish {D : Ends} {f : Flow} {s' : Shared} (h : SP (X.wish E) pins D f s') : SP X pins D f s' := by
  cases f with
  | next => obtain ⟨σ', H', I, q⟩ := h; exact ⟨σ', H', I.unwish, q⟩
  | brk => obtain ⟨σ', H', I, q⟩ := h; exact ⟨σ', H', I.unwish, q⟩
  | cont => obtain ⟨σ', H', I, q⟩ := h; exact ⟨σ', H', I.unwish, q⟩
  | ret u => obtain ⟨v, σ', H', I, r, q⟩ := h; exact ⟨v, σ', H', I.unwish, r, q⟩
theorem PE.nox {e : Expr} {t : TE} (h : PE X.nox e t) : PE X e t := fun pins s σ H Q I hw =>
  wpAny_mono (h pins s σ H Q (I.wish _) hw) (fun _ _ ⟨v, H', I', r, q⟩ => ⟨v, H', I'.unwish, r, q⟩) fun _ _ z => False.elim z
theorem PT.nox {e : Expr} {t : TT} (h : PT X.nox e t) : PT X e t := fun pins s σ H Q I hw =>
  wpAny_mono (h pins s σ H Q (I.wish _) hw) (fun _ _ ⟨H', I', q⟩ => ⟨H', I'.unwish, q⟩) fun _ _ z => False.elim z
theorem PSs.nox {st : List Stmt} {t : TS} (h : PSs X.nox st t) : PSs X st t := fun pins s σ H D I hw =>
  wpAny_mono (h pins s σ H D (I.wish _) hw) (fun _ _ q => q.unwish) fun _ _ z => False.elim z
end
/-! ### blocks and small statements -/
section
variable {X : Cx} {st : Stmt} {rest : List Stmt} {t u : TS} {e : Expr} {te : TE} {pos : Pos}
def tNext : TS := fun D σ H => D.nx σ H
def tSeq (t u : TS) : TS := fun D σ H => t { D with nx := u D } σ H
theorem pss_nil : PSs X [] tNext := fun _ _ σ H _ I h => wpAny_execs_nil ⟨σ, H, I, h⟩
theorem pss_cons (h1 : PS X st t) (h2 : PSs X rest u) : PSs X (st :: rest) (tSeq t u) := by
  intro pins s σ H D I h
  refine wpAny_execs_cons (thn (h1 pins s σ H { D with nx := u D } I h) fun f s1 q => ?_)
  cases f with
  | next =>
    obtain ⟨σ', H', I', q⟩ := q
    exact h2 pins s1 σ' H' D I' q
  | ret v => exact q
  | brk => exact q
  | cont => exact q
theorem pss_one (h1 : PS X st t) : PSs X [st] t := by
  intro pins s σ H D I h
  refine wpAny_execs_cons (thn (h1 pins s σ H D I h) fun f s1 q => ?_)
  cases f with
  | next => exact wpAny_execs_nil q
  | ret v => exact q
  | brk => exact q
  | cont => exact q
def tBreak : TS := fun D σ H => D.bk σ H
def tCont : TS := fun D σ H => D.ct σ H
theorem ps_break : PS X (.Break pos) tBreak := fun _ _ σ H _ I h => wpAny_Break ⟨σ, H, I, h⟩
/-- in a def's body nothing is shown -/
theorem Inv.quiet {pins : List (Addr × Obj)} {σ : St} {H : Hp} {s : Shared} (I : Inv X pins σ H s) : interactive X.env = false := by simp [interactive, I.ok.kind]
/-- an expression whose value is dropped -/
def tDrop (te : TE) : TS := fun D σ H => te σ H fun _ H1 => D.nx σ H1
theorem ps_expr (he : PE X e te) (hs : swapsWith e none pos.line X.env = pure false := by rfl) : PS X (.Expr e pos) (tDrop te) := by
  intro pins s σ H D I h
  exact wpAny_Expr_any (thn (he pins s σ H _ I h) fun v s1 ⟨x, H1, I1, r1, q1⟩ => ⟨σ, H1, I1, q1⟩) I.quiet hs
def tRet (te : TE) : TS := fun D σ H => te σ H D.rt
theorem ps_ret (he : PE X e te) : PS X (.Return (some e) pos) (tRet te) := by
  intro pins s σ H D I h
  exact wpAny_Return_some (thn (he pins s σ H _ I h) fun v s1 ⟨x, H1, I1, r1, q1⟩ => ⟨x, σ, H1, I1, r1, q1⟩)
def tRetN : TS := fun D _ H => D.rt .non H
def tIfS (c : TT) (t u : TS) : TS := fun D σ H => c σ H fun b H1 => if b = true then t D σ H1 else u D σ H1
theorem ps_if {c : Expr} {a b : List Stmt} {tc : TT} (hc : PT X c tc) (ha : PSs X a t) (hb : PSs X b u) : PS X (.If c a b pos) (tIfS tc t u) := by
  intro pins s σ H D I h
  refine wpAny_If (thn (hc pins s σ H _ I h) fun d s1 ⟨H1, I1, q1⟩ => ?_)
  cases d with
  | true => exact ha pins s1 σ H1 D I1 q1
  | false => exact hb pins s1 σ H1 D I1 q1
/-- code that the proof never comes to -/
def tNever : TS := fun _ _ _ => False
theorem pss_never {sts : List Stmt} : PSs X sts tNever := fun _ _ _ _ _ _ h => h.elim
end
/-! ### targets -/
abbrev TG := V → St → Hp → (St → Hp → Prop) → Prop
abbrev TGs := List V → St → Hp → (St → Hp → Prop) → Prop
def PG (X : Cx) (target : Expr) (t : TG) : Prop :=
  ∀ (pins : List (Addr × Obj)) (s : Shared) (σ : St) (H : Hp) (v : V) (u : Value) (Q : St → Hp → Prop), Inv X pins σ H s → RelV v u → t v σ H Q →
    wpAny (model X.prog X.w) X.A (assign target X.env u) (fun _ s' => ∃ σ' H', Inv X pins σ' H' s' ∧ Q σ' H') X.xe s
/-- several targets, one after another -/
def PGs (X : Cx) (ts : List Expr) (t : TGs) : Prop :=
  ∀ (pins : List (Addr × Obj)) (s : Shared) (σ : St) (H : Hp) (vs : List V) (us : List Value) (Q : St → Hp → Prop), Inv X pins σ H s → Vals vs us → t vs σ H Q →
    wpAny (model X.prog X.w) X.A (assignInOrder ((assignEach ts X.env).map (·.2)) us) (fun _ s' => ∃ σ' H', Inv X pins σ' H' s' ∧ Q σ' H') X.xe s
/-- o[i] = v, by values -/
abbrev TSet := V → V → V → Hp → (Hp → Prop) → Prop
def PSet (X : Cx) (t : TSet) : Prop :=
  ∀ (pins : List (Addr × Obj)) (s : Shared) (σ : St) (H : Hp) (o i v : V) (ov iv u : Value) (Q : Hp → Prop), Inv X pins σ H s → RelV o ov → RelV i iv → RelV v u → t o i v H Q →
    wpAny (model X.prog X.w) X.A (setItem ov iv u) (fun _ s' => ∃ H', Inv X pins σ H' s' ∧ Q H') X.xe s
/-- a op= b, by values -/
abbrev TIp := V → V → Hp → VK → Prop
def PIp (X : Cx) (op : Operator) (t : TIp) : Prop :=
  ∀ (pins : List (Addr × Obj)) (s : Shared) (σ : St) (H : Hp) (x y : V) (v u : Value) (Q : VK), Inv X pins σ H s → RelV x v → RelV y u → t x y H Q →
    wpAny (model X.prog X.w) X.A (inplaceOp op v u) (EP X pins σ Q) X.xe s
section
variable {X : Cx} {pos : Pos}
def gName (i : Nat) : TG := fun v σ H Q => Q (σ.set i (some v)) H
theorem pg_name {i : Nat} {x : Str} (hN : X.N.Nodup) (hi : X.N[i]? = some x) (hx : Loc X.env.scope x) (hf : X.fn x = true ∨ X.env.scope.names.lookup x = some .local := by first | exact .inl rfl | exact .inr rfl | assumption) : PG X (.Name x pos) (gName i) := by
  intro pins s σ H v u Q I r h
  exact wpAny_assign_Name (store_ok I hN hi hx r (fun s' I' => ⟨_, H, I', h⟩) hf)
def gNil : TGs := fun vs σ H Q => vs = [] ∧ Q σ H
def gCons (t : TG) (u : TGs) : TGs := fun vs σ H Q => ∃ v r, vs = v :: r ∧ t v σ H fun σ' H' => u r σ' H' Q
theorem pgs_nil : PGs X [] gNil := by
  intro pins s σ H vs us Q I r h
  obtain ⟨e, h⟩ := h
  subst e
  cases r
  exact assignInOrder_nil ⟨σ, H, I, h⟩
theorem pgs_cons {e : Expr} {es : List Expr} {t : TG} {u : TGs} (h1 : PG X e t) (h2 : PGs X es u)
    (hs : (assignEach (e :: es) X.env).map (·.2) = assign e X.env :: (assignEach es X.env).map (·.2) := by rfl) : PGs X (e :: es) (gCons t u) := by
  intro pins s σ H vs us Q I r h
  obtain ⟨v, vr, e1, h⟩ := h
  subst e1
  cases r with
  | cons r rr =>
    rw [hs]
    refine assignInOrder_cons (thn (h1 pins s σ H _ _ _ I r h) fun _ s1 ⟨σ1, H1, I1, q1⟩ => ?_)
    exact h2 pins s1 σ1 H1 _ _ Q I1 rr q1
/-- (a, b, ..) = a tuple of that length -/
def gTup (K : PySem.W.Frag) (n : Nat) (t : TGs) : TG := fun v σ H Q => ∃ a xs, v = .ref a ∧ SqT K H a xs ∧ xs.length = n ∧ t xs σ H Q
theorem pg_tup {es : List Expr} {k : Nat} {t : TGs} {n : Nat} (hc : X.calm = true) (h : PGs X es t)
    (hn : (assignEach es X.env).length = n := by rfl) (hst : (assignEach es X.env).findIdx? (·.1) = none := by rfl) : PG X (.Tuple es k pos) (gTup X.K n t) := by
  intro pins s σ H v u Q I r hw
  obtain ⟨a, xs, e1, hq, hl, hw⟩ := hw
  subst e1
  cases r
  obtain ⟨its, rv, ht, hz⟩ := I.tuple hq
  refine assign_Tuple_tuple (I.ok.hd hc) ht (by simp [hn, ← hl, rv.length]) hst fun h' hx => ?_
  have I1 : Inv X pins σ H { s with heap := h' } := I.kept (t' := s.toks) fun b o e => hx b o (Nat.ne_of_lt (Heap.lt_size e)) e
  exact h pins _ σ H xs _ Q I1 (by simpa using rv) hw
/-- o[i] = .. -/
def gSub (to ti : TE) (t : TSet) : TG := fun v σ H Q => to σ H fun o H1 => ti σ H1 fun i H2 => t o i v H2 fun H3 => Q σ H3
theorem pg_sub {o i : Expr} {to ti : TE} {t : TSet} (ho : PE X o to) (hi : PE X i ti) (hs : PSet X t)
    (ha : ∀ v, assign (.Subscript o i pos) X.env v = (do
      let ov ← holding [v] (eval o X.env)
      let iv ← holding [v, ov] (eval i X.env)
      standAt pos
      holding [v, ov, iv] (setItem ov iv v)
      release [v, ov, iv] []) := by intro _; rfl) : PG X (.Subscript o i pos) (gSub to ti t) := by
  intro pins s σ H v u Q I r h
  rw [ha]
  refine wpAny_bind (wpAny_holding (thn (ho pins s σ H _ I h) fun ov s1 ⟨x, H1, I1, r1, q1⟩ => ?_))
  refine wpAny_bind (wpAny_holding (thn (hi pins s1 σ H1 _ I1 q1) fun iv s2 ⟨y, H2, I2, r2, q2⟩ => ?_))
  refine wpAny_bind (wpAny_standAt (wpAny_bind (wpAny_holding (thn (hs pins s2 σ H2 x y v ov iv u _ I2 r1 r2 r q2) fun _ s3 ⟨H3, I3, q3⟩ => ?_))))
  exact wpAny_release ⟨σ, H3, I3, q3⟩
/-- target = value -/
def tAsg (te : TE) (g : TG) : TS := fun D σ H => te σ H fun x H1 => g x σ H1 D.nx
theorem ps_asg {tg e : Expr} {te : TE} {g : TG} (he : PE X e te) (hg : PG X tg g) (hs : swapsWithSole [tg] e pos.line X.env = pure false := by rfl) (hw : swappedStores [tg] e X.env = pure none := by rfl)
    (h1 : (assignEach [tg] X.env).map (·.2) = [assign tg X.env] := by rfl) : PS X (.Assign [tg] e pos) (tAsg te g) := by
  intro pins s σ H D I h
  refine wpAny_Assign_stores (thn (he pins s σ H _ I h) fun v s1 ⟨x, H1, I1, r1, q1⟩ => ?_) hs hw
  rw [h1]
  exact thn (hg pins s1 σ H1 x v _ I1 r1 q1) fun _ s2 q => q
/-- name = value -/
theorem ps_set {i : Nat} {x : Str} {e : Expr} {te : TE} {pos' : Pos} (hN : X.N.Nodup) (hi : X.N[i]? = some x) (hx : Loc X.env.scope x) (he : PE X e te) (hs : swapsWith e (some (.Name x pos')) pos.line X.env = pure false := by rfl) (hf : X.fn x = true ∨ X.env.scope.names.lookup x = some .local := by first | exact .inl rfl | exact .inr rfl | assumption) :
    PS X (.Assign [.Name x pos'] e pos) (tAsg te (gName i)) := by
  intro pins s σ H D I h
  refine wpAny_Assign_Name (thn (he pins s σ H _ I h) fun v s1 ⟨y, H1, I1, r1, q1⟩ => ?_) hs
  exact store_ok I1 hN hi hx r1 (fun s2 I2 => ⟨_, H1, I2, q1⟩) hf
/-- a, b = x, y with plain local names: stored from the right; the pair itself is not tracked (the opening rows as in PyProof/Rows/TupAssign.lean:23) -/
def tPar (i j : Nat) (ta : TA) : TS := fun D σ H => ta σ H fun vs H1 => ∃ v w, vs = [v, w] ∧ D.nx ((σ.set i (some v)).set j (some w)) H1
/-- name op= e -/
def tAug (i : Nat) (te : TE) (ti : TIp) : TS := fun D σ H => ∃ x, σ[i]? = some (some x) ∧ te σ H fun y H1 => ti x y H1 fun z H2 => D.nx (σ.set i (some z)) H2
/-- o[i] op= e -/
def tAugS (to ti te : TE) (tget : V → V → Hp → VK → Prop) (tip : TIp) (tset : TSet) : TS := fun D σ H => to σ H fun o H1 => ti σ H1 fun i H2 => tget o i H2 fun x H3 => te σ H3 fun y H4 => tip x y H4 fun z H5 => tset o i z H5 fun H6 => D.nx σ H6
/-- o[i], by values -/
def PGet (X : Cx) (t : V → V → Hp → VK → Prop) : Prop :=
  ∀ (pins : List (Addr × Obj)) (s : Shared) (σ : St) (H : Hp) (o i : V) (ov iv : Value) (Q : VK), Inv X pins σ H s → RelV o ov → RelV i iv → t o i H Q →
    wpAny (model X.prog X.w) X.A (getItem ov iv) (EP X pins σ Q) X.xe s
/-- ints -/
def ipI (f : Int → Int → Int) : TIp := fun x y H Q => ∃ i j, x = .int i ∧ y = .int j ∧ Q (.int (f i j)) H
end
/-! ### while -/
section
variable {X : Cx} {pos : Pos}
/-- the invariant W with its measure -/
def tWhile (c : TT) (tb : TS) : TS := fun D σ H => ∃ W : Nat → St → Hp → Prop, (∃ m, W m σ H) ∧ ∀ m σ H, W m σ H →
  c σ H fun b H1 => if b = true then ∃ N : St → Hp → Prop, (∀ σ' H', N σ' H' → ∃ m', m' < m ∧ W m' σ' H') ∧ tb { D with nx := N, ct := N, bk := D.nx } σ H1 else D.nx σ H1
theorem ps_while {c : Expr} {body : List Stmt} {tc : TT} {tb : TS} (hp : PassesOwn (model X.prog X.w) X.A X.env X.xe) (hc : PT X c tc) (hb : PSs X body tb) : PS X (.While c body [] pos) (tWhile tc tb) := by
  intro pins s σ H D I h
  obtain ⟨W, ⟨m0, w0⟩, turn⟩ := h
  refine wpAny_While (codeAny_whileLoop (fun n s' => ∃ σ' H', Inv X pins σ' H' s' ∧ W n σ' H') ?_ m0 ⟨σ, H, I, w0⟩)
  rintro n s1 ⟨σ1, H1, I1, w1⟩
  refine wpAny_passesOwn hp (thn (hc pins s1 σ1 H1 _ I1 (turn n σ1 H1 w1)) fun b s2 ⟨H2, I2, q2⟩ => ?_)
  cases b with
  | true =>
    obtain ⟨N, hN, q2⟩ := q2
    rw [if_pos rfl]
    refine wpAny_passesOwn hp (thn (hb pins s2 σ1 H2 _ I2 q2) fun f s3 q3 => ?_)
    cases f with
    | next =>
      obtain ⟨σ3, H3, I3, n3⟩ := q3
      obtain ⟨m', hm, w3⟩ := hN σ3 H3 n3
      exact ⟨m', hm, σ3, H3, I3, w3⟩
    | cont =>
      obtain ⟨σ3, H3, I3, n3⟩ := q3
      obtain ⟨m', hm, w3⟩ := hN σ3 H3 n3
      exact ⟨m', hm, σ3, H3, I3, w3⟩
    | brk => exact q3
    | ret v => exact q3
  | false =>
    rw [if_neg Bool.false_ne_true]
    exact wpAny_execs_nil ⟨σ1, H2, I2, q2⟩
end
/-! ### what a loop or a comprehension walks -/
/-- at turn i: it yields x (the heap may grow), or it stops -/
structure It where
  go : Nat → Hp → Prop
  yld : Nat → Hp → V → Hp → Prop
  stop : Nat → Hp → Prop
/-- the iterator's own objects may turn: they are not the frame's, not pinned, younger than the entry (or a comprehension's own) -/
def FpOk (X : Cx) (pins : List (Addr × Obj)) (H : Hp) (b : Addr) : Prop :=
  H b = none ∧ b ≠ X.env.locals ∧ b ∉ X.fs ∧ (b ∈ X.ex ∨ X.s₀.heap.objs.size ≤ b) ∧ (∀ x c, X.env.cells.lookup x = some c → c ≠ b) ∧ ∀ p ∈ X.pn ++ pins, p.1 ≠ b
theorem Inv.fpOk {X : Cx} {pins : List (Addr × Obj)} {σ : St} {H H' : Hp} {s : Shared} {b : Addr} (I : Inv X pins σ H s) (hb : s.heap.objs.size ≤ b) (hn : H' b = none) : FpOk X pins H' b := by
  refine ⟨hn, Nat.ne_of_gt (Nat.lt_of_lt_of_le I.lt hb), I.nofs hb, .inr (Nat.le_trans I.sz hb), fun x c e z => ?_, fun p hp z => ?_⟩
  · obtain ⟨v, q⟩ := I.cell x c e
    exact absurd (Nat.lt_of_lt_of_le q.lt (by rw [z]; exact hb)) (Nat.lt_irrefl _)
  · exact absurd (Nat.lt_of_lt_of_le (Heap.lt_size (I.pin p hp).1) (by rw [z]; exact hb)) (Nat.lt_irrefl _)
structure Turn (P : Program) (w : World) (K : PySem.W.Frag) (tg : Expr) (J : It) (fp : List Addr) (it : Addr) (tn : Nat → Heap → Prop) : Prop where
  mem : it ∈ fp
  obj : ∀ i h, tn i h → ∀ b ∈ fp, ∃ o, h.get? b = some o ∧ ∀ v, o.data ≠ .cell v
  keep : ∀ i h h', tn i h → (∀ b ∈ fp, ∀ o, h.get? b = some o → h'.get? b = some o) → tn i h'
  item : ∀ (X : Cx), X.prog = P → X.w = w → X.K = K → X.calm = true → ∀ (i : Nat) (pins : List (Addr × Obj)) (s : Shared) (σ : St) (H : Hp) (E : Value → Shared → Prop), Inv X pins σ H s → (∀ b ∈ fp, FpOk X pins H b) → tn i s.heap → J.go i H →
    wpAny (model P w) X.A (pyNext (.ref it)) (fun r s1 => ∃ u, r = some u ∧
      wpAny (model P w) X.A (letOwnedTupleGo tg (.ref it) u) (fun _ s2 => ∃ x H', Inv X pins σ H' s2 ∧ RelV x u ∧ J.yld i H x H' ∧ tn (i + 1) s2.heap ∧ ∀ b ∈ fp, H' b = none) E s1) E s
  done : ∀ (X : Cx), X.prog = P → X.w = w → X.K = K → X.calm = true → ∀ (i : Nat) (pins : List (Addr × Obj)) (s : Shared) (σ : St) (H : Hp) (E : Value → Shared → Prop), Inv X pins σ H s → (∀ b ∈ fp, FpOk X pins H b) → tn i s.heap → J.stop i H →
    wpAny (model P w) X.A (pyNext (.ref it)) (fun r s1 => r = none ∧ Inv X pins σ H s1) E s
  self : ∀ (A : Around) (i : Nat) (s : Shared) (Q : Value → Shared → Prop) (E : Value → Shared → Prop), tn i s.heap → Q (.ref it) s → wpAny (model P w) A (pyIter (.ref it)) Q E s
abbrev TI := St → Hp → (It → Hp → Prop) → Prop
/-- an iterator has come -/
def PIE (X : Cx) (pins : List (Addr × Obj)) (σ : St) (tg : Expr) (R : It → Hp → Prop) (itv : Value) (s2 : Shared) : Prop :=
  ∃ (it : Addr) (fp : List Addr) (tn : Nat → Heap → Prop) (J : It) (H' : Hp), itv = .ref it ∧ Inv X pins σ H' s2 ∧ Turn X.prog X.w X.K tg J fp it tn ∧ tn 0 s2.heap ∧ (∀ b ∈ fp, FpOk X pins H' b) ∧ R J H'
def PI (X : Cx) (tg iter : Expr) (wi : TI) : Prop :=
  ∀ (pins : List (Addr × Obj)) (s : Shared) (σ : St) (H : Hp) (R : It → Hp → Prop), Inv X pins σ H s → wi σ H R →
    wpAny (model X.prog X.w) X.A (eval iter X.env) (fun v s1 => wpAny (model X.prog X.w) X.A (pyIter v) (PIE X pins σ tg R) X.xe s1) X.xe s
/-- the step ahead of the store is nothing for an iterator that keeps no tuple -/
theorem go_of {M : Model} {A : Around} {E : Value → Shared → Prop} {s : Shared} {tg : Expr} {it : Addr} {u : Value} {o : Obj} {n : String} {vs : Array Value} {Q : Unit → Shared → Prop} (ho : s.heap.get? it = some o) (hc : o.cls = .type n) (hd : o.data = .fields vs)
    (hn : ["enumerate", "zip", "dict_itemiterator", "dict_reverseitemiterator", "odict_iterator", "itertools.zip_longest", "itertools.pairwise"].contains n = false) (hQ : Q () s) : wpAny M A (letOwnedTupleGo tg (.ref it) u) Q E s := by
  unfold letOwnedTupleGo
  cases tg <;> first
    | exact wpAny_pure hQ
    | (cases u <;> first
        | exact wpAny_pure hQ
        | (refine wpAny_bind (wpAny_load ho ?_)
           rw [hc, hd]
           show wpAny M A (if (["enumerate", "zip", "dict_itemiterator", "dict_reverseitemiterator", "odict_iterator", "itertools.zip_longest", "itertools.pairwise"].contains n && vs[0]? == some (rawInt _)) = true then _ else _) Q E s
           rw [if_neg (by intro h; rw [hn, Bool.false_and] at h; cases h)]
           exact wpAny_pure hQ))
/-- the list at a, as it stands at each turn (a loop may append to it) -/
def Itl (K : PySem.W.Frag) (a : Addr) : It :=
  ⟨fun i H => ∃ xs x, SqL K H a xs ∧ xs[i]? = some x, fun i H x H' => H' = H ∧ ∀ xs, SqL K H a xs → xs[i]? = some x, fun i H => ∃ xs, SqL K H a xs ∧ xs.length ≤ i⟩
def Itt (K : PySem.W.Frag) (a : Addr) : It :=
  ⟨fun i H => ∃ xs x, SqT K H a xs ∧ xs[i]? = some x, fun i H x H' => H' = H ∧ ∀ xs, SqT K H a xs → xs[i]? = some x, fun i H => ∃ xs, SqT K H a xs ∧ xs.length ≤ i⟩
/-- lo, lo + 1, .. (n of them) -/
def Itr (lo : Int) (n : Nat) : It := ⟨fun i _ => i < n, fun i H x H' => H' = H ∧ x = .int (lo + i), fun i _ => n ≤ i⟩
theorem turn_list {P : Program} {w : World} {K : PySem.W.Frag} {tg : Expr} (a it : Addr) : Turn P w K tg (Itl K a) [it] it (fun i h => h.IsListIter it a i) where
  mem := by simp
  obj := fun i h st b hb => by
    have e : b = it := by simpa using hb
    subst e
    obtain ⟨o, e, c, d⟩ := st
    exact ⟨o, e, fun v z => by rw [d] at z; cases z⟩
  keep := fun i h h' st k => st.at fun o e => k it (by simp) o e
  item := by
    intro X hP hw hK hc i pins s σ H E I hf st hg
    subst hP hw hK
    obtain ⟨xs, x, hq, hx⟩ := hg
    obtain ⟨its, rv, p, hz⟩ := I.list hq
    obtain ⟨u, hu, ru⟩ := rv.get hx
    obtain ⟨f0, f1, f2, f3, f4, f5⟩ := hf it (by simp)
    refine wpAny_pyNext_list_item st p.isList (x := u) (by simpa using hu) fun h' st' sb => ?_
    have I1 : Inv X pins σ H { s with heap := h' } := I.turned (t' := s.toks) (fun b o hb e => (sb.2 b hb).trans e) f0 f1 f3 f4 f5
    obtain ⟨o, e, c, d⟩ := id st'
    exact ⟨u, rfl, go_of (s := { s with heap := h' }) e c d (by decide) ⟨x, H, I1, ru, ⟨rfl, fun ys hy => by rw [I.list_inj hy hq]; exact hx⟩, st', fun b hb => (hf b hb).1⟩⟩
  done := by
    intro X hP hw hK hc i pins s σ H E I hf st hg
    subst hP hw hK
    obtain ⟨xs, hq, hx⟩ := hg
    obtain ⟨its, rv, p, hz⟩ := I.list hq
    obtain ⟨f0, f1, f2, f3, f4, f5⟩ := hf it (by simp)
    have hl := rv.length
    exact wpAny_pyNext_list_end (I.ok.hd hc) st p.isList (by simp; omega) fun h' eb => ⟨rfl, I.turned (t' := s.toks) (fun b o hb e => eb b o hb e) f0 f1 f3 f4 f5⟩
  self := fun _ _ _ _ _ st h => wpAny_pyIter_listiter st h
theorem turn_tuple {P : Program} {w : World} {K : PySem.W.Frag} {tg : Expr} (a it : Addr) : Turn P w K tg (Itt K a) [it] it (fun i h => h.IsTupleIter it a i) where
  mem := by simp
  obj := fun i h st b hb => by
    have e : b = it := by simpa using hb
    subst e
    obtain ⟨o, e, c, d⟩ := st
    exact ⟨o, e, fun v z => by rw [d] at z; cases z⟩
  keep := fun i h h' st k => st.at fun o e => k it (by simp) o e
  item := by
    intro X hP hw hK hc i pins s σ H E I hf st hg
    subst hP hw hK
    obtain ⟨xs, x, hq, hx⟩ := hg
    obtain ⟨its, rv, p, hz⟩ := I.tuple hq
    obtain ⟨u, hu, ru⟩ := rv.get hx
    obtain ⟨f0, f1, f2, f3, f4, f5⟩ := hf it (by simp)
    refine wpAny_pyNext_tuple_item st (show s.heap.IsTuple a its.toArray from p) (x := u) (by simpa using hu) fun h' st' sb => ?_
    have I1 : Inv X pins σ H { s with heap := h' } := I.turned (t' := s.toks) (fun b o hb e => (sb.2 b hb).trans e) f0 f1 f3 f4 f5
    obtain ⟨o, e, c, d⟩ := id st'
    exact ⟨u, rfl, go_of (s := { s with heap := h' }) e c d (by decide) ⟨x, H, I1, ru, ⟨rfl, fun ys hy => by rw [I.tuple_inj hy hq]; exact hx⟩, st', fun b hb => (hf b hb).1⟩⟩
  done := by
    intro X hP hw hK hc i pins s σ H E I hf st hg
    subst hP hw hK
    obtain ⟨xs, hq, hx⟩ := hg
    obtain ⟨its, rv, p, hz⟩ := I.tuple hq
    obtain ⟨f0, f1, f2, f3, f4, f5⟩ := hf it (by simp)
    have hl := rv.length
    exact wpAny_pyNext_tuple_end (I.ok.hd hc) st (show s.heap.IsTuple a its.toArray from p) (by simp; omega) fun h' eb => ⟨rfl, I.turned (t' := s.toks) (fun b o hb e => eb b o hb e) f0 f1 f3 f4 f5⟩
  self := fun _ _ _ _ _ st h => wpAny_pyIter_tupleiter st h
theorem turn_range {P : Program} {w : World} {K : PySem.W.Frag} {tg : Expr} (it : Addr) (lo : Int) (n : Nat) : Turn P w K tg (Itr lo n) [it] it (fun i h => IsRangeIter h it (lo + (i : Nat) * 1) ((n : Int) - (i : Nat)) 1) where
  mem := by simp
  obj := fun i h st b hb => by
    have e : b = it := by simpa using hb
    subst e
    exact ⟨_, st, fun v z => by
      have z' : Data.fields _ = Data.cell v := z
      cases z'⟩
  keep := fun i h h' st k => k it (by simp) _ st
  item := by
    intro X hP hw hK hc i pins s σ H E I hf st hg
    subst hP hw hK
    obtain ⟨f0, f1, f2, f3, f4, f5⟩ := hf it (by simp)
    have W := Walks.range (prog := X.prog) (w := X.w) (I.ok.hd hc) it lo 1 n
    refine W.item i s _ _ hg st fun v h' tk hv st' kk => ?_
    obtain ⟨t, rfl⟩ := hv
    have I1 : Inv X pins σ H { s with heap := h', toks := tk } := I.turned (fun b o hb e => kk b o (by simpa using hb) e) f0 f1 f3 f4 f5
    refine ⟨_, rfl, go_of (s := { s with heap := h', toks := tk }) (n := "range_iterator") st' rfl rfl (by decide) ⟨.int (lo + i), H, I1, ⟨t, ?_⟩, ⟨rfl, rfl⟩, st', fun b hb => (hf b hb).1⟩⟩
    rw [Int.mul_one]
  done := by
    intro X hP hw hK hc i pins s σ H E I hf st hg
    subst hP hw hK
    obtain ⟨f0, f1, f2, f3, f4, f5⟩ := hf it (by simp)
    exact wpAny_pyNext_range_end (I.ok.hd hc) st (by have : n ≤ i := hg; omega) fun h' eb => ⟨rfl, I.turned (t' := s.toks) (fun b o hb e => eb b o hb e) f0 f1 f3 f4 f5⟩
  self := fun _ _ _ _ _ st h => wpAny_pyIter_rangeiter st h
end L2
namespace L2
open PySem PySem.Spec PyProof.Rows
section
variable {X : Cx} {tg : Expr}
def iList (K : PySem.W.Frag) (tl : TE) : TI := fun σ H R => tl σ H fun x H1 => ∃ a, x = .ref a ∧ (∃ xs, SqL K H1 a xs) ∧ R (Itl K a) H1
def iTup (K : PySem.W.Frag) (tl : TE) : TI := fun σ H R => tl σ H fun x H1 => ∃ a, x = .ref a ∧ (∃ xs, SqT K H1 a xs) ∧ R (Itt K a) H1
theorem pi_list {l : Expr} {tl : TE} (hl : PE X l tl) : PI X tg l (iList X.K tl) := by
  intro pins s σ H R I h
  refine thn (hl pins s σ H _ I h) fun v s1 ⟨x, H1, I1, r1, q1⟩ => ?_
  obtain ⟨a, e, ⟨xs, hq⟩, q⟩ := q1
  subst e
  cases r1
  obtain ⟨its, rv, p, hz⟩ := I1.list hq
  refine wpAny_pyIter_list p.isList ?_
  refine ⟨s1.heap.objs.size, [s1.heap.objs.size], _, _, H1, rfl, I1.kept (t' := s1.toks) fun b o e => Heap.get?_push_of_some _ e, turn_list a _, ⟨_, Heap.get?_push_size _ rfl, rfl, rfl⟩, fun b hb => ?_, q⟩
  have e : b = s1.heap.objs.size := by simpa using hb
  subst e
  exact I1.fpOk (Nat.le_refl _) (I1.hok.fresh (Nat.le_refl _))
theorem pi_tup {l : Expr} {tl : TE} (hl : PE X l tl) : PI X tg l (iTup X.K tl) := by
  intro pins s σ H R I h
  refine thn (hl pins s σ H _ I h) fun v s1 ⟨x, H1, I1, r1, q1⟩ => ?_
  obtain ⟨a, e, ⟨xs, hq⟩, q⟩ := q1
  subst e
  cases r1
  obtain ⟨its, rv, p, hz⟩ := I1.tuple hq
  refine wpAny_pyIter_tuple (show s1.heap.IsTuple a its.toArray from p) ?_
  refine ⟨s1.heap.objs.size, [s1.heap.objs.size], _, _, H1, rfl, I1.kept (t' := s1.toks) fun b o e => Heap.get?_push_of_some _ e, turn_tuple a _, ⟨_, Heap.get?_push_size _ rfl, rfl, rfl⟩, fun b hb => ?_, q⟩
  have e : b = s1.heap.objs.size := by simpa using hb
  subst e
  exact I1.fpOk (Nat.le_refl _) (I1.hok.fresh (Nat.le_refl _))
/-- a range object just made, walked -/
theorem range_it {pins : List (Addr × Obj)} {σ : St} {H : Hp} {s : Shared} {R : It → Hp → Prop} {E : Value → Shared → Prop} {lo hi : Int} {t u v : Tok} {tk : Nat} (I : Inv X pins σ H s) (h1 : -(2 ^ 62) ≤ lo) (h2 : lo < 2 ^ 62) (h3 : -(2 ^ 62) ≤ hi) (h4 : hi < 2 ^ 62)
    (q : R (Itr lo (hi - lo).toNat) H) : wpAny (model X.prog X.w) X.A (pyIter (.ref s.heap.objs.size)) (PIE X pins σ tg R) E { s with heap := s.heap.push { cls := .type "range", data := .fields #[.int lo t, .int hi u, .int 1 v] }, toks := tk } := by
  refine wpAny_pyIter_range (IsRange.new ..) (small_one h1 h2 h3 h4) ?_
  have I1 : Inv X pins σ H { s with heap := s.heap.push { cls := .type "range", data := .fields #[.int lo t, .int hi u, .int 1 v] }, toks := tk } := I.kept fun b o e => Heap.get?_push_of_some _ e
  refine ⟨(s.heap.push { cls := .type "range", data := .fields #[.int lo t, .int hi u, .int 1 v] }).objs.size, [(s.heap.push { cls := .type "range", data := .fields #[.int lo t, .int hi u, .int 1 v] }).objs.size], _, _, H, rfl,
    I1.kept (t' := tk) fun b o e => Heap.get?_push_of_some _ e, turn_range _ lo (hi - lo).toNat, ?_, fun b hb => ?_, q⟩
  · have e1 : lo + ((0 : Nat) : Int) * 1 = lo := by simp
    have e2 : (((hi - lo).toNat : Nat) : Int) - ((0 : Nat) : Int) = Builtin.Range.rangeSize lo hi 1 := by rw [rangeSize_one]; split <;> omega
    show IsRangeIter _ _ (lo + ((0 : Nat) : Int) * 1) ((((hi - lo).toNat : Nat) : Int) - ((0 : Nat) : Int)) 1
    rw [e1, e2]
    exact Heap.get?_push_size _ rfl
  · have e : b = (s.heap.push { cls := .type "range", data := .fields #[.int lo t, .int hi u, .int 1 v] }).objs.size := by simpa using hb
    subst e
    exact I1.fpOk (Nat.le_refl _) (I1.hok.fresh (Nat.le_refl _))
def iRng1 (ta : TA) : TI := fun σ H R => ta σ H fun vs H1 => ∃ j : Int, vs = [.int j] ∧ -(2 ^ 62) ≤ j ∧ j < 2 ^ 62 ∧ R (Itr 0 j.toNat) H1
def iRng2 (ta : TA) : TI := fun σ H R => ta σ H fun vs H1 => ∃ i j : Int, vs = [.int i, .int j] ∧ (-(2 ^ 62) ≤ i ∧ i < 2 ^ 62 ∧ -(2 ^ 62) ≤ j ∧ j < 2 ^ 62) ∧ R (Itr i (j - i).toNat) H1
theorem pi_range1 {a : Expr} {ta : TA} {p pos : Pos} (hg : Gl X "range") (hm : X.mg "range" = none) (ha : PA X [a] ta) (hs : starEach [a] X.env = [(false, eval a X.env)] := by rfl) : PI X tg (.Call (.Name "range" p) [a] [] pos) (iRng1 ta) := by
  intro pins s σ H R I h
  refine Call_ (ld_blt I hg hm boot_range (PyProof.Rows.callWith_type1 (thn (ha pos pins s σ H _ I h) fun us s1 ⟨vs, H1, I1, r1, q1⟩ => ?_) hs rfl))
  obtain ⟨j, e, q1, q2, q⟩ := q1
  subst e
  cases r1 with
  | cons r rr =>
    cases rr
    obtain ⟨t, rfl⟩ := r
    exact call_range_1 (range_it I1 (by omega) (by omega) q1 q2 (by simpa using q))
/-! ### for -/
/-- W: the invariant by the turn and a measure; N: what the body is to reach -/
def tFor (wi : TI) (g : TG) (tb : TS) : TS := fun D σ H => wi σ H fun J H1 => ∃ W : Nat → Nat → St → Hp → Prop, (∃ m, W 0 m σ H1) ∧ ∀ i m σ H, W i m σ H →
  (J.stop i H ∧ D.nx σ H) ∨ (J.go i H ∧ ∃ N : St → Hp → Prop, (∀ σ' H', N σ' H' → ∃ m', m' < m ∧ W (i + 1) m' σ' H') ∧ ∀ x H', J.yld i H x H' → g x σ H' fun σ2 H2 => tb { D with nx := N, ct := N, bk := D.nx } σ2 H2)
/-- the records at fp as they stand -/
def pinsAt (fp : List Addr) (h : Heap) : List (Addr × Obj) := fp.filterMap fun b => (h.get? b).map fun o => (b, o)
theorem mem_pinsAt {fp : List Addr} {h : Heap} {b : Addr} {o : Obj} (hb : b ∈ fp) (e : h.get? b = some o) : (b, o) ∈ pinsAt fp h := List.mem_filterMap.mpr ⟨b, hb, by rw [e]; rfl⟩
theorem of_pinsAt {fp : List Addr} {h : Heap} {p : Addr × Obj} (hp : p ∈ pinsAt fp h) : p.1 ∈ fp ∧ h.get? p.1 = some p.2 := by
  obtain ⟨b, hb, e⟩ := List.mem_filterMap.mp hp
  cases q : h.get? b with
  | none => rw [q] at e; cases e
  | some o =>
    rw [q] at e
    have e' : (b, o) = p := Option.some.inj e
    subst e'
    exact ⟨hb, q⟩
theorem Inv.pinned {pins : List (Addr × Obj)} {σ : St} {H : Hp} {s : Shared} {fp : List Addr} (I : Inv X pins σ H s) (hf : ∀ b ∈ fp, FpOk X pins H b) (ho : ∀ b ∈ fp, ∃ o, s.heap.get? b = some o ∧ ∀ v, o.data ≠ .cell v) : Inv X (pins ++ pinsAt fp s.heap) σ H s :=
  I.pins_of fun p hp => (List.mem_append.mp hp).elim (fun z => I.pin p (List.mem_append_right _ z)) fun z => by
    obtain ⟨hb, e⟩ := of_pinsAt z
    obtain ⟨f0, f1, f2, _⟩ := hf p.1 hb
    obtain ⟨o, e', d⟩ := ho p.1 hb
    rw [e] at e'; cases e'
    exact ⟨e, f0, f1, f2, d⟩
theorem Inv.unpinned {pins pl : List (Addr × Obj)} {σ : St} {H : Hp} {s : Shared} (I : Inv X (pins ++ pl) σ H s) : Inv X pins σ H s := I.pins_of fun p hp => I.pin p (List.mem_append_right _ (List.mem_append_left _ hp))
theorem ps_for {iter : Expr} {body : List Stmt} {wi : TI} {g : TG} {tb : TS} {pos : Pos} (hp : PassesOwn (model X.prog X.w) X.A X.env X.xe) (hc : X.calm = true) (hi : PI X tg iter wi) (hg : PG X tg g) (hb : PSs X body tb)
    (hs : ∀ x, foldedSetIterable iter X.env x = pure x := by intro _; rfl) : PS X (.For tg iter body [] pos) (tFor wi g tb) := by
  intro pins s σ H D I h
  refine wpAny_For (thn (hi pins s σ H _ I h) fun v s1 h1 => thn h1 fun itv s2 h2 => ?_) hs
  obtain ⟨it, fp, tn, J, H2, e, I2, T, st2, f2, W, ⟨m0, w0⟩, turn⟩ := h2
  subst e
  -- what stays true of the iterator's objects through the loop
  have stat : ∀ {H' : Hp}, (∀ b ∈ fp, H' b = none) → ∀ b ∈ fp, FpOk X pins H' b := fun hn b hb => ⟨hn b hb, (f2 b hb).2⟩
  refine codeAny_forLoop_any (fun n s' => ∃ i σ' H', Inv X pins σ' H' s' ∧ tn i s'.heap ∧ (∀ b ∈ fp, H' b = none) ∧ W i n σ' H') ?_ m0 ⟨0, σ, H2, I2, st2, fun b hb => (f2 b hb).1, w0⟩
  rintro n s3 ⟨i, σ3, H3, I3, st3, fr3, w3⟩
  rcases turn i n σ3 H3 w3 with ⟨stop, qn⟩ | ⟨go, N, hN, step⟩
  · refine wpAny_passesOwn hp (thn (T.done X rfl rfl rfl hc i pins s3 σ3 H3 X.xe I3 (stat fr3) st3 stop) fun r s4 ⟨hr, I4⟩ => ?_)
    subst hr
    exact wpAny_execs_nil ⟨σ3, H3, I4, qn⟩
  · refine wpAny_passesOwn hp (thn (T.item X rfl rfl rfl hc i pins s3 σ3 H3 X.xe I3 (stat fr3) st3 go) fun r s4 ⟨u, hr, h4⟩ => ?_)
    subst hr
    refine wpAny_passesOwn hp (thn h4 fun _ s5 ⟨x, H5, I5, r5, y5, st5, fr5⟩ => ?_)
    have I5' := I5.pinned (stat fr5) (T.obj _ _ st5)
    refine wpAny_passesOwn hp (thn (hg _ s5 σ3 H5 x u _ I5' r5 (step x H5 y5)) fun _ s6 ⟨σ6, H6, I6, q6⟩ => ?_)
    refine wpAny_passesOwn hp (thn (hb _ s6 σ6 H6 _ I6 q6) fun f s7 q7 => ?_)
    have again : ∀ {σ7 : St} {H7 : Hp}, Inv X (pins ++ pinsAt fp s5.heap) σ7 H7 s7 → N σ7 H7 → ∃ m, m < n ∧ ∃ i σ' H', Inv X pins σ' H' s7 ∧ tn i s7.heap ∧ (∀ b ∈ fp, H' b = none) ∧ W i m σ' H' := fun {σ7 H7} I7 n7 => by
      obtain ⟨m', hm, w7⟩ := hN σ7 H7 n7
      refine ⟨m', hm, i + 1, σ7, H7, I7.unpinned, T.keep _ _ _ st5 fun b hb o e => (I7.pin (b, o) (List.mem_append_right _ (List.mem_append_right _ (mem_pinsAt hb e)))).1, fun b hb => ?_, w7⟩
      obtain ⟨o, e, d⟩ := T.obj _ _ st5 b hb
      exact (I7.pin (b, o) (List.mem_append_right _ (List.mem_append_right _ (mem_pinsAt hb e)))).2.1
    cases f with
    | next => obtain ⟨σ7, H7, I7, n7⟩ := q7; exact again I7 n7
    | cont => obtain ⟨σ7, H7, I7, n7⟩ := q7; exact again I7 n7
    | brk => obtain ⟨σ7, H7, I7, q7⟩ := q7; exact ⟨σ7, H7, I7.unpinned, q7⟩
    | ret v => obtain ⟨x7, σ7, H7, I7, r7, q7⟩ := q7; exact ⟨x7, σ7, H7, I7.unpinned, r7, q7⟩
end
/-! ### the forms one uses -/
end L2
namespace L2
open PySem PySem.Spec PyProof.Rows
abbrev R2 := V → V → Hp → VK → Prop
/-- a two-place operation on values: f is binaryOp op, inplaceOp op or compareOp op -/
def OpR (X : Cx) (f : Value → Value → Sem Value) (r : R2) : Prop :=
  ∀ (pins : List (Addr × Obj)) (s : Shared) (σ : St) (H : Hp) (x y : V) (v u : Value) (Q : VK), Inv X pins σ H s → RelV x v → RelV y u → r x y H Q →
    wpAny (model X.prog X.w) X.A (f v u) (EP X pins σ Q) X.xe s
/-- a one-place operation -/
def UnR (X : Cx) (f : Value → Sem Value) (r : V → Hp → VK → Prop) : Prop :=
  ∀ (pins : List (Addr × Obj)) (s : Shared) (σ : St) (H : Hp) (x : V) (v : Value) (Q : VK), Inv X pins σ H s → RelV x v → r x H Q →
    wpAny (model X.prog X.w) X.A (f v) (EP X pins σ Q) X.xe s
/-- a call of a value that is known (a builtin, a type) with values -/
def CallR (X : Cx) (f : Value) (r : List V → Hp → VK → Prop) : Prop :=
  ∀ (pins : List (Addr × Obj)) (s : Shared) (σ : St) (H : Hp) (xs : List V) (us : List Value) (Q : VK), Inv X pins σ H s → Vals xs us → r xs H Q →
    wpAny (model X.prog X.w) X.A (call f us) (EP X pins σ Q) X.xe s
/-- a value's truth -/
def TruR (X : Cx) (r : V → Hp → (Bool → Hp → Prop) → Prop) : Prop :=
  ∀ (pins : List (Addr × Obj)) (s : Shared) (σ : St) (H : Hp) (x : V) (v : Value) (Q : Bool → Hp → Prop), Inv X pins σ H s → RelV x v → r x H Q →
    wpAny (model X.prog X.w) X.A (truthy v) (TP X pins σ Q) X.xe s
def tOp (r : R2) (ta tb : TE) : TE := fun σ H Q => ta σ H fun x H1 => tb σ H1 fun y H2 => r x y H2 Q
def tUn (r : V → Hp → VK → Prop) (ta : TE) : TE := fun σ H Q => ta σ H fun x H1 => r x H1 Q
/-- ints in, under C, and a value out -/
def rI (C : Int → Int → Prop) (g : Int → Int → V) : R2 := fun x y H Q => ∃ i j, x = .int i ∧ y = .int j ∧ C i j ∧ Q (g i j) H
def rI0 (g : Int → Int → V) : R2 := fun x y H Q => ∃ i j, x = .int i ∧ y = .int j ∧ Q (g i j) H
def rU (g : Int → V) : V → Hp → VK → Prop := fun x H Q => ∃ i, x = .int i ∧ Q (g i) H
section
variable {X : Cx} {a b c : Expr} {ta tb tc : TE} {pos : Pos}
theorem binT (ha : PE X a ta) (hb : PE X b tb) {pins : List (Addr × Obj)} {s : Shared} {σ : St} {H : Hp} {R : V → V → Hp → Prop} (I : Inv X pins σ H s)
    (h : ta σ H fun x H1 => tb σ H1 fun y H2 => R x y H2) {Q : Value → Shared → Prop} {f : Value → Value → Sem Value}
    (hf : ∀ v u s2 x y H2, Inv X pins σ H2 s2 → RelV x v → RelV y u → R x y H2 → wpAny (model X.prog X.w) X.A (f v u) Q X.xe s2) :
    wpAny (model X.prog X.w) X.A (eval a X.env) (fun v s₁ => wpAny (model X.prog X.w) X.A (eval b X.env) (fun u s₂ => wpAny (model X.prog X.w) X.A (f v u) Q X.xe s₂) X.xe s₁) X.xe s := by
  refine thn (ha pins s σ H _ I h) fun v s1 ⟨x, H1, I1, r1, q1⟩ => ?_
  refine thn (hb pins s1 σ H1 _ I1 q1) fun u s2 ⟨y, H2, I2, r2, q2⟩ => ?_
  exact hf v u s2 x y H2 I2 r1 r2 q2
theorem pe_op {op : Operator} {r : R2} (ho : OpR X (binaryOp op) r) (ha : PE X a ta) (hb : PE X b tb) : PE X (.BinOp a op b pos) (tOp r ta tb) := by
  intro pins s σ H Q I h
  exact wpAny_BinOp (binT ha hb I h fun v u s2 x y H2 I2 rx ry q => ho pins s2 σ H2 x y v u Q I2 rx ry q)
theorem pe_un {op : UnaryOp} {r : V → Hp → VK → Prop} (ho : UnR X (unaryOp op) r) (ha : PE X a ta) : PE X (.UnaryOp op a pos) (tUn r ta) := by
  intro pins s σ H Q I h
  exact UnaryOp_ (thn (ha pins s σ H _ I h) fun v s1 ⟨x, H1, I1, r1, q1⟩ => ho pins s1 σ H1 x v Q I1 r1 q1)
/-! ### ints -/
theorem opI {f : Value → Value → Sem Value} {C : Int → Int → Prop} {g : Int → Int → Int}
    (rule : ∀ (i j : Int) (t u : Tok) (s : Shared) (Q : Value → Shared → Prop) (E : Value → Shared → Prop), C i j → Q (.int (g i j) s.toks) { s with toks := s.toks + 1 } → wpAny (model X.prog X.w) X.A (f (.int i t) (.int j u)) Q E s) :
    OpR X f (rI C fun i j => .int (g i j)) := by
  intro pins s σ H x y v u Q I rx ry h
  obtain ⟨i, j, rfl, rfl, hc, q⟩ := h
  obtain ⟨t, rfl⟩ := rx
  obtain ⟨t', rfl⟩ := ry
  exact rule i j t t' s _ _ hc ⟨.int (g i j), H, I.tok _, ⟨_, rfl⟩, q⟩
theorem opI0 {f : Value → Value → Sem Value} {g : Int → Int → Int}
    (rule : ∀ (i j : Int) (t u : Tok) (s : Shared) (Q : Value → Shared → Prop) (E : Value → Shared → Prop), Q (.int (g i j) s.toks) { s with toks := s.toks + 1 } → wpAny (model X.prog X.w) X.A (f (.int i t) (.int j u)) Q E s) :
    OpR X f (rI0 fun i j => .int (g i j)) := by
  intro pins s σ H x y v u Q I rx ry h
  obtain ⟨i, j, rfl, rfl, q⟩ := h
  obtain ⟨t, rfl⟩ := rx
  obtain ⟨t', rfl⟩ := ry
  exact rule i j t t' s _ _ ⟨.int (g i j), H, I.tok _, ⟨_, rfl⟩, q⟩
theorem opB0 {f : Value → Value → Sem Value} {g : Int → Int → Bool}
    (rule : ∀ (i j : Int) (t u : Tok) (s : Shared) (Q : Value → Shared → Prop) (E : Value → Shared → Prop), Q (.bool (g i j)) s → wpAny (model X.prog X.w) X.A (f (.int i t) (.int j u)) Q E s) :
    OpR X f (rI0 fun i j => .bl (g i j)) := by
  intro pins s σ H x y v u Q I rx ry h
  obtain ⟨i, j, rfl, rfl, q⟩ := h
  obtain ⟨t, rfl⟩ := rx
  obtain ⟨t', rfl⟩ := ry
  exact rule i j t t' s _ _ ⟨.bl (g i j), H, I, rfl, q⟩
def CDiv (i j : Int) : Prop := 0 < j ∧ j < 1073741824
def CDivN (i j : Int) : Prop := j ≠ 0 ∧ j.natAbs < 1073741824
def CPow (i j : Int) : Prop := 0 ≤ j ∧ j ≤ 1000000 ∧ i.natAbs < 2 ^ 64
def CMul (i j : Int) : Prop := (-(2 ^ 64) < i ∧ i < 2 ^ 64) ∨ (-(2 ^ 64) < j ∧ j < 2 ^ 64)
theorem CMul.ok {i j : Int} (h : CMul i j) : IntMulOk i j := by
  rcases h with ⟨h1, h2⟩ | ⟨h1, h2⟩
  · exact .of_left (intBits_le_64 h1 h2)
  · exact .of_right (intBits_le_64 h1 h2)
theorem op_add : OpR X (binaryOp .Add) (rI0 fun i j => .int (i + j)) := opI0 fun _ _ _ _ _ _ _ q => add_int q
theorem op_sub : OpR X (binaryOp .Sub) (rI0 fun i j => .int (i - j)) := opI0 fun _ _ _ _ _ _ _ q => sub_int q
theorem op_mul : OpR X (binaryOp .Mult) (rI CMul fun i j => .int (i * j)) := opI fun _ _ _ _ _ _ _ hc q => mul_int q hc.ok
/-- // by a positive divisor -/
theorem op_fdiv : OpR X (binaryOp .FloorDiv) (rI CDiv fun i j => .int (i / j)) := opI fun i j _ _ _ _ _ hc q => by
  have h1 : (0 : Int) < j := hc.1
  have h2 : j < 1073741824 := hc.2
  exact floordiv_int (by omega) (by rw [Int.fdiv_eq_ediv_of_nonneg i (by omega)]; exact q) (.inl (PyProof.noPylong_small (by omega)))
/-- % by a positive divisor of any size -/
theorem op_mod : OpR X (binaryOp .Mod) (rI (fun _ j => 0 < j) fun i j => .int (i % j)) := opI fun i j _ _ _ _ _ hc q => by
  have h1 : (0 : Int) < j := hc
  exact mod_int' (by omega) (by rw [Int.fmod_eq_emod_of_nonneg i (by omega)]; exact q)
theorem op_pow : OpR X (binaryOp .Pow) (rI CPow fun i j => .int (i ^ j.toNat)) := opI fun _ _ _ _ _ _ _ hc q => pow_int_small hc.1 hc.2.1 hc.2.2 q
theorem unI {f : Value → Sem Value} {g : Int → Int}
    (rule : ∀ (i : Int) (t : Tok) (s : Shared) (Q : Value → Shared → Prop) (E : Value → Shared → Prop), Q (.int (g i) s.toks) { s with toks := s.toks + 1 } → wpAny (model X.prog X.w) X.A (f (.int i t)) Q E s) :
    UnR X f (rU fun i => .int (g i)) := by
  intro pins s σ H x v Q I rx h
  obtain ⟨i, rfl, q⟩ := h
  obtain ⟨t, rfl⟩ := rx
  exact rule i t s _ _ ⟨.int (g i), H, I.tok _, ⟨_, rfl⟩, q⟩
theorem un_neg : UnR X (unaryOp .USub) (rU fun i => .int (-i)) := unI fun _ _ _ _ _ q => neg_int q
/-! ### bools among ints: n += (a < b) -/
end
/-! ### comparisons -/
/-- the scalars that == tells apart as data does -/
def scal : V → V → Bool
  | .non, .non => true | .non, .int _ => true | .int _, .non => true | .non, .bl _ => true | .bl _, .non => true | .non, .str _ => true | .str _, .non => true
  | .int _, .int _ => true | .bl _, .bl _ => true | .str _, .str _ => true | .byt _, .byt _ => true
  | .int _, .str _ => true | .str _, .int _ => true | .bl _, .str _ => true | .str _, .bl _ => true
  | _, _ => false
def rEq : R2 := fun x y H Q => scal x y = true ∧ Q (.bl (decide (x = y))) H
def rNe : R2 := fun x y H Q => scal x y = true ∧ Q (.bl (!decide (x = y))) H
theorem dec_int {i j : Int} : decide (V.int i = V.int j) = (i == j) := by
  rw [Bool.eq_iff_iff]
  simp
theorem dec_bl {i j : Bool} : decide (V.bl i = V.bl j) = (i == j) := by
  rw [Bool.eq_iff_iff]
  simp
theorem dec_str {i j : Str} : decide (V.str i = V.str j) = (i == j) := by
  rw [Bool.eq_iff_iff]
  simp
theorem dec_byt {i j : Array UInt8} : decide (V.byt i = V.byt j) = (i.toList == j.toList) := by
  rw [Bool.eq_iff_iff]
  cases i
  cases j
  simp
section
variable {X : Cx} {a b c : Expr} {ta tb tc : TE} {pos : Pos}
theorem fin_bl {pins : List (Addr × Obj)} {σ : St} {H : Hp} {s : Shared} {Q : VK} {k k' : Bool} (I : Inv X pins σ H s) (q : Q (.bl k) H) (e : k = k') : EP X pins σ Q (.bool k') s := by
  subst e
  exact ⟨.bl k, H, I, rfl, q⟩
theorem op_eq : OpR X (compareOp .Eq) rEq := by
  intro pins s σ H x y v u Q I rx ry h
  obtain ⟨hs, q⟩ := h
  cases x with
  | non =>
    cases rx
    cases y with
    | non => cases ry; exact PySem.EqNone.eq_none_none (fin_bl I q (by simp))
    | bl j => cases ry; exact PySem.EqNone.eq_none_bool (fin_bl I q (by simp))
    | int j => obtain ⟨t', rfl⟩ := ry; exact PySem.EqNone.eq_none_int (fin_bl I q (by simp))
    | str j => obtain ⟨t', rfl⟩ := ry; exact PySem.EqNone.eq_none_str (fin_bl I q (by simp))
    | _ => exact absurd (show false = true from hs) Bool.false_ne_true
  | bl i =>
    cases rx
    cases y with
    | non => cases ry; exact PySem.EqNone.eq_bool_none (fin_bl I q (by simp))
    | bl j => cases ry; exact eq_bool (fin_bl I q dec_bl)
    | str j => obtain ⟨t', rfl⟩ := ry; exact PySem.EqMixed.eq_bool_str (fin_bl I q (by simp))
    | _ => exact absurd (show false = true from hs) Bool.false_ne_true
  | int i =>
    obtain ⟨t, rfl⟩ := rx
    cases y with
    | non => cases ry; exact PySem.EqNone.eq_int_none (fin_bl I q (by simp))
    | int j => obtain ⟨t', rfl⟩ := ry; exact eq_int (fin_bl I q dec_int)
    | str j => obtain ⟨t', rfl⟩ := ry; exact PySem.EqMixed.eq_int_str (fin_bl I q (by simp))
    | _ => exact absurd (show false = true from hs) Bool.false_ne_true
  | str i =>
    obtain ⟨t, rfl⟩ := rx
    cases y with
    | non => cases ry; exact PySem.EqNone.eq_str_none (fin_bl I q (by simp))
    | bl j => cases ry; exact PySem.EqMixed.eq_str_bool (fin_bl I q (by simp))
    | int j => obtain ⟨t', rfl⟩ := ry; exact PySem.EqMixed.eq_str_int (fin_bl I q (by simp))
    | str j => obtain ⟨t', rfl⟩ := ry; exact eq_str (fin_bl I q dec_str)
    | _ => exact absurd (show false = true from hs) Bool.false_ne_true
  | byt i =>
    obtain ⟨t, rfl⟩ := rx
    cases y with
    | byt j => obtain ⟨t', rfl⟩ := ry; exact PySem.W.eq_bytes (fin_bl I q dec_byt)
    | _ => exact absurd (show false = true from hs) Bool.false_ne_true
  | _ => cases y <;> exact absurd (show false = true from hs) Bool.false_ne_true
theorem op_ne : OpR X (compareOp .NotEq) rNe := by
  intro pins s σ H x y v u Q I rx ry h
  obtain ⟨hs, q⟩ := h
  cases x with
  | non =>
    cases rx
    cases y with
    | non => cases ry; exact PySem.EqNone.ne_none_none (fin_bl I q (by simp))
    | bl j => cases ry; exact PySem.EqNone.ne_none_bool (fin_bl I q (by simp))
    | int j => obtain ⟨t', rfl⟩ := ry; exact PySem.EqNone.ne_none_int (fin_bl I q (by simp))
    | str j => obtain ⟨t', rfl⟩ := ry; exact PySem.EqNone.ne_none_str (fin_bl I q (by simp))
    | _ => exact absurd (show false = true from hs) Bool.false_ne_true
  | bl i =>
    cases rx
    cases y with
    | non => cases ry; exact PySem.EqNone.ne_bool_none (fin_bl I q (by simp))
    | bl j => cases ry; exact ne_bool (fin_bl I q (congrArg not dec_bl))
    | str j => obtain ⟨t', rfl⟩ := ry; exact PySem.EqMixed.ne_bool_str (fin_bl I q (by simp))
    | _ => exact absurd (show false = true from hs) Bool.false_ne_true
  | int i =>
    obtain ⟨t, rfl⟩ := rx
    cases y with
    | non => cases ry; exact PySem.EqNone.ne_int_none (fin_bl I q (by simp))
    | int j => obtain ⟨t', rfl⟩ := ry; exact ne_int (fin_bl I q (congrArg not dec_int))
    | str j => obtain ⟨t', rfl⟩ := ry; exact PySem.EqMixed.ne_int_str (fin_bl I q (by simp))
    | _ => exact absurd (show false = true from hs) Bool.false_ne_true
  | str i =>
    obtain ⟨t, rfl⟩ := rx
    cases y with
    | non => cases ry; exact PySem.EqNone.ne_str_none (fin_bl I q (by simp))
    | bl j => cases ry; exact PySem.EqMixed.ne_str_bool (fin_bl I q (by simp))
    | int j => obtain ⟨t', rfl⟩ := ry; exact PySem.EqMixed.ne_str_int (fin_bl I q (by simp))
    | str j => obtain ⟨t', rfl⟩ := ry; exact ne_str (fin_bl I q (congrArg not dec_str))
    | _ => exact absurd (show false = true from hs) Bool.false_ne_true
  | byt i =>
    obtain ⟨t, rfl⟩ := rx
    cases y with
    | byt j => obtain ⟨t', rfl⟩ := ry; exact PySem.W.ne_bytes (fin_bl I q (congrArg not dec_byt))
    | _ => exact absurd (show false = true from hs) Bool.false_ne_true
  | _ => cases y <;> exact absurd (show false = true from hs) Bool.false_ne_true
theorem op_lt : OpR X (compareOp .Lt) (rI0 fun i j => .bl (decide (i < j))) := opB0 fun _ _ _ _ _ _ _ q => lt_int q
theorem op_gt : OpR X (compareOp .Gt) (rI0 fun i j => .bl (decide (j < i))) := opB0 fun _ _ _ _ _ _ _ q => gt_int q
/-- the one string within the other -/
theorem op_in_str : OpR X (compareOp .In) (fun x y H Q => ∃ i j, x = .str i ∧ y = .str j ∧ Q (.bl (!(Builtin.Str.occurrences j i 0 j.length 1).isEmpty)) H) := by
  intro pins s σ H x y v u Q I rx ry h
  obtain ⟨i, j, rfl, rfl, q⟩ := h
  obtain ⟨t, rfl⟩ := rx
  obtain ⟨t', rfl⟩ := ry
  exact in_str (fin_bl I q rfl)
/-- is None, is not None: the right side a value none -/
theorem op_isN : OpR X (compareOp .Is) (fun x y H Q => y = .non ∧ Q (.bl (decide (x = .non))) H) := by
  intro pins s σ H x y v u Q I rx ry h
  obtain ⟨rfl, q⟩ := h
  cases ry
  refine is_none_gen (fin_bl I q ?_)
  cases x <;> first
    | (cases rx; rfl)
    | (obtain ⟨t, rfl⟩ := rx; rfl)
/-- is, is not of two objects that are tracked lists or instances -/
def isObj : HO → Bool
  | .lst _ => true
  | .ins _ _ _ => true
  | _ => false
/-- two rules for one operation: by cases -/
theorem OpR.or {f : Value → Value → Sem Value} {r r' : R2} (h : OpR X f r) (h' : OpR X f r') : OpR X f (fun x y H Q => r x y H Q ∨ r' x y H Q) := by
  intro pins s σ H x y v u Q I rx ry q
  rcases q with q | q
  · exact h pins s σ H x y v u Q I rx ry q
  · exact h' pins s σ H x y v u Q I rx ry q
theorem nomark (b : Expr) {op : CmpOp} (h : op ≠ .In := by decide) (h2 : op ≠ .NotIn := by decide) : behindInMarks op b = false := by
  have e1 : (op == CmpOp.In) = false := by cases op <;> first | rfl | exact absurd rfl h
  have e2 : (op == CmpOp.NotIn) = false := by cases op <;> first | rfl | exact absurd rfl h2
  cases b <;> simp [behindInMarks, e1, e2]
/-- a comparison as a value; hm: nomark b, or (for in, not in) by with_unfolding_all rfl -/
theorem pe_cmpR {op : CmpOp} {r : R2} (ho : OpR X (compareOp op) r) (ha : PE X a ta) (hb : PE X b tb) (hm : behindInMarks op b = false) : PE X (.Compare a [op] [b] pos) (tOp r ta tb) := by
  intro pins s σ H Q I h
  exact wpAny_Compare1 (binT ha hb I h fun v u s2 x y H2 I2 rx ry q => ho pins s2 σ H2 x y v u Q I2 rx ry q) hm
/-- a reading of a value as a test -/
def tTest (t : TE) : TT := fun σ H Q => t σ H fun x H' => ∃ k, x = .bl k ∧ Q k H'
theorem pt_cmpR {op : CmpOp} {r : R2} (ho : OpR X (compareOp op) r) (ha : PE X a ta) (hb : PE X b tb) (hm : behindInMarks op b = false) : PT X (.Compare a [op] [b] pos) (tTest (tOp r ta tb)) := by
  intro pins s σ H Q I h
  refine wpAny_isTrue_Compare1 (thn (ha pins s σ H _ I h) fun v s1 ⟨x, H1, I1, r1, q1⟩ => thn (hb pins s1 σ H1 _ I1 q1) fun u s2 ⟨y, H2, I2, r2, q2⟩ =>
    thn (ho pins s2 σ H2 x y v u _ I2 r1 r2 q2) fun c s3 ⟨z, H3, I3, r3, k, e, q3⟩ => ?_) hm
  subst e
  cases r3
  exact wpAny_truthy_bool ⟨H3, I3, q3⟩
/-- a op1 b op2 c -/
def tChain (r r' : R2) (ta tb tc : TE) : TE := fun σ H Q => ta σ H fun x H1 => tb σ H1 fun y H2 => r x y H2 fun z H3 => ∃ k, z = .bl k ∧
  (if k = true then tc σ H3 fun w' H4 => r' y w' H4 Q else Q (.bl false) H3)
/-! ### truth -/
/-- a value's truth by the abstract heap -/
def TruV (K : PySem.W.Frag) (x : V) (H : Hp) (k : Bool) : Prop :=
  match x with
  | .non => k = false
  | .bl b => k = b
  | .int i => k = (i != 0)
  | .str y => y.length ≤ sizeLine ∧ k = ((y.length : Int) != 0)
  | .byt y => y.size ≤ sizeLine ∧ k = ((y.size : Int) != 0)
  | .ref p => (∃ xs, SqL K H p xs ∧ k = !xs.isEmpty) ∨ (∃ xs, SqT K H p xs ∧ k = !xs.isEmpty) ∨ ∃ kvs, H p = some (.dK kvs) ∧ k = !kvs.isEmpty
  | _ => False
theorem isEmpty_kv {κ : Type} {kvs : List (κ × V)} {vs : List (κ × Value)} (r : KV kvs vs) : (!vs.isEmpty) = !kvs.isEmpty := by
  cases r <;> rfl
theorem isEmpty_of {xs : List V} {its : List Value} (r : Vals xs its) : (!its.toArray.isEmpty) = !xs.isEmpty := by
  cases r <;> simp
theorem line63 : (sizeLine : Nat) < 2 ^ 63 := by rw [sizeLine_eq]; decide
theorem tru_ok : TruR X (fun x H Q => ∃ k, TruV X.K x H k ∧ Q k H) := by
  intro pins s σ H x v Q I rx h
  obtain ⟨k, e, q⟩ := h
  have hl := line63
  have hs : sizeLine = 16777216 := sizeLine_eq
  cases x with
  | non =>
    cases rx
    have e' : k = false := e
    subst e'
    exact truthy_none ⟨H, I, q⟩
  | bl b =>
    cases rx
    have e' : k = b := e
    subst e'
    exact wpAny_truthy_bool ⟨H, I, q⟩
  | int i =>
    obtain ⟨t, rfl⟩ := rx
    have e' : k = (i != 0) := e
    subst e'
    exact PySem.P.truthy_int ⟨H, I, q⟩
  | str y =>
    obtain ⟨t, rfl⟩ := rx
    obtain ⟨hy, e'⟩ : y.length ≤ sizeLine ∧ k = ((y.length : Int) != 0) := e
    subst e'
    exact PySem.P.truthy_str (by omega) ⟨H, I.tok _, q⟩
  | byt y =>
    obtain ⟨t, rfl⟩ := rx
    obtain ⟨hy, e'⟩ : y.size ≤ sizeLine ∧ k = ((y.size : Int) != 0) := e
    subst e'
    exact PySem.W.truthy_bytes (by omega) ⟨H, I.tok _, q⟩
  | ref p =>
    cases rx
    have e' : (∃ xs, SqL X.K H p xs ∧ k = !xs.isEmpty) ∨ (∃ xs, SqT X.K H p xs ∧ k = !xs.isEmpty) ∨ ∃ kvs, H p = some (.dK kvs) ∧ k = !kvs.isEmpty := e
    rcases e' with ⟨xs, hx, e'⟩ | ⟨xs, hx, e'⟩ | ⟨kvs, hx, e'⟩
    · subst e'
      obtain ⟨its, r, pl, hz⟩ := I.list hx
      have hlen := r.length
      exact wpAny_truthy_list pl.isList (by simp only [List.size_toArray]; omega) ⟨H, I.tok _, by rw [isEmpty_of r]; exact q⟩
    · subst e'
      obtain ⟨its, r, pl, hz⟩ := I.tuple hx
      have hlen := r.length
      exact truthy_tuple pl (by simp only [List.size_toArray]; omega) ⟨H, I.tok _, by rw [isEmpty_of r]; exact q⟩
    · subst e'
      obtain ⟨hz, hS, vs, r, m⟩ : kvs.length ≤ sizeLine ∧ (p == sysModules) = false ∧ ∃ vs, KV kvs vs ∧ s.heap.DictOf (mixKind X.prog X.w) p vs := I.hok p _ hx
      have hlen : kvs.length = vs.length := Paired.length r
      exact wpAny_truthy_dict hS m (by omega) ⟨H, I.tok _, by rw [isEmpty_kv r]; exact q⟩
  | _ => exact (show False from e).elim
/-- any expression whose test is its value's truth (a name, a call, a subscript, a field ..: he by fun _ => rfl) -/
theorem pt_truth (ha : PE X a ta) (he : ∀ whole, isTrue a X.env whole = (do let v ← whole; standAt a.pos; holding [v] (truthy v))) :
    PT X a (fun σ H Q => ta σ H fun x H' => ∃ k, TruV X.K x H' k ∧ Q k H') := by
  intro pins s σ H Q I h
  exact isTrue_plain (thn (ha pins s σ H _ I h) fun v s1 ⟨x, H1, I1, r1, q1⟩ => tru_ok pins s1 σ H1 x v Q I1 r1 q1) (he _)
/-! ### strs and bytes -/
theorem op_add_str : OpR X (binaryOp .Add) (fun x y H Q => ∃ i j, x = .str i ∧ y = .str j ∧ i.length + j.length ≤ sizeLine ∧ Q (.str (i ++ j)) H) := by
  intro pins s σ H x y v u Q I rx ry h
  obtain ⟨i, j, rfl, rfl, hz, q⟩ := h
  obtain ⟨t, rfl⟩ := rx
  obtain ⟨t', rfl⟩ := ry
  exact add_str (fun t' tk => ⟨.str (i ++ j), H, I.tok _, ⟨_, rfl⟩, q⟩) hz
def PlainIxT (b : Expr) : Prop := ∀ o i, subscripted b false o i = operate [o, i] (getItem o i)
/-! ### scalar builtins, by CallR -/
theorem vals1 {x : V} {us : List Value} (r : Vals [x] us) : ∃ u, us = [u] ∧ RelV x u := by
  cases r with
  | cons r1 r2 => cases r2; exact ⟨_, rfl, r1⟩
theorem vals2 {x y : V} {us : List Value} (r : Vals [x, y] us) : ∃ u w', us = [u, w'] ∧ RelV x u ∧ RelV y w' := by
  cases r with
  | cons r1 r2 =>
    cases r2 with
    | cons r3 r4 => cases r4; exact ⟨_, _, rfl, r1, r3⟩
theorem call_max2 (hc : X.calm = true) : CallR X (.builtin "max") (fun xs H Q => ∃ i j, xs = [.int i, .int j] ∧ Q (.int (if j > i then j else i)) H) := by
  intro pins s σ H xs us Q I r h
  obtain ⟨i, j, rfl, q⟩ := h
  obtain ⟨u, w', rfl, ⟨t, rfl⟩, ⟨t', rfl⟩⟩ := vals2 r
  refine max_two_ints (I.ok.hd hc) fun h' tk k => ⟨_, H, I.kept k, ?_, q⟩
  by_cases hj : j > i
  · rw [if_pos hj, if_pos hj]; exact ⟨_, rfl⟩
  · rw [if_neg hj, if_neg hj]; exact ⟨_, rfl⟩
theorem call_min2 (hc : X.calm = true) : CallR X (.builtin "min") (fun xs H Q => ∃ i j, xs = [.int i, .int j] ∧ Q (.int (if j < i then j else i)) H) := by
  intro pins s σ H xs us Q I r h
  obtain ⟨i, j, rfl, q⟩ := h
  obtain ⟨u, w', rfl, ⟨t, rfl⟩, ⟨t', rfl⟩⟩ := vals2 r
  refine min_two_ints (I.ok.hd hc) fun h' tk k => ⟨_, H, I.kept k, ?_, q⟩
  by_cases hj : j < i
  · rw [if_pos hj, if_pos hj]; exact ⟨_, rfl⟩
  · rw [if_neg hj, if_neg hj]; exact ⟨_, rfl⟩
/-- len of a str, a bytes, a list, a tuple -/
def LenV (K : PySem.W.Frag) (x : V) (H : Hp) (n : Nat) : Prop :=
  match x with
  | .str y => y.length ≤ sizeLine ∧ n = y.length
  | .byt y => y.size ≤ sizeLine ∧ n = y.size
  | .ref p => (∃ xs, SqL K H p xs ∧ n = xs.length) ∨ ∃ xs, SqT K H p xs ∧ n = xs.length
  | _ => False
theorem call_len : CallR X (.builtin "len") (fun xs H Q => ∃ x n, xs = [x] ∧ LenV X.K x H n ∧ Q (.int n) H) := by
  intro pins s σ H xs us Q I r h
  obtain ⟨x, n, rfl, e, q⟩ := h
  obtain ⟨u, rfl, rx⟩ := vals1 r
  have hl := line63
  have hs : sizeLine = 16777216 := sizeLine_eq
  cases x with
  | str y =>
    obtain ⟨t, rfl⟩ := rx
    obtain ⟨hy, e'⟩ : y.length ≤ sizeLine ∧ n = y.length := e
    subst e'
    exact len_str (by omega) ⟨.int _, H, I.tok _, ⟨_, rfl⟩, q⟩
  | byt y =>
    obtain ⟨t, rfl⟩ := rx
    obtain ⟨hy, e'⟩ : y.size ≤ sizeLine ∧ n = y.size := e
    subst e'
    exact PySem.W.len_bytes (by omega) ⟨.int _, H, I.tok _, ⟨_, rfl⟩, q⟩
  | ref p =>
    cases rx
    have e' : (∃ xs, SqL X.K H p xs ∧ n = xs.length) ∨ ∃ xs, SqT X.K H p xs ∧ n = xs.length := e
    rcases e' with ⟨xs, hx, e'⟩ | ⟨xs, hx, e'⟩
    · subst e'
      obtain ⟨its, r', pl, hz⟩ := I.list hx
      have hlen := r'.length
      exact Calls.call_len_list pl.isList (by simp only [List.size_toArray]; omega) ⟨.int xs.length, H, I.tok _, ⟨_, by simp only [List.size_toArray]; rw [hlen]⟩, q⟩
    · subst e'
      obtain ⟨its, r', pl, hz⟩ := I.tuple hx
      have hlen := r'.length
      exact len_tuple pl (by simp only [List.size_toArray]; omega) ⟨.int xs.length, H, I.tok _, ⟨_, by simp only [List.size_toArray]; rw [hlen]⟩, q⟩
  | _ => exact (show False from e).elim
end
end L2
namespace L2
open PySem PySem.Spec PyProof.Rows
/-! ### an instance, its attributes a map -/
structure ObjM (h : Heap) (x dx C : Addr) (mA : Str → Option Value) : Prop where
  obj : h.get? x = some (PySem.W.instObj C dx)
  ns : h.Ns1 dx mA
  ne : dx ≠ x
theorem lookIn_ns {h : Heap} {dx : Addr} {mA : Str → Option Value} (n : h.Ns1 dx mA) : ∃ od, h.get? dx = some od ∧ ∀ name, PySem.W.lookIn name od = some (mA name) := by
  obtain ⟨o, es, ep, ho, hd, hk, _, hm⟩ := n
  refine ⟨o, ho, fun name => ?_⟩
  have e := hm name
  unfold nsFind findBy at e
  rw [← Array.find?_toList] at e
  unfold PySem.W.lookIn
  rw [hd]
  dsimp only
  split
  · rename_i y q
    rw [q] at e
    exact congrArg some e
  · rename_i q
    rw [q] at e
    have a : es.toList.any (·.refKey) = false := by
      rw [List.any_eq_false]
      intro y hy
      obtain ⟨z, t, hkey⟩ := hk y (Array.mem_toList_iff.mp hy)
      simp [DictEntry.refKey, hkey]
    have a' : ¬ es.toList.any (·.refKey) = true := by rw [a]; exact Bool.false_ne_true
    rw [if_neg a']
    exact congrArg some e
theorem ObjM.look {h : Heap} {x dx C : Addr} {mA : Str → Option Value} (I : ObjM h x dx C mA) : ∃ od, PySem.W.InstAt h x (PySem.W.instObj C dx) C (some od) ∧ ∀ name, PySem.W.lookIn name od = some (mA name) :=
  let ⟨od, ho, hl⟩ := lookIn_ns I.ns
  ⟨od, ⟨I.obj, rfl, rfl, ho⟩, hl⟩
section
variable {prog : Program} {w : World} {A : Around} {E : Value → Shared → Prop} {s : Shared} {K : PySem.W.Frag} {x dx C f : Addr} {mA : Str → Option Value} {name : Str} {v : Value}
end
/-! ### the attributes as a list of pairs -/
def putF (f : Str) (v : V) : List (Str × V) → List (Str × V)
  | [] => [(f, v)]
  | (g, x) :: r => if g = f then (g, v) :: r else (g, x) :: putF f v r
theorem RelO.some_of {v : V} {o : Option Value} (r : RelO (some v) o) : ∃ u, o = some u ∧ RelV v u := by
  cases o with
  | none => exact (show False from r).elim
  | some u => exact ⟨u, rfl, r⟩
theorem RelO.none_of {o : Option Value} (r : RelO none o) : o = none := by
  cases o with
  | none => rfl
  | some u => exact (show False from r).elim
section
variable {P : Program} {w : World} {H H' : Hp} {h h' : Heap} {a C dx : Addr} {fs fs' : List (Str × V)}
theorem ins_get (hok : HOk P w H h) (e : H a = some (.ins C dx fs)) : ∃ mA, ObjM h a dx C mA ∧ (∀ f, RelO (fs.lookup f) (mA f)) ∧ PySem.Within mA (fs.map (·.1)) ∧ fs.length ≤ 1000 ∧ H dx = some (.own a) := by
  obtain ⟨d, z, ne, ob, mA, n, r, q⟩ := (show ObjOk P w H h a (.ins C dx fs) from hok a _ e)
  exact ⟨mA, ⟨ob, n, ne⟩, r, q, z, d⟩
end
/-! ### what of the text a class must have -/
structure Cls (K : PySem.W.Frag) (C : Addr) : Prop where
  pg : PySem.W.plainGet K C Str.empty = true
  hd : PySem.W.hasDictIn K C = true
  po : PySem.W.plainOver K C = true
  sa : PySem.W.findIn K (.ref C) "__setattr__" = some (some (.builtin "object.__setattr__"))
theorem Cls.get {K : PySem.W.Frag} {C : Addr} (c : Cls K C) (f : Str) : PySem.W.plainGet K C f = true := c.pg
/-- no class of it has the name -/
def NoAttr (K : PySem.W.Frag) (C : Addr) (f : Str) : Prop := PySem.W.findIn K (.ref C) f = some none
/-- a constant of the class -/
structure Con (K : PySem.W.Frag) (C : Addr) (f : Str) (v : V) (u : Value) : Prop where
  at_ : PySem.W.findIn K (.ref C) f = some (some u)
  rel : RelV v u
  get : PySem.W.specialIn K u "__get__" = some none
  cp : PySem.W.copiedNames.contains f = false
/-- a method: a plain def of the class or of one above it -/
structure Meth (K : PySem.W.Frag) (C : Addr) (m : Str) (f : Addr) : Prop where
  at_ : PySem.W.findIn K (.ref C) m = some (some (.ref f))
  fn : PySem.W.isFn K (.ref f) = true
  kp : PySem.W.keepIn K (.ref f) = true
section
variable {X : Cx} {pins : List (Addr × Obj)} {σ : St} {H : Hp} {s : Shared} {a C dx : Addr} {fs : List (Str × V)} {f : Str} {v : V} {A : Around} {E : Value → Shared → Prop}
/-- a new instance, tracked, without attributes -/
theorem Inv.made (I : Inv X pins σ H s) : Inv X pins σ (upd (upd H s.heap.objs.size (.own (s.heap.objs.size + 1))) (s.heap.objs.size + 1) (.ins C s.heap.objs.size []))
    { s with heap := (s.heap.push PySem.W.emptyDict).push (PySem.W.instObj C s.heap.objs.size) } := by
  have e1 : (s.heap.push PySem.W.emptyDict).get? s.heap.objs.size = some PySem.W.emptyDict := Heap.get?_push_size s.heap rfl
  have e2 : ((s.heap.push PySem.W.emptyDict).push (PySem.W.instObj C s.heap.objs.size)).get? (s.heap.objs.size + 1) = some (PySem.W.instObj C s.heap.objs.size) := by
    have := Heap.get?_push_size (s.heap.push PySem.W.emptyDict) (o := PySem.W.instObj C s.heap.objs.size) rfl
    rwa [Heap.size_push] at this
  have e3 : (s.heap.push PySem.W.emptyDict).Ns s.heap.objs.size (fun _ => none) := ⟨PySem.W.emptyDict, #[], _, e1, rfl, (fun e he => absurd he (by simp)), fun _ => rfl⟩
  have I1 := I.laid (a := s.heap.objs.size) (o := .own (s.heap.objs.size + 1)) (h' := s.heap.push PySem.W.emptyDict) (t' := s.toks) (fun b u q => Heap.get?_push_of_some _ q) (Nat.le_refl _) ⟨_, e1⟩
  refine I1.laid (a := s.heap.objs.size + 1) (o := .ins C s.heap.objs.size []) (t' := s.toks) (fun b u q => Heap.get?_push_of_some _ q) (Nat.le_of_eq (Heap.size_push _ _)) ?_
  have ne : s.heap.objs.size ≠ s.heap.objs.size + 1 := Nat.ne_of_lt (Nat.lt_succ_self _)
  refine ⟨by rw [upd_ne ne, upd_same], Nat.zero_le _, ne, e2, fun _ => none, (Heap.Ns1.of_empty e3).at fun o q => Heap.get?_push_of_some _ q, fun _ => True.intro, fun y hy => absurd rfl hy⟩
end
/-! ### readings and rules -/
/-- e.f, an attribute of the instance -/
def tFld (K : PySem.W.Frag) (ta : TE) (f : Str) : TE := fun σ H Q => ta σ H fun x H1 => ∃ a C dx fs v, x = .ref a ∧ H1 a = some (.ins C dx fs) ∧ Cls K C ∧ NoAttr K C f ∧ fs.lookup f = some v ∧ Q v H1
/-- e.f, a constant of the class -/
def tCon (K : PySem.W.Frag) (ta : TE) (f : Str) : TE := fun σ H Q => ta σ H fun x H1 => ∃ a C dx fs v u, x = .ref a ∧ H1 a = some (.ins C dx fs) ∧ Cls K C ∧ Con K C f v u ∧ fs.lookup f = none ∧ Q v H1
/-- e.f = value -/
def sFld (K : PySem.W.Frag) (ta tv : TE) (f : Str) : TS := fun D σ H => tv σ H fun y H1 => ta σ H1 fun x H2 => ∃ a C dx fs, x = .ref a ∧ H2 a = some (.ins C dx fs) ∧ Cls K C ∧ NoAttr K C f ∧ fs.length < 1000 ∧
  D.nx σ (upd H2 a (.ins C dx (putF f y fs)))
/-- an augmented operator on two values -/
def InOp (X : Cx) (op : Operator) (rd : V → V → Hp → VK → Prop) : Prop :=
  ∀ (pins : List (Addr × Obj)) (s : Shared) (σ : St) (H : Hp) (x y : V) (u v : Value) (Q : VK), Inv X pins σ H s → RelV x u → RelV y v → rd x y H Q → wpAny (model X.prog X.w) X.A (inplaceOp op u v) (EP X pins σ Q) X.xe s
/-- e.f op= value -/
def sFldAug (K : PySem.W.Frag) (ta tv : TE) (rd : V → V → Hp → VK → Prop) (f : Str) : TS := fun D σ H => ta σ H fun x H1 => ∃ a C dx fs v, x = .ref a ∧ H1 a = some (.ins C dx fs) ∧ Cls K C ∧ NoAttr K C f ∧ fs.lookup f = some v ∧
  tv σ H1 fun y H2 => rd v y H2 fun z H3 => ∃ dx' fs', H3 a = some (.ins C dx' fs') ∧ fs'.length < 1000 ∧ D.nx σ (upd H3 a (.ins C dx' (putF f z fs')))
section
variable {X : Cx} {o e value : Expr} {f : Str} {pos pos' tpos : Pos} {ta tv : TE}
def rAdd : V → V → Hp → VK → Prop := fun x y H Q => ∃ i j, x = .int i ∧ y = .int j ∧ Q (.int (i + j)) H
def rSub : V → V → Hp → VK → Prop := fun x y H Q => ∃ i j, x = .int i ∧ y = .int j ∧ Q (.int (i - j)) H
end
/-! ### isinstance -/
section
variable {X : Cx} {pins : List (Addr × Obj)} {σ : St} {H : Hp} {s : Shared} {A : Around} {E : Value → Shared → Prop} {Q : Value → Shared → Prop} {c : Value} {b : Bool}
/-- the type of a value, as the fragment's deciders take it; for an instance its class -/
inductive TyOf (K : PySem.W.Frag) (H : Hp) : V → Value → Prop where
  | non : TyOf K H .non (.type "NoneType")
  | bl (x : Bool) : TyOf K H (.bl x) (.type "bool")
  | int (i : Int) : TyOf K H (.int i) (.type "int")
  | str (x : Str) : TyOf K H (.str x) (.type "str")
  | flt (x : UInt64) : TyOf K H (.flt x) (.type "float")
  | lst {a : Addr} {xs : List V} (e : H a = some (.lst xs)) : TyOf K H (.ref a) (.type "list")
  | frz {a : Addr} {o : Obj} {xs : List V} (e : H a = some (.frz o (.lst xs))) : TyOf K H (.ref a) (.type "list")
  | tup {a : Addr} {xs : List V} (e : H a = some (.tup xs)) : TyOf K H (.ref a) (.type "tuple")
  | dK {a : Addr} {kvs : List (Key × V)} (e : H a = some (.dK kvs)) : TyOf K H (.ref a) (.type "dict")
  | dT {a : Addr} {kvs : List (List Key × V)} (e : H a = some (.dT kvs)) : TyOf K H (.ref a) (.type "dict")
  | ins {a C dx : Addr} {fs : List (Str × V)} (e : H a = some (.ins C dx fs)) (cl : Cls K C) (ha : PySem.W.findIn K (.ref C) "__class__" = some (some (.builtin "object.__class__")))
      (hn : PySem.W.specialIn K (.builtin "object.__class__") "__get__" = some (some (.builtin "getset_descriptor.__get__"))) (htk : PySem.W.takesIn K (.builtin "object.__class__") = some true)
      (hm : PySem.W.mroIn K C (.type "object") = some true) : TyOf K H (.ref a) (.ref C)
/-- isinstance(x, c) for one class c, a built-in or an own one: kitOne's answer -/
theorem isinst_ok {x : V} {u t : Value} (I : Inv X pins σ H s) (rx : RelV x u) (ty : TyOf X.K H x t) (e : PySem.W.kitOne X.K t c = some b) (h : ∀ tk, Q (.bool b) { s with toks := tk }) :
    wpAny (model X.prog X.w) A (call (.builtin "isinstance") [u, c]) Q E s := by
  cases ty with
  | non => cases (show u = Value.none from rx); exact PySem.W.kia_one PySem.W.kitx_none I.kIn True.intro e (fun z => nomatch z) h
  | bl y => cases (show u = Value.bool y from rx); exact PySem.W.kia_one PySem.W.kitx_bool I.kIn True.intro e (fun z => nomatch z) h
  | int i => obtain ⟨t, q⟩ := (show ∃ t, u = Value.int i t from rx); cases q; exact PySem.W.kia_one PySem.W.kitx_int I.kIn True.intro e (fun z => nomatch z) h
  | str y => obtain ⟨t, q⟩ := (show ∃ t, u = Value.str y t from rx); cases q; exact PySem.W.kia_one PySem.W.kitx_str I.kIn True.intro e (fun z => nomatch z) h
  | flt y => obtain ⟨t, q⟩ := (show ∃ t, u = Value.float y t from rx); cases q; exact PySem.W.kia_one PySem.W.kitx_float I.kIn True.intro e (fun z => nomatch z) h
  | @lst a xs ea =>
    cases (show u = Value.ref a from rx)
    obtain ⟨_, _, n, _, h1⟩ := (show ObjOk X.prog X.w H s.heap a (.lst xs) from I.hok a _ ea)
    exact PySem.W.kia_one PySem.W.kitx_list I.kIn ⟨_, h1, rfl⟩ e (fun z => nomatch z) h
  | @frz a ob xs ea =>
    cases (show u = Value.ref a from rx)
    obtain ⟨_, _, _, n, _, h1⟩ := (show ObjOk X.prog X.w H s.heap a (.frz ob (.lst xs)) from I.hok a _ ea)
    exact PySem.W.kia_one PySem.W.kitx_list I.kIn ⟨_, h1, rfl⟩ e (fun z => nomatch z) h
  | @tup a xs ea =>
    cases (show u = Value.ref a from rx)
    obtain ⟨_, _, _, p⟩ := (show ObjOk X.prog X.w H s.heap a (.tup xs) from I.hok a _ ea)
    obtain ⟨o, h1, h2, _⟩ := p
    exact PySem.W.kia_one PySem.W.kitx_tuple I.kIn ⟨o, h1, h2⟩ e (fun z => nomatch z) h
  | @dK a kvs ea =>
    cases (show u = Value.ref a from rx)
    obtain ⟨_, _, vs, _, p⟩ := (show ObjOk X.prog X.w H s.heap a (.dK kvs) from I.hok a _ ea)
    obtain ⟨o, es, ep, h1, h2, _⟩ := p
    exact PySem.W.kia_one PySem.W.kitx_dict I.kIn ⟨o, h1, h2.1⟩ e (fun z => nomatch z) h
  | @dT a kvs ea =>
    cases (show u = Value.ref a from rx)
    obtain ⟨_, _, xs, _, o, es, ep, h1, h2, _⟩ := (show ObjOk X.prog X.w H s.heap a (.dT kvs) from I.hok a _ ea)
    exact PySem.W.kia_one PySem.W.kitx_dict I.kIn ⟨o, h1, h2.1⟩ e (fun z => nomatch z) h
  | @ins a C dx fs ea cl ha hn htk hm =>
    cases (show u = Value.ref a from rx)
    obtain ⟨mA, O, _⟩ := ins_get I.hok ea
    obtain ⟨od, J, _⟩ := O.look
    exact PySem.W.kia_one (PySem.W.kitx_own (cl.get _) cl.hd ha hn htk hm) I.kIn J e (fun z => nomatch z) h
end
end L2
namespace L2
open PySem PySem.Spec PyProof.Rows
/-! ### room -/
structure Room (k : Nat) (A : Around) : Prop where
  hd : A.handled = none
  dp : A.depth + 3 * k + 5 < recursionLimit
  un : A.units + 16 * k + 200 < cLine
theorem Room.mono {j k : Nat} {A : Around} (r : Room k A) (h : j ≤ k) : Room j A := ⟨r.hd, by have := r.dp; omega, by have := r.un; omega⟩
theorem Room.deeper {k : Nat} {A : Around} (r : Room (k + 1) A) (env : Env) : Room k (A.deeper env) :=
  ⟨r.hd, by have := r.dp; show A.depth + 1 + 3 * k + 5 < _; omega, by have := r.un; show A.units + 3 + 16 * k + 200 < _; omega⟩
theorem Room.in1 {k : Nat} {A : Around} (r : Room (k + 1) A) : Room k A.in1 :=
  ⟨r.hd, by have := r.dp; show A.depth + 3 * k + 5 < _; omega, by have := r.un; show A.units + 1 + 16 * k + 200 < _; omega⟩
theorem make_depth {A : Around} {C : Addr} {us : List Value} {kw : List (Str × Value)} : (A.under (.builtin "type.__call__" ⟨.ref C :: us, kw⟩)).depth = A.depth + 1 := by
  first | rfl | simp [Around.under, Code.weight, Code.isCreation, Code.isGuard, Code.isCaller, Code.frames, Code.isFrame, guardIds]
theorem make_units {A : Around} {C : Addr} {us : List Value} {kw : List (Str × Value)} : (A.under (.builtin "type.__call__" ⟨.ref C :: us, kw⟩)).units = A.units + 1 := by
  first | rfl | simp [Around.under, Code.cUnits, Code.frames, Code.isFrame]
theorem Room.make {k : Nat} {A : Around} (r : Room (k + 1) A) (C : Addr) (us : List Value) (kw : List (Str × Value)) : Room k (A.under (.builtin "type.__call__" ⟨.ref C :: us, kw⟩)) :=
  ⟨r.hd, by have := r.dp; rw [make_depth]; omega, by have := r.un; rw [make_units]; omega⟩
theorem Room.depth {k : Nat} {A : Around} (r : Room k A) : A.depth < recursionLimit := by have := r.dp; omega
theorem Room.units {k : Nat} {A : Around} (r : Room k A) : A.units + 64 < cLine := by have := r.un; omega
/-! ### argument lists and displays -/
def tNil : TA := fun _ H Q => Q [] H
def tCons (ta : TE) (tr : TA) : TA := fun σ H Q => ta σ H fun x H1 => tr σ H1 fun xs H2 => Q (x :: xs) H2
section
variable {X : Cx} {e : Expr} {es : List Expr} {te : TE} {t : TA} {pos : Pos}
theorem pa_nil : PA X [] tNil := fun _ _ _ _ H Q I h => Calls.spliced_nil ⟨[], H, I, .nil, h⟩
theorem pa_cons (ha : PE X e te) (hr : PA X es t) (hs : starEach (e :: es) X.env = (false, eval e X.env) :: starEach es X.env := by rfl) : PA X (e :: es) (tCons te t) := by
  intro pos pins s σ H Q I h
  rw [hs]
  show wpAny _ _ (spliced ((false, eval e X.env) :: backTo pos (starEach es X.env))) _ _ s
  refine Calls.spliced_cons (thn (ha pins s σ H _ I h) fun u s1 ⟨x, H1, I1, r1, q1⟩ => ?_)
  exact thn (hr pos pins s1 σ H1 _ I1 q1) fun us s2 ⟨xs, H2, I2, r2, q2⟩ => ⟨x :: xs, H2, I2, .cons r1 r2, q2⟩
/-- a tuple, a list of written items -/
def tTup (t : TA) : TE := fun σ H Q => t σ H fun xs H1 => xs.length ≤ sizeLine ∧ ∀ p, H1 p = none → Q (.ref p) (upd H1 p (.tup xs))
def tLst (t : TA) : TE := fun σ H Q => t σ H fun xs H1 => xs.length ≤ sizeLine ∧ ∀ p, H1 p = none → Q (.ref p) (upd H1 p (.lst xs))
theorem pe_tup {x1} (h : PA X es t) : PE X (.Tuple es x1 pos) (tTup t) := by
  intro pins s σ H Q I hq
  refine wpAny_Tuple_spliced (thn (h pos pins s σ H _ I hq) fun us s1 ⟨xs, H1, I1, r, z, q⟩ => ⟨by rw [← r.length]; exact z, ?_⟩)
  have hf : H1 s1.heap.objs.size = none := I1.hok.fresh (Nat.le_refl _)
  refine ⟨.ref s1.heap.objs.size, upd H1 s1.heap.objs.size (.tup xs), I1.laid (t' := s1.toks) (fun b u e => Heap.get?_push_of_some _ e) (Nat.le_refl _) ?_, rfl, q _ hf⟩
  exact ⟨z, us, r, ⟨_, Heap.get?_push_size _ rfl, rfl, _, rfl⟩⟩
theorem pe_lst (h : PA X es t) : PE X (.List es pos) (tLst t) := by
  intro pins s σ H Q I hq
  refine wpAny_List_spliced (thn (h pos pins s σ H _ I hq) fun us s1 ⟨xs, H1, I1, r, z, q⟩ => ⟨by rw [← r.length]; exact z, ?_⟩)
  have hf : H1 s1.heap.objs.size = none := I1.hok.fresh (Nat.le_refl _)
  refine ⟨.ref s1.heap.objs.size, upd H1 s1.heap.objs.size (.lst xs), I1.laid (t' := s1.toks) (fun b u e => Heap.get?_push_of_some _ e) (Nat.le_refl _) ?_, rfl, q _ hf⟩
  exact ⟨z, us, 0, r, Heap.get?_push_size _ rfl⟩
end
/-! ### what a def promises -/
/-- a def's promise: the bound arguments in the parameters' order, the heap, the wanted end, the wanted exception -/
abbrev Sp := List V → Hp → VK → XK → Prop
/-- how an exception lies behind a call (file 08 gives it): the callers' frames, abstract heap and state ahead of the call, the wish, the exception, the state -/
abbrev CXT := List Env → Hp → Shared → XK → Value → Shared → Prop
/-- the state at a call -/
structure Env0 (P : Program) (w : World) (K : PySem.W.Frag) (mg : Str → Option Value) (base : Heap) (A : Around) (outer : List Env) (s : Shared) (H : Hp) : Prop where
  frames : A.frames = some outer
  mod : Mod K mg base
  bs : ∀ b o, base.get? b = some o → s.heap.get? b = some o ∧ H b = none
  bsz : base.objs.size ≤ s.heap.objs.size
  funs : s.heap.FunFrames base outer
  frf : ∀ b ∈ frs outer, H b = none
  hok : HOk P w H s.heap
  bare : AllBare s.gens
/-- a call's end -/
def CE (outer : List Env) (P : Program) (w : World) (H : Hp) (s : Shared) (Q : VK) (u : Value) (s' : Shared) : Prop :=
  ∃ v H', s'.os = s.os ∧ AllBare s'.gens ∧ Un (frs outer) [] H H' s.heap s'.heap ∧ HOk P w H' s'.heap ∧ RelV v u ∧ Q v H'
def CR (CX : CXT) (outer : List Env) (P : Program) (w : World) (H : Hp) (s : Shared) (Q : VK) (E : XK) (r : Result) (s' : Shared) : Prop :=
  match r with
  | .ok (.ret u) => CE outer P w H s Q u s'
  | .ok _ => False
  | .error e => CX outer H s E e s'
structure FnOk (P : Program) (w : World) (K : PySem.W.Frag) (mg : Str → Option Value) (base : Heap) (CX : CXT) (k : Nat) (f : Addr) (fd : FuncData) (ps : List Str) (sp : Sp) : Prop where
  len : ∀ vs H Q E, sp vs H Q E → vs.length = ps.length
  run : ∀ (A : Around) (outer : List Env) (s : Shared) (H : Hp) (args : Args) (us : List Value) (vs : List V) (Q : VK) (E : XK), Room k A → Env0 P w K mg base A outer s H → BindsTo s fd args (ps.zip us) → Vals vs us → sp vs H Q E →
    codeAny (model P w) A (.call (.ref f) args) (CR CX outer P w H s Q E) s
theorem FnOk.mono {P : Program} {w : World} {K : PySem.W.Frag} {mg : Str → Option Value} {base : Heap} {CX : CXT} {j k : Nat} {f : Addr} {fd : FuncData} {ps : List Str} {sp : Sp} (F : FnOk P w K mg base CX j f fd ps sp) (h : j ≤ k) :
    FnOk P w K mg base CX k f fd ps sp := ⟨F.len, fun A outer s H args us vs Q E hr => F.run A outer s H args us vs Q E (hr.mono h)⟩
/-- a weaker promise -/
theorem FnOk.imp {P : Program} {w : World} {K : PySem.W.Frag} {mg : Str → Option Value} {base : Heap} {CX : CXT} {k : Nat} {f : Addr} {fd : FuncData} {ps : List Str} {sp sp' : Sp} (F : FnOk P w K mg base CX k f fd ps sp)
    (h : ∀ vs H Q E, sp' vs H Q E → sp vs H Q E) : FnOk P w K mg base CX k f fd ps sp' :=
  ⟨fun vs H Q E q => F.len vs H Q E (h _ _ _ _ q), fun A outer s H args us vs Q E hr he hb hv hs => F.run A outer s H args us vs Q E hr he hb hv (h _ _ _ _ hs)⟩
theorem Env0.make {P : Program} {w : World} {K : PySem.W.Frag} {mg : Str → Option Value} {base : Heap} {A : Around} {outer : List Env} {s : Shared} {H : Hp} (e : Env0 P w K mg base A outer s H) (C : Addr) (us : List Value) (kw : List (Str × Value)) :
    Env0 P w K mg base (A.under (.builtin "type.__call__" ⟨.ref C :: us, kw⟩)) outer s H := ⟨by first | exact e.frames | (simpa [Around.under, Code.envs, Code.isFrame, pushEnvs] using e.frames), e.mod, e.bs, e.bsz, e.funs, e.frf, e.hok, e.bare⟩
theorem Env0.in1 {P : Program} {w : World} {K : PySem.W.Frag} {mg : Str → Option Value} {base : Heap} {A : Around} {outer : List Env} {s : Shared} {H : Hp} (e : Env0 P w K mg base A outer s H) :
    Env0 P w K mg base A.in1 outer s H := ⟨e.frames, e.mod, e.bs, e.bsz, e.funs, e.frf, e.hok, e.bare⟩
section
variable {X : Cx} {pins : List (Addr × Obj)} {σ : St} {H : Hp} {s s' : Shared}
/-- from a body: what a callee wants -/
theorem Inv.env0 (I : Inv X pins σ H s) : Env0 X.prog X.w X.K X.mg X.base X.A X.stack s H :=
  ⟨I.ok.frames, I.ok.mod, I.bs, Nat.le_trans I.ok.bsz I.sz, I.stack, I.stkFree, I.hok, I.bare⟩
/-- behind a call -/
theorem Inv.after {Q : VK} {u : Value} (I : Inv X pins σ H s) (h : CE X.stack X.prog X.w H s Q u s') : EP X pins σ Q u s' := by
  obtain ⟨v, H', os, bare, un, hok, r, q⟩ := h
  obtain ⟨hh, g, d, t, os'⟩ := s'
  obtain rfl : os' = s.os := os
  exact ⟨v, H', I.call (h' := hh) (g' := g) (d' := d) (t' := t) (ch := []) un hok bare (fun b z => absurd z (by simp)), r, q⟩
end
/-! ### calls -/
/-- f(..): the written arguments, then the defaults dvs; E: what is wanted of an exception -/
def tCall (sp : Sp) (dvs : List V) (E : XK) (t : TA) : TE := fun σ H Q => t σ H fun vs H1 => sp (vs ++ dvs) H1 Q E
/-- o.m(..) of an instance of the class at C -/
def tMeth (C : Addr) (m : Str) (sp : Sp) (dvs : List V) (E : XK) (ta : TE) (t : TA) : TE := fun σ H Q => ta σ H fun x H1 => ∃ a dx fs, x = .ref a ∧ H1 a = some (.ins C dx fs) ∧ fs.lookup m = none ∧
  t σ H1 fun vs H2 => sp (x :: (vs ++ dvs)) H2 Q E
/-- C(..): a new instance and its dict, then __init__ -/
def tMake (C : Addr) (sp : Sp) (dvs : List V) (E : XK) (t : TA) : TE := fun σ H Q => t σ H fun vs H1 => ∀ x dx, H1 x = none → H1 dx = none → dx ≠ x →
  sp (.ref x :: (vs ++ dvs)) (upd (upd H1 dx (.own x)) x (.ins C dx [])) (fun v H2 => v = .non ∧ Q (.ref x) H2) E
/-- how the parameters are bound: us the positional arguments, kw the keywords' values by name, ds the defaults that fill up -/
def Binds (K : PySem.W.Frag) (fd : FuncData) (ps : List Str) (ds : List Value) : Prop :=
  ∀ (s : Shared) (us : List Value), K.In s.heap → (us ++ ds).length = ps.length → BindsTo s fd ⟨us, []⟩ (ps.zip (us ++ ds))
/-- every parameter is given -/
theorem Binds.all {K : PySem.W.Frag} {fd : FuncData} {ps : List Str} (h : ∀ us : List Value, us.length = ps.length → bindArgs fd ⟨us, []⟩ = pure (ps.zip us)) : Binds K fd ps [] := fun s us _ hl => by
  rw [List.append_nil] at hl ⊢
  exact .of_eq (h us hl)
/-- an exception of a callee reaches what this body wants of exceptions -/
def Passes (CX : CXT) (X : Cx) (E : XK) : Prop := ∀ (pins : List (Addr × Obj)) (σ : St) (H : Hp) (s : Shared) (e : Value) (s' : Shared), Inv X pins σ H s → CX X.stack H s E e s' → X.xe e s'
section
variable {X : Cx} {CX : CXT} {k : Nat} {f C : Addr} {fd : FuncData} {ps : List Str} {sp : Sp} {dvs : List V} {ds : List Value} {E : XK} {x m : Str} {p pos apos : Pos} {e o : Expr} {es : List Expr} {ta : TE} {t : TA}
/-- the callee runs -/
theorem run_fn {pins : List (Addr × Obj)} {σ : St} {H : Hp} {s : Shared} {Q : VK} {us : List Value} {vs : List V} (F : FnOk X.prog X.w X.K X.mg X.base CX k f fd ps sp) (hr : Room k X.A) (hb : Binds X.K fd ps ds) (hd : Vals dvs ds) (hx : Passes CX X E)
    (I : Inv X pins σ H s) (r : Vals vs us) (h : sp (vs ++ dvs) H Q E) : wpAny (model X.prog X.w) X.A (call (.ref f) us) (EP X pins σ Q) X.xe s := by
  have r2 : Vals (vs ++ dvs) (us ++ ds) := r.append hd
  have hl : (us ++ ds).length = ps.length := by rw [← r2.length]; exact F.len _ _ _ _ h
  refine wpAny_call (codeAny_mono (F.run X.A X.stack s H ⟨us, []⟩ (us ++ ds) (vs ++ dvs) Q E hr I.env0 (hb s us I.kIn hl) r2 h) fun r s' hq => ?_)
  cases r with
  | error e => exact hx pins σ H s e s' I hq
  | ok fl =>
    cases fl with
    | ret u => exact I.after hq
    | next => exact False.elim hq
    | brk => exact False.elim hq
    | cont => exact False.elim hq
theorem pe_call (F : FnOk X.prog X.w X.K X.mg X.base CX k f fd ps sp) (hr : Room k X.A) (hg : Gl X x) (hm : X.mg x = some (.ref f)) (hk : PySem.W.keepIn X.K (.ref f) = true) (hb : Binds X.K fd ps ds) (hd : Vals dvs ds) (hx : Passes CX X E)
    (ha : PA X (e :: es) t) (hdb : (x == ("__debug__" : Str)) = false := by decide) (he : starEach (e :: es) X.env = (false, eval e X.env) :: starEach es X.env := by rfl) (hpl : (backTo pos (starEach es X.env)).any (·.1) = false := by rfl) :
    PE X (.Call (.Name x p) (e :: es) [] pos) (tCall sp dvs E t) := by
  intro pins s σ H Q I h
  refine wpAny_Call_Name_kw (ld_glob I hg hm ?_ hdb)
  refine PySem.W.callWith_K (h₀ := X.base) I.ok.mod.kin hk (thn (ha pos pins s σ H _ I h) fun us s1 ⟨vs, H1, I1, r, q⟩ => ⟨I1.kIn, ?_⟩) he hpl
  exact run_fn F hr hb hd hx I1 r q
/-- what a class must have to be made -/
structure Mk (K : PySem.W.Frag) (C f : Addr) : Prop where
  makes : PySem.W.makesIn K C = true
  init : PySem.W.findIn K (.ref C) "__init__" = some (some (.ref f))
  fn : PySem.W.isFn K (.ref f) = true
  kp : PySem.W.keepIn K (.ref C) = true
end
/-! ### keywords -/
/-- the values of the keywords, from the left -/
def PK (X : Cx) (kws : List Keyword) (t : TA) : Prop :=
  ∀ (pos : Pos) (pins : List (Addr × Obj)) (s : Shared) (σ : St) (H : Hp) (Q : List V → Hp → Prop), Inv X pins σ H s → t σ H Q → wpAny (model X.prog X.w) X.A (evalAll ((backToKw pos (keywordEach kws X.env)).map (·.2))) (AP X pins σ Q) X.xe s
section
variable {X : Cx} {CX : CXT} {k : Nat} {f C : Addr} {fd : FuncData} {ps ks : List Str} {sp : Sp} {E : XK} {x m : Str} {p pos apos kpos : Pos} {e o : Expr} {es : List Expr} {kws : List Keyword} {te ta : TE} {t tk : TA} {nm : Option Str}
/-- how a call with keywords binds: g puts the positional values us and the keywords' values ws (names ks) in the parameters' order, defaults among them -/
structure KBinds (K : PySem.W.Frag) (fd : FuncData) (ps ks : List Str) (g : List Value → List Value → List Value) (gV : List V → List V → List V) : Prop where
  to : ∀ (s : Shared) (us ws : List Value), K.In s.heap → (g us ws).length = ps.length → BindsTo s fd ⟨us, ks.zip ws⟩ (ps.zip (g us ws))
  rel : ∀ {vs : List V} {us : List Value} {zs : List V} {ws : List Value}, Vals vs us → Vals zs ws → Vals (gV vs zs) (g us ws)
def tCallK (sp : Sp) (gV : List V → List V → List V) (E : XK) (t tk : TA) : TE := fun σ H Q => t σ H fun vs H1 => tk σ H1 fun zs H2 => sp (gV vs zs) H2 Q E
variable {g : List Value → List Value → List Value} {gV : List V → List V → List V}
end
/-! ### a def's body keeps its promise -/
/-- names: the parameters first -/
structure FnScope (N P : List Str) (sc : Scope) : Prop where
  kind : sc.kind = .function
  co : sc.isCoroutine = false
  gen : sc.isGenerator = false
  nd : N.Nodup
  pre : N.take P.length = P
  par : ∀ x ∈ P, sc.names.lookup x = some .local ∨ sc.names.lookup x = some .cell
  nofree : ∀ y ∈ sc.names, y.2 ≠ .free
theorem bindL_out {kindOf : Str → Option NameKind} {x : Str} : ∀ {binds : List (Str × Value)} {m : Str → Option Value}, (∀ v, (x, v) ∉ binds) → bindL kindOf binds m x = m x
  | [], _, _ => rfl
  | (n, v) :: r, m, h => by
    unfold bindL
    rw [bindL_out fun w hw => h w (List.mem_cons_of_mem _ hw)]
    split
    · have : x ≠ n := by rintro rfl; exact h v List.mem_cons_self
      simp [this]
    · rfl
theorem bindC_out {kindOf : Str → Option NameKind} {x : Str} : ∀ {binds : List (Str × Value)} {m : Str → Option Value}, (∀ v, (x, v) ∉ binds) → bindC kindOf binds m x = m x
  | [], _, _ => rfl
  | (n, v) :: r, m, h => by
    unfold bindC
    rw [bindC_out fun w hw => h w (List.mem_cons_of_mem _ hw)]
    split
    · rfl
    · have : x ≠ n := by rintro rfl; exact h v List.mem_cons_self
      simp [this]
theorem bindL_get {kindOf : Str → Option NameKind} {x : Str} {v : Value} : ∀ {P : List Str} {vs : List Value} {i : Nat} {m : Str → Option Value}, P.Nodup → P[i]? = some x → vs[i]? = some v → kindOf x = some .local →
    bindL kindOf (P.zip vs) m x = some v
  | [], _, _, _, _, h, _, _ => by simp at h
  | _ :: _, [], _, _, _, _, h, _ => by simp at h
  | p :: P, w :: vs, 0, m, nd, h1, h2, hk => by
    simp at h1 h2; subst h1; subst h2
    show bindL kindOf ((p, w) :: P.zip vs) m p = _
    unfold bindL
    rw [bindL_out fun v hv => (List.nodup_cons.mp nd).1 (List.of_mem_zip hv).1, if_pos hk]
    simp
  | p :: P, w :: vs, i + 1, m, nd, h1, h2, hk => by
    show bindL kindOf ((p, w) :: P.zip vs) m x = _
    unfold bindL
    exact bindL_get (i := i) (List.nodup_cons.mp nd).2 (by simpa using h1) (by simpa using h2) hk
theorem bindC_get {kindOf : Str → Option NameKind} {x : Str} {v : Value} : ∀ {P : List Str} {vs : List Value} {i : Nat} {m : Str → Option Value}, P.Nodup → P[i]? = some x → vs[i]? = some v → kindOf x ≠ some .local →
    bindC kindOf (P.zip vs) m x = some v
  | [], _, _, _, _, h, _, _ => by simp at h
  | _ :: _, [], _, _, _, _, h, _ => by simp at h
  | p :: P, w :: vs, 0, m, nd, h1, h2, hk => by
    simp at h1 h2; subst h1; subst h2
    show bindC kindOf ((p, w) :: P.zip vs) m p = _
    unfold bindC
    rw [bindC_out fun v hv => (List.nodup_cons.mp nd).1 (List.of_mem_zip hv).1, if_neg hk]
    simp
  | p :: P, w :: vs, i + 1, m, nd, h1, h2, hk => by
    show bindC kindOf ((p, w) :: P.zip vs) m x = _
    unfold bindC
    exact bindC_get (i := i) (List.nodup_cons.mp nd).2 (by simpa using h1) (by simpa using h2) hk
/-- the names' values at the entry -/
def start (N : List Str) (vs : List V) : St := vs.map some ++ List.replicate (N.length - vs.length) none
/-- the context of a def's body, at its entry; an exception leaves the frame, then lies as CX says -/
def cxOf (CX : CXT) (P : Program) (w : World) (K : PySem.W.Frag) (mg : Str → Option Value) (base : Heap) (N : List Str) (qual : Str) (scope : Scope) (f : Addr) (cd : Value) (A : Around) (outer : List Env) (s : Shared) (H : Hp) (E : XK) : Cx where
  prog := P
  w := w
  K := K
  mg := mg
  base := base
  A := A.deeper (envOfC qual scope s.heap.objs.size f cd)
  N := N
  s₀ := s
  H₀ := H
  env := envOfC qual scope s.heap.objs.size f cd
  outer := outer
  stack := envOfC qual scope s.heap.objs.size f cd :: outer
  ex := []
  calm := true
  fn := fun _ => true
  pn := []
  xe := fun e s' => wpAny (model P w) (A.deeper (envOfC qual scope s.heap.objs.size f cd)) (leaving (envOfC qual scope s.heap.objs.size f cd) e) (fun _ s'' => CX outer H s E e s'') (fun e' s'' => CX outer H s E e' s'') s'
theorem cell_has {sc : Scope} {n : Nat} {x : Str} (h : sc.names.lookup x = some .cell) : ∃ c, (cellsFrom n sc.names []).lookup x = some c := by
  have q := PySem.W.cellsFrom_some sc.names n [] (.inl h)
  exact Option.isSome_iff_exists.mp q
theorem inv_start {CX : CXT} {P : Program} {w : World} {K : PySem.W.Frag} {mg : Str → Option Value} {base : Heap} {N ps : List Str} {qual : Str} {scope : Scope} {f : Addr} {cd : Value} {A : Around} {outer : List Env} {s s1 : Shared} {H : Hp} {E : XK} {us : List Value} {vs : List V}
    (S : FnScope N ps scope) (hd : A.handled = none) (e0 : Env0 P w K mg base A outer s H) (hl : vs.length = ps.length) (r : Vals vs us)
    (x : InCallC s s.heap.objs.size (bindL (envOfC qual scope s.heap.objs.size f cd).kindOf (ps.zip us) fun _ => none) (cellsFrom (s.heap.objs.size + 1) scope.names []) (bindC (envOfC qual scope s.heap.objs.size f cd).kindOf (ps.zip us) fun _ => none) s1) :
    Inv (cxOf CX P w K mg base N qual scope f cd A outer s H E) [] (start N vs) H s1 := by
  have hpl : ps.length ≤ N.length := by have := congrArg List.length S.pre; rw [List.length_take] at this; omega
  obtain ⟨h1, tk, rfl, hk⟩ := x.done
  have noA : ∀ b : Addr, b ∉ (cxOf CX P w K mg base N qual scope f cd A outer s H E).ex := fun b z => absurd (show b ∈ ([] : List Addr) from z) (by simp)
  refine ⟨⟨e0.mod, S.kind, rfl, rfl, Nat.le_refl _, fun y z c h1 h2 => ?_, fun y hy => ?_, fun y c _ h => ?_, fun _ => hd, Around.frames_deeper e0.frames, .inr ⟨rfl, rfl⟩, fun b z => absurd z (noA b), e0.bs, e0.bsz, fun b _ _ => noA b, fun b z => absurd z (noA b), e0.funs, e0.frf⟩,
    rfl, e0.bare, Un.kept hk, ⟨_, x.toInCall.ns, fun i y v h1 h2 h3 => ?_⟩, fun y c h => ⟨_, x.cell y c h⟩, e0.hok.fresh (Nat.le_refl _), fun y c h => ?_, fun p hp => absurd (show p ∈ ([] : List (Addr × Obj)) from hp) (by simp), e0.hok.kept hk, ?_⟩
  · exact name_of_addr x.apart (PySem.mem_of_lookup h1) (PySem.mem_of_lookup h2)
  · have hy : scope.names.lookup y = some .cell ∨ scope.names.lookup y = some .free := hy
    rcases hy with hy | hy
    · exact cell_has hy
    · exact absurd rfl (S.nofree _ (PySem.mem_of_lookup hy))
  · exact Nat.le_of_lt (x.above y c (PySem.mem_of_lookup h))
  · have hi : i < vs.length := by
      unfold start at h2
      by_cases hi : i < vs.length
      · exact hi
      · rw [List.getElem?_append_right (by simpa using hi)] at h2
        rw [List.getElem?_replicate] at h2
        split at h2 <;> cases h2
    have ha : vs[i]? = some v := by
      unfold start at h2
      rw [List.getElem?_append_left (by simpa using hi), List.getElem?_map] at h2
      cases e : vs[i]? with
      | none => rw [e] at h2; cases h2
      | some a => rw [e] at h2; cases h2; rfl
    obtain ⟨u, hu, rv⟩ := r.get ha
    have hp : ps[i]? = some y := by
      rw [← S.pre, List.getElem?_take_of_lt (by omega)]; exact h1
    have ndP : ps.Nodup := by rw [← S.pre]; exact S.nd.sublist (List.take_sublist _ _)
    refine ⟨u, rv, ?_⟩
    rcases S.par y (List.mem_of_getElem? hp) with k | k
    · exact .inl ⟨k, bindL_get ndP hp hu k⟩
    · obtain ⟨c, e⟩ := cell_has (n := s.heap.objs.size + 1) k
      refine .inr ⟨.inl k, c, e, ?_⟩
      have q := x.cell y c e
      rw [bindC_get ndP hp hu (by show scope.names.lookup y ≠ _; rw [k]; decide)] at q
      exact q
  · exact e0.hok.fresh (Nat.le_of_lt (x.above y c (PySem.mem_of_lookup h)))
  · unfold start
    show _ = N.length
    rw [List.length_append, List.length_map, List.length_replicate]
    omega
/-- THE RULE: a def (or a method) of the text, by its body. The body's reading t is chosen for each entry; it is run at the parameters' values -/
theorem fn_of {CX : CXT} {P : Program} {w : World} {K : PySem.W.Frag} {mg : Str → Option Value} {base : Heap} {k : Nat} {f : Addr} {name qual : Str} {params : Arguments} {body : List Stmt} {scope : Scope} {dV kV doc pm cdv ct oc : Value} {an od : Option Addr}
    {osl : Array (Option Value)} {N ps : List Str} {sp : Sp} (lk : K.lookup f = some ⟨oc, od, .func (PySem.W.fnOf name qual params body scope dV kV doc pm an cdv ct), osl⟩) (hcd : PySem.W.codeIn K cdv qual = true) (S : FnScope N ps scope)
    (len : ∀ vs H Q E, sp vs H Q E → vs.length = ps.length)
    (hbody : ∀ (A : Around) (outer : List Env) (s : Shared) (H : Hp) (vs : List V) (Q : VK) (E : XK), Room k (A.deeper (envOfC qual scope s.heap.objs.size f cdv)) → sp vs H Q E →
      ∃ t, PSs (cxOf CX P w K mg base N qual scope f cdv A outer s H E) body t ∧ t { nx := fun _ H' => Q .non H', rt := Q } (start N vs) H) :
    FnOk P w K mg base CX (k + 1) f (PySem.W.fnOf name qual params body scope dV kV doc pm an cdv ct) ps sp := by
  refine ⟨len, fun A outer s H args us vs Q E hr e0 hb r hsp => ?_⟩
  have hl := len _ _ _ _ hsp
  have KX : K.In s.heap := e0.mod.kin.keeps fun b o e => (e0.bs b o e).1
  have lim : s.heap.NoLimit := e0.mod.nolimit.keeps fun b o e => (e0.bs b o e).1
  have hkind : ∀ y ∈ ps.zip us, scope.names.lookup y.1 = some .local ∨ (scope.names.lookup y.1 = some .cell ∧ ((cellsFrom (s.heap.objs.size + 1) scope.names []).lookup y.1).isSome = true) := fun ⟨n, v⟩ hy => by
    rcases S.par n (List.of_mem_zip hy).1 with q | q
    · exact .inl q
    · exact .inr ⟨q, PySem.W.cellsFrom_some _ _ _ (.inl q)⟩
  refine codeAny_call_function hr.depth (KX _ _ lk) rfl S.co S.gen rfl (PySem.W.codeRec_of KX hcd) (hb _ _ _ _ ?_)
  refine wpAny_newFunctionEnv_cells S.kind hkind fun env he s1 x => ?_
  subst he
  refine ⟨lim.keeps x.toInCall.keep, codeAny_func ?_⟩
  obtain ⟨t, ht, hq⟩ := hbody A outer s H vs Q E (hr.deeper _) hsp
  have I : Inv (cxOf CX P w K mg base N qual scope f cdv A outer s H E) [] (start N vs) H s1 := inv_start S hr.hd e0 hl r x
  refine wpAny_mono (ht [] s1 (start N vs) H _ I hq) (fun fl s' hs => ?_) fun e s' hs => hs
  have fin : ∀ {σ' : St} {H' : Hp} {v : V} {u : Value}, Inv (cxOf CX P w K mg base N qual scope f cdv A outer s H E) [] σ' H' s' → RelV v u → Q v H' → CE outer P w H s Q u s' :=
    fun {σ' H' v u} J rv q => ⟨v, H', J.os, J.bare, J.base, J.hok, rv, q⟩
  cases fl with
  | ret u =>
    obtain ⟨v, σ', H', J, rv, q⟩ := hs
    exact fin J rv q
  | next =>
    obtain ⟨σ', H', J, q⟩ := hs
    exact fin (v := V.non) (u := Value.none) J rfl q
  | brk =>
    obtain ⟨_, _, _, q⟩ := hs
    exact False.elim q
  | cont =>
    obtain ⟨_, _, _, q⟩ := hs
    exact False.elim q
end L2
namespace L2
open PySem PySem.Spec PyProof.Rows
section
variable {X : Cx} {x : Str} {p pos : Pos} {e : Expr} {es : List Expr} {t : TA} {id T : String} {r : List V → Hp → VK → Prop}
def tCB (r : List V → Hp → VK → Prop) (t : TA) : TE := fun σ H Q => t σ H fun vs H1 => r vs H1 Q
/-- f(e, ..), f a built-in function -/
theorem pe_callB (hc : CallR X (.builtin id) r) (hg : Gl X x) (hm : X.mg x = none) (hv : bootBuiltins x = some (.builtin id)) (ha : PA X (e :: es) t) (hn : x ≠ "__name__" := by decide) (hdb : (x == ("__debug__" : Str)) = false := by decide)
    (he : starEach (e :: es) X.env = (false, eval e X.env) :: starEach es X.env := by rfl) (hpl : (backTo pos (starEach es X.env)).any (·.1) = false := by rfl) : PE X (.Call (.Name x p) (e :: es) [] pos) (tCB r t) := by
  intro pins s σ H Q I h
  refine wpAny_Call_Name_kw (ld_blt I hg hm hv ?_ hn hdb)
  exact PyProof.Rows.callWith_builtin1 (thn (ha pos pins s σ H _ I h) fun us s1 ⟨vs, H1, I1, r1, q1⟩ => hc pins s1 σ H1 vs us Q I1 r1 q1) he hpl
/-- T(e, ..), T a built-in type -/
theorem pe_callTy (hc : CallR X (.type T) r) (hg : Gl X x) (hm : X.mg x = none) (hv : bootBuiltins x = some (.type T)) (ha : PA X (e :: es) t) (hn : x ≠ "__name__" := by decide) (hdb : (x == ("__debug__" : Str)) = false := by decide)
    (he : starEach (e :: es) X.env = (false, eval e X.env) :: starEach es X.env := by rfl) (hpl : (backTo pos (starEach es X.env)).any (·.1) = false := by rfl) : PE X (.Call (.Name x p) (e :: es) [] pos) (tCB r t) := by
  intro pins s σ H Q I h
  refine wpAny_Call_Name_kw (ld_blt I hg hm hv ?_ hn hdb)
  exact PyProof.Rows.callWith_type1 (thn (ha pos pins s σ H _ I h) fun us s1 ⟨vs, H1, I1, r1, q1⟩ => hc pins s1 σ H1 vs us Q I1 r1 q1) he hpl
end
end L2
namespace HT
open PySem PyProof.Rows
/-- t < u of tuples of ints -/
def lexLt : List Int → List Int → Bool
  | [], [] => false
  | [], _ :: _ => true
  | _ :: _, [] => false
  | x :: xs, y :: ys => if x = y then lexLt xs ys else decide (x < y)
theorem rcLt_int (A : Around) (s : Shared) (a : Int) (t : Tok) (c : Int) (u : Tok) (prog : Program) (w : World) (E : Value → Shared → Prop) (Q : Value → Shared → Prop) (h : Q (.bool (decide (a < c))) s) :
    wpAny (model prog w) A (richCompare .Lt (.int a t) (.int c u)) Q E s :=
  (PyProof.Rows.lt_int h : wpAny (model prog w) A (compareOp .Lt (.int a t) (.int c u)) Q E s)
section
open PySem.SeqAt
open PySem.AutoSeq1 (wpAny_loadPart')
open PySem.MeetsSeq PySem.MeetsSeq2 PySem.MeetsSeq3
end
section
variable {prog : Program} {w : World} {A : Around} {E : Value → Shared → Prop} {s : Shared}
/-- t + u, t not empty -/
theorem cat_tup {t b : Addr} {vs ws : List Value} {Q : Value → Shared → Prop} (ht : IsTup s.heap t vs.toArray) (hb : IsTup s.heap b ws.toArray) (hv : vs ≠ [])
    (h1 : ws = [] → Q (.ref t) s) (h2 : ws ≠ [] → Q (.ref s.heap.objs.size) { s with heap := s.heap.push { cls := .type "tuple", data := .seq (vs ++ ws).toArray } })
    (hsz : vs.length + ws.length ≤ sizeLine) : wpAny (model prog w) A (binaryOp .Add (.ref t) (.ref b)) Q E s := by
  obtain ⟨⟨cls, dd, data, sl⟩, ho, hc, n, hd⟩ := id ht
  obtain ⟨⟨cls2, dd2, data2, sl2⟩, ho2, hc2, n2, hd2⟩ := id hb
  simp only at hc hd hc2 hd2
  subst hc hd hc2 hd2
  have e : vs.toArray ++ ws.toArray = (vs ++ ws).toArray := by simp
  by_cases hw : ws = []
  · exact concat_meets ⟨_, ho, rfl⟩ ⟨_, ho2, rfl⟩ noFill_tuple_add seq_tuple_add PySem.F.slot_tuple_add PySem.F.entry_tuple_add (PySem.F.args_tuple_add_2 _ _)
      (tuple_addW1 t b vs.toArray ws.toArray n n2 dd dd2 sl sl2 (by simpa using hv) (by simp [hw])) ⟨ho, ho2, h1 hw⟩
  · refine concat_meets ⟨_, ho, rfl⟩ ⟨_, ho2, rfl⟩ noFill_tuple_add seq_tuple_add PySem.F.slot_tuple_add PySem.F.entry_tuple_add (PySem.F.args_tuple_add_2 _ _)
      (tuple_addW2 t b vs.toArray ws.toArray n n2 dd dd2 sl sl2 (by simpa using hv) (by simpa using hw) (by rw [List.size_toArray, List.size_toArray]; exact hsz)) ⟨ho, ho2, ?_⟩
    rw [e]
    exact h2 hw
/-! ### t[a:b], not the whole -/
/-- a slice's bound as a place among n (d where it is left out) -/
def sIx (n d : Nat) : Option Int → Nat
  | none => d
  | some v => if v < 0 then (v + (n : Int)).toNat else min v.toNat n
theorem sIx_none (n d : Nat) : sIx n d none = d := rfl
theorem sIx_nat (n d k : Nat) : sIx n d (some (k : Int)) = min k n := by
  show (if (k : Int) < 0 then ((k : Int) + (n : Int)).toNat else min (k : Int).toNat n) = min k n
  rw [if_neg (by omega), Int.toNat_natCast]
theorem sIx_le (n d : Nat) (hd : d ≤ n) (o : Option Int) : sIx n d o ≤ n := by
  cases o with
  | none => exact hd
  | some v =>
    show (if v < 0 then (v + (n : Int)).toNat else min v.toNat n) ≤ n
    by_cases hv : v < 0
    · rw [if_pos hv]; omega
    · rw [if_neg hv]; exact Nat.min_le_right _ _
theorem clip_eq (v : Int) (n d : Nat) : (if v < 0 then max (v + (n : Int)) 0 else min v (n : Int)) = ((sIx n d (some v) : Nat) : Int) := by
  show (if v < 0 then max (v + (n : Int)) 0 else min v (n : Int)) = (((if v < 0 then (v + (n : Int)).toNat else min v.toNat n) : Nat) : Int)
  by_cases hv : v < 0
  · simp only [if_pos hv]; omega
  · simp only [if_neg hv]; omega
theorem adjust_gen (lo hi : Option Int) (n : Nat) : Builtin.Slice.sliceAdjust lo hi 1 (n : Int) = (((sIx n 0 lo : Nat) : Int), ((sIx n n hi : Nat) : Int)) := by
  have h1 : ¬ ((1 : Int) < 0) := by omega
  unfold Builtin.Slice.sliceAdjust
  simp only [h1, if_false]
  refine Prod.ext ?_ ?_
  · cases lo with
    | none => rfl
    | some v => exact clip_eq v n 0
  · cases hi with
    | none => rfl
    | some v => exact clip_eq v n n
theorem places_gen (i j : Nat) : Builtin.Slice.slicePlaces (i : Int) (j : Int) 1 = j - i := by
  unfold Builtin.Slice.slicePlaces
  have h1 : (1 : Int) > 0 := by omega
  simp only [h1, if_true, Int.ediv_one]
  split <;> omega
theorem slicePart_ {v : Value} {o : Option Int} {Q : Option Int → Shared → Prop} (p : IsPart v o) (h : Q o s) : wpAny (model prog w) A (Builtin.Slice.slicePartIndex v) Q E s := by
  cases p with
  | none => exact slicePart_none h
  | int i t => exact slicePart_int h
theorem sliceApplied_gen {sl : Addr} {vl vu : Value} {lo hi : Option Int} {n : Nat} {Q : Int × Int × Nat → Shared → Prop} (hs : s.heap.IsSliceOf sl vl vu .none) (pl : IsPart vl lo) (pu : IsPart vu hi)
    (h : Q (((sIx n 0 lo : Nat) : Int), 1, sIx n n hi - sIx n 0 lo) s) : wpAny (model prog w) A (Builtin.Slice.sliceApplied (.ref sl) (pure (n : Int))) Q E s := by
  obtain ⟨os, hos, hcs, hds⟩ := id hs
  unfold Builtin.Slice.sliceApplied Builtin.Slice.sliceFields
  refine wpAny_bind (wpAny_bind (wpAny_field hos hds (x := vl) rfl (wpAny_bind (wpAny_field hos hds (x := vu) rfl (wpAny_bind (wpAny_field hos hds (x := .none) rfl (wpAny_pure ?_)))))))
  refine wpAny_bind (slicePart_none ?_)
  show wpAny _ _ (if ((1 : Int) == 0) = true then _ else _) _ _ s
  rw [if_neg (by decide)]
  refine wpAny_bind (slicePart_ pl (wpAny_bind (slicePart_ pu (wpAny_bind (wpAny_pure ?_)))))
  show wpAny _ _ (match Builtin.Slice.sliceAdjust lo hi 1 (n : Int) with | (lo, hi) => pure (lo, (1 : Int), Builtin.Slice.slicePlaces lo hi 1)) _ _ s
  rw [adjust_gen lo hi n]
  show wpAny _ _ (pure (((sIx n 0 lo : Nat) : Int), (1 : Int), Builtin.Slice.slicePlaces ((sIx n 0 lo : Nat) : Int) ((sIx n n hi : Nat) : Int) 1)) _ _ s
  rw [places_gen]
  exact wpAny_pure h
theorem pick_gen (xs : Array Value) (i k : Nat) : ((List.range k).filterMap fun (m : Nat) => xs[((i : Int) + (m : Int) * 1).toNat]?).toArray = ((xs.toList.drop i).take k).toArray := by
  have e : (fun (m : Nat) => xs[((i : Int) + (m : Int) * 1).toNat]?) = fun m => xs[i + m]? := by
    funext m
    have : ((i : Int) + (m : Int) * 1).toNat = i + m := by omega
    rw [this]
  rw [e]
  have := pick_run xs i k
  rw [List.filterMap_map] at this
  have e2 : ((fun x => xs[x]?) ∘ fun x => i + x) = fun m => xs[i + m]? := rfl
  rw [e2] at this
  rw [this]
theorem getItem_tuple_cut {t sl : Addr} {items : Array Value} {vl vu : Value} {lo hi : Option Int} {Q : Value → Shared → Prop} (ht : IsTup s.heap t items) (hs : s.heap.IsSliceOf sl vl vu .none) (pl : IsPart vl lo) (pu : IsPart vu hi)
    (hw : ¬ (sIx items.size 0 lo = 0 ∧ sIx items.size items.size hi = items.size))
    (h : Q (.ref s.heap.objs.size) { s with heap := s.heap.push { cls := .type "tuple", data := .seq ((items.toList.drop (sIx items.size 0 lo)).take (sIx items.size items.size hi - sIx items.size 0 lo)).toArray } })
    (hsz : items.size ≤ sizeLine) : wpAny (model prog w) A (getItem (.ref t) (.ref sl)) Q E s := by
  have htake : sizeOk (.seq ((items.toList.drop (sIx items.size 0 lo)).take (sIx items.size items.size hi - sIx items.size 0 lo)).toArray) := by
    show ((items.toList.drop (sIx items.size 0 lo)).take (sIx items.size items.size hi - sIx items.size 0 lo)).toArray.size ≤ sizeLine
    rw [List.size_toArray, List.length_take, List.length_drop, Array.length_toList]
    omega
  have hj : sIx items.size items.size hi ≤ items.size := sIx_le _ _ (Nat.le_refl _) hi
  obtain ⟨os, hos, hcs, hds⟩ := id hs
  have hTs : s.TypeIs (.ref sl) "slice" := ⟨os, hos, hcs⟩
  unfold getItem
  try with_reducible refine wpAny_holding ?_
  first | refine wpAny_bind (wpAny_pure ?_) | skip
  refine wpAny_bind (wpAny_sequenceKey ht.typeIs (by decide) ?_)
  refine wpAny_bind (wpAny_callSpecial?_slot (name := Str.ofString "__getitem__") ht.typeIs PyProof.Rows.slot_tuple_getitem
    (wpAny_call_entry PyProof.Rows.slot_tuple_getitem ht.typeIs entry_tuple_getitem ?_ (args_tuple_getitem _ _)))
  show wpAny _ _ (Builtin.Tuple.tupleItemsOf (.ref t) >>= _) _ _ s
  refine wpAny_bind (tupleItemsOf_ ht ?_)
  refine wpAny_bind (wpAny_typeOf hTs ?_)
  rw [if_pos (by decide)]
  refine wpAny_bind (sliceApplied_gen hs pl pu ?_)
  have hno : ¬ ((((sIx items.size 0 lo : Nat) : Int) == 0 && (1 : Int) == 1 && (sIx items.size items.size hi - sIx items.size 0 lo) == items.size) = true) := by
    intro q
    rw [Bool.and_eq_true, Bool.and_eq_true] at q
    have q1 : ((sIx items.size 0 lo : Nat) : Int) = 0 := eq_of_beq q.1.1
    have q2 : sIx items.size items.size hi - sIx items.size 0 lo = items.size := eq_of_beq q.2
    exact hw ⟨by omega, by omega⟩
  show wpAny _ _ (if (((sIx items.size 0 lo : Nat) : Int) == 0 && (1 : Int) == 1 && (sIx items.size items.size hi - sIx items.size 0 lo) == items.size) = true then _ else _) _ _ s
  rw [if_neg hno, pick_gen]
  first
    | exact wpAny_bind (m := Builtin.Tuple.tupleExact _) (wpAny_newObj_type (wpAny_pure ⟨_, rfl, wpAny_pure h⟩) htake)
    | exact wpAny_bind (m := Builtin.Tuple.tupleExact _) (wpAny_newObj_type (wpAny_bind (wpAny_pure (wpAny_pure ⟨_, rfl, wpAny_pure h⟩))) htake)
    | exact wpAny_bind (wpAny_bind (m := Builtin.Tuple.tupleExact _) (wpAny_newObj_type (wpAny_pure (wpAny_pure ⟨_, rfl, wpAny_pure h⟩)) htake))
    | exact wpAny_bind (wpAny_bind (m := Builtin.Tuple.tupleExact _) (wpAny_newObj_type (wpAny_pure ⟨_, rfl, wpAny_pure h⟩) htake))
end
end HT
namespace L2
open PySem PySem.Spec PyProof.Rows
/-! ### the parts of a slice -/
abbrev TO := St → Hp → (Option Int → Hp → Prop) → Prop
/-- a slice's part (left out, or an int) -/
def PO (X : Cx) (e : Option Expr) (t : TO) : Prop :=
  ∀ (pins : List (Addr × Obj)) (s : Shared) (σ : St) (H : Hp) (Q : Option Int → Hp → Prop), Inv X pins σ H s → t σ H Q →
    wpAny (model X.prog X.w) X.A (evalPart e X.env) (fun u s' => ∃ o H', Inv X pins σ H' s' ∧ IsPart u o ∧ Q o H') X.xe s
def tNoPart : TO := fun _ H Q => Q none H
def tPart (t : TE) : TO := fun σ H Q => t σ H fun x H1 => ∃ i, x = .int i ∧ Q (some i) H1
section
variable {X : Cx} {e : Expr} {te : TE} {lo hi : Option Expr} {tl th : TO} {pos p2 : Pos}
theorem po_none : PO X none tNoPart := by
  intro pins s σ H Q I h
  rw [evalPart_none]
  exact wpAny_pure ⟨none, H, I, .none, h⟩
theorem po_some (h : PE X e te) : PO X (some e) (tPart te) := by
  intro pins s σ H Q I hw
  rw [evalPart_some]
  refine thn (h pins s σ H _ I hw) fun u s1 ⟨x, H1, I1, r1, q1⟩ => ?_
  obtain ⟨i, rfl, q⟩ := q1
  obtain ⟨t, rfl⟩ := r1
  exact ⟨some i, H1, I1, .int i t, q⟩
/-- what a slice of a value is, by values: the slice object stands at sl -/
def SlR (X : Cx) (r : V → Option Int → Option Int → Hp → VK → Prop) : Prop :=
  ∀ (pins : List (Addr × Obj)) (s : Shared) (σ : St) (H : Hp) (x : V) (v vl vu : Value) (lo hi : Option Int) (sl : Addr) (Q : VK), Inv X pins σ H s → RelV x v → s.heap.IsSliceOf sl vl vu .none → IsPart vl lo → IsPart vu hi → r x lo hi H Q →
    ∃ T id, typeLookup (.type T) "__getitem__" = pure (some (.builtin id)) ∧ s.TypeIs v T ∧ wpAny (model X.prog X.w) X.A (getItem v (.ref sl)) (EP X pins σ Q) X.xe s
theorem SlR.or {r r' : V → Option Int → Option Int → Hp → VK → Prop} (h : SlR X r) (h' : SlR X r') : SlR X (fun x lo hi H Q => r x lo hi H Q ∨ r' x lo hi H Q) := by
  intro pins s σ H x v vl vu lo hi sl Q I rx hs pl pu q
  rcases q with q | q
  · exact h pins s σ H x v vl vu lo hi sl Q I rx hs pl pu q
  · exact h' pins s σ H x v vl vu lo hi sl Q I rx hs pl pu q
def tSl (r : V → Option Int → Option Int → Hp → VK → Prop) (te : TE) (tl th : TO) : TE := fun σ H Q => te σ H fun x H1 => tl σ H1 fun l H2 => th σ H2 fun u H3 => r x l u H3 Q
/-- a[lo:hi], any a -/
theorem pe_slice {r : V → Option Int → Option Int → Hp → VK → Prop} (hr : SlR X r) (he : PE X e te) (hl : PO X lo tl) (hu : PO X hi th) : PE X (.Subscript e (.Slice lo hi none p2) pos) (tSl r te tl th) := by
  intro pins s σ H Q I h
  refine Subscript_ (thn (he pins s σ H _ I h) fun v s1 ⟨x, H1, I1, r1, q1⟩ => ?_)
  refine wpAny_Slice (thn (hl pins s1 σ H1 _ I1 q1) fun vl s2 ⟨l, H2, I2, pl, q2⟩ => thn (hu pins s2 σ H2 _ I2 q2) fun vu s3 ⟨u, H3, I3, pu, q3⟩ => ?_)
  rw [evalPart_none]
  refine wpAny_pure ?_
  have I4 : Inv X pins σ H3 { s3 with heap := s3.heap.push { cls := .type "slice", data := .fields #[vl, vu, .none] } } := I3.kept (t' := s3.toks) fun b ob q => Heap.get?_push_of_some _ q
  obtain ⟨T, id, hT, ht, hg⟩ := hr pins { s3 with heap := s3.heap.push { cls := .type "slice", data := .fields #[vl, vu, .none] } } σ H3 x v vl vu l u s3.heap.objs.size Q I4 r1 (Heap.IsSliceOf.new ..) pl pu q3
  show wpAny (model X.prog X.w) X.A (subscriptTail e (.Slice lo hi none p2) v (.ref s3.heap.objs.size)) (EP X pins σ Q) X.xe { s3 with heap := s3.heap.push { cls := .type "slice", data := .fields #[vl, vu, .none] } }
  exact tail_any (ops := [.ref s3.heap.objs.size, v]) ht hT hg (by with_unfolding_all rfl)
/-- the items of xs[lo:hi] -/
def cutV (xs : List V) (lo hi : Option Int) : List V := (xs.drop (HT.sIx xs.length 0 lo)).take (HT.sIx xs.length xs.length hi - HT.sIx xs.length 0 lo)
theorem cutV_length (xs : List V) (lo hi : Option Int) : (cutV xs lo hi).length ≤ xs.length := by
  unfold cutV
  rw [List.length_take, List.length_drop]
  omega
/-- t[lo:hi], not the whole of it (the whole would be t itself) -/
def rSlT (K : PySem.W.Frag) : V → Option Int → Option Int → Hp → VK → Prop := fun x lo hi H Q => ∃ a xs, x = .ref a ∧ SqT K H a xs ∧
  ¬ (HT.sIx xs.length 0 lo = 0 ∧ HT.sIx xs.length xs.length hi = xs.length) ∧ ∀ p, H p = none → Q (.ref p) (upd H p (.tup (cutV xs lo hi)))
theorem sl_tup : SlR X (rSlT X.K) := by
  intro pins s σ H x v vl vu lo hi sl Q I rx hs pl pu h
  obtain ⟨a, xs, rfl, hx, hw, q⟩ := h
  cases rx
  obtain ⟨its, r, ht, hz⟩ := I.tuple hx
  have hlen : its.toArray.size = xs.length := by rw [List.size_toArray]; exact r.length.symm
  refine ⟨"tuple", _, PyProof.Rows.slot_tuple_getitem.lookup, ht.typeIs, ?_⟩
  refine HT.getItem_tuple_cut ht hs pl pu (by rw [hlen]; exact hw) ?_ (by rw [hlen]; exact hz)
  rw [hlen]
  refine ⟨.ref s.heap.objs.size, _, I.laid (t' := s.toks) (o := .tup (cutV xs lo hi)) (fun b ob q => Heap.get?_push_of_some _ q) (Nat.le_refl _) ?_, rfl, q _ (I.hok.fresh (Nat.le_refl _))⟩
  exact ⟨Nat.le_trans (cutV_length xs lo hi) hz, _, (r.drop (HT.sIx xs.length 0 lo)).take (HT.sIx xs.length xs.length hi - HT.sIx xs.length 0 lo), IsTup.new _ _⟩
/-! ### t < u, t + u -/
def rLtT (K : PySem.W.Frag) : R2 := fun x y H Q => ∃ a b ns ms, x = .ref a ∧ y = .ref b ∧ SqT K H a (ns.map V.int) ∧ SqT K H b (ms.map V.int) ∧ Q (.bl (HT.lexLt ns ms)) H
/-- t + u, t not empty: u empty gives t itself -/
def rCatT (K : PySem.W.Frag) : R2 := fun x y H Q => ∃ a b xs ys, x = .ref a ∧ y = .ref b ∧ SqT K H a xs ∧ SqT K H b ys ∧ xs ≠ [] ∧ xs.length + ys.length ≤ sizeLine ∧
  (ys = [] → Q (.ref a) H) ∧ (ys ≠ [] → ∀ p, H p = none → Q (.ref p) (upd H p (.tup (xs ++ ys))))
theorem Vals.nil_iff {xs : List V} {us : List Value} (r : Vals xs us) : us = [] ↔ xs = [] := by
  cases r with
  | nil => simp
  | cons _ _ => simp
theorem op_catT : OpR X (binaryOp .Add) (rCatT X.K) := by
  intro pins s σ H x y v u Q I rx ry h
  obtain ⟨a, b, xs, ys, rfl, rfl, ha, hb, hx, hz, q1, q2⟩ := h
  cases rx
  cases ry
  obtain ⟨its, r1, p1, _⟩ := I.tuple ha
  obtain ⟨its2, r2, p2, _⟩ := I.tuple hb
  refine HT.cat_tup p1 p2 (fun z => hx (r1.nil_iff.mp z)) (fun z => ⟨.ref a, H, I, rfl, q1 (r2.nil_iff.mp z)⟩) (fun z => ?_) (by rw [← r1.length, ← r2.length]; exact hz)
  refine ⟨.ref s.heap.objs.size, _, I.laid (t' := s.toks) (o := .tup (xs ++ ys)) (fun b ob q => Heap.get?_push_of_some _ q) (Nat.le_refl _) ?_, rfl, q2 (fun w => z (r2.nil_iff.mpr w)) _ (I.hok.fresh (Nat.le_refl _))⟩
  exact ⟨by rw [List.length_append]; exact hz, _, r1.append r2, IsTup.new _ _⟩
end
end L2
namespace L2
open PySem PySem.Spec PyProof.Rows
/-! ### places -/
/-- the place that an index of any sign means -/
def ixN (n : Nat) (i : Int) : Option Nat := if 0 ≤ i then (if i < n then some i.toNat else none) else if -(n : Int) ≤ i then some (i + n).toNat else none
def atI {α : Type} (xs : List α) (i : Int) : Option α := (ixN xs.length i).bind fun j => xs[j]?
theorem ixN_seq {n : Nat} {i : Int} {j : Nat} (h : ixN n i = some j) : seqIndex? i n = some j ∧ j < n ∧ -(n : Int) ≤ i ∧ i < n := by
  unfold ixN at h
  by_cases h0 : 0 ≤ i
  · rw [if_pos h0] at h
    by_cases h1 : i < n
    · rw [if_pos h1] at h
      have e : i.toNat = j := Option.some.inj h
      exact ⟨by rw [seqIndex_of h0 h1, e], by omega, by omega, h1⟩
    · rw [if_neg h1] at h; cases h
  · rw [if_neg h0] at h
    by_cases h1 : -(n : Int) ≤ i
    · rw [if_pos h1] at h
      have e : (i + n).toNat = j := Option.some.inj h
      exact ⟨by rw [seqIndex_neg (by omega) h1, e], by omega, h1, by omega⟩
    · rw [if_neg h1] at h; cases h
theorem atI_get {α : Type} {xs : List α} {i : Int} {v : α} (h : atI xs i = some v) : ∃ j, seqIndex? i xs.length = some j ∧ xs[j]? = some v ∧ j < xs.length ∧ -(xs.length : Int) ≤ i ∧ i < xs.length := by
  unfold atI at h
  cases e : ixN xs.length i with
  | none => rw [e] at h; cases h
  | some j =>
    rw [e] at h
    obtain ⟨h1, h2, h3, h4⟩ := ixN_seq e
    exact ⟨j, h1, h, h2, h3, h4⟩
theorem atI_nat {α : Type} {xs : List α} {j : Nat} {v : α} (h : xs[j]? = some v) : atI xs (j : Int) = some v := by
  have hj : j < xs.length := (List.getElem?_eq_some_iff.mp h).1
  have e : ixN xs.length (j : Int) = some j := by
    unfold ixN
    rw [if_pos (by omega), if_pos (by omega)]; simp
  unfold atI; rw [e]; exact h
theorem atI_last {α : Type} (xs : List α) (v : α) : atI (xs ++ [v]) (-1) = some v := by
  have hl : (xs ++ [v]).length = xs.length + 1 := by simp
  have e : ixN (xs ++ [v]).length (-1) = some xs.length := by
    unfold ixN
    rw [hl, if_neg (by decide), if_pos (by omega)]
    congr 1
    omega
  unfold atI
  rw [e]
  show (xs ++ [v])[xs.length]? = some v
  simp
/-! ### what may be subscripted -/
/-- what stands as an index of a plain subscript -/
def PlainIx (b : Expr) : Prop := ∀ o i, subscripted b false o i = operate [o, i] (getItem o i)
/-- a subscript by values -/
def IxR (X : Cx) (r : R2) : Prop :=
  ∀ (value slice : Expr) (pins : List (Addr × Obj)) (s : Shared) (σ : St) (H : Hp) (x y : V) (v u : Value) (Q : VK), Inv X pins σ H s → RelV x v → RelV y u → r x y H Q →
    subscripted slice false v u = operate [v, u] (getItem v u) → wpAny (model X.prog X.w) X.A (subscriptTail value slice v u) (EP X pins σ Q) X.xe s
/-- a call of a builtin's method by values: the receiver, the arguments -/
def MtR (X : Cx) (id : String) (r : V → List V → Hp → VK → Prop) : Prop :=
  ∀ (pins : List (Addr × Obj)) (s : Shared) (σ : St) (H : Hp) (x : V) (xs : List V) (v : Value) (us : List Value) (Q : VK), Inv X pins σ H s → RelV x v → Vals xs us → r x xs H Q →
    wpAny (model X.prog X.w) X.A (call (.builtin id) (v :: us)) (EP X pins σ Q) X.xe s
section
variable {X : Cx} {a b : Expr} {ta tb : TE} {pos : Pos}
theorem IxR.or {r r' : R2} (h : IxR X r) (h' : IxR X r') : IxR X (fun x y H Q => r x y H Q ∨ r' x y H Q) := by
  intro value slice pins s σ H x y v u Q I rx ry q hs
  rcases q with q | q
  · exact h value slice pins s σ H x y v u Q I rx ry q hs
  · exact h' value slice pins s σ H x y v u Q I rx ry q hs
theorem MtR.or {id : String} {r r' : V → List V → Hp → VK → Prop} (h : MtR X id r) (h' : MtR X id r') : MtR X id (fun x xs H Q => r x xs H Q ∨ r' x xs H Q) := by
  intro pins s σ H x xs v us Q I rx rs q
  rcases q with q | q
  · exact h pins s σ H x xs v us Q I rx rs q
  · exact h' pins s σ H x xs v us Q I rx rs q
/-- a[b] -/
theorem pe_ix {r : R2} (hr : IxR X r) (ha : PE X a ta) (hb : PE X b tb) (hs : PlainIx b) : PE X (.Subscript a b pos) (tOp r ta tb) := by
  intro pins s σ H Q I h
  exact Subscript_ (binT ha hb I h fun v u s2 x y H2 I2 rx ry q => hr a b pins s2 σ H2 x y v u Q I2 rx ry q (hs _ _))
def rIxL (K : PySem.W.Frag) : R2 := fun x y H Q => ∃ p xs i v, x = .ref p ∧ y = .int i ∧ SqL K H p xs ∧ atI xs i = some v ∧ Q v H
def rIxT (K : PySem.W.Frag) : R2 := fun x y H Q => ∃ p xs i v, x = .ref p ∧ y = .int i ∧ SqT K H p xs ∧ atI xs i = some v ∧ Q v H
def rIxS : R2 := fun x y H Q => ∃ z i c, x = .str z ∧ y = .int i ∧ z.length ≤ sizeLine ∧ atI z.cps.toList i = some c ∧ Q (.str ⟨#[c]⟩) H
theorem ix_list : IxR X (rIxL X.K) := by
  intro value slice pins s σ H x y v u Q I rx ry h hs
  obtain ⟨p, xs, i, z, rfl, rfl, hq, he, q⟩ := h
  cases rx
  obtain ⟨t, rfl⟩ := ry
  obtain ⟨its, r, pl, hz⟩ := I.list hq
  obtain ⟨j, h1, h2, h3, h4, h5⟩ := atI_get he
  obtain ⟨w, ew, rw'⟩ := r.get h2
  have hl := r.length
  have hn := line63
  have fin : EP X pins σ Q w s := ⟨z, H, I, rw', q⟩
  by_cases h0 : 0 ≤ i
  · have hj : i.toNat = j := by
      rw [seqIndex_of h0 h5] at h1
      exact Option.some.inj h1
    exact item_listR pl.isList h0 (by omega) (by rw [hj]; simpa using ew) fin hs
  · have hj : (i + (its.toArray.size : Int)).toNat = j := by
      rw [seqIndex_neg (by omega) h4] at h1
      rw [List.size_toArray, ← hl]
      exact Option.some.inj h1
    exact subscriptTail_builtinR (x := w) pl.isList.typeIs slot_list_getitem.lookup
      (wpAny_getItem_list_neg (Q := fun r s' => r = w ∧ EP X pins σ Q r s') pl.isList (by omega) (by rw [List.size_toArray] <;> omega) (by omega) (by rw [hj]; simpa using ew) ⟨rfl, fin⟩) hs
theorem ix_tup : IxR X (rIxT X.K) := by
  intro value slice pins s σ H x y v u Q I rx ry h hs
  obtain ⟨p, xs, i, z, rfl, rfl, hq, he, q⟩ := h
  cases rx
  obtain ⟨t, rfl⟩ := ry
  obtain ⟨its, r, pl, hz⟩ := I.tuple hq
  obtain ⟨j, h1, h2, h3, h4, h5⟩ := atI_get he
  obtain ⟨w, ew, rw'⟩ := r.get h2
  have hl := r.length
  have hn := line63
  have fin : EP X pins σ Q w s := ⟨z, H, I, rw', q⟩
  exact subscriptTail_builtinR (x := w) pl.typeIs slot_tuple_getitem.lookup
    (getItem_tuple (j := j) (Q := fun r s' => r = w ∧ EP X pins σ Q r s') pl (by omega) (by omega) (by rw [List.size_toArray, ← hl]; exact h1) (by simpa using ew) ⟨rfl, fin⟩) hs
theorem ix_str : IxR X rIxS := by
  intro value slice pins s σ H x y v u Q I rx ry h hs
  obtain ⟨z, i, c, rfl, rfl, hz, he, q⟩ := h
  obtain ⟨t, rfl⟩ := rx
  obtain ⟨t', rfl⟩ := ry
  obtain ⟨j, h1, h2, h3, h4, h5⟩ := atI_get he
  have hl : z.cps.toList.length = z.length := by simp [Str.length]
  rw [hl] at h1 h4 h5
  have hn := line63
  exact tail_any (typeIs_str s z t) slot_str_getitem.lookup (getItem_str (c := c) (by
    have e1 : decide (i < -(2 ^ 63 : Int)) = false := decide_eq_false (by omega)
    have e2 : decide (i ≥ 2 ^ 63) = false := decide_eq_false (by omega)
    rw [e1, e2, Bool.or_false]) (by rw [h1]; simpa using h2) ⟨.str ⟨#[c]⟩, H, I.tok _, ⟨_, rfl⟩, q⟩) hs
/-- list, tuple or str -/
def rIx (K : PySem.W.Frag) : R2 := fun x y H Q => rIxL K x y H Q ∨ rIxT K x y H Q ∨ rIxS x y H Q
/-! ### xs[i] = v, any sign -/
/-- the list's object behind a store -/
theorem mapSeq_set (its : List Value) (n j : Nat) (u : Value) : Obj.mapSeq (·.setIfInBounds j u) { cls := .type "list", data := .seq its.toArray n } = { cls := .type "list", data := .seq (its.set j u).toArray n } := by
  simp [Obj.mapSeq]
theorem Inv.lst {pins : List (Addr × Obj)} {σ : St} {H : Hp} {s : Shared} {p : Addr} {xs : List V} (I : Inv X pins σ H s) (h : H p = some (.lst xs)) :
    ∃ (its : List Value) (n : Nat), Vals xs its ∧ s.heap.get? p = some { cls := .type "list", data := .seq its.toArray n } ∧ xs.length ≤ sizeLine := by
  obtain ⟨z, its, n, r, e⟩ := I.hok p _ h
  exact ⟨its, n, r, e, z⟩
/-- the list at p is written by an update of its object -/
theorem Inv.lstUpd {pins : List (Addr × Obj)} {σ : St} {H : Hp} {s : Shared} {p : Addr} {xs ys : List V} {its its' : List Value} {n n' : Nat} {f : Obj → Obj} (I : Inv X pins σ H s) (h : H p = some (.lst xs))
    (ho : s.heap.get? p = some { cls := .type "list", data := .seq its.toArray n }) (hf : f { cls := .type "list", data := .seq its.toArray n } = { cls := .type "list", data := .seq its'.toArray n' }) (r : Vals ys its') (hz : ys.length ≤ sizeLine) (t : Nat) :
    Inv X pins σ (upd H p (.lst ys)) { s with heap := s.heap.update p f, toks := t } := by
  have e : (s.heap.update p f).get? p = some { cls := .type "list", data := .seq its'.toArray n' } := by
    rw [Heap.get?_update_self f ho (by rw [hf] <;> rfl), hf]
  refine I.write (x := p) (e := p) (by rw [h]; trivial) (.inl rfl) (fun b u hb q => (Heap.get?_update_other _ _ (Ne.symm hb)).trans q) ⟨_, e⟩ ?_
  exact ⟨hz, its', n', r, e⟩
def rSetL : V → V → V → Hp → (Hp → Prop) → Prop := fun o i v H Q => ∃ p xs k j, o = .ref p ∧ i = .int k ∧ H p = some (.lst xs) ∧ ixN xs.length k = some j ∧ Q (upd H p (.lst (xs.set j v)))
theorem set_list : PSet X rSetL := by
  intro pins s σ H o i v ov iv u Q I ro ri rv h
  obtain ⟨p, xs, k, j, rfl, rfl, hp, hj, q⟩ := h
  cases ro
  obtain ⟨t, rfl⟩ := ri
  obtain ⟨its, n, r, ho, hz⟩ := I.lst hp
  obtain ⟨h1, h2, h3, h4⟩ := ixN_seq hj
  have hl := r.length
  have hn := line63
  have I' : Inv X pins σ (upd H p (.lst (xs.set j v))) { s with heap := s.heap.update p (Obj.mapSeq (·.setIfInBounds j u)) } :=
    I.lstUpd hp ho (mapSeq_set its n j u) (r.set rv j) (by rw [List.length_set]; exact hz) s.toks
  by_cases h0 : 0 ≤ k
  · have hk : k.toNat = j := by
      rw [seqIndex_of h0 h4] at h1
      exact Option.some.inj h1
    exact PySem.W.ki_setAt ho h0 (by omega) (by rw [List.size_toArray, ← hl]; exact h4) (by rw [hk]; exact ⟨_, I', q⟩)
  · have hk : (k + (its.toArray.size : Int)).toNat = j := by
      rw [seqIndex_neg (by omega) h3] at h1
      rw [List.size_toArray, ← hl]
      exact Option.some.inj h1
    exact PySem.W.ki_setBack ho (by omega) (by rw [List.size_toArray, ← hl]; exact h3) (by omega) (by rw [hk]; exact ⟨_, I', q⟩)
/-! ### slices -/
theorem slice_bounds (lo hi : Option Int) (n : Nat) : (sliceBounds lo hi none n).1 = ((HT.sIx n 0 lo : Nat) : Int) ∧ (sliceBounds lo hi none n).2.1 = ((HT.sIx n n hi : Nat) : Int) ∧ (sliceBounds lo hi none n).2.2 = 1 := by
  refine ⟨?_, ?_, rfl⟩
  · cases lo with
    | none => simp [sliceBounds, HT.sIx]
    | some i =>
      simp only [sliceBounds, HT.sIx, Option.getD_none, show (1 : Int) > 0 by decide, if_true]
      by_cases h : i < 0
      · simp only [h, if_true] <;> omega
      · simp only [h, if_false] <;> omega
  · cases hi with
    | none => simp [sliceBounds, HT.sIx]
    | some i =>
      simp only [sliceBounds, HT.sIx, Option.getD_none, show (1 : Int) > 0 by decide, if_true]
      by_cases h : i < 0
      · simp only [h, if_true] <;> omega
      · simp only [h, if_false] <;> omega
theorem slicePick_cut (its : List Value) (lo hi : Option Int) : slicePick its.toArray lo hi none = ((its.drop (HT.sIx its.length 0 lo)).take (HT.sIx its.length its.length hi - HT.sIx its.length 0 lo)).toArray := by
  obtain ⟨h1, h2, h3⟩ := slice_bounds lo hi its.toArray.size
  unfold slicePick
  rw [h1, h2, h3]
  simp only [sliceRange_one, pick_run, List.size_toArray] <;> rfl
/-- xs[lo:hi] of a list: a new list -/
def rSlL (K : PySem.W.Frag) : V → Option Int → Option Int → Hp → VK → Prop := fun x lo hi H Q => ∃ a xs, x = .ref a ∧ SqL K H a xs ∧ ∀ p, H p = none → Q (.ref p) (upd H p (.lst (cutV xs lo hi)))
theorem sl_list : SlR X (rSlL X.K) := by
  intro pins s σ H x v vl vu lo hi sl Q I rx hs pl pu h
  obtain ⟨a, xs, rfl, hx, q⟩ := h
  cases rx
  obtain ⟨its, r, ht, hz⟩ := I.list hx
  have hlen := r.length
  refine ⟨"list", _, slot_list_getitem.lookup, ht.isList.typeIs, ?_⟩
  refine wpAny_getItem_list_slice ht.isList hs pl pu .none (by simp) ?_ (by rw [List.size_toArray] <;> omega)
  rw [slicePick_cut, ← hlen]
  refine ⟨.ref s.heap.objs.size, _, I.laid (t' := s.toks) (o := .lst (cutV xs lo hi)) (fun b ob q => Heap.get?_push_of_some _ q) (Nat.le_refl _) ?_, rfl, q _ (I.hok.fresh (Nat.le_refl _))⟩
  exact ⟨Nat.le_trans (cutV_length xs lo hi) hz, _, 0, (r.drop (HT.sIx xs.length 0 lo)).take (HT.sIx xs.length xs.length hi - HT.sIx xs.length 0 lo), Heap.get?_push_size _ rfl⟩
/-! ### in, not in: flat items -/
def flatV : V → Bool
  | .non => true
  | .bl _ => true
  | .int _ => true
  | .str _ => true
  | _ => false
/-- == of flat values -/
def eqV : V → V → Bool
  | .non, .non => true
  | .bl a, .bl b => a == b
  | .bl a, .int b => (if a then 1 else 0) == b
  | .int a, .bl b => a == (if b then 1 else 0)
  | .int a, .int b => a == b
  | .str a, .str b => a == b
  | _, _ => false
theorem eqAt_V {A : Around} {s : Shared} {y x : V} {u v : Value} (ry : RelV y u) (rx : RelV x v) (fy : flatV y = true) (fx : flatV x = true) : SeqAt.EqAt A s u v (eqV y x) := by
  cases y with
  | non =>
    cases ry
    cases x with
    | non => cases rx; exact SeqAt.EqAt.same _
    | bl b => cases rx; exact SeqAt.EqAt.none_bool b
    | int b => obtain ⟨t, rfl⟩ := rx; exact SeqAt.EqAt.none_int b t
    | str b => obtain ⟨t, rfl⟩ := rx; exact SeqAt.EqAt.none_str b t
    | _ => exact absurd (show false = true from fx) Bool.false_ne_true
  | bl a =>
    cases ry
    cases x with
    | non => cases rx; exact SeqAt.EqAt.bool_none a
    | bl b => cases rx; exact SeqAt.EqAt.bool_bool a b
    | int b => obtain ⟨t, rfl⟩ := rx; exact SeqAt.EqAt.bool_int a b t
    | str b => obtain ⟨t, rfl⟩ := rx; exact SeqAt.EqAt.bool_str a b t
    | _ => exact absurd (show false = true from fx) Bool.false_ne_true
  | int a =>
    obtain ⟨t', rfl⟩ := ry
    cases x with
    | non => cases rx; exact SeqAt.EqAt.int_none a t'
    | bl b => cases rx; exact SeqAt.EqAt.int_bool a t' b
    | int b => obtain ⟨t, rfl⟩ := rx; exact SeqAt.EqAt.int_int a t' b t
    | str b => obtain ⟨t, rfl⟩ := rx; exact SeqAt.EqAt.int_str a t' b t
    | _ => exact absurd (show false = true from fx) Bool.false_ne_true
  | str a =>
    obtain ⟨t', rfl⟩ := ry
    cases x with
    | non => cases rx; exact SeqAt.EqAt.str_none a t'
    | bl b => cases rx; exact SeqAt.EqAt.str_bool a t' b
    | int b => obtain ⟨t, rfl⟩ := rx; exact SeqAt.EqAt.str_int a t' b t
    | str b => obtain ⟨t, rfl⟩ := rx; exact SeqAt.EqAt.str_str a t' b t
    | _ => exact absurd (show false = true from fx) Bool.false_ne_true
  | _ => exact absurd (show false = true from fy) Bool.false_ne_true
/-- the items' answers, read off the values (a value's own answer does not lean on its token) -/
def eqU (x : V) (u : Value) : Bool := match u with
  | .none => eqV .non x
  | .bool b => eqV (.bl b) x
  | .int i _ => eqV (.int i) x
  | .str z _ => eqV (.str z) x
  | _ => false
theorem eqU_of {x y : V} {u : Value} (r : RelV y u) (f : flatV y = true) : eqU x u = eqV y x := by
  cases y with
  | non => cases r; rfl
  | bl b => cases r; rfl
  | int i => obtain ⟨t, rfl⟩ := r; rfl
  | str z => obtain ⟨t, rfl⟩ := r; rfl
  | _ => exact absurd (show false = true from f) Bool.false_ne_true
theorem any_eqU {x : V} : ∀ {xs : List V} {us : List Value}, Vals xs us → xs.all flatV = true → us.any (eqU x) = xs.any fun y => eqV y x
  | _, _, .nil, _ => rfl
  | y :: xs, u :: us, .cons r t, f => by
    rw [List.all_cons, Bool.and_eq_true] at f
    rw [List.any_cons, List.any_cons, eqU_of r f.1, any_eqU t f.2]
theorem mem_eqAt {A : Around} {s : Shared} {x : V} {v : Value} (rx : RelV x v) (fx : flatV x = true) : ∀ {xs : List V} {us : List Value}, Vals xs us → xs.all flatV = true → ∀ u ∈ us, SeqAt.EqAt A s u v (eqU x u)
  | _, _, .nil, _ => fun u hu => by cases hu
  | y :: xs, u :: us, .cons r t, f => fun u' hu => by
    rw [List.all_cons, Bool.and_eq_true] at f
    rcases List.mem_cons.mp hu with rfl | hu
    · rw [eqU_of r f.1]; exact eqAt_V r rx f.1 fx
    · exact mem_eqAt rx fx t f.2 u' hu
def inV (x : V) (xs : List V) : Bool := xs.any fun y => eqV y x
/-- x in a list or tuple of flat items -/
def rIn (K : PySem.W.Frag) (neg : Bool) : R2 := fun x y H Q => ∃ p xs, y = .ref p ∧ (SqL K H p xs ∨ SqT K H p xs) ∧ flatV x = true ∧ xs.all flatV = true ∧ Q (.bl (if neg then !inV x xs else inV x xs)) H
theorem op_in_seq : OpR X (compareOp .In) (rIn X.K false) := by
  intro pins s σ H x y v u Q I rx ry h
  obtain ⟨p, xs, rfl, hq, fx, fs, q⟩ := h
  cases ry
  rcases hq with hq | hq
  · obtain ⟨its, r, pl, hz⟩ := I.list hq
    refine SeqAt.in_listAt (eqU x) pl.isList (fun w hw => mem_eqAt rx fx r fs w (by simpa using hw)) ⟨.bl _, H, I, rfl, ?_⟩
    rw [show its.toArray.any (eqU x) = its.any (eqU x) by simp, any_eqU r fs]
    exact q
  · obtain ⟨its, r, pl, hz⟩ := I.tuple hq
    refine SeqAt.in_tupleAt (eqU x) pl (fun w hw => mem_eqAt rx fx r fs w (by simpa using hw)) ⟨.bl _, H, I, rfl, ?_⟩
    rw [show its.toArray.any (eqU x) = its.any (eqU x) by simp, any_eqU r fs]
    exact q
theorem op_notIn_seq : OpR X (compareOp .NotIn) (rIn X.K true) := by
  intro pins s σ H x y v u Q I rx ry h
  obtain ⟨p, xs, rfl, hq, fx, fs, q⟩ := h
  cases ry
  rcases hq with hq | hq
  · obtain ⟨its, r, pl, hz⟩ := I.list hq
    refine SeqAt.notIn_listAt (eqU x) pl.isList (fun w hw => mem_eqAt rx fx r fs w (by simpa using hw)) ⟨.bl _, H, I, rfl, ?_⟩
    rw [show its.toArray.any (eqU x) = its.any (eqU x) by simp, any_eqU r fs]
    exact q
  · obtain ⟨its, r, pl, hz⟩ := I.tuple hq
    refine SeqAt.notIn_tupleAt (eqU x) pl (fun w hw => mem_eqAt rx fx r fs w (by simpa using hw)) ⟨.bl _, H, I, rfl, ?_⟩
    rw [show its.toArray.any (eqU x) = its.any (eqU x) by simp, any_eqU r fs]
    exact q
theorem op_notIn_str : OpR X (compareOp .NotIn) (fun x y H Q => ∃ i j, x = .str i ∧ y = .str j ∧ Q (.bl (!(!(Builtin.Str.occurrences j i 0 j.length 1).isEmpty))) H) := by
  intro pins s σ H x y v u Q I rx ry h
  obtain ⟨i, j, rfl, rfl, q⟩ := h
  obtain ⟨t, rfl⟩ := rx
  obtain ⟨t', rfl⟩ := ry
  exact notIn_str ⟨.bl _, H, I, rfl, q⟩
/-! ### len, list(x), tuple(x) of any list or tuple that is read -/
theorem CallR.or {f : Value} {r r' : List V → Hp → VK → Prop} (h : CallR X f r) (h' : CallR X f r') : CallR X f (fun xs H Q => r xs H Q ∨ r' xs H Q) := by
  intro pins s σ H xs us Q I rs q
  rcases q with q | q
  · exact h pins s σ H xs us Q I rs q
  · exact h' pins s σ H xs us Q I rs q
theorem call_list_of : CallR X (.type "list") (fun xs H Q => ∃ p ys, xs = [.ref p] ∧ (SqL X.K H p ys ∨ SqT X.K H p ys) ∧ ∀ l, H l = none → Q (.ref l) (upd H l (.lst ys))) := by
  intro pins s σ H xs us Q I r h
  obtain ⟨p, ys, rfl, hq, q⟩ := h
  obtain ⟨u, rfl, rx⟩ := vals1 r
  cases rx
  have fin : ∀ (its : List Value), Vals ys its → ys.length ≤ sizeLine → ∀ (h' : Heap) (c' : Nat), (∀ b o', s.heap.get? b = some o' → h'.get? b = some o') →
      h'.get? s.heap.objs.size = some { cls := .type "list", dict := none, data := .seq its.toArray c', slots := #[] } → EP X pins σ Q (.ref s.heap.objs.size) { s with heap := h' } := fun its r' hz h' c' kp e =>
    ⟨.ref s.heap.objs.size, _, I.laid (t' := s.toks) kp (Nat.le_refl _) (show ObjOk X.prog X.w _ h' _ (.lst ys) from ⟨hz, its, c', r', e⟩), rfl, q _ (I.hok.fresh (Nat.le_refl _))⟩
  rcases hq with hq | hq
  · obtain ⟨its, r', pl, hz⟩ := I.list hq
    have hlen := r'.length
    obtain ⟨o, ho, hc, n, hd⟩ := pl.isList
    exact call_list_seq p (.inl rfl) ho hc hd (fun h' c' kp e => fin its r' hz h' c' kp e) (by simp only [List.size_toArray] <;> omega)
  · obtain ⟨its, r', pl, hz⟩ := I.tuple hq
    have hlen := r'.length
    obtain ⟨o, ho, hc, n, hd⟩ := pl
    exact call_list_seq p (.inr rfl) ho hc hd (fun h' c' kp e => fin its r' hz h' c' kp e) (by simp only [List.size_toArray] <;> omega)
theorem call_tuple_of : CallR X (.type "tuple") (fun xs H Q => ∃ p ys, xs = [.ref p] ∧ ((SqL X.K H p ys ∧ ∀ l, H l = none → Q (.ref l) (upd H l (.tup ys))) ∨ (SqT X.K H p ys ∧ Q (.ref p) H))) := by
  intro pins s σ H xs us Q I r h
  obtain ⟨p, ys, rfl, h⟩ := h
  obtain ⟨u, rfl, rx⟩ := vals1 r
  cases rx
  rcases h with ⟨hq, q⟩ | ⟨hq, q⟩
  · obtain ⟨its, r', pl, hz⟩ := I.list hq
    have hlen := r'.length
    refine call_tuple_list pl.isList (fun h' kp => ?_) (by simp only [List.size_toArray] <;> omega)
    have I1 : Inv X pins σ H { s with heap := h' } := I.kept (t' := s.toks) kp
    have I2 : Inv X pins σ (upd H h'.objs.size (.tup ys)) { s with heap := h'.push { cls := .type "tuple", data := .seq its.toArray } } :=
      I1.laid (t' := s.toks) (fun b o e => Heap.get?_push_of_some _ e) (Nat.le_refl _) (show ObjOk X.prog X.w _ _ _ (.tup ys) from ⟨hz, its, r', IsTup.new _ _⟩)
    exact ⟨.ref h'.objs.size, _, I2, rfl, q _ (I1.hok.fresh (Nat.le_refl _))⟩
  · obtain ⟨its, r', pl, hz⟩ := I.tuple hq
    exact call_tuple_same pl ⟨.ref p, H, I, rfl, q⟩
/-! ### the call of a builtin's method: o.m(..) -/
/-- the value is of that builtin type -/
def tyV (K : PySem.W.Frag) (T : String) (x : V) (H : Hp) : Prop := match x with
  | .str _ => T = "str"
  | .int _ => T = "int"
  | .ref p => (T = "list" ∧ ∃ xs, SqL K H p xs) ∨ (T = "tuple" ∧ ∃ o, K.lookup p = some o ∧ o.cls = .type "tuple" ∧ o.dict = none) ∨
      (T = "dict" ∧ ((∃ kvs, H p = some (.dK kvs)) ∨ ∃ kvs, H p = some (.dT kvs))) ∨ (T = "set" ∧ ∃ S n, H p = some (.set S n))
  | _ => False
theorem tyV_is {pins : List (Addr × Obj)} {σ : St} {H : Hp} {s : Shared} {T : String} {x : V} {v : Value} (I : Inv X pins σ H s) (r : RelV x v) (ty : tyV X.K T x H) :
    s.TypeIs v T ∧ ∀ a, v = .ref a → ∃ ob, s.heap.get? a = some ob ∧ ob.dict = none := by
  cases x with
  | str z =>
    obtain ⟨t, rfl⟩ := r
    cases (show T = "str" from ty)
    exact ⟨typeIs_str s z t, fun _ e => nomatch e⟩
  | int i =>
    obtain ⟨t, rfl⟩ := r
    cases (show T = "int" from ty)
    exact ⟨typeIs_int s i t, fun _ e => nomatch e⟩
  | ref p =>
    cases r
    rcases ty with ⟨rfl, xs, hq⟩ | ⟨rfl, o, hk, hc, hd⟩ | ⟨rfl, hk⟩ | ⟨rfl, S, n, hk⟩
    · obtain ⟨its, _, pl, _⟩ := I.list hq
      refine ⟨pl.isList.typeIs, fun a e => ?_⟩
      cases e
      obtain ⟨o, n, e, c, hd, _⟩ := pl
      exact ⟨o, e, hd⟩
    · refine ⟨⟨o, I.kIn p o hk, hc⟩, fun a e => ?_⟩
      cases e
      exact ⟨o, I.kIn _ o hk, hd⟩
    · have z : ∃ o, s.heap.get? p = some o ∧ o.ExactDict := by
        rcases hk with ⟨kvs, hk⟩ | ⟨kvs, hk⟩
        · obtain ⟨_, _, _, _, o, _, _, e, ex, _⟩ := I.hok p _ hk
          exact ⟨o, e, ex⟩
        · obtain ⟨_, _, _, _, o, _, _, e, ex, _⟩ := I.hok p _ hk
          exact ⟨o, e, ex⟩
      obtain ⟨o, e, ex⟩ := z
      refine ⟨⟨o, e, ex.1⟩, fun a e2 => ?_⟩
      cases e2
      exact ⟨o, e, ex.2.1⟩
    · obtain ⟨o, _, _, _, e, ex, _⟩ := I.hok p _ hk
      refine ⟨⟨o, e, ex.1⟩, fun a e2 => ?_⟩
      cases e2
      exact ⟨o, e, ex.2.1⟩
  | _ => exact False.elim ty
def tBM0 (K : PySem.W.Frag) (T : String) (r : V → List V → Hp → VK → Prop) (to : TE) : TE := fun σ H Q => to σ H fun x H1 => tyV K T x H1 ∧ r x [] H1 Q
def tBM (K : PySem.W.Frag) (T : String) (r : V → List V → Hp → VK → Prop) (to : TE) (t : TA) : TE := fun σ H Q => to σ H fun x H1 => tyV K T x H1 ∧ t σ H1 fun xs H2 => r x xs H2 Q
variable {o e : Expr} {es : List Expr} {to : TE} {t : TA} {name : Str} {apos cpos : Pos} {T id : String} {r : V → List V → Hp → VK → Prop}
theorem pe_bm (pa : PlainAttrs T) (slot : Slot T name id) (hty : typeOf (.builtin id) = pure (.type "method_descriptor")) (hm : MtR X id r) (ho : PE X o to) (ha : PA X (e :: es) t)
    (hbase : attributeBase o name X.env (eval o X.env) = eval o X.env := by rfl)
    (hfew : ((backTo cpos (starEach (e :: es) X.env)).all (fun x => !x.1) && (backToKw cpos (keywordEach [] X.env)).all (fun x => x.1.isSome)
      && decide ((e :: es).length + ([] : List Keyword).length + (if ([] : List Keyword).isEmpty then 0 else 1) < 30)) = true := by rfl)
    (hline : (apos.endLine == cpos.line) = true := by rfl) (hs : starEach (e :: es) X.env = (false, eval e X.env) :: starEach es X.env := by rfl) (hplain : (backTo cpos (starEach es X.env)).any (·.1) = false := by rfl) :
    PE X (.Call (.Attribute o name apos) (e :: es) [] cpos) (tBM X.K T r to t) := by
  intro pins s σ H Q I h
  refine wpAny_Call_method_late hbase hfew hline rfl (thn (ho pins s σ H _ I h) fun v s1 ⟨x, H1, I1, r1, ty, q1⟩ => ?_)
  obtain ⟨h1, h2⟩ := tyV_is I1 r1 ty
  refine ⟨T, id, pa, slot, hty, h1, h2, ?_⟩
  have hA := ha cpos pins s1 σ H1 _ I1 q1
  rw [hs] at hA ⊢
  refine Calls.callWith_builtin (by show (false || (backTo cpos (starEach es X.env)).any (·.1)) = false; rw [hplain] <;> rfl) (Calls.evalArgs_plain ?_)
  exact thn hA fun us s2 ⟨vs, H2, I2, r2, q2⟩ => hm pins s2 σ H2 x vs v us Q I2 r1 r2 q2
/- xs.append(e), list.index on a module's tuple .. are MtR facts of 06m -/
end
end L2
namespace L2
open PySem PySem.Spec PyProof.Rows
def MtM (X : Cx) (id : String) (r : V → List V → Hp → VK → Prop) : Prop :=
  ∀ (pins : List (Addr × Obj)) (s : Shared) (σ : St) (H : Hp) (x : V) (xs : List V) (v : Value) (us : List Value) (Q : VK), Inv X pins σ H s → RelV x v → Vals xs us → r x xs H Q →
    wpAny (model X.prog X.w) X.A (call (.builtin id) (v :: us)) (EP X pins σ Q) X.xe s
/-! ### lists of values -/
theorem Vals.one : ∀ {x : V} {us : List Value}, Vals [x] us → ∃ u, us = [u] ∧ RelV x u
  | _, _, .cons r .nil => ⟨_, rfl, r⟩
theorem Vals.two : ∀ {x y : V} {us : List Value}, Vals [x, y] us → ∃ u v, us = [u, v] ∧ RelV x u ∧ RelV y v
  | _, _, _, .cons r (.cons q .nil) => ⟨_, _, rfl, r, q⟩
theorem Vals.zero : ∀ {us : List Value}, Vals [] us → us = []
  | _, .nil => rfl
theorem Vals.dropLast {xs : List V} {us : List Value} (h : Vals xs us) : Vals xs.dropLast us.dropLast := by
  induction h with
  | nil => exact .nil
  | cons r t ih =>
    cases t with
    | nil => exact .nil
    | cons q t' => exact .cons r ih
theorem Vals.eraseIdx : ∀ {xs : List V} {us : List Value} (i : Nat), Vals xs us → Vals (xs.eraseIdx i) (us.eraseIdx i)
  | _, _, _, .nil => .nil
  | _, _, 0, .cons _ t => t
  | _, _, i + 1, .cons r t => .cons r (Vals.eraseIdx i t)
theorem Vals.reverse {xs : List V} {us : List Value} (h : Vals xs us) : Vals xs.reverse us.reverse := by
  induction h with
  | nil => exact .nil
  | cons r t ih => rw [List.reverse_cons, List.reverse_cons]; exact Vals.append ih (.cons r .nil)
theorem Vals.rep {xs : List V} {us : List Value} (h : Vals xs us) : ∀ k : Nat, Vals (List.replicate k xs).flatten (List.replicate k us).flatten
  | 0 => .nil
  | k + 1 => by
    rw [List.replicate_succ, List.replicate_succ, List.flatten_cons, List.flatten_cons]
    exact Vals.append h (Vals.rep h k)
section
variable {X : Cx} {pins : List (Addr × Obj)} {σ : St} {H : Hp} {s : Shared} {l b : Addr} {xs ys zs : List V}
/-! ### the two steps: a tracked list is rewritten, a new list is laid -/
theorem Inv.lset {its its' : List Value} {n : Nat} {f : Array Value → Array Value} {t' : Nat} (I : Inv X pins σ H s) (hH : H l = some (.lst xs))
    (e : s.heap.get? l = some { cls := .type "list", data := .seq its.toArray n }) (hf : f its.toArray = its'.toArray) (hv : Vals ys its') (hz : ys.length ≤ sizeLine) :
    Inv X pins σ (upd H l (.lst ys)) { s with heap := s.heap.update l (Obj.mapSeq f), toks := t' } := by
  have q := PySem.IsL.update e f
  rw [hf] at q
  refine I.write (x := l) (e := l) (by rw [hH]; exact trivial) (.inl rfl) (fun b' u hb hu => (Heap.get?_update_other s.heap (Obj.mapSeq f) (Ne.symm hb)).trans hu) ⟨_, q⟩ ?_
  exact ⟨hz, its', _, hv, q⟩
theorem Inv.lnew {its : List Value} {t' : Nat} (I : Inv X pins σ H s) (hv : Vals ys its) (hz : ys.length ≤ sizeLine) :
    Inv X pins σ (upd H s.heap.objs.size (.lst ys)) { s with heap := s.heap.push { cls := .type "list", data := .seq its.toArray }, toks := t' } :=
  I.laid (fun _ _ q => Heap.get?_push_of_some _ q) (Nat.le_refl _) ⟨hz, its, 0, hv, Heap.get?_push_size _ rfl⟩
theorem Inv.fresh (I : Inv X pins σ H s) : H s.heap.objs.size = none := I.hok.fresh (Nat.le_refl _)
theorem Inv.lstM (I : Inv X pins σ H s) (hH : H l = some (.lst xs)) : xs.length ≤ sizeLine ∧ ∃ (its : List Value) (n : Nat), Vals xs its ∧ xs.length = its.length ∧ s.heap.get? l = some { cls := .type "list", data := .seq its.toArray n } := by
  obtain ⟨z, its, n, r, e⟩ := I.hok l _ hH
  exact ⟨z, its, n, r, r.length, e⟩
end
section
variable {X : Cx}
/-! ### methods -/
def rAppend : V → List V → Hp → VK → Prop := fun x vs H Q => ∃ l xs y, x = .ref l ∧ vs = [y] ∧ H l = some (.lst xs) ∧ xs.length < sizeLine ∧ Q .non (upd H l (.lst (xs ++ [y])))
theorem mt_append : MtM X "list.append" rAppend := by
  intro pins s σ H x vs v us Q I rx rv h
  obtain ⟨l, xs, y, rfl, rfl, hH, hz, q⟩ := h
  cases rx
  obtain ⟨u, rfl, ru⟩ := rv.one
  obtain ⟨z, its, n, r, hl, e⟩ := I.lstM hH
  refine call_meets F.slot_list_append ⟨_, e, rfl⟩ F.entry_list_append (F.args_list_append_2 _ _) (PySem.list_append l its.toArray n u (by rw [List.size_toArray]; omega)) ⟨e, ?_⟩
  refine ⟨.non, _, I.lset (its' := its ++ [u]) hH e (by simp) (r.append (.cons ru .nil)) ?_, rfl, q⟩
  rw [List.length_append, List.length_singleton]
  omega
def rExtend : V → List V → Hp → VK → Prop := fun x vs H Q => ∃ l b xs zs, x = .ref l ∧ vs = [.ref b] ∧ H l = some (.lst xs) ∧ H b = some (.lst zs) ∧ xs.length + zs.length ≤ sizeLine ∧ Q .non (upd H l (.lst (xs ++ zs)))
def rPop : V → List V → Hp → VK → Prop := fun x vs H Q => ∃ l xs y, x = .ref l ∧ vs = [] ∧ H l = some (.lst xs) ∧ xs[xs.length - 1]? = some y ∧ Q y (upd H l (.lst xs.dropLast))
def rPopAt : V → List V → Hp → VK → Prop := fun x vs H Q => ∃ l xs i k y, x = .ref l ∧ vs = [.int i] ∧ H l = some (.lst xs) ∧ -(2 ^ 63) ≤ i ∧ i < 2 ^ 63 ∧ seqIndex? i xs.length = some k ∧ xs[k]? = some y ∧ Q y (upd H l (.lst (xs.eraseIdx k)))
def rReverse : V → List V → Hp → VK → Prop := fun x vs H Q => ∃ l xs, x = .ref l ∧ vs = [] ∧ H l = some (.lst xs) ∧ Q .non (upd H l (.lst xs.reverse))
def rClear : V → List V → Hp → VK → Prop := fun x vs H Q => ∃ l xs, x = .ref l ∧ vs = [] ∧ H l = some (.lst xs) ∧ Q .non (upd H l (.lst []))
/-! ### list + list, list += list, list * int -/
def rCat : R2 := fun x y H Q => ∃ l b xs zs, x = .ref l ∧ y = .ref b ∧ H l = some (.lst xs) ∧ H b = some (.lst zs) ∧ xs.length + zs.length ≤ sizeLine ∧ ∀ p, H p = none → Q (.ref p) (upd H p (.lst (xs ++ zs)))
theorem op_cat : OpR X (binaryOp .Add) rCat := by
  intro pins s σ H x y v u Q I rx ry h
  obtain ⟨l, b, xs, zs, rfl, rfl, hH, hB, hz, q⟩ := h
  cases rx
  cases ry
  obtain ⟨z, its, n, r, hl, e⟩ := I.lstM hH
  obtain ⟨z2, its2, n2, r2, hl2, e2⟩ := I.lstM hB
  refine PySem.P.add_list e e2 ?_ (by rw [List.size_toArray, List.size_toArray]; omega)
  have ea : its.toArray ++ its2.toArray = (its ++ its2).toArray := by simp
  rw [ea]
  exact ⟨.ref _, _, I.lnew (t' := s.toks) (r.append r2) (by rw [List.length_append]; omega), rfl, q _ I.fresh⟩
/-- a list times an int (a negative one is nothing) -/
def rRep : R2 := fun x y H Q => ∃ l k xs, x = .ref l ∧ y = .int k ∧ H l = some (.lst xs) ∧ -(2 ^ 63) ≤ k ∧ k < 2 ^ 63 ∧ xs.length * k.toNat ≤ sizeLine ∧
  ∀ p, H p = none → Q (.ref p) (upd H p (.lst (List.replicate k.toNat xs).flatten))
/-! ### del xs[i] -/
end
/-! ### xs[a:b] = ys -/
section
variable {prog : Program} {w : World} {A : Around} {E : Value → Shared → Prop} {s : Shared}
set_option maxRecDepth 100000 in
end
section
variable {X : Cx}
end
end L2
namespace Att
open PySem PySem.W PySem.Calls PyProof.Rows
/-! ### the script -/
theorem ints_of_wellAll {P : Params} {h : Heap} : ∀ (ns : List Int) (vs : List Value), WellAll P h vs (ns.map WData.int) → IntsAre vs ns := by
  intro ns
  induction ns with
  | nil =>
    intro vs w
    rw [List.map_nil] at w
    cases w
    exact .nil
  | cons n ns ih =>
    intro vs w
    rw [List.map_cons] at w
    cases w with
    | cons a b =>
      cases a
      exact .cons _ _ (ih _ b)
theorem script_of {l : OpenLaw} {n : Nat} (hn : l.most = some n) {P : Params} {h : Heap} {args : List WData} {vals : List Value}
    (hpre : l.row.toRowW.claim.pre args = true) (hwl : WellAll P h vals args) :
    ∃ a vs ns, vals = [Value.ref a] ∧ args = [WData.list (ns.map WData.int)] ∧ h.get? a = some { cls := .type "list", data := .seq vs.toArray } ∧ IntsAre vs ns ∧ ns.length ≤ n := by
  have hsh : WShape.hasAll [] args [.list .int] = true := (pre_splitW hpre).1
  have hc : l.pre.holds [] { args := args } = true := (pre_splitW hpre).2
  obtain ⟨d, r, rfl, h1, h2⟩ := hasAllW_cons hsh
  obtain rfl := hasAllW_nil h2
  obtain ⟨xs, rfl, h3⟩ := hasW_list h1
  obtain ⟨ns, rfl⟩ := items_int h3
  have hlen : ns.length ≤ n := by
    unfold OpenLaw.pre at hc
    have h4 : (WTm.not (.lt (.lit (.int (n : Int))) (.len (.arg 0)))).holds [] { args := [.list (ns.map .int)] } = true := by
      have h4 := (holds_andW hc).1
      rw [hn] at h4
      exact h4
    have h5 := condW_of h4 (w_not (w_lt w_lit (w_len_list (w_arg rfl))))
    rw [List.length_map] at h5
    refine Nat.le_of_not_lt fun q => ?_
    have q' : (n : Int) < ((ns.length : Nat) : Int) := by omega
    first
      | (rw [decide_eq_true q'] at h5; exact absurd h5 (by decide))
      | (simp at h5; omega)
  cases hwl with
  | cons w1 w2 =>
    cases w2
    cases w1 with
    | list ho hall => exact ⟨_, _, ns, rfl, rfl, ho, ints_of_wellAll ns _ hall, hlen⟩
theorem post_true (l : OpenLaw) (args : List WData) : l.row.toRowW.claim.post args (.bool true) args = true :=
  postW_of (r := l.row.toRowW) (X := (true == true))
    (show WShape.has [] (.bool true) .bool = true by first | rfl | decide | simp [WShape.has, WShape.arms, WShape.armsAll])
    (show (WTm.eq .res (.lit (.bool true))).value [] { args := args, res := some (.bool true), after := args } = some (.bool (true == true)) from w_eq_bool (w_res rfl) w_lit) rfl
/-! ### the attachment: holds_open's last premise (the goal 'hc' behind k_head) from a wpAny of the law's body -/
/-- the same from a codeAny of the CALL (for a layer whose function contracts speak of calls) -/
theorem attach_call {l : OpenLaw} {n : Nat} {q : Program} {loose : List Str} {XP : (Str → Option Value) → Heap → Prop} {YP : World → Heap → Prop} {d : DefRec}
    (hn : l.most = some n) (hdf : d.params.defaults = [])
    (call : ∀ (w : World) (s₀ s₁ : Shared) (mg mb : Str → Option Value) (fa : Addr) (o : Obj) (pm cd doc : Value) (a : Addr) (vs : List Value) (ns : List Int),
      Ground q loose [] XP w s₀ mg mb s₁.heap → YP w s₁.heap →
      s₁.heap.get? fa = some o → o.data = .func (docDef d.name d.params d.body d.scope pm cd doc) → s₁.heap.CodeRec cd d.name → mg d.name = some (.ref fa) →
      s₁.heap.get? a = some { cls := .type "list", data := .seq vs.toArray } → IntsAre vs ns → ns.length ≤ n → s₁.gens = #[] →
      codeAny (model l.prog w) callerA (.call (.ref fa) ⟨[.ref a], []⟩) (fun r s' => r = .ok (.ret (.bool true)) ∧ OldK s₁.heap s'.heap ∧ s'.os = s₁.os ∧ AllBare s'.gens) s₁) :
    WalkO q loose XP YP l.row.toRowW d [] (fun f vs => PySem.call f vs) := by
  intro w s₀ s₁ mg mb G Y fa o pm cd doc dV kV ho hd hcd hD hmg hg args vals as hpre hlay hrd hwl hlo
  obtain rfl : dV = .none := Dflts.none hD hdf
  obtain rfl : kV = .none := Dflts.noKw hD
  obtain ⟨a, vs, ns, rfl, rfl, hobj, hints, hlen⟩ := script_of hn hpre hwl
  refine enter_call (codeAny_mono (call w s₀ s₁ mg mb fa o pm cd doc a vs ns G Y ho (fd_plain hd) hcd hmg hobj hints hlen hg) fun r s' hq => ?_)
  obtain ⟨rfl, h2, h3, h4⟩ := hq
  exact ⟨.inl ⟨.bool true, .bool true, [], rfl, fun _ => rfl, .bool true, post_true l _, fun _ => ⟨List.Pairwise.nil, fun _ hm => (nomatch hm)⟩⟩, h2, h3, h4⟩
/-! ### rules over ANY heap (no ledger) from facts about the written part K: the library's own take a ledger (News) for what they write -/
section
variable {prog : Program} {w : World} {A : Around} {E : Value → Shared → Prop} {s : Shared} {K : Frag}
/-! the whole heap as the ledger: makes every rule that writes through a ledger a rule over any heap -/
def noObjs (h : Heap) : Heap := { h with objs := #[] }
def ledger (h : Heap) (L d : Addr) : List (Addr × Obj) := (List.range h.objs.size).filterMap fun a => if a = L ∨ a = d then none else (h.get? a).map fun o => (a, o)
end
end Att
namespace L2
open PySem PySem.Spec PyProof.Rows
theorem vals_ints : ∀ {vs : List Value} {ns : List Int}, IntsAre vs ns → Vals (ns.map V.int) vs
  | _, _, .nil => .nil
  | _, _, .cons n t h => .cons ⟨t, rfl⟩ (vals_ints h)
/-- nothing is tracked but the script, known to the object (or it is an object of the module) -/
def Only (H : Hp) : Prop := ∀ b, H b = none ∨ ∃ o xs, H b = some (.frz o (.lst xs))
/-- THE HEAD: the law's promise, at the heap behind the top. F, the promise of the law's def, may use that base is part of the heap (so K.In base, base.Ns mainGlobals mg stand in Mod) -/
theorem law_call {P : Program} {w : World} {K : PySem.W.Frag} {mg mb : Str → Option Value} {CX : CXT} {k : Nat} {fa a : Addr} {fd : FuncData} {x : Str} {sp : Sp} {s₁ : Shared} {vs : List Value} {ns : List Int}
    (KX : K.In s₁.heap) (hns : s₁.heap.Ns mainGlobals mg) (hb : s₁.heap.Ns builtinsNs mb) (hbb : ∀ x : Str, x ≠ "__name__" → mb x = bootBuiltins x) (hlim : s₁.heap.NoLimit) (hg : s₁.gens = #[])
    (ha : s₁.heap.get? a = some { cls := .type "list", data := .seq vs.toArray }) (hi : IntsAre vs ns) (hl : ns.length ≤ sizeLine) (hr : Room k callerA)
    (F : ∀ base : Heap, K.In base → base.Ns mainGlobals mg → FnOk P w K mg base CX k fa fd [x] sp) (hbind : ∀ (s : Shared) (u : Value), BindsTo s fd ⟨[u], []⟩ [(x, u)])
    (hsp : ∀ H : Hp, Only H → SqL K H a (ns.map V.int) → sp [.ref a] H (fun v _ => v = .bl true) fun _ _ _ => False)
    (hCX : ∀ H e s', CX [] H s₁ (fun _ _ _ => False) e s' → False) :
    codeAny (model P w) callerA (.call (.ref fa) ⟨[.ref a], []⟩) (fun r s' => r = .ok (.ret (.bool true)) ∧ OldK s₁.heap s'.heap ∧ s'.os = s₁.os ∧ AllBare s'.gens) s₁ := by
  have rv := vals_ints hi
  have lenV := hi.length
  -- from an abstract heap in which nothing but the script may be tracked
  have core : ∀ H : Hp, Only H → SqL K H a (ns.map V.int) → HOk P w H s₁.heap → (∀ b, H b ≠ none → b = a) → (H a ≠ none → K.lookup a = none) →
      codeAny (model P w) callerA (.call (.ref fa) ⟨[.ref a], []⟩) (fun r s' => r = .ok (.ret (.bool true)) ∧ OldK s₁.heap s'.heap ∧ s'.os = s₁.os ∧ AllBare s'.gens) s₁ := by
    intro H hO hS hok hA hK
    have base_of : ∀ {b : Addr} {o : Obj}, s₁.heap.get? b = some o → H b = none → (hidT s₁.heap H).get? b = some o := fun e n => hidT_get e n
    have noA : ∀ {b : Addr} {o : Obj} {es : Array DictEntry} {ep : Nat}, s₁.heap.get? b = some o → o.data = .dict es ep → H b = none := fun {b o es ep} e d => by
      cases q : H b with
      | none => rfl
      | some u =>
        have e' : b = a := hA b (by rw [q]; simp)
        subst e'
        rw [ha] at e; cases e
        have d' : Data.seq vs.toArray _ = Data.dict es ep := d
        cases d'
    have nsK : ∀ {b : Addr} {m : Str → Option Value}, s₁.heap.Ns b m → (hidT s₁.heap H).Ns b m := fun {b m} ⟨o, es, ep, e, d, r⟩ => ⟨o, es, ep, base_of e (noA e d), d, r⟩
    have hKb : K.In (hidT s₁.heap H) := fun b o e => base_of (KX b o e) (by
      cases q : H b with
      | none => rfl
      | some u =>
        have e' : b = a := hA b (by rw [q]; simp)
        subst e'
        rw [hK (by rw [q]; simp)] at e; cases e)
    have hM : Mod K mg (hidT s₁.heap H) := ⟨hKb, nsK hns, ⟨mb, nsK hb, hbb⟩, let ⟨mc, h1, h2⟩ := hlim; ⟨mc, nsK h1, h2⟩⟩
    have e0 : Env0 P w K mg (hidT s₁.heap H) callerA [] s₁ H := ⟨rfl, hM, fun b o e => of_hidT e, Nat.le_of_eq (hidT_size _ _), trivial, fun b hb => absurd (show b ∈ ([] : List Addr) from hb) (by simp), hok, .of_eq hg⟩
    refine codeAny_mono ((F _ hKb (nsK hns)).run callerA [] s₁ H ⟨[.ref a], []⟩ [.ref a] [.ref a] _ _ hr e0 (hbind s₁ (.ref a)) (.cons rfl .nil) (hsp H hO hS)) fun r s' h => ?_
    cases r with
    | error e => exact (hCX H e s' h).elim
    | ok fl =>
      cases fl with
      | next => exact False.elim h
      | brk => exact False.elim h
      | cont => exact False.elim h
      | ret u =>
        obtain ⟨v, H', os, bare, un, hok', r', q⟩ := h
        have q' : v = .bl true := q
        subst q'
        obtain rfl : u = Value.bool true := r'
        refine ⟨rfl, OldK.of_keep fun b o e => ?_, os, bare⟩
        cases q : H b with
        | none => exact un.keep b o e q (by intro z; exact absurd (show b ∈ ([] : List Addr) from z) (by simp)) (by simp)
        | some u =>
          rcases hO b with z | ⟨ob, xs, z⟩
          · rw [q] at z; cases z
          · have z2 := un.frzs b ob _ z
            obtain ⟨e1, _⟩ := hok b _ z
            obtain ⟨e2, _⟩ := hok' b _ z2
            rw [e] at e1; cases e1
            exact e2
  cases hk : K.lookup a with
  | some o =>
    -- the script is one of the module's own objects
    have e := KX a o hk
    rw [ha] at e
    cases e
    refine core (fun _ => none) (fun _ => .inl rfl) (.inr ⟨_, vs.toArray, _, hk, rfl, rfl, rfl, by rw [List.size_toArray, lenV]; exact hl, by simpa using rv⟩) (fun b u z => by have z' : (none : Option HO) = some u := z; cases z') (fun b z => absurd rfl z) fun z => absurd rfl z
  | none =>
    refine core (fun b => if b = a then some (.frz { cls := .type "list", data := .seq vs.toArray } (.lst (ns.map V.int))) else none) (fun b => ?_) (.inl (.inr ⟨{ cls := .type "list", data := .seq vs.toArray }, if_pos rfl⟩)) (fun b u z => ?_) (fun b z => ?_) fun _ => hk
    · by_cases hb : b = a
      · exact .inr ⟨_, _, if_pos hb⟩
      · exact .inl (if_neg hb)
    · by_cases hb : b = a
      · have z' := (if_pos hb).symm.trans z
        cases z'
        subst hb
        exact ⟨ha, by rw [List.length_map]; exact hl, vs, _, rv, ha⟩
      · have z' := (if_neg hb).symm.trans z
        cases z'
    · by_cases hb : b = a
      · exact hb
      · exact absurd (if_neg hb) z
end L2
namespace L2
open PySem PySem.Spec PyProof.Rows
abbrev KOf {K : PySem.W.Frag} {h : Heap} (_ : K.In h) : PySem.W.Frag := K
/-- the goal that k_head leaves (case hc), from the law's promise. F gives the function object fd (K's own) once, then the promise over every base -/
theorem walk_of {l : PySem.W.OpenLaw} {n k : Nat} {q : Program} {loose : List Str} {XP : (Str → Option Value) → Heap → Prop} {YP : World → Heap → Prop} {d : DefRec} {K : Params → PySem.W.Frag} {CX : World → CXT} {sp : World → Sp} {x : Str}
    (hn : l.most = some n) (hn2 : n ≤ sizeLine) (hdf : d.params.defaults = []) (hr : Room k callerA)
    (hY : ∀ (w : World) (h : Heap), YP w h → (K w.params).In h)
    (F : ∀ (w : World) (mg : Str → Option Value) (fa : Addr) (h : Heap), (K w.params).In h → h.Ns mainGlobals mg → mg d.name = some (.ref fa) →
      ∃ fd : FuncData, (∀ (s : Shared) (u : Value), BindsTo s fd ⟨[u], []⟩ [(x, u)]) ∧
        ∀ base : Heap, (K w.params).In base → base.Ns mainGlobals mg → FnOk l.prog w (K w.params) mg base (CX w) k fa fd [x] (sp w))
    (hsp : ∀ (w : World) (H : Hp) (a : Addr) (ns : List Int), ns.length ≤ n → Only H → SqL (K w.params) H a (ns.map V.int) → sp w [.ref a] H (fun v _ => v = .bl true) fun _ _ _ => False)
    (hCX : ∀ (w : World) (H : Hp) (s : Shared) (e : Value) (s' : Shared), CX w [] H s (fun _ _ _ => False) e s' → False) :
    PySem.W.WalkO q loose XP YP l.row.toRowW d [] (fun f vs => PySem.call f vs) := by
  refine Att.attach_call hn hdf fun w s₀ s₁ mg mb fa o pm cd doc a vs ns G Y ho hd hcd hmg hobj hints hlen hg => ?_
  have KX := hY w _ Y
  obtain ⟨fd, hb, hF⟩ := F w mg fa _ KX G.T.g hmg
  exact law_call KX G.T.g G.T.b G.T.builtins G.T.nolimit hg hobj hints (Nat.le_trans hlen hn2) hr hF hb (fun H hO hS => hsp w H a ns hlen hO hS) fun H e s' => hCX w H s₁ e s'
end L2
/- THE LAST THEOREM (shape; LID, My.* are yours):
   My.Adr: a structure of the addresses that your layer names (classes, functions); My.Txt K t: a structure (Prop) of the equations over K;
   My.txt_mk : {K} {implicit addresses ..} (e1 : nsIn K mainGlobals "law" = some (some (.ref f))) (e2 : K.lookup f = some ⟨oc, od, .func (fnOf "law" "law" params body scope dV kV doc pm an cdv ct), sl⟩) (e3 : codeIn K cdv "law" = true) .. : ∃ t, My.Txt K t
set_option maxRecDepth 100000 in
set_option maxHeartbeats 0 in
theorem PySem.Challenge.cw_LID_holds : PySem.Challenge.rw_LID.Holds := by
  w_on; o_law; k_head; (case hw => w_witness2)
  k_fill
  refine L2.walk_of (l := PySem.Challenge.rw_LID) (n := 63) (k := 40) (x := "script") (CX := fun w => ..) (sp := fun _ => My.sp_law) rfl (by decide) rfl ⟨rfl, by decide, by decide⟩ (fun w h Y => PySem.W.kIn_of Y) ?F ?S ?C
  case F =>
    intro w mg fa h KX G hmg
    have T : ∃ t, My.Txt (L2.KOf KX) t := by
      dsimp only [L2.KOf]                          -- K must stand as «<heap const> w.params» for k_is
      refine' My.txt_mk ?e1 ?e2 ?e3 ..
      (case e1 => PySem.W.k_is)                    -- in the order: a name -> its address -> its object -> its parts
      (case e2 => PySem.W.k_is)
      ..
    obtain ⟨t, T⟩ := T
    have e0 := hmg.symm.trans (PySem.W.mg_of KX G T.law)
    cases e0                                       -- fa is the law's own address
    exact ⟨_, fun s u => .of_eq rfl, fun base kb nb => My.law_fn T kb nb⟩     -- if «.of_eq rfl» comes too early: refine' ⟨_, ?b, fun base kb nb => My.law_fn T kb nb⟩; exact fun s u => .of_eq rfl
  case S => exact fun w H a ns hl hO hS => ..
  case C => exact ..
(the tactic k_is has no namespace: write k_is) -/
/-! SHORT WORDS over the layer: a def of the text, its body, what a loop and a test want. -/
namespace L2
open PySem PySem.Spec PyProof.Rows
/-! ### the text by places -/
/-- the j-th statement of a class's body -/
def inClass (s : Stmt) (j : Nat) : Stmt := match s with
  | .ClassDef _ _ _ body _ _ _ _ _ _ _ => body.getD j (.Pass ⟨0, 0, 0, 0⟩)
  | _ => .Pass ⟨0, 0, 0, 0⟩
def defArgs (s : Stmt) : Arguments := match s with
  | .FunctionDef _ a _ _ _ _ _ _ _ _ => a
  | _ => { posonlyargs := [], args := [], vararg := none, kwonlyargs := [], kw_defaults := [], kwarg := none, defaults := [] }
def defBody (s : Stmt) : List Stmt := match s with
  | .FunctionDef _ _ b _ _ _ _ _ _ _ => b
  | _ => []
def defScope (s : Stmt) : Scope := match s with
  | .FunctionDef _ _ _ _ _ _ sc _ _ _ => sc
  | _ => { kind := .function, names := [], isGenerator := false, isCoroutine := false }
/-! ### no exception leaves a def -/
abbrev CX0 : CXT := fun _ _ _ _ _ _ => False
abbrev E0 : XK := fun _ _ _ => False
theorem pass0 {X : Cx} : Passes CX0 X E0 := fun _ _ _ _ _ _ _ h => h.elim
/-! ### a def (or method) of the text as it stands behind the top -/
structure Fun (K : PySem.W.Frag) (x qual : Str) (st : Stmt) (f : Addr) (fd : FuncData) : Prop where
  ex : ∃ (oc : Value) (od : Option Addr) (kV doc pm : Value) (an : Option Addr) (cdv ct : Value) (osl : Array (Option Value)),
    fd = PySem.W.fnOf x qual (defArgs st) (defBody st) (defScope st) .none kV doc pm an cdv ct ∧ K.lookup f = some ⟨oc, od, .func fd, osl⟩ ∧ PySem.W.codeIn K cdv qual = true
  kp : PySem.W.keepIn K (.ref f) = true
section
variable {P : Program} {w : World} {K : PySem.W.Frag} {mg : Str → Option Value} {base : Heap}
/-- THE RULE for a def: its body as a term of rules, and the reading of that term -/
theorem Fun.ok {x qual : Str} {st : Stmt} {f : Addr} {fd : FuncData} {N ps : List Str} {k : Nat} {sp : Sp} (F : Fun K x qual st f fd) (S : FnScope N ps (defScope st)) (len : ∀ vs H Q E, sp vs H Q E → vs.length = ps.length)
    (hbody : ∀ (cdv : Value) (A : Around) (outer : List Env) (s : Shared) (H : Hp) (vs : List V) (Q : VK) (E : XK), Room k (A.deeper (envOfC qual (defScope st) s.heap.objs.size f cdv)) → sp vs H Q E →
      ∃ t, PSs (cxOf CX0 P w K mg base N qual (defScope st) f cdv A outer s H E).nox (defBody st) t ∧ t { nx := fun _ H' => Q .non H', rt := Q } (start N vs) H) : FnOk P w K mg base CX0 (k + 1) f fd ps sp := by
  obtain ⟨oc, od, kV, doc, pm, an, cdv, ct, osl, rfl, lk, hcd⟩ := F.ex
  refine fn_of lk hcd S len fun A outer s H vs Q E hr hsp => ?_
  obtain ⟨t, h, q⟩ := hbody cdv A outer s H vs Q E hr hsp
  exact ⟨t, h.nox, q⟩
/-- how its arguments bind (no defaults): h is «fun _ _ _ _ _ _ us hl => match us, hl with | [_, _], _ => rfl», one _ a parameter -/
theorem Fun.binds {x qual : Str} {st : Stmt} {f : Addr} {fd : FuncData} {ps : List Str} (F : Fun K x qual st f fd)
    (h : ∀ (kV doc pm : Value) (an : Option Addr) (cdv ct : Value) (us : List Value), us.length = ps.length → bindArgs (PySem.W.fnOf x qual (defArgs st) (defBody st) (defScope st) .none kV doc pm an cdv ct) ⟨us, []⟩ = pure (ps.zip us)) : Binds K fd ps [] := by
  obtain ⟨oc, od, kV, doc, pm, an, cdv, ct, osl, rfl, lk, hcd⟩ := F.ex
  exact .all (h kV doc pm an cdv ct)
theorem fun_mk {x qual : Str} {st : Stmt} {f : Addr} {oc : Value} {od an : Option Addr} {osl : Array (Option Value)} {kV doc pm cdv ct : Value} (l : K.lookup f = some ⟨oc, od, .func (PySem.W.fnOf x qual (defArgs st) (defBody st) (defScope st) .none kV doc pm an cdv ct), osl⟩)
    (c : PySem.W.codeIn K cdv qual = true) (k : PySem.W.keepIn K (.ref f) = true) : Fun K x qual st f (PySem.W.fnOf x qual (defArgs st) (defBody st) (defScope st) .none kV doc pm an cdv ct) := ⟨⟨oc, od, kV, doc, pm, an, cdv, ct, osl, rfl, l, c⟩, k⟩
end
theorem hu_of {A : Around} {k : Nat} (hr : Room k A) : A.units + 1 < cLine := Nat.lt_of_le_of_lt (Nat.add_le_add_left (by decide : 1 ≤ 64) _) hr.units
theorem small1000 {n : Nat} (h : n ≤ 1000) : n < sizeLine := Nat.lt_of_le_of_lt h (by decide)
/-! ### expressions in short: the name that stands in the i-th slot -/
section
variable {X : Cx}
theorem pv (i : Nat) {x : Str} {pos : Pos} (hN : X.N[i]? = some x := by rfl) (hv : Vis X.env.scope x := by first | exact Or.inl rfl | exact Or.inr (Or.inl rfl) | exact Or.inr (Or.inr rfl)) (hd : (x == ("__debug__" : Str)) = false := by decide)
    (hcd : (x == ("__classdict__" : Str)) = false := by decide) : PE X (.Name x pos) (tVar i) := pe_var hN hv hd hcd
end
/-! ### tests -/
theorem iteF {A B : Prop} (h : B) : if false = true then A else B := by
  rw [if_neg Bool.false_ne_true]
  exact h
theorem iteT {A B : Prop} (h : A) : if true = true then A else B := by
  rw [if_pos rfl]
  exact h
theorem ite2 {c A B : Prop} [Decidable c] (h1 : c → A) (h2 : ¬ c → B) : if c then A else B := by
  by_cases h : c
  · rw [if_pos h]
    exact h1 h
  · rw [if_neg h]
    exact h2 h
/-! ### heaps -/
/-- all that was tracked is as it was -/
def Same (H H' : Hp) : Prop := ∀ b o, H b = some o → H' b = some o
theorem Same.refl (H : Hp) : Same H H := fun _ _ h => h
theorem Same.trans {H H1 H2 : Hp} (a : Same H H1) (b : Same H1 H2) : Same H H2 := fun c o h => b c o (a c o h)
theorem Same.free {H H' : Hp} (e : Same H H') {l : Addr} (h : H' l = Option.none) : H l = Option.none := by
  cases q : H l with
  | none => rfl
  | some o =>
    rw [e l o q] at h
    cases h
theorem Same.seq {K : PySem.W.Frag} {H H' : Hp} {a : Addr} {xs : List V} (e : Same H H') (h : SqL K H a xs) : SqL K H' a xs := by
  rcases h with (h | ⟨o, h⟩) | h
  · exact .inl (.inl (e _ _ h))
  · exact .inl (.inr ⟨o, e _ _ h⟩)
  · exact .inr h
end L2
set_option Elab.async false
set_option linter.all false
set_option maxRecDepth 100000
namespace L2
open PySem PySem.Spec PyProof.Rows
/-! ### lists of pairs as tables -/
section
variable {κ : Type} [DecidableEq κ]
def valV (kvs : List (κ × V)) (k : κ) : Option V := (kvs.find? fun kv => decide (kv.1 = k)).map (·.2)
/-- in its place, or at the end -/
def putK (kvs : List (κ × V)) (k : κ) (v : V) : List (κ × V) :=
  if (kvs.any fun kv => decide (kv.1 = k)) = true then kvs.map (fun kv => if kv.1 = k then (kv.1, v) else kv) else kvs ++ [(k, v)]
def dropK (kvs : List (κ × V)) (k : κ) : List (κ × V) := kvs.filter fun kv => decide (kv.1 ≠ k)
theorem valV_pos {p : κ × V} {r : List (κ × V)} {k : κ} (e : p.1 = k) : valV (p :: r) k = some p.2 := by simp [valV, List.find?_cons, e]
theorem valV_neg {p : κ × V} {r : List (κ × V)} {k : κ} (e : ¬ p.1 = k) : valV (p :: r) k = valV r k := by simp [valV, List.find?_cons, e]
theorem valV_any (k : κ) : ∀ kvs : List (κ × V), (kvs.any fun kv => decide (kv.1 = k)) = (valV kvs k).isSome
  | [] => rfl
  | p :: r => by
    rw [List.any_cons]
    by_cases e : p.1 = k
    · simp only [valV_pos e, decide_eq_true e, Bool.true_or, Option.isSome_some]
    · rw [valV_neg e, decide_eq_false e, Bool.false_or]; exact valV_any k r
theorem length_putK (kvs : List (κ × V)) (k : κ) (v : V) : (putK kvs k v).length ≤ kvs.length + 1 := by
  unfold putK
  split
  · rw [List.length_map]; omega
  · rw [List.length_append, List.length_cons, List.length_nil]; omega
theorem putK_new {kvs : List (κ × V)} {k : κ} (v : V) (h : valV kvs k = none) : putK kvs k v = kvs ++ [(k, v)] := by
  unfold putK
  rw [valV_any, h]
  exact if_neg (by decide)
theorem RelO.isSome_eq {o : Option V} {u : Option Value} (r : RelO o u) : o.isSome = u.isSome := by
  cases o with
  | none => cases u with
    | none => rfl
    | some _ => exact (show False from r).elim
  | some _ => cases u with
    | none => exact (show False from r).elim
    | some _ => rfl
theorem RelO.getD {o : Option V} {u : Option Value} {d : V} {d' : Value} (r : RelO o u) (rd : RelV d d') : RelV (o.getD d) (u.getD d') := by
  cases o with
  | none => cases u with
    | none => exact rd
    | some _ => exact (show False from r).elim
  | some _ => cases u with
    | none => exact (show False from r).elim
    | some _ => exact r
/-- raw tables of the same keys -/
theorem KV.val {kvs : List (κ × V)} {vs : List (κ × Value)} (r : KV kvs vs) (k : κ) : RelO (valV kvs k) (valueAt vs k) := by
  unfold KV at r
  induction r with
  | nil => exact True.intro
  | @cons p q ps qs h t ih =>
    obtain ⟨h1, h2⟩ := h
    by_cases e : p.1 = k
    · have e' : q.1 = k := h1.symm.trans e
      have b : valueAt (q :: qs) k = some q.2 := by simp [valueAt, List.find?_cons, e']
      rw [valV_pos e, b]; exact h2
    · have e' : ¬ q.1 = k := fun z => e (h1.trans z)
      have b : valueAt (q :: qs) k = valueAt qs k := by simp [valueAt, List.find?_cons, e']
      rw [valV_neg e, b]; exact ih
theorem KV.any {kvs : List (κ × V)} {vs : List (κ × Value)} (r : KV kvs vs) (k : κ) : (kvs.any fun kv => decide (kv.1 = k)) = vs.any fun kv => decide (kv.1 = k) := by
  unfold KV at r
  induction r with
  | nil => rfl
  | cons h t ih => rw [List.any_cons, List.any_cons, ih, h.1]
theorem KV.repl {kvs : List (κ × V)} {vs : List (κ × Value)} (r : KV kvs vs) (k : κ) {y : V} {u : Value} (ry : RelV y u) :
    KV (kvs.map fun kv => if kv.1 = k then (kv.1, y) else kv) (vs.map fun kv => if kv.1 = k then (kv.1, u) else kv) := by
  unfold KV at r ⊢
  induction r with
  | nil => exact .nil
  | @cons p q ps qs h t ih =>
    rw [List.map_cons, List.map_cons]
    refine .cons ?_ ih
    obtain ⟨h1, h2⟩ := h
    by_cases e : p.1 = k
    · rw [if_pos e, if_pos (h1.symm.trans e)]; exact ⟨h1, ry⟩
    · rw [if_neg e, if_neg (fun z => e (h1.trans z))]; exact ⟨h1, h2⟩
theorem KV.put {kvs : List (κ × V)} {vs : List (κ × Value)} (r : KV kvs vs) (k : κ) {y : V} {u : Value} (ry : RelV y u) : KV (putK kvs k y) (stored vs k u) := by
  unfold putK stored
  rw [r.any k]
  by_cases e : (vs.any fun kv => decide (kv.1 = k)) = true
  · rw [if_pos e, if_pos e]; exact r.repl k ry
  · rw [if_neg e, if_neg e]; exact Paired.snoc r ⟨rfl, ry⟩
theorem KV.drop {kvs : List (κ × V)} {vs : List (κ × Value)} (r : KV kvs vs) (k : κ) : KV (dropK kvs k) (without vs k) := by
  unfold KV at r ⊢
  unfold dropK without
  induction r with
  | nil => exact .nil
  | @cons p q ps qs h t ih =>
    obtain ⟨h1, h2⟩ := h
    rw [List.filter_cons, List.filter_cons]
    by_cases e : p.1 = k
    · have a : ¬ decide (p.1 ≠ k) = true := by simp [e]
      have b : ¬ decide (q.1 ≠ k) = true := by simp [h1.symm.trans e]
      rw [if_neg a, if_neg b]; exact ih
    · have e' : ¬ q.1 = k := fun z => e (h1.trans z)
      have a : decide (p.1 ≠ k) = true := by simp [e]
      have b : decide (q.1 ≠ k) = true := by simp [e']
      rw [if_pos a, if_pos b]; exact .cons ⟨h1, h2⟩ ih
theorem KV.keys {kvs : List (κ × V)} {vs : List (κ × Value)} (r : KV kvs vs) : kvs.map (·.1) = vs.map (·.1) := by
  unfold KV at r
  induction r with
  | nil => rfl
  | cons h t ih => rw [List.map_cons, List.map_cons, ih, h.1]
theorem KV.length {kvs : List (κ × V)} {vs : List (κ × Value)} (r : KV kvs vs) : kvs.length = vs.length := Paired.length r
end
/-! ### a tracked dict, its keys ints and texts or tuples of these -/
theorem kV_is {P : Program} {w : World} {k : Key} {u : Value} (r : RelV (kV k) u) : (mixKind P w).is k u = true := by
  cases k with
  | inl i => obtain ⟨t, e⟩ := (show ∃ t, u = Value.int i t from r); subst e; exact mixKind_int P w i t
  | inr x => obtain ⟨t, e⟩ := (show ∃ t, u = Value.str x t from r); subst e; exact mixKind_str P w x t
theorem items_are {P : Program} {w : World} : ∀ {ks : List Key} {us : List Value}, Vals (ks.map kV) us → ItemsAre (mixKind P w) ks us
  | [], _, r => by rw [List.map_nil] at r; cases r; exact .nil
  | k :: ks, _, r => by
    rw [List.map_cons] at r
    cases r with
    | cons h t => exact .cons (kV_is h) (items_are t)
/-- raw entries of a dict with tuple keys -/
abbrev KT (H : Hp) : List (List Key × V) → List (List Key × Addr × Value) → Prop := Paired fun p q => p.1 = q.1 ∧ H q.2.1 = some (.tup (p.1.map kV)) ∧ RelV p.2 q.2.2
theorem KT.val {H : Hp} {kvs : List (List Key × V)} {xs : List (List Key × Addr × Value)} (r : KT H kvs xs) (k : List Key) : RelO (valV kvs k) ((atKey xs k).map (·.2)) := by
  induction r with
  | nil => exact True.intro
  | @cons p q ps qs h t ih =>
    obtain ⟨h1, _, h2⟩ := h
    by_cases e : p.1 = k
    · have e' : q.1 = k := h1.symm.trans e
      have b : atKey (q :: qs) k = some q.2 := by simp [atKey, List.find?_cons, e']
      rw [valV_pos e, b]; exact h2
    · have e' : ¬ q.1 = k := fun z => e (h1.trans z)
      have b : atKey (q :: qs) k = atKey qs k := by simp [atKey, List.find?_cons, e']
      rw [valV_neg e, b]; exact ih
theorem KT.repl {H : Hp} {kvs : List (List Key × V)} {xs : List (List Key × Addr × Value)} (r : KT H kvs xs) (k : List Key) {y : V} {u : Value} (ry : RelV y u) :
    KT H (kvs.map fun kv => if kv.1 = k then (kv.1, y) else kv) (xs.map (putAt k u)) := by
  induction r with
  | nil => exact .nil
  | @cons p q ps qs h t ih =>
    rw [List.map_cons, List.map_cons]
    refine .cons ?_ ih
    obtain ⟨h1, h2, h3⟩ := h
    unfold putAt
    by_cases e : p.1 = k
    · rw [if_pos e, if_pos (h1.symm.trans e)]; exact ⟨h1, h2, ry⟩
    · rw [if_neg e, if_neg (fun z => e (h1.trans z))]; exact ⟨h1, h2, h3⟩
theorem KT.put {H : Hp} {kvs : List (List Key × V)} {xs : List (List Key × Addr × Value)} (r : KT H kvs xs) (k : List Key) {b : Addr} {y : V} {u : Value} (hb : H b = some (.tup (k.map kV))) (ry : RelV y u) :
    KT H (putK kvs k y) (storedH xs k b u) := by
  have e : (kvs.any fun kv => decide (kv.1 = k)) = (atKey xs k).isSome := by
    rw [valV_any, (r.val k).isSome_eq, Option.isSome_map]
  unfold putK storedH
  rw [e]
  by_cases q : (atKey xs k).isSome = true
  · rw [if_pos q, if_pos q]; exact r.repl k ry
  · rw [if_neg q, if_neg q]; exact Paired.snoc r ⟨rfl, hb, ry⟩
theorem KT.keeps {H H' : Hp} {kvs : List (List Key × V)} {xs : List (List Key × Addr × Value)} (r : KT H kvs xs) (ht : ∀ b ys, H b = some (.tup ys) → H' b = some (.tup ys)) : KT H' kvs xs :=
  Paired.mapP r fun _ _ z => ⟨z.1, ht _ _ z.2.1, z.2.2⟩
section
variable {P : Program} {w : World} {H : Hp} {h : Heap} {a : Addr}
theorem rd_of {u : HO} (ok : HOk P w H h) (e : Rd H a u) : ObjOk P w H h a u := e.ok ok
theorem dk_rd {kvs : List (Key × V)} (ok : HOk P w H h) (e : Rd H a (.dK kvs)) : kvs.length ≤ sizeLine ∧ (a == sysModules) = false ∧ ∃ vs, KV kvs vs ∧ h.DictOf (mixKind P w) a vs :=
  show ObjOk P w H h a (.dK kvs) from rd_of ok e
theorem dk_of {kvs : List (Key × V)} (ok : HOk P w H h) (e : H a = some (.dK kvs)) : kvs.length ≤ sizeLine ∧ (a == sysModules) = false ∧ ∃ vs, KV kvs vs ∧ h.DictOf (mixKind P w) a vs := dk_rd ok (.inl e)
/-- a tracked tuple of ints and texts is a key -/
theorem key_of {ks : List Key} (ok : HOk P w H h) (e : H a = some (.tup (ks.map kV))) : (tupleKind (mixKind P w)).is h ks a := by
  obtain ⟨_, its, r, o, h1, h2, n, h3⟩ := (show ObjOk P w H h a (.tup (ks.map kV)) from ok a _ e)
  exact ⟨o, its.toArray, n, h1, h2, h3, by simpa using items_are r⟩
theorem dt_rd {kvs : List (List Key × V)} (ok : HOk P w H h) (e : Rd H a (.dT kvs)) : kvs.length ≤ sizeLine ∧ (a == sysModules) = false ∧
    ∃ xs, KT H kvs xs ∧ h.DictOfH (tupleKind (mixKind P w)) a xs := by
  obtain ⟨z, y, xs, r, o, es, ep, h1, h2, h3, h4, h5⟩ := (show ObjOk P w H h a (.dT kvs) from rd_of ok e)
  refine ⟨z, y, xs, r, o, es, ep, h1, h2, h3, h4, fun x hx => ?_, h5⟩
  have all : ∀ {l : List (List Key × V)} {m : List (List Key × Addr × Value)}, KT H l m → ∀ x ∈ m, (tupleKind (mixKind P w)).is h x.1 x.2.1 := by
    intro l m q
    induction q with
    | nil => intro x hx; exact nomatch hx
    | @cons p q ps qs hq t ih =>
      intro x hx
      rcases List.mem_cons.mp hx with e | hx
      · subst e
        exact key_of ok (by rw [← hq.1]; exact hq.2.1)
      · exact ih x hx
  exact all r x hx
theorem dt_of {kvs : List (List Key × V)} (ok : HOk P w H h) (e : H a = some (.dT kvs)) : kvs.length ≤ sizeLine ∧ (a == sysModules) = false ∧
    ∃ xs, KT H kvs xs ∧ h.DictOfH (tupleKind (mixKind P w)) a xs := dt_rd ok (.inl e)
end
/-- what the dict at a holds at the key y -/
def DGet (H : Hp) (a : Addr) (y : V) (r : Option V) : Prop :=
  (∃ kvs k, Rd H a (.dK kvs) ∧ y = kV k ∧ r = valV kvs k) ∨ ∃ kvs k b, Rd H a (.dT kvs) ∧ y = .ref b ∧ H b = some (.tup (k.map kV)) ∧ r = valV kvs k
/-- the heap behind a[y] = v -/
def DPut (H : Hp) (a : Addr) (y v : V) (H' : Hp) : Prop :=
  (∃ kvs k, H a = some (.dK kvs) ∧ y = kV k ∧ kvs.length < sizeLine ∧ H' = upd H a (.dK (putK kvs k v))) ∨
  ∃ kvs k b, H a = some (.dT kvs) ∧ y = .ref b ∧ H b = some (.tup (k.map kV)) ∧ kvs.length < sizeLine ∧ H' = upd H a (.dT (putK kvs k v))
theorem DGet.k {H : Hp} {a : Addr} {kvs : List (Key × V)} {k : Key} (e : H a = some (.dK kvs)) : DGet H a (kV k) (valV kvs k) := .inl ⟨kvs, k, .inl e, rfl, rfl⟩
theorem DGet.t {H : Hp} {a b : Addr} {kvs : List (List Key × V)} {k : List Key} (e : H a = some (.dT kvs)) (eb : H b = some (.tup (k.map kV))) : DGet H a (.ref b) (valV kvs k) := .inr ⟨kvs, k, b, .inl e, rfl, eb, rfl⟩
theorem DPut.k {H : Hp} {a : Addr} {kvs : List (Key × V)} {k : Key} {v : V} (e : H a = some (.dK kvs)) (hl : kvs.length < sizeLine) : DPut H a (kV k) v (upd H a (.dK (putK kvs k v))) := .inl ⟨kvs, k, e, rfl, hl, rfl⟩
theorem DPut.t {H : Hp} {a b : Addr} {kvs : List (List Key × V)} {k : List Key} {v : V} (e : H a = some (.dT kvs)) (eb : H b = some (.tup (k.map kV))) (hl : kvs.length < sizeLine) :
    DPut H a (.ref b) v (upd H a (.dT (putK kvs k v))) := .inr ⟨kvs, k, b, e, rfl, eb, hl, rfl⟩
section
variable {X : Cx} {pins : List (Addr × Obj)} {σ : St} {H : Hp} {s : Shared} {a : Addr} {y v : V} {u r : Value} {o : Option V} {A : Around} {E : Value → Shared → Prop}
theorem Inv.big (I : Inv X pins σ H s) : sysModules < s.heap.objs.size := by
  have h : mainGlobals < s.heap.objs.size := (I.mod.glob.keeps I.bk).lt
  exact Nat.lt_trans (by decide) h
/-- d[y], there -/
theorem d_getItem {Q : Value → Shared → Prop} (hu : A.units + 1 < cLine) (I : Inv X pins σ H s) (g : DGet H a y (some v)) (ry : RelV y u) (h : ∀ w' s', Inv X pins σ H s' → RelV v w' → Q w' s') :
    wpAny (model X.prog X.w) A (getItem (.ref a) u) Q E s := by
  rcases g with ⟨kvs, k, e, ey, l⟩ | ⟨kvs, k, b, e, ey, eb, l⟩
  · subst ey
    obtain ⟨z, hd, vs, rel, dd⟩ := dk_rd I.hok e
    obtain ⟨w', hw, rw'⟩ := RelO.some_of (v := v) (o := valueAt vs k) (by rw [l]; exact rel.val k)
    exact wpAny_getItem_of (kV_is ry) dd.mapOf hw (h w' _ (I.tok _) rw')
  · subst ey
    cases (show u = Value.ref b from ry)
    obtain ⟨z, hd, xs, rel, dd⟩ := dt_rd I.hok e
    obtain ⟨w', hw, rw'⟩ := RelO.some_of (v := v) (o := (atKey xs k).map (·.2)) (by rw [l]; exact rel.val k)
    obtain ⟨p, hp, hp2⟩ := Option.map_eq_some_iff.mp hw
    refine wpAny_getItem_heap (tupleKind_room_in1 hu) (key_of I.hok eb) dd hp ?_
    rw [hp2]
    exact h w' _ (I.tok _) rw'
/-- y in d -/
theorem d_in {Q : Value → Shared → Prop} (hu : A.units + 1 < cLine) (I : Inv X pins σ H s) (g : DGet H a y o) (ry : RelV y u) (h : ∀ s', Inv X pins σ H s' → Q (.bool o.isSome) s') :
    wpAny (model X.prog X.w) A (compareOp .In u (.ref a)) Q E s := by
  rcases g with ⟨kvs, k, e, ey, l⟩ | ⟨kvs, k, b, e, ey, eb, l⟩
  · subst ey
    obtain ⟨z, hd, vs, rel, dd⟩ := dk_rd I.hok e
    refine wpAny_in_of (kV_is ry) hd dd.mapOf ?_
    rw [← (rel.val k).isSome_eq, ← l]
    exact h _ (I.tok _)
  · subst ey
    cases (show u = Value.ref b from ry)
    obtain ⟨z, hd, xs, rel, dd⟩ := dt_rd I.hok e
    refine wpAny_in_heap (tupleKind_room_in1 hu) (key_of I.hok eb) hd dd ?_
    have q := (rel.val k).isSome_eq
    rw [Option.isSome_map] at q
    rw [← q, ← l]
    exact h _ (I.tok _)
theorem d_notIn {Q : Value → Shared → Prop} (hu : A.units + 1 < cLine) (I : Inv X pins σ H s) (g : DGet H a y o) (ry : RelV y u) (h : ∀ s', Inv X pins σ H s' → Q (.bool (!o.isSome)) s') :
    wpAny (model X.prog X.w) A (compareOp .NotIn u (.ref a)) Q E s := by
  rcases g with ⟨kvs, k, e, ey, l⟩ | ⟨kvs, k, b, e, ey, eb, l⟩
  · subst ey
    obtain ⟨z, hd, vs, rel, dd⟩ := dk_rd I.hok e
    refine wpAny_notIn_of (kV_is ry) hd dd.mapOf ?_
    rw [← (rel.val k).isSome_eq, ← l]
    exact h _ (I.tok _)
  · subst ey
    cases (show u = Value.ref b from ry)
    obtain ⟨z, hd, xs, rel, dd⟩ := dt_rd I.hok e
    refine wpAny_notIn_heap (tupleKind_room_in1 hu) (key_of I.hok eb) hd dd ?_
    have q := (rel.val k).isSome_eq
    rw [Option.isSome_map] at q
    rw [← q, ← l]
    exact h _ (I.tok _)
/-- a dict's object is replaced -/
theorem d_write {h' : Heap} {t' : Nat} {ob : HO} (I : Inv X pins σ H s) (mu : Mut (H a)) (hs : Heap.SameBut a s.heap h') (he : ∃ q, h'.get? a = some q) (new : ObjOk X.prog X.w (upd H a ob) h' a ob) :
    Inv X pins σ (upd H a ob) { s with heap := h', toks := t' } :=
  I.write (x := a) (e := a) mu (.inl rfl) (fun b q hb z => (hs.2 b hb).trans z) he new
theorem dk_new {P : Program} {w : World} {H' : Hp} {h' : Heap} {kvs : List (Key × V)} {vs : List (Key × Value)} (z : kvs.length ≤ sizeLine) (hd : (a == sysModules) = false) (rel : KV kvs vs) (dd : h'.DictOf (mixKind P w) a vs) :
    ObjOk P w H' h' a (.dK kvs) := ⟨z, hd, vs, rel, dd⟩
/-- d[y] = v -/
theorem d_setItem {H' : Hp} {Q : Unit → Shared → Prop} (hu : A.units + 1 < cLine) (I : Inv X pins σ H s) (g : DPut H a y v H') (ry : RelV y u) (rv : RelV v r) (h : ∀ s', Inv X pins σ H' s' → Q () s') :
    wpAny (model X.prog X.w) A (setItem (.ref a) u r) Q E s := by
  rcases g with ⟨kvs, k, e, ey, l, eH⟩ | ⟨kvs, k, b, e, ey, eb, l, eH⟩
  · subst ey eH
    obtain ⟨z, hd, vs, rel, dd⟩ := dk_of I.hok e
    have hz : vs.length ≤ sizeLine := by rw [← rel.length]; exact z
    have hl : (putK kvs k v).length ≤ sizeLine := by have := length_putK kvs k v; omega
    refine wpAny_setItem_pairs (hsz := hz) (kV_is ry) dd fun h' dd' hs => h _ ?_
    have he : ∃ q, h'.get? a = some q := let ⟨q, _, _, hq, _⟩ := dd'; ⟨q, hq⟩
    exact d_write I (by rw [e]; exact True.intro) hs he (dk_new hl hd (rel.put k rv) dd')
  · subst ey eH
    cases (show u = Value.ref b from ry)
    obtain ⟨z, hd, xs, rel, dd⟩ := dt_of I.hok e
    have hz : xs.length ≤ sizeLine := by rw [← Paired.length rel]; exact z
    have hl : (putK kvs k v).length ≤ sizeLine := by have := length_putK kvs k v; omega
    refine wpAny_setItem_heap (hsz := hz) (tupleKind_room_in1 hu) (key_of I.hok eb) dd fun h' dd' hs => h _ ?_
    obtain ⟨q, es, ep, hq, h2, h3, h4, _, h5⟩ := dd'
    refine d_write I (by rw [e]; exact True.intro) hs ⟨q, hq⟩ ⟨hl, hd, _, (rel.put k eb rv).keeps fun c ys ec => ?_, q, es, ep, hq, h2, h3, h4, h5⟩
    rw [upd_ne (ne_of ec e (fun z => nomatch z))]
    exact ec
end
section
variable {X : Cx} {pins : List (Addr × Obj)} {σ : St} {H : Hp} {s : Shared} {a : Addr} {kvs : List (Key × V)} {k : Key} {u : Value} {A : Around} {E : Value → Shared → Prop}
/-- len(d) -/
theorem d_len {Q : Value → Shared → Prop} (I : Inv X pins σ H s) (e : Rd H a (.dK kvs)) (h : ∀ t s', Inv X pins σ H s' → Q (.int kvs.length t) s') : wpAny (model X.prog X.w) A (call (.builtin "len") [.ref a]) Q E s := by
  obtain ⟨z, hd, vs, rel, dd⟩ := dk_rd I.hok e
  refine call_len_dict hd dd (by rw [← rel.length]; rw [sizeLine_eq] at z; omega) ?_
  rw [← rel.length]
  exact h _ _ (I.tok _)
end
/-! ### readings and rules -/
/-- the element of a subscription, not a slice -/
def NoSl (i : Expr) : Prop := ∀ ov iv, subscripted i false ov iv = operate [ov, iv] (getItem ov iv)
theorem dict_typeIs {X : Cx} {pins : List (Addr × Obj)} {σ : St} {H : Hp} {s : Shared} {a : Addr} {y : V} {o : Option V} (I : Inv X pins σ H s) (g : DGet H a y o) : s.TypeIs (.ref a) "dict" := by
  rcases g with ⟨kvs, k, e, _, _⟩ | ⟨kvs, k, b, e, _, _, _⟩
  · obtain ⟨_, _, vs, _, dd⟩ := dk_rd I.hok e
    exact dd.typeIs
  · obtain ⟨_, _, xs, _, dd⟩ := dt_rd I.hok e
    exact dd.typeIs
/-- d[y] -/
def tDGet (td ty : TE) : TE := fun σ H Q => td σ H fun x H1 => ty σ H1 fun y H2 => ∃ a v, x = .ref a ∧ DGet H2 a y (some v) ∧ Q v H2
/-- y in d, y not in d -/
def tDIn (ty td : TE) : TE := fun σ H Q => ty σ H fun y H1 => td σ H1 fun x H2 => ∃ a o, x = .ref a ∧ DGet H2 a y o ∧ Q (.bl o.isSome) H2
def tDNotIn (ty td : TE) : TE := fun σ H Q => ty σ H fun y H1 => td σ H1 fun x H2 => ∃ a o, x = .ref a ∧ DGet H2 a y o ∧ Q (.bl (!o.isSome)) H2
/-- d[y] = v -/
def sDPut (td ty tv : TE) : TS := fun D σ H => tv σ H fun v H1 => td σ H1 fun x H2 => ty σ H2 fun y H3 => ∃ a H4, x = .ref a ∧ DPut H3 a y v H4 ∧ D.nx σ H4
/-- d[y] op= v -/
def sDAug (td ty tv : TE) (rd : V → V → Hp → VK → Prop) : TS := fun D σ H => td σ H fun x H1 => ty σ H1 fun y H2 => ∃ a v, x = .ref a ∧ DGet H2 a y (some v) ∧
  tv σ H2 fun y2 H3 => rd v y2 H3 fun z H4 => ∃ H5, DPut H4 a y z H5 ∧ D.nx σ H5
/-- del d[y] -/
def sDDel (td ty : TE) : TS := fun D σ H => td σ H fun x H1 => ty σ H1 fun y H2 => ∃ a kvs k, x = .ref a ∧ H2 a = some (.dK kvs) ∧ y = kV k ∧ (valV kvs k).isSome = true ∧ D.nx σ (upd H2 a (.dK (dropK kvs k)))
section
variable {X : Cx} {o i e value : Expr} {pos pos' tpos : Pos} {td ty tv : TE}
end
/-! ### displays -/
theorem dk_empty {P : Program} {w : World} {H : Hp} (h : Heap) (hb : sysModules < h.objs.size) : ObjOk P w H (h.push { cls := .type "dict", data := .dict #[] }) h.objs.size (.dK []) :=
  ⟨Nat.zero_le _, beq_eq_false_iff_ne.mpr (Ne.symm (Nat.ne_of_lt hb)), [], .nil, Heap.DictOf.new h⟩
/-- {}, to be a dict of the kind that is wanted -/
def tDNewK : TE := fun _ H Q => ∀ p, H p = none → Q (.ref p) (upd H p (.dK []))
def tDNewT : TE := fun _ H Q => ∀ p, H p = none → Q (.ref p) (upd H p (.dT []))
section
variable {X : Cx} {pos : Pos}
theorem pe_dnewK : PE X (.Dict [] [] pos) tDNewK := fun pins s σ H Q I h =>
  wpAny_Dict_empty ⟨.ref s.heap.objs.size, _, I.laid (a := s.heap.objs.size) (o := .dK []) (t' := s.toks) (fun _ _ q => Heap.get?_push_of_some _ q) (Nat.le_refl _) (dk_empty s.heap I.big), rfl, h _ (I.hok.fresh (Nat.le_refl _))⟩
end
/-- the pairs of a display, from the left -/
def tPairs : List (TE × TE) → St → Hp → (List (V × V) → Hp → Prop) → Prop
  | [], _, H, Q => Q [] H
  | (tk, tv) :: r, σ, H, Q => tk σ H fun x H1 => tv σ H1 fun y H2 => tPairs r σ H2 fun ps H3 => Q ((x, y) :: ps) H3
abbrev VV : List (V × V) → List (Value × Value) → Prop := Paired fun p q => RelV p.1 q.1 ∧ RelV p.2 q.2
def PPs (X : Cx) (pos : Pos) (keys : List (Option Expr)) (values : List Expr) (trs : List (TE × TE)) : Prop :=
  ∀ (pins : List (Addr × Obj)) (s : Shared) (σ : St) (H : Hp) (Q : List (V × V) → Hp → Prop), Inv X pins σ H s → tPairs trs σ H Q →
    wpAny (model X.prog X.w) X.A (evalPairs (pairTrees keys values X.env pos)) (fun vs s' => ∃ ps H', Inv X pins σ H' s' ∧ VV ps vs ∧ Q ps H') X.xe s
def mergeK (kvs more : List (Key × V)) : List (Key × V) := more.foldl (fun acc kv => putK acc kv.1 kv.2) kvs
/-- {k: v, ..} with keys ints and texts; the new dict stands empty while the pairs are made -/
def tDisp (trs : List (TE × TE)) : TE := fun σ H Q => ∀ p, H p = none → tPairs trs σ (upd H p (.dK [])) fun ps H2 => H2 p = some (.dK []) ∧ ∃ kvs : List (Key × V), ps = kvs.map (fun kv => (kV kv.1, kv.2)) ∧ kvs.length ≤ 15 ∧ Q (.ref p) (upd H2 p (.dK (mergeK [] kvs)))
/-! ### methods -/
/-- a method call o.m(e) of a built-in, with one argument: what must be seen of the text -/
structure M1 (X : Cx) (o : Expr) (m : Str) (apos : Pos) (e : Expr) (cpos : Pos) : Prop where
  base : attributeBase o m X.env (eval o X.env) = eval o X.env
  few : ((backTo cpos (starEach [e] X.env)).all (fun x => !x.1) && (backToKw cpos (keywordEach [] X.env)).all (fun x => x.1.isSome)
    && decide (([e] : List Expr).length + ([] : List Keyword).length + (if ([] : List Keyword).isEmpty then 0 else 1) < 30)) = true
  line : (apos.endLine == cpos.line) = true
  trees : backTo cpos (starEach [e] X.env) = [(false, eval e X.env)]
structure M2 (X : Cx) (o : Expr) (m : Str) (apos : Pos) (e f : Expr) (cpos : Pos) : Prop where
  base : attributeBase o m X.env (eval o X.env) = eval o X.env
  few : ((backTo cpos (starEach [e, f] X.env)).all (fun x => !x.1) && (backToKw cpos (keywordEach [] X.env)).all (fun x => x.1.isSome)
    && decide (([e, f] : List Expr).length + ([] : List Keyword).length + (if ([] : List Keyword).isEmpty then 0 else 1) < 30)) = true
  line : (apos.endLine == cpos.line) = true
  trees : backTo cpos (starEach [e, f] X.env) = [(false, eval e X.env), (false, eval f X.env)]
/-- a is a dict, whatever its keys -/
def IsD (H : Hp) (a : Addr) : Prop := (∃ kvs, Rd H a (.dK kvs)) ∨ ∃ kvs, Rd H a (.dT kvs)
section
variable {X : Cx} {pins : List (Addr × Obj)} {σ : St} {H : Hp} {s : Shared} {a : Addr} {y d : V} {u r : Value} {o : Option V} {A : Around} {E : Value → Shared → Prop}
end
def tDGet1 (td ty : TE) : TE := fun σ H Q => td σ H fun x H1 => ∃ a, x = .ref a ∧ IsD H1 a ∧ ty σ H1 fun y H2 => ∃ o, DGet H2 a y o ∧ Q (o.getD .non) H2
def tDGet2 (td ty tx : TE) : TE := fun σ H Q => td σ H fun x H1 => ∃ a, x = .ref a ∧ IsD H1 a ∧ ty σ H1 fun y H2 => tx σ H2 fun z H3 => ∃ o, DGet H3 a y o ∧ Q (o.getD z) H3
/-- d.pop(k): there; d.pop(k, x): there or not -/
def tDPop1 (td ty : TE) : TE := fun σ H Q => td σ H fun x H1 => ∃ a, x = .ref a ∧ IsD H1 a ∧ ty σ H1 fun y H2 => ∃ kvs k v, H2 a = some (.dK kvs) ∧ y = kV k ∧ valV kvs k = some v ∧ Q v (upd H2 a (.dK (dropK kvs k)))
def tDPop2 (td ty tx : TE) : TE := fun σ H Q => td σ H fun x H1 => ∃ a, x = .ref a ∧ IsD H1 a ∧ ty σ H1 fun y H2 => tx σ H2 fun z H3 => ∃ kvs k, H3 a = some (.dK kvs) ∧ y = kV k ∧
  (∀ v, valV kvs k = some v → Q v (upd H3 a (.dK (dropK kvs k)))) ∧ (valV kvs k = none → Q z H3)
section
variable {X : Cx} {o e f : Expr} {apos cpos : Pos} {td ty tx : TE}
end
/-! ### dict(d): a copy -/
section
variable {X : Cx} {pins : List (Addr × Obj)} {σ : St} {H : Hp} {s : Shared} {a : Addr} {kvs : List (Key × V)} {A : Around} {E : Value → Shared → Prop}
end
section
variable {X : Cx} {pins : List (Addr × Obj)} {σ : St} {H : Hp} {s : Shared} {a : Addr} {y : V} {u : Value} {A : Around} {E : Value → Shared → Prop}
end
end L2
namespace L2
open PySem PySem.Spec PyProof.Rows
section
variable {X : Cx}
/-- len of a dict -/
theorem call_lenD : CallR X (.builtin "len") (fun xs H Q => ∃ a kvs, xs = [V.ref a] ∧ H a = some (.dK kvs) ∧ Q (.int kvs.length) H) := by
  intro pins s σ H xs us Q I r h
  obtain ⟨a, kvs, rfl, ha, q⟩ := h
  obtain ⟨u, rfl, ru⟩ := vals1 r
  cases ru
  exact d_len I (.inl ha) fun t s' I' => ⟨.int kvs.length, H, I', ⟨t, rfl⟩, q⟩
end
end L2
namespace L2
open PySem PySem.Spec PyProof.Rows
/-! ### a dict's pairs: keys that differ -/
section
variable {κ : Type} [DecidableEq κ]
theorem valV_in {kvs : List (κ × V)} {k : κ} {v : V} (h : valV kvs k = some v) : k ∈ kvs.map (·.1) := by
  have q : (kvs.any fun kv => decide (kv.1 = k)) = true := by
    rw [valV_any, h]
    all_goals rfl
  obtain ⟨p, hp, e⟩ := List.any_eq_true.mp q
  exact List.mem_map.mpr ⟨p, hp, of_decide_eq_true e⟩
theorem nd_snoc : ∀ {l : List κ} {k : κ}, l.Nodup → ¬ k ∈ l → (l ++ [k]).Nodup
  | [], k, _, _ => by simp
  | a :: r, k, h, hk => by
    obtain ⟨h1, h2⟩ := List.nodup_cons.mp h
    show (a :: (r ++ [k])).Nodup
    refine List.nodup_cons.mpr ⟨fun m => ?_, nd_snoc h2 fun m => hk (List.mem_cons.mpr (Or.inr m))⟩
    rcases List.mem_append.mp m with q | q
    · exact h1 q
    · exact hk (List.mem_cons.mpr (Or.inl (List.mem_singleton.mp q).symm))
end
end L2
set_option Elab.async false
set_option linter.all false
set_option maxRecDepth 100000
set_option maxHeartbeats 4000000
/-! A list comprehension of one clause, no test: a rule over the hand layer. -/
namespace Rg
open PySem PySem.Spec PyProof.Rows L2
theorem forIn_pure {α β : Type} {f : α → β → Sem (ForInStep β)} (g : α → β → β) :
    ∀ (l : List α) (b : β), (∀ x ∈ l, ∀ c, f x c = pure (ForInStep.yield (g x c))) → forIn l b f = pure (l.foldl (fun c x => g x c) b)
  | [], b, _ => by rw [List.forIn_nil]; rfl
  | x :: r, b, h => by
    rw [List.forIn_cons, h x List.mem_cons_self b, pure_bind]
    show forIn r (g x b) f = _
    rw [forIn_pure g r (g x b) fun y hy c => h y (List.mem_cons_of_mem _ hy) c]
    rfl
/-- the cells that a block closes over -/
def clStep (cells : List (Str × Addr)) (c : List (Str × Addr)) (p : Str × NameKind) : List (Str × Addr) :=
  if (p.2 == NameKind.free) = true then (p.1, (cells.lookup p.1).getD 0) :: c else c
def clOf (cells : List (Str × Addr)) (names : List (Str × NameKind)) : List (Str × Addr) := names.foldl (clStep cells) []
theorem clos_is {scope : Scope} {env : Env} (h : ∀ p ∈ scope.names, p.2 = .free → ∃ c, env.cells.lookup p.1 = some c) :
    closureFor scope env = pure (clOf env.cells scope.names) := by
  unfold closureFor clOf
  dsimp only
  rw [forIn_pure (fun p c => clStep env.cells c p) scope.names [] (fun p hp c => ?_)]
  · rw [pure_bind]
  · obtain ⟨n, k⟩ := p
    unfold clStep
    by_cases hk : k = NameKind.free
    · subst hk
      obtain ⟨a, ha⟩ := h _ hp rfl
      have e : cellOf env n = pure a := by unfold cellOf; rw [ha]
      have hb : (NameKind.free == NameKind.free) = true := by decide
      simp only [hb, if_true, e, pure_bind, ha, Option.getD_some]
    · have hb : (k == NameKind.free) = false := by
        cases k <;> first | rfl | exact absurd rfl hk
      simp only [hb, Bool.false_eq_true, if_false]
theorem kind_free {k : NameKind} (h : (k == NameKind.free) = true) : k = .free := by
  cases k <;> first | rfl | cases h
theorem cl_sub {cells : List (Str × Addr)} : ∀ (names : List (Str × NameKind)) (acc : List (Str × Addr)), (∀ p ∈ names, p.2 = .free → ∃ c, cells.lookup p.1 = some c) →
    (∀ y c, acc.lookup y = some c → cells.lookup y = some c) → ∀ y c, (names.foldl (clStep cells) acc).lookup y = some c → cells.lookup y = some c
  | [], _, _, ha, y, c, h => ha y c h
  | p :: r, acc, hn, ha, y, c, h => by
    refine cl_sub r (clStep cells acc p) (fun q hq => hn q (List.mem_cons_of_mem _ hq)) (fun z d hz => ?_) y c h
    unfold clStep at hz
    by_cases hk : (p.2 == NameKind.free) = true
    · rw [if_pos hk] at hz
      obtain ⟨a, e⟩ := hn p List.mem_cons_self (kind_free hk)
      rw [List.lookup_cons] at hz
      cases hb : z == p.1 with
      | true =>
        rw [hb] at hz
        have ez : z = p.1 := eq_of_beq hb
        rw [e] at hz
        subst ez
        rw [e]
        exact hz
      | false => rw [hb] at hz; exact ha z d hz
    · rw [if_neg hk] at hz
      exact ha z d hz
theorem cl_has {cells : List (Str × Addr)} {y : Str} : ∀ (names : List (Str × NameKind)) (acc : List (Str × Addr)), ((y, NameKind.free) ∈ names ∨ (acc.lookup y).isSome = true) → ((names.foldl (clStep cells) acc).lookup y).isSome = true
  | [], _, h => by
    rcases h with h | h
    · exact absurd h (by simp)
    · exact h
  | p :: r, acc, h => by
    refine cl_has r (clStep cells acc p) ?_
    have key : (acc.lookup y).isSome = true → ((clStep cells acc p).lookup y).isSome = true := fun ha => by
      unfold clStep
      split
      · rw [List.lookup_cons]
        cases hb : y == p.1 with
        | true => rfl
        | false => exact ha
      · exact ha
    rcases h with h | h
    · rcases List.mem_cons.mp h with e | h
      · refine .inr ?_
        rw [← e]
        unfold clStep
        rw [if_pos (show (NameKind.free == NameKind.free) = true by decide), List.lookup_cons]
        simp
      · exact .inl h
    · exact .inr (key h)
/-- what a name's kind becomes in the block -/
theorem look_relabel {env : Env} {k : NameKind} {y : Str} : ∀ {names : List (Str × NameKind)}, names.lookup y = some k →
    (names.map fun (n, k) => if (k == NameKind.free && env.scope.kind == .function && env.kindOf n == some .cell) then (n, NameKind.cell) else (n, k)).lookup y
      = some (if (k == NameKind.free && env.scope.kind == .function && env.kindOf y == some .cell) = true then NameKind.cell else k)
  | [], h => by simp at h
  | (n, j) :: r, h => by
    rw [List.lookup_cons] at h
    rw [List.map_cons]
    cases hb : y == n with
    | true =>
      rw [hb] at h
      have e : y = n := eq_of_beq hb
      subst e
      have ej : j = k := Option.some.inj h
      subst ej
      by_cases hc : (j == NameKind.free && env.scope.kind == .function && env.kindOf y == some .cell) = true
      · simp only [hc, if_true, List.lookup_cons, hb]
      · simp only [hc, List.lookup_cons, hb, if_false, Bool.false_eq_true]
    | false =>
      rw [hb] at h
      have ih := look_relabel (env := env) (names := r) h
      by_cases hc : (j == NameKind.free && env.scope.kind == .function && env.kindOf n == some .cell) = true
      · simp only [hc, if_true, List.lookup_cons, hb]; exact ih
      · simp only [hc, List.lookup_cons, hb, if_false, Bool.false_eq_true]; exact ih
theorem none_relabel {env : Env} {y : Str} : ∀ {names : List (Str × NameKind)}, names.lookup y = none →
    (names.map fun (n, k) => if (k == NameKind.free && env.scope.kind == .function && env.kindOf n == some .cell) then (n, NameKind.cell) else (n, k)).lookup y = none
  | [], _ => rfl
  | (n, j) :: r, h => by
    rw [List.lookup_cons] at h
    rw [List.map_cons]
    cases hb : y == n with
    | true => rw [hb] at h; cases h
    | false =>
      rw [hb] at h
      have ih := none_relabel (env := env) (names := r) h
      by_cases hc : (j == NameKind.free && env.scope.kind == .function && env.kindOf n == some .cell) = true
      · simp only [hc, if_true, List.lookup_cons, hb]; exact ih
      · simp only [hc, List.lookup_cons, hb, if_false, Bool.false_eq_true]; exact ih
theorem relabel_free {scope : Scope} {env : Env} {y : Str} (h : scope.names.lookup y = some .free) : (relabel scope env).names.lookup y = some .cell ∨ (relabel scope env).names.lookup y = some .free := by
  have q := look_relabel (env := env) h
  unfold relabel
  by_cases hc : (NameKind.free == NameKind.free && env.scope.kind == .function && env.kindOf y == some .cell) = true
  · exact .inl (q.trans (by rw [if_pos hc]))
  · exact .inr (q.trans (by rw [if_neg hc]))
theorem free_relabel {scope : Scope} {env : Env} {y : Str} (hn : ∀ z ∈ scope.names, z.2 ≠ .cell) (h : (relabel scope env).names.lookup y = some .cell ∨ (relabel scope env).names.lookup y = some .free) : scope.names.lookup y = some .free := by
  unfold relabel at h
  cases e : scope.names.lookup y with
  | none =>
    have q := none_relabel (env := env) e
    rcases h with h | h
    · exact absurd (q.symm.trans h) (by simp)
    · exact absurd (q.symm.trans h) (by simp)
  | some k =>
    have q := look_relabel (env := env) e
    have hk : k ≠ .cell := hn _ (PySem.mem_of_lookup e)
    by_cases hc : (k == NameKind.free && env.scope.kind == .function && env.kindOf y == some .cell) = true
    · have : (k == NameKind.free) = true := by
        rw [Bool.and_eq_true, Bool.and_eq_true] at hc
        exact hc.1.1
      rw [kind_free this]
    · rw [if_neg hc] at q
      rcases h with h | h
      · exact absurd (Option.some.inj (q.symm.trans h)) hk
      · rw [Option.some.inj (q.symm.trans h)]
/-- the block's names: the loop's, then those of the def that it closes over (with their slots there) -/
def blkN (x : Str) (fr : List (Str × Nat)) : List Str := x :: fr.map (·.1)
def blkS (v : Option V) (fr : List (Str × Nat)) (σ : L2.St) : L2.St := v :: fr.map fun p => (σ[p.2]?).getD none
def blk (X : Cx) (x : Str) (fr : List (Str × Nat)) (scope : Scope) (fp : List Addr) (C : Addr) (s : Shared) (H : Hp) : Cx where
  prog := X.prog
  w := X.w
  K := X.K
  mg := X.mg
  base := X.base
  A := X.A
  N := blkN x fr
  s₀ := s
  H₀ := H
  env := compEnvC scope (clOf X.env.cells scope.names) C X.env
  outer := X.stack
  stack := X.stack
  ex := fp
  fn := fun _ => false
  calm := X.calm
  pn := []
  xe := fun _ _ => False
/-- what must be seen of the text -/
structure LcOk (X : Cx) (x : Str) (fr : List (Str × Nat)) (scope : Scope) : Prop where
  nocell : ∀ y ∈ scope.names, y.2 ≠ .cell
  kind : scope.kind = .function
  nm : ∀ y ∈ scope.names, y.2 = .local → scope.names.lookup y.1 = some .local
  hx : scope.names.lookup x = some .local
  nd : (blkN x fr).Nodup
  free : ∀ y ∈ scope.names, y.2 = .free → X.env.scope.names.lookup y.1 = some .cell ∨ X.env.scope.names.lookup y.1 = some .free
  fr : ∀ p ∈ fr, X.N[p.2]? = some p.1 ∧ scope.names.lookup p.1 = some .free
def tLc (fr : List (Str × Nat)) (wi : TI) (te : TE) : TE := fun σ H Q => wi σ H fun J H1 => ∃ W : Nat → Nat → List V → Hp → Prop, (∃ m, W 0 m [] H1) ∧ ∀ i m ys H, W i m ys H →
  (J.stop i H ∧ ys.length ≤ sizeLine ∧ ∀ p, H p = none → Q (.ref p) (upd H p (.lst ys))) ∨
  (J.go i H ∧ ys.length < sizeLine ∧ ∃ N : V → Hp → Prop, (∀ y H2, N y H2 → ∃ m', m' < m ∧ W (i + 1) m' (ys ++ [y]) H2) ∧ ∀ v H', J.yld i H v H' → te (blkS (some v) fr σ) H' N)
section
variable {prog : Program} {w : World} {A : Around} {R : Result → Shared → Prop} {s : Shared}
theorem lc_loop {elt target iter : Expr} {scope : Scope} {pos : Pos} {it acc : Value} {env : Env} (I : Nat → Shared → Prop)
    (turn : ∀ n t, I n t → wpAny (model prog w) A (pyNext it) (fun r s₁ => match r with
      | none => R (.ok .next) s₁
      | some v => wpAny (model prog w) A (letOwnedTupleGo target it v) (fun _ s₂ => wpAny (model prog w) A (assign target env v) (fun _ s₃ => wpAny (model prog w) A (eval elt env) (fun y s₄ =>
          wpAny (model prog w) A (call (.builtin "list.append") [acc, y]) (fun _ s₅ => ∃ m, m < n ∧ I m s₅) (fun _ _ => False) s₄) (fun _ _ => False) s₃) (fun _ _ => False) s₂) (fun _ _ => False) s₁) (fun _ _ => False) t)
    (n : Nat) (h : I n s) : codeAny (model prog w) A (.compLoop (.ListComp elt [⟨target, iter, [], 0⟩] scope pos) 0 it acc env) R s := by
  refine codeAny_loop rfl I (fun k t hI => ?_) n h
  show wpAny _ _ ((compTurn (.ListComp elt [⟨target, iter, [], 0⟩] scope pos) 0 it acc env).onRaise (fun x => do noteFrame x env; theTreesLotGoes x)) _ _ t
  refine wpAny_noted ?_
  rw [compTurn_list1]
  refine wpAny_bind (wpAny_standAt (wpAny_bind (wpAny_mono (turn k t hI) (fun r s₁ h₁ => ?_) fun _ _ z => z.elim)))
  cases r with
  | none => exact wpAny_pure h₁
  | some v =>
    refine wpAny_bind (wpAny_mono h₁ (fun _ s₂ h₂ => ?_) fun _ _ z => z.elim)
    refine wpAny_bind (wpAny_mono h₂ (fun _ s₃ h₃ => ?_) fun _ _ z => z.elim)
    refine wpAny_bind (wpAny_bind (wpAny_mono h₃ (fun y s₄ h₄ => ?_) fun _ _ z => z.elim))
    refine wpAny_bind (wpAny_mono h₄ (fun _ s₅ h₅ => ?_) fun _ _ z => z.elim)
    exact wpAny_pure (wpAny_pure ⟨rfl, h₅⟩)
end
theorem un_tail {fs ex : List Addr} {H H' : Hp} {h h1 h2 : Heap} {C D : Addr} {o : HO} (u : Un fs ex H H' h h1) (hC : h.objs.size ≤ C) (hD : h.objs.size ≤ D) (hn : H' D = none) (sb : Heap.SameBut C h1 h2) : Un fs ex H (upd H' D o) h h2 where
  keep := fun b ob q n hf hx => (sb.2 b (Nat.ne_of_lt (Nat.lt_of_lt_of_le (Heap.lt_size q) hC))).trans (u.keep b ob q n hf hx)
  slot := fun b ob q n hf hx => by
    obtain ⟨sl, e⟩ := u.slot b ob q n hf hx
    exact ⟨sl, (sb.2 b (Nat.ne_of_lt (Nat.lt_of_lt_of_le (Heap.lt_size q) hC))).trans e⟩
  free := fun b ob q n hx => by
    rw [upd_ne (Nat.ne_of_lt (Nat.lt_of_lt_of_le (Heap.lt_size q) hD))]
    exact u.free b ob q n hx
  there := fun b ob q hx => by
    obtain ⟨o', e⟩ := u.there b ob q hx
    exact ⟨o', (sb.2 b (Nat.ne_of_lt (Nat.lt_of_lt_of_le (Heap.lt_size q) hC))).trans e⟩
  tups := fun b xs q => by
    have z := u.tups b xs q
    rw [upd_ne (ne_of_none z hn)]; exact z
  frzs := fun b ob v q => by
    have z := u.frzs b ob v q
    rw [upd_ne (ne_of_none z hn)]; exact z
  tbls := fun b ps q => by
    obtain ⟨more, z⟩ := u.tbls b ps q
    exact ⟨more, by rw [upd_ne (ne_of_none z hn)]; exact z⟩
section
variable {X : Cx} {elt iter : Expr} {x : Str} {px pos : Pos} {scope : Scope} {fr : List (Str × Nat)} {wi : TI} {te : TE}
end
end Rg
set_option Elab.async false
set_option linter.all false
set_option maxRecDepth 100000
set_option maxHeartbeats 4000000
/-! Things as data, and how a tracked heap bears them. -/
namespace Rg
open PySem L2
mutual
inductive Th where
  | num (i : Int)
  | word (x : Str)
  | row (l : Ts)
  | dic (l : Ts)
/-- what a row or a record holds, in order (in a row the fields are not looked at) -/
inductive Ts where
  | nil
  | cons (k : Str) (t : Th) (r : Ts)
end
mutual
def Th.size : Th → Nat
  | .num _ => 1
  | .word _ => 1
  | .row l => l.size + 1
  | .dic l => l.size + 1
def Ts.size : Ts → Nat
  | .nil => 0
  | .cons _ t r => t.size + r.size
end
def Ts.len : Ts → Nat
  | .nil => 0
  | .cons _ _ r => r.len + 1
def Ts.keys : Ts → List Str
  | .nil => []
  | .cons k _ r => k :: r.keys
/-- in its place, or at the end -/
def Ts.put (k : Str) (t : Th) : Ts → Ts
  | .nil => .cons k t .nil
  | .cons j u r => if j = k then .cons j t r else .cons j u (r.put k t)
def Ts.app : Ts → Ts → Ts
  | .nil, m => m
  | .cons k t r, m => .cons k t (r.app m)
mutual
/-- within bounds: few things in each row and record, unlike and short fields -/
def Th.Ok : Th → Prop
  | .num _ => True
  | .word x => x.length ≤ 100
  | .row l => l.len ≤ 9 ∧ Ts.Ok l
  | .dic l => l.len ≤ 9 ∧ l.keys.Nodup ∧ Ts.Ok l
def Ts.Ok : Ts → Prop
  | .nil => True
  | .cons k t r => k.length ≤ 100 ∧ Th.Ok t ∧ Ts.Ok r
end
mutual
def Rep (H : Hp) : Th → V → Prop
  | .num i, v => v = .int i
  | .word x, v => v = .str x
  | .row l, v => ∃ a xs, v = .ref a ∧ H a = some (.lst xs) ∧ RepR H l xs
  | .dic l, v => ∃ a kvs, v = .ref a ∧ H a = some (.dK kvs) ∧ RepD H l kvs
def RepR (H : Hp) : Ts → List V → Prop
  | .nil, xs => xs = []
  | .cons _ t r, xs => ∃ y ys, xs = y :: ys ∧ Rep H t y ∧ RepR H r ys
def RepD (H : Hp) : Ts → List (Key × V) → Prop
  | .nil, kvs => kvs = []
  | .cons k t r, kvs => ∃ y ys, kvs = (Sum.inr k, y) :: ys ∧ Rep H t y ∧ RepD H r ys
end
mutual
theorem Rep.mono {H H' : Hp} (e : Same H H') : ∀ {t : Th} {v : V}, Rep H t v → Rep H' t v
  | .num _, _, h => h
  | .word _, _, h => h
  | .row l, _, h => by
    obtain ⟨a, xs, h1, h2, h3⟩ := (h : ∃ a xs, _ = V.ref a ∧ H a = some (.lst xs) ∧ RepR H l xs)
    exact ⟨a, xs, h1, e _ _ h2, RepR.mono e h3⟩
  | .dic l, _, h => by
    obtain ⟨a, kvs, h1, h2, h3⟩ := (h : ∃ a kvs, _ = V.ref a ∧ H a = some (.dK kvs) ∧ RepD H l kvs)
    exact ⟨a, kvs, h1, e _ _ h2, RepD.mono e h3⟩
theorem RepR.mono {H H' : Hp} (e : Same H H') : ∀ {l : Ts} {xs : List V}, RepR H l xs → RepR H' l xs
  | .nil, _, h => h
  | .cons _ t r, _, h => by
    obtain ⟨y, ys, h1, h2, h3⟩ := (h : ∃ y ys, _ = y :: ys ∧ Rep H t y ∧ RepR H r ys)
    exact ⟨y, ys, h1, Rep.mono e h2, RepR.mono e h3⟩
theorem RepD.mono {H H' : Hp} (e : Same H H') : ∀ {l : Ts} {kvs : List (Key × V)}, RepD H l kvs → RepD H' l kvs
  | .nil, _, h => h
  | .cons _ t r, _, h => by
    obtain ⟨y, ys, h1, h2, h3⟩ := (h : ∃ y ys, _ = (Sum.inr _, y) :: ys ∧ Rep H t y ∧ RepD H r ys)
    exact ⟨y, ys, h1, Rep.mono e h2, RepD.mono e h3⟩
end
mutual
theorem Rep.inj {H : Hp} : ∀ {t u : Th} {v : V}, Rep H t v → Rep H u v → t.size = u.size
  | .num _, .num _, _, _, _ => rfl
  | .num _, .word _, _, _, _ => rfl
  | .word _, .num _, _, _, _ => rfl
  | .word _, .word _, _, _, _ => rfl
  | .num i, .row l, v, h, h' => by
    obtain ⟨a, xs, h1, _⟩ := (h' : ∃ a xs, v = V.ref a ∧ H a = some (.lst xs) ∧ RepR H l xs)
    rw [(h : v = .int i)] at h1; cases h1
  | .num i, .dic l, v, h, h' => by
    obtain ⟨a, xs, h1, _⟩ := (h' : ∃ a xs, v = V.ref a ∧ H a = some (.dK xs) ∧ RepD H l xs)
    rw [(h : v = .int i)] at h1; cases h1
  | .word x, .row l, v, h, h' => by
    obtain ⟨a, xs, h1, _⟩ := (h' : ∃ a xs, v = V.ref a ∧ H a = some (.lst xs) ∧ RepR H l xs)
    rw [(h : v = .str x)] at h1; cases h1
  | .word x, .dic l, v, h, h' => by
    obtain ⟨a, xs, h1, _⟩ := (h' : ∃ a xs, v = V.ref a ∧ H a = some (.dK xs) ∧ RepD H l xs)
    rw [(h : v = .str x)] at h1; cases h1
  | .row l, .num i, v, h, h' => by
    obtain ⟨a, xs, h1, _⟩ := (h : ∃ a xs, v = V.ref a ∧ H a = some (.lst xs) ∧ RepR H l xs)
    rw [(h' : v = .int i)] at h1; cases h1
  | .row l, .word x, v, h, h' => by
    obtain ⟨a, xs, h1, _⟩ := (h : ∃ a xs, v = V.ref a ∧ H a = some (.lst xs) ∧ RepR H l xs)
    rw [(h' : v = .str x)] at h1; cases h1
  | .dic l, .num i, v, h, h' => by
    obtain ⟨a, xs, h1, _⟩ := (h : ∃ a xs, v = V.ref a ∧ H a = some (.dK xs) ∧ RepD H l xs)
    rw [(h' : v = .int i)] at h1; cases h1
  | .dic l, .word x, v, h, h' => by
    obtain ⟨a, xs, h1, _⟩ := (h : ∃ a xs, v = V.ref a ∧ H a = some (.dK xs) ∧ RepD H l xs)
    rw [(h' : v = .str x)] at h1; cases h1
  | .row l, .row m, v, h, h' => by
    obtain ⟨a, xs, h1, h2, h3⟩ := (h : ∃ a xs, v = V.ref a ∧ H a = some (.lst xs) ∧ RepR H l xs)
    obtain ⟨b, ys, g1, g2, g3⟩ := (h' : ∃ a xs, v = V.ref a ∧ H a = some (.lst xs) ∧ RepR H m xs)
    rw [h1] at g1; cases g1; rw [h2] at g2; cases g2
    show l.size + 1 = m.size + 1
    rw [RepR.inj h3 g3]
  | .row l, .dic m, v, h, h' => by
    obtain ⟨a, xs, h1, h2, h3⟩ := (h : ∃ a xs, v = V.ref a ∧ H a = some (.lst xs) ∧ RepR H l xs)
    obtain ⟨b, ys, g1, g2, g3⟩ := (h' : ∃ a xs, v = V.ref a ∧ H a = some (.dK xs) ∧ RepD H m xs)
    rw [h1] at g1; cases g1; rw [h2] at g2; cases g2
  | .dic l, .row m, v, h, h' => by
    obtain ⟨a, xs, h1, h2, h3⟩ := (h : ∃ a xs, v = V.ref a ∧ H a = some (.dK xs) ∧ RepD H l xs)
    obtain ⟨b, ys, g1, g2, g3⟩ := (h' : ∃ a xs, v = V.ref a ∧ H a = some (.lst xs) ∧ RepR H m xs)
    rw [h1] at g1; cases g1; rw [h2] at g2; cases g2
  | .dic l, .dic m, v, h, h' => by
    obtain ⟨a, xs, h1, h2, h3⟩ := (h : ∃ a xs, v = V.ref a ∧ H a = some (.dK xs) ∧ RepD H l xs)
    obtain ⟨b, ys, g1, g2, g3⟩ := (h' : ∃ a xs, v = V.ref a ∧ H a = some (.dK xs) ∧ RepD H m xs)
    rw [h1] at g1; cases g1; rw [h2] at g2; cases g2
    show l.size + 1 = m.size + 1
    rw [RepD.inj h3 g3]
theorem RepR.inj {H : Hp} : ∀ {l m : Ts} {xs : List V}, RepR H l xs → RepR H m xs → l.size = m.size
  | .nil, .nil, _, _, _ => rfl
  | .nil, .cons k t r, xs, h, h' => by
    obtain ⟨y, ys, h1, _⟩ := (h' : ∃ y ys, xs = y :: ys ∧ Rep H t y ∧ RepR H r ys)
    rw [(h : xs = [])] at h1; cases h1
  | .cons k t r, .nil, xs, h, h' => by
    obtain ⟨y, ys, h1, _⟩ := (h : ∃ y ys, xs = y :: ys ∧ Rep H t y ∧ RepR H r ys)
    rw [(h' : xs = [])] at h1; cases h1
  | .cons k t r, .cons j u q, xs, h, h' => by
    obtain ⟨y, ys, h1, h2, h3⟩ := (h : ∃ y ys, xs = y :: ys ∧ Rep H t y ∧ RepR H r ys)
    obtain ⟨z, zs, g1, g2, g3⟩ := (h' : ∃ y ys, xs = y :: ys ∧ Rep H u y ∧ RepR H q ys)
    rw [h1] at g1; cases g1
    show t.size + r.size = u.size + q.size
    rw [Rep.inj h2 g2, RepR.inj h3 g3]
theorem RepD.inj {H : Hp} : ∀ {l m : Ts} {xs : List (Key × V)}, RepD H l xs → RepD H m xs → l.size = m.size
  | .nil, .nil, _, _, _ => rfl
  | .nil, .cons k t r, xs, h, h' => by
    obtain ⟨y, ys, h1, _⟩ := (h' : ∃ y ys, xs = (Sum.inr k, y) :: ys ∧ Rep H t y ∧ RepD H r ys)
    rw [(h : xs = [])] at h1; cases h1
  | .cons k t r, .nil, xs, h, h' => by
    obtain ⟨y, ys, h1, _⟩ := (h : ∃ y ys, xs = (Sum.inr k, y) :: ys ∧ Rep H t y ∧ RepD H r ys)
    rw [(h' : xs = [])] at h1; cases h1
  | .cons k t r, .cons j u q, xs, h, h' => by
    obtain ⟨y, ys, h1, h2, h3⟩ := (h : ∃ y ys, xs = (Sum.inr k, y) :: ys ∧ Rep H t y ∧ RepD H r ys)
    obtain ⟨z, zs, g1, g2, g3⟩ := (h' : ∃ y ys, xs = (Sum.inr j, y) :: ys ∧ Rep H u y ∧ RepD H q ys)
    rw [h1] at g1; cases g1
    show t.size + r.size = u.size + q.size
    rw [Rep.inj h2 g2, RepD.inj h3 g3]
end
/-! what is smaller than the thing at a does not reach a -/
mutual
theorem Rep.other {H : Hp} {a : Addr} {o : HO} {n : Nat} (ha : ∀ u, Rep H u (.ref a) → n ≤ u.size) : ∀ {t : Th} {v : V}, t.size < n → Rep H t v → Rep (upd H a o) t v
  | .num _, _, _, h => h
  | .word _, _, _, h => h
  | .row l, v, hn, h => by
    have hh := h
    obtain ⟨b, xs, h1, h2, h3⟩ := (h : ∃ b xs, v = V.ref b ∧ H b = some (.lst xs) ∧ RepR H l xs)
    have hb : b ≠ a := fun z => by
      rw [h1, z] at hh
      exact absurd (ha (.row l) hh) (Nat.not_le.mpr hn)
    exact ⟨b, xs, h1, by rw [upd_ne hb]; exact h2, RepR.other ha (Nat.lt_of_succ_lt (show l.size + 1 < n from hn)) h3⟩
  | .dic l, v, hn, h => by
    have hh := h
    obtain ⟨b, xs, h1, h2, h3⟩ := (h : ∃ b xs, v = V.ref b ∧ H b = some (.dK xs) ∧ RepD H l xs)
    have hb : b ≠ a := fun z => by
      rw [h1, z] at hh
      exact absurd (ha (.dic l) hh) (Nat.not_le.mpr hn)
    exact ⟨b, xs, h1, by rw [upd_ne hb]; exact h2, RepD.other ha (Nat.lt_of_succ_lt (show l.size + 1 < n from hn)) h3⟩
theorem RepR.other {H : Hp} {a : Addr} {o : HO} {n : Nat} (ha : ∀ u, Rep H u (.ref a) → n ≤ u.size) : ∀ {l : Ts} {xs : List V}, l.size < n → RepR H l xs → RepR (upd H a o) l xs
  | .nil, _, _, h => h
  | .cons k t r, xs, hn, h => by
    obtain ⟨y, ys, h1, h2, h3⟩ := (h : ∃ y ys, xs = y :: ys ∧ Rep H t y ∧ RepR H r ys)
    have hn' : t.size + r.size < n := hn
    exact ⟨y, ys, h1, Rep.other ha (by omega) h2, RepR.other ha (by omega) h3⟩
theorem RepD.other {H : Hp} {a : Addr} {o : HO} {n : Nat} (ha : ∀ u, Rep H u (.ref a) → n ≤ u.size) : ∀ {l : Ts} {xs : List (Key × V)}, l.size < n → RepD H l xs → RepD (upd H a o) l xs
  | .nil, _, _, h => h
  | .cons k t r, xs, hn, h => by
    obtain ⟨y, ys, h1, h2, h3⟩ := (h : ∃ y ys, xs = (Sum.inr k, y) :: ys ∧ Rep H t y ∧ RepD H r ys)
    have hn' : t.size + r.size < n := hn
    exact ⟨y, ys, h1, Rep.other ha (by omega) h2, RepD.other ha (by omega) h3⟩
end
def Ts.get (k : Str) : Ts → Option Th
  | .nil => none
  | .cons j t r => if j = k then some t else r.get k
def Ts.ths : Ts → List Th
  | .nil => []
  | .cons _ t r => t :: r.ths
theorem Ts.keys_len : ∀ l : Ts, l.keys.length = l.len
  | .nil => rfl
  | .cons _ _ r => congrArg (· + 1) (Ts.keys_len r)
theorem RepR.len {H : Hp} : ∀ {l : Ts} {xs : List V}, RepR H l xs → xs.length = l.len
  | .nil, xs, h => by rw [(h : xs = [])]; rfl
  | .cons k t r, xs, h => by
    obtain ⟨y, ys, rfl, _, h3⟩ := (h : ∃ y ys, xs = y :: ys ∧ Rep H t y ∧ RepR H r ys)
    exact congrArg (· + 1) (RepR.len h3)
theorem RepD.len {H : Hp} : ∀ {l : Ts} {xs : List (Key × V)}, RepD H l xs → xs.length = l.len
  | .nil, xs, h => by rw [(h : xs = [])]; rfl
  | .cons k t r, xs, h => by
    obtain ⟨y, ys, rfl, _, h3⟩ := (h : ∃ y ys, xs = (Sum.inr k, y) :: ys ∧ Rep H t y ∧ RepD H r ys)
    exact congrArg (· + 1) (RepD.len h3)
theorem RepD.keys {H : Hp} : ∀ {l : Ts} {xs : List (Key × V)}, RepD H l xs → xs.map (·.1) = l.keys.map Sum.inr
  | .nil, xs, h => by rw [(h : xs = [])]; rfl
  | .cons k t r, xs, h => by
    obtain ⟨y, ys, rfl, _, h3⟩ := (h : ∃ y ys, xs = (Sum.inr k, y) :: ys ∧ Rep H t y ∧ RepD H r ys)
    show Sum.inr k :: ys.map (·.1) = Sum.inr k :: r.keys.map Sum.inr
    rw [RepD.keys h3]
theorem RepR.at {H : Hp} : ∀ {l : Ts} {xs : List V}, RepR H l xs → ∀ (i : Nat) (y : V), xs[i]? = some y → ∃ t, l.ths[i]? = some t ∧ Rep H t y
  | .nil, xs, h, i, y, e => by rw [(h : xs = [])] at e; simp at e
  | .cons k t r, xs, h, i, y, e => by
    obtain ⟨z, zs, rfl, h2, h3⟩ := (h : ∃ y ys, xs = y :: ys ∧ Rep H t y ∧ RepR H r ys)
    cases i with
    | zero =>
      have e' : z = y := by simpa using e
      subst e'
      exact ⟨t, rfl, h2⟩
    | succ i =>
      obtain ⟨u, g1, g2⟩ := RepR.at h3 i y (by simpa using e)
      exact ⟨u, by simpa [Ts.ths] using g1, g2⟩
theorem RepD.val {H : Hp} : ∀ {l : Ts} {kvs : List (Key × V)}, RepD H l kvs → ∀ {k : Str} {t : Th}, l.get k = some t → ∃ y, valV kvs (Sum.inr k) = some y ∧ Rep H t y
  | .nil, kvs, h, k, t, e => by cases e
  | .cons j u r, kvs, h, k, t, e => by
    obtain ⟨y, ys, rfl, h2, h3⟩ := (h : ∃ y ys, kvs = (Sum.inr j, y) :: ys ∧ Rep H u y ∧ RepD H r ys)
    have e' : (if j = k then some u else r.get k) = some t := e
    unfold valV
    rw [List.find?_cons]
    by_cases hj : j = k
    · rw [if_pos hj] at e'
      cases e'
      subst hj
      exact ⟨y, by simp, h2⟩
    · rw [if_neg hj] at e'
      obtain ⟨z, g1, g2⟩ := RepD.val h3 e'
      refine ⟨z, ?_, g2⟩
      have hd : decide ((Sum.inr j : Key) = Sum.inr k) = false := decide_eq_false fun q => hj (Sum.inr.inj q)
      simp only [hd]
      exact g1
theorem Th.size_pos (t : Th) : 0 < t.size := by
  cases t with
  | num _ => exact Nat.one_pos
  | word _ => exact Nat.one_pos
  | row l => exact Nat.succ_pos _
  | dic l => exact Nat.succ_pos _
end Rg
set_option Elab.async false
set_option linter.all false
set_option maxRecDepth 100000
set_option maxHeartbeats 4000000
/-! sorted(a record, key = a def of the text that tells (length, word)): a rule over the hand layer -/
namespace Rg
open PySem PySem.W PySem.Spec PyProof.Rows L2
/-- the same code, two built-ins deeper -/
abbrev in2 (X : Cx) : Cx := { X with A := X.A.in1.in1 }
/-- what the key tells of a word -/
def keyV (x : Str) : List V := [.int x.length, .str x]
def spKey : Sp := fun vs H Q _ => ∃ x : Str, vs = [.str x] ∧ x.length ≤ 1000 ∧ ∀ p, H p = none → Q (.ref p) (upd H p (.tup (keyV x)))
/-- the keys so far stand in the heap -/
def KeysAre (H : Hp) : List Str → List Value → Prop := Paired fun x u => ∃ p, u = Value.ref p ∧ H p = some (.tup (keyV x))
theorem KeysAre.mono {H H' : Hp} (e : Same H H') {xs : List Str} {us : List Value} (h : KeysAre H xs us) : KeysAre H' xs us :=
  Paired.mapP h fun _ _ ⟨p, h1, h2⟩ => ⟨p, h1, e _ _ h2⟩
theorem KeysAre.snoc {H : Hp} {x : Str} {u : Value} : ∀ {xs : List Str} {us : List Value}, KeysAre H xs us → (∃ p, u = Value.ref p ∧ H p = some (.tup (keyV x))) → KeysAre H (xs ++ [x]) (us ++ [u])
  | _, _, .nil, h => .cons h .nil
  | _, _, .cons r t, h => .cons r (KeysAre.snoc t h)
theorem KeysAre.get {H : Hp} : ∀ {xs : List Str} {us : List Value}, KeysAre H xs us → ∀ i, i < us.length → ∃ x p, us.getD i Value.none = Value.ref p ∧ H p = some (.tup (keyV x))
  | _, _, .nil, i, h => absurd h (Nat.not_lt_zero _)
  | _, _, .cons (a := x) ⟨p, h1, h2⟩ _, 0, _ => ⟨x, p, h1, h2⟩
  | _, _, .cons _ t, i + 1, h => KeysAre.get t i (Nat.lt_of_succ_lt_succ h)
theorem same_new {H : Hp} {p : Addr} (h : H p = none) (o : HO) : Same H (upd H p o) := fun b u q => by rw [upd_ne (ne_of_none q h)]; exact q
section
variable {X : Cx} {pins : List (Addr × Obj)} {σ : L2.St} {H : Hp} {s : Shared}
/-- an untracked record of ours has turned -/
theorem own_turn {b : Addr} {h' : Heap} {t' : Nat} (I : Inv X pins σ H s) (f : FpOk X pins H b) (k : ∀ c o, c ≠ b → s.heap.get? c = some o → h'.get? c = some o) : Inv X pins σ H { s with heap := h', toks := t' } :=
  I.turned k f.1 f.2.1 f.2.2.2.1 f.2.2.2.2.1 f.2.2.2.2.2
/-- .. is pinned -/
theorem own_pin {b : Addr} {o : Obj} (I : Inv X pins σ H s) (f : FpOk X pins H b) (e : s.heap.get? b = some o) (d : ∀ v, o.data ≠ .cell v) : Inv X (pins ++ [(b, o)]) σ H s :=
  I.pins_of fun p hp => (List.mem_append.mp hp).elim (fun z => I.pin p (List.mem_append_right _ z)) fun z => by
    have q : p = (b, o) := by simpa using z
    subst q
    exact ⟨e, f.1, f.2.1, f.2.2.1, d⟩
theorem own_unpin {q : Addr × Obj} (I : Inv X (pins ++ [q]) σ H s) : Inv X pins σ H s := I.pins_of fun p hp => I.pin p (List.mem_append_right _ (List.mem_append_left _ hp))
theorem own_at {b : Addr} {o : Obj} (I : Inv X (pins ++ [(b, o)]) σ H s) : s.heap.get? b = some o ∧ H b = none := by
  have z := I.pin (b, o) (List.mem_append_right _ (List.mem_append_right _ (List.mem_singleton.mpr rfl)))
  exact ⟨z.1, z.2.1⟩
theorem fp_heap {H' : Hp} {b : Addr} (f : FpOk X pins H b) (h : H' b = none) : FpOk X pins H' b := ⟨h, f.2⟩
end
section
variable {X : Cx} {pins : List (Addr × Obj)} {σ : L2.St} {H : Hp} {s : Shared} {D f : Addr} {n k : Nat} {vs : List Value} {xs : List Str} {fd : FuncData} {P : PySem.Fin → Shared → Prop} {E : Value → Shared → Prop}
end
end Rg
set_option Elab.async false
set_option linter.all false
set_option maxRecDepth 100000
set_option maxHeartbeats 4000000
/-! list(reversed(a list)); a walk over a record; the rule of sorted -/
namespace Rg
open PySem PySem.W PySem.Spec PyProof.Rows L2
section
variable {prog : Program} {w : World} {A : Around} {E : Value → Shared → Prop} {s : Shared}
end
section
variable {X : Cx} {pins : List (Addr × Obj)} {σ : L2.St} {H : Hp} {s : Shared} {D : Addr}
/-- an object of ours is tracked from here on -/
theorem inv_track {o : HO} (I : Inv X pins σ H s) (f : FpOk X pins H D) (hz : X.s₀.heap.objs.size ≤ D) (ok : ObjOk X.prog X.w (upd H D o) s.heap D o) : Inv X pins σ (upd H D o) s := by
  obtain ⟨f0, f1, f2, f3, f4, f5⟩ := f
  refine ⟨I.ok, I.os, I.bare, un_tail I.base hz hz f0 (.refl D s.heap), I.loc, I.cell, by rw [upd_ne (Ne.symm f1)]; exact I.free, fun y c q => by rw [upd_ne (f4 y c q)]; exact I.freeC y c q, fun p hp => ?_, fun a u q => ?_, I.len⟩
  · obtain ⟨z1, z2, z3⟩ := I.pin p hp
    exact ⟨z1, by rw [upd_ne (f5 p hp)]; exact z2, z3⟩
  · by_cases ha : a = D
    · subst ha
      rw [upd_same] at q
      cases q
      exact ok
    · rw [upd_ne ha] at q
      exact (I.hok a u q).stay (fun b v _ q' => q') (fun b z => by rw [upd_ne (ne_of_none z f0)]; exact z) fun b xs z => by rw [upd_ne (ne_of_none z f0)]; exact z
end
section
variable {X : Cx} {e : Expr} {te : TE} {p p2 pos pos2 : Pos}
end
end Rg
namespace Rg
open PySem PySem.W PySem.Spec PyProof.Rows L2
/-! ### sorted -/
def CallKR (X : Cx) (id : String) (ks : List Str) (r : List V → List V → Hp → VK → Prop) : Prop :=
  ∀ (pins : List (Addr × Obj)) (s : Shared) (σ : L2.St) (H : Hp) (vs zs : List V) (us ws : List Value) (Q : VK), Inv X pins σ H s → Vals vs us → Vals zs ws → r vs zs H Q →
    wpAny (model X.prog X.w) X.A (call (.builtin id) us (ks.zip ws)) (EP X pins σ Q) X.xe s
section
variable {X : Cx} {x : Str} {id : String} {ks : List Str} {r : List V → List V → Hp → VK → Prop} {e : Expr} {es : List Expr} {kws : List Keyword} {t tk : TA} {p pos : Pos}
end
/-- the fields of a record in some order -/
def rSortD (f : Addr) : List V → List V → Hp → VK → Prop := fun vs zs H Q => ∃ a kvs, vs = [.ref a] ∧ zs = [.ref f] ∧ H a = some (.dK kvs) ∧ kvs.length < 64 ∧ (∃ xs : List Str, kvs.map (·.1) = xs.map Sum.inr ∧ (∀ x ∈ xs, x.length ≤ 1000) ∧
  ∀ (q : Addr) (H' : Hp) (ys : List Str), Same H H' → H' q = some (.lst (ys.map V.str)) → ys.Perm xs → Q (.ref q) H')
section
variable {X : Cx} {f : Addr} {k : Nat} {fd : FuncData}
end
end Rg
set_option Elab.async false
set_option linter.all false
set_option maxRecDepth 100000
set_option maxHeartbeats 4000000
/-! a walk over a record: it stands still meanwhile; short forms for comprehensions and walks -/
namespace Rg
open PySem PySem.W PySem.Spec PyProof.Rows L2
section
variable {X : Cx} {pins pins1 : List (Addr × Obj)} {σ σ1 : L2.St} {H H1 : Hp} {s s1 : Shared} {a : Addr} {o : Obj} {kvs : List (Key × V)}
end
/-- the fields of a record that stands still -/
def Itk (a : Addr) (o : Obj) (kvs : List (Key × V)) : It :=
  ⟨fun i H => i < kvs.length ∧ H a = some (.frz o (.dK kvs)), fun i H x H' => H' = H ∧ ∃ kv, kvs[i]? = some kv ∧ x = kV kv.1, fun i H => kvs.length ≤ i ∧ H a = some (.frz o (.dK kvs))⟩
def iDict (tl : TE) : TI := fun σ H R => tl σ H fun x H1 => ∃ a kvs, x = .ref a ∧ H1 a = some (.dK kvs) ∧ ∀ o, R (Itk a o kvs) (upd H1 a (.frz o (.dK kvs)))
/-! ### the record thaws behind the loop -/
def tThaw (t : TS) : TS := fun D σ H => ∃ a kvs, H a = some (.dK kvs) ∧ t { nx := fun σ' H' => ∃ o, H' a = some (.frz o (.dK kvs)) ∧ D.nx σ' (upd H' a (.dK kvs)), rt := fun v H' => ∃ o, H' a = some (.frz o (.dK kvs)) ∧ D.rt v (upd H' a (.dK kvs)), bk := fun _ _ => False, ct := fun _ _ => False } σ H
def eThaw (t : TE) : TE := fun σ H Q => ∃ a kvs, H a = some (.dK kvs) ∧ t σ H fun v H' => ∃ o, H' a = some (.frz o (.dK kvs)) ∧ Q v (upd H' a (.dK kvs))
/-! ### the forms one uses -/
section
variable {fr : List (Str × Nat)} {te : TE} {σ : L2.St} {H : Hp} {Q : VK}
end
end Rg
set_option Elab.async false
set_option linter.all false
set_option maxRecDepth 100000
set_option maxHeartbeats 4000000
/-! == and != of two lists whose items are alike, over one program and one world -/
namespace Rg
open PySem PySem.SeqAt
open AutoSeq1 (wpAny_loadPart')
open MeetsSeq MeetsSeq2 MeetsSeq3 SeqRoads2
/-- == of the two says True, and all stays -/
def EqIn (P : Program) (w : World) (A : Around) (s : Shared) (y x : Value) : Prop :=
  ∀ (E : Value → Shared → Prop) (Q : Bool → Shared → Prop), Q true s → wpAny (model P w) A (eqBool y x) Q E s
theorem EqIn.of {P : Program} {w : World} {A : Around} {s : Shared} {y x : Value} (h : EqAt A s y x true) : EqIn P w A s y x := fun E Q q => h P w E Q q
theorem EqIn.refs {P : Program} {w : World} {A : Around} {s : Shared} {l b : Addr} (h : ∀ (E : Value → Shared → Prop) (Q : Value → Shared → Prop), Q (.bool true) s → wpAny (model P w) A (richCompare .Eq (.ref l) (.ref b)) Q E s) : EqIn P w A s (.ref l) (.ref b) := by
  intro E Q q
  by_cases e : l = b
  · subst e
    exact EqAt.same (.ref l) P w E Q q
  · unfold eqBool
    refine wpAny_holding ?_
    refine wpAny_ite_split (fun hab => absurd (by have z := eq_of_beq hab; injection z) e) (fun _ => ?_)
    exact wpAny_bind (h E _ (wpAny_truthy_bool q))
section
variable {P : Program} {w : World} {l b : Addr} {items items2 : Array Value} {n n2 : Nat} {dd dd2 : Option Addr} {sl sl2 : Array (Option Value)}
def LSpec (P : Program) (w : World) (l b : Addr) (items items2 : Array Value) (n n2 : Nat) (dd dd2 : Option Addr) (sl sl2 : Array (Option Value)) (r : Bool) : Spec := fun A R s =>
  s.heap.get? l = some { cls := .type "list", dict := dd, data := .seq items n, slots := sl } ∧ s.heap.get? b = some { cls := .type "list", dict := dd2, data := .seq items2 n2, slots := sl2 } ∧
    (∀ j (h1 : j < items.size) (h2 : j < items2.size), EqIn P w A.in1 s items[j] items2[j]) ∧ R (.ok (.ret (.bool r))) s
theorem loop_eq (hsz : items.size = items2.size) (k : Nat) : ∀ i : Nat, items.size - i = k → MeetsIn P w (Builtin.«list.__eq__.loop» ⟨[.ref l, .ref b, rawInt i, rawInt 2], []⟩) (LSpec P w l b items items2 n n2 dd dd2 sl sl2 true) := by
  induction k with
  | zero =>
    intro i hk A R s h
    obtain ⟨hp, g, d, tk, os⟩ := s
    obtain ⟨hl, hb, he, h⟩ := h
    wp_walk using wpAny_loadPart' hl, wpAny_loadPart' hb
    have g1 : items[((i : Nat) : Int).toNat]? = none := by simp; omega
    have g2 : items2[((i : Nat) : Int).toNat]? = none := by simp; omega
    rw [g1, g2]
    wp_walk using wpAny_loadPart' hl, wpAny_loadPart' hb
    show R (.ok (.ret (.bool (items.size == items2.size)))) _
    rw [hsz]
    simpa using h
  | succ k ih =>
    intro i hk A R s h
    obtain ⟨hp, g, d, tk, os⟩ := s
    obtain ⟨hl, hb, he, h⟩ := h
    wp_walk using wpAny_loadPart' hl, wpAny_loadPart' hb
    have q1 : i < items.size := by omega
    have q2 : i < items2.size := by omega
    have g1 : items[((i : Nat) : Int).toNat]? = some items[i] := by simp [q1]
    have g2 : items2[((i : Nat) : Int).toNat]? = some items2[i] := by simp [q2]
    have hc : ((i : Int) + 1) = ((i + 1 : Nat) : Int) := by omega
    rw [g1, g2]
    refine wpAny_bind (he i q1 q2 _ _ ?_)
    wp_walk
    rw [hc]
    refine ⟨plainId_quiet plain_eq_loop _, codeAny_builtin entry_eq_loop ?_⟩
    rw [Around.under_plainId plain_eq_loop _]
    exact ih (i + 1) (by omega) A R _ ⟨hl, hb, he, h⟩
theorem loop_ne (hsz : items.size = items2.size) (k : Nat) : ∀ i : Nat, items.size - i = k → MeetsIn P w (Builtin.«list.__eq__.loop» ⟨[.ref l, .ref b, rawInt i, rawInt 3], []⟩) (LSpec P w l b items items2 n n2 dd dd2 sl sl2 false) := by
  induction k with
  | zero =>
    intro i hk A R s h
    obtain ⟨hp, g, d, tk, os⟩ := s
    obtain ⟨hl, hb, he, h⟩ := h
    wp_walk using wpAny_loadPart' hl, wpAny_loadPart' hb
    have g1 : items[((i : Nat) : Int).toNat]? = none := by simp; omega
    have g2 : items2[((i : Nat) : Int).toNat]? = none := by simp; omega
    rw [g1, g2]
    wp_walk using wpAny_loadPart' hl, wpAny_loadPart' hb
    show R (.ok (.ret (.bool (items.size != items2.size)))) _
    rw [hsz]
    simpa using h
  | succ k ih =>
    intro i hk A R s h
    obtain ⟨hp, g, d, tk, os⟩ := s
    obtain ⟨hl, hb, he, h⟩ := h
    wp_walk using wpAny_loadPart' hl, wpAny_loadPart' hb
    have q1 : i < items.size := by omega
    have q2 : i < items2.size := by omega
    have g1 : items[((i : Nat) : Int).toNat]? = some items[i] := by simp [q1]
    have g2 : items2[((i : Nat) : Int).toNat]? = some items2[i] := by simp [q2]
    have hc : ((i : Int) + 1) = ((i + 1 : Nat) : Int) := by omega
    rw [g1, g2]
    refine wpAny_bind (he i q1 q2 _ _ ?_)
    wp_walk
    rw [hc]
    refine ⟨plainId_quiet plain_eq_loop _, codeAny_builtin entry_eq_loop ?_⟩
    rw [Around.under_plainId plain_eq_loop _]
    exact ih (i + 1) (by omega) A R _ ⟨hl, hb, he, h⟩
theorem list_eqIn (hsz : items.size = items2.size) : MeetsIn P w (Builtin.«list.__eq__» ⟨[.ref l, .ref b], []⟩) (LSpec P w l b items items2 n n2 dd dd2 sl sl2 true) := by
  intro A R s h
  obtain ⟨hp, g, d, tk, os⟩ := s
  obtain ⟨hl, hb, he, h⟩ := h
  have f3 := AutoSeq1.sub_list_list
  have hne : ¬ (items.size != items2.size) = true := by simp [hsz]
  wp_walk using wpAny_loadPart' hl, wpAny_loadPart' hb
  refine ⟨plainId_quiet plain_eq_loop _, codeAny_builtin entry_eq_loop ?_⟩
  rw [Around.under_plainId plain_eq_loop _]
  exact loop_eq hsz _ 0 rfl A R _ ⟨hl, hb, he, h⟩
theorem list_neIn (hsz : items.size = items2.size) : MeetsIn P w (Builtin.«list.__ne__» ⟨[.ref l, .ref b], []⟩) (LSpec P w l b items items2 n n2 dd dd2 sl sl2 false) := by
  intro A R s h
  obtain ⟨hp, g, d, tk, os⟩ := s
  obtain ⟨hl, hb, he, h⟩ := h
  have f3 := AutoSeq1.sub_list_list
  have hne : ¬ (items.size != items2.size) = true := by simp [hsz]
  wp_walk using wpAny_loadPart' hl, wpAny_loadPart' hb
  refine ⟨plainId_quiet plain_eq_loop _, codeAny_builtin entry_eq_loop ?_⟩
  rw [Around.under_plainId plain_eq_loop _]
  exact loop_ne hsz _ 0 rfl A R _ ⟨hl, hb, he, h⟩
end
section
variable {P : Program} {w : World} {A : Around} {E : Value → Shared → Prop} {s : Shared} {l b : Addr} {items items2 : Array Value} {Q : Value → Shared → Prop}
theorem rc_lists (hl : s.heap.IsList l items) (hb : s.heap.IsList b items2) (hsz : items.size = items2.size) (hu : A.units < cLine) (he : ∀ j (h1 : j < items.size) (h2 : j < items2.size), EqIn P w A.in1 s items[j] items2[j]) (h : Q (.bool true) s) :
    wpAny (model P w) A (richCompare .Eq (.ref l) (.ref b)) Q E s := by
  obtain ⟨⟨cls, dd, data, sl⟩, ho, hc, n, hd⟩ := id hl
  obtain ⟨⟨cls2, dd2, data2, sl2⟩, ho2, hc2, n2, hd2⟩ := id hb
  simp only at hc hd hc2 hd2
  subst hc hd hc2 hd2
  refine wpAny_richCompare_same_room (op := .Eq) (T := "list") ⟨_, ho, rfl⟩ ⟨_, ho2, rfl⟩ F.slot_list_eq (call_meetsIn F.slot_list_eq ⟨_, ho, rfl⟩ F.entry_list_eq (F.args_list_eq_2 _ _) (list_eqIn hsz) ⟨ho, ho2, he, ?_⟩) hu
  exact ⟨(fun x => nomatch x), h⟩
theorem rc_lists_ne (hl : s.heap.IsList l items) (hb : s.heap.IsList b items2) (hsz : items.size = items2.size) (hu : A.units < cLine) (he : ∀ j (h1 : j < items.size) (h2 : j < items2.size), EqIn P w A.in1 s items[j] items2[j]) (h : Q (.bool false) s) :
    wpAny (model P w) A (richCompare .NotEq (.ref l) (.ref b)) Q E s := by
  obtain ⟨⟨cls, dd, data, sl⟩, ho, hc, n, hd⟩ := id hl
  obtain ⟨⟨cls2, dd2, data2, sl2⟩, ho2, hc2, n2, hd2⟩ := id hb
  simp only at hc hd hc2 hd2
  subst hc hd hc2 hd2
  refine wpAny_richCompare_same_room (op := .NotEq) (T := "list") ⟨_, ho, rfl⟩ ⟨_, ho2, rfl⟩ F.slot_list_ne (call_meetsIn F.slot_list_ne ⟨_, ho, rfl⟩ F.entry_list_ne (F.args_list_ne_2 _ _) (list_neIn hsz) ⟨ho, ho2, he, ?_⟩) hu
  exact ⟨(fun x => nomatch x), h⟩
end
end Rg
set_option Elab.async false
set_option linter.all false
set_option maxRecDepth 100000
set_option maxHeartbeats 4000000
/-! == and != of two dicts with the same keys whose values are alike -/
namespace Rg
open PySem PySem.SeqAt
section
variable {P : Program} {w : World} {K : Type} [DecidableEq K] {knd : KeyKind P w K} {A : Around} {E : Value → Shared → Prop} {s : Shared} {a b : Addr} {ka kb : List (K × Value)}
/-- each pair of the one is found in the other -/
def Hits (P : Program) (w : World) (A : Around) (s : Shared) (kb : List (K × Value)) (l : List (K × Value)) : Prop := ∀ k v, (k, v) ∈ l → ∃ y, valueAt kb k = some y ∧ EqIn P w A s v y
theorem same_pairs {nm : String} {Q : Bool → Shared → Prop} (ha : (a == sysModules) = false) (hb : (b == sysModules) = false) (da : s.heap.DictOf knd a ka) (db : s.heap.DictOf knd b kb) (hlen : ka.length = kb.length) (hits : Hits P w A s kb ka) (h : Q true s) :
    wpAny (model P w) A (Builtin.Dict.samePairs nm a b) Q E s := by
  obtain ⟨oa, es, ep, hoa, _, hda, hka, hpa, _⟩ := da
  obtain ⟨ob, fs, ep2, hob, _, hdb, hkb, hpb, _⟩ := db
  have hla : ka.length = es.size := by
    rw [← hpa.length]
    exact Array.length_toList
  have hlb : kb.length = fs.size := by
    rw [← hpb.length]
    exact Array.length_toList
  have hsz : es.size = fs.size := by omega
  have hfind : ∀ k, findBy knd.is fs k = valueAt kb k := fun k => by
    rw [← hpb.find k]
    clear hlb hpb hkb hdb hob hsz
    obtain ⟨l⟩ := fs
    simp [findBy]
  unfold Builtin.Dict.samePairs Builtin.Dict.showsAll
  rw [if_neg (show ¬ (a == sysModules) = true by rw [ha]; decide), if_neg (show ¬ (b == sysModules) = true by rw [hb]; decide)]
  refine wpAny_bind (wpAny_pure ?_)
  refine wpAny_bind (wpAny_pure ?_)
  refine wpAny_bind (wpAny_dictEntries hoa hda ?_)
  dsimp only
  refine wpAny_bind (wpAny_dictEntries hob hdb ?_)
  rw [if_neg (by rw [hsz]; simp)]
  refine wpAny_bind (wpAny_dictEpoch hoa hda ?_)
  refine wpAny_bind ?_
  rw [Std.Legacy.Range.forIn_eq_forIn_range']
  simp only [Std.Legacy.Range.size, Nat.sub_zero, Nat.add_sub_cancel, Nat.div_one]
  refine wpAny_forIn_list _ (fun rest q t => t = s ∧ q = (none, ()) ∧ ∃ i, rest = List.range' i (es.size - i) ∧ i ≤ es.size) _ ?_ ?_ _ _ ⟨rfl, rfl, 0, by simp, Nat.zero_le _⟩
  · rintro x rest q t ⟨rfl, rfl, i, hr, hi⟩
    have hlt : i < es.size := by
      rcases Nat.lt_or_ge i es.size with z | z
      · exact z
      · rw [Nat.sub_eq_zero_of_le z] at hr; simp at hr
    obtain ⟨rfl, hrest⟩ : x = i ∧ rest = List.range' (i + 1) (es.size - (i + 1)) := by
      have e : es.size - i = (es.size - (i + 1)) + 1 := by omega
      rw [e, List.range'_succ] at hr
      injection hr with z1 z2
      exact ⟨z1, z2⟩
    refine wpAny_bind (wpAny_dictEntries hoa hda ?_)
    rw [Array.getElem?_eq_getElem hlt]
    have hlt' : x < ka.length := by rw [hla]; exact hlt
    obtain ⟨k, v, hkv⟩ : ∃ k v, ka[x] = (k, v) := ⟨_, _, rfl⟩
    obtain ⟨hkey, hval⟩ := hpa.get? (i := x) (e := es[x]) (k := k) (v := v) (by rw [Array.getElem?_toList, Array.getElem?_eq_getElem hlt]) (by rw [List.getElem?_eq_getElem hlt', hkv])
    obtain ⟨k', hk', hh⟩ := hka es[x] (Array.getElem_mem hlt)
    have ekk : k' = k := knd.inj _ _ _ hk' hkey
    rw [ekk] at hh
    obtain ⟨y, hy, he⟩ := hits k v (by rw [← hkv]; exact List.getElem_mem hlt')
    show wpAny _ _ (holding [es[x].key, es[x].val] _ >>= _) _ _ _
    rw [hh]
    refine wpAny_bind (wpAny_holding (wpAny_bind (wpAny_dictFind_of hkey hob hdb hkb ?_)))
    cases hj : fs.findIdx? fun e => knd.is k e.key with
    | none =>
      have hn : valueAt kb k = none := by rw [← hfind k, findBy_of_findIdx?, hj]
      rw [hn] at hy
      cases hy
    | some j =>
      obtain ⟨hjlt, _, _⟩ := Array.findIdx?_eq_some_iff_getElem.mp hj
      have hv' : valueAt kb k = some fs[j].val := by
        rw [← hfind k, findBy_of_findIdx?, hj]
        simp [Array.getElem?_eq_getElem hjlt]
      refine wpAny_bind (wpAny_dictEntries hob hdb ?_)
      rw [Array.getElem?_eq_getElem hjlt]
      have ey : fs[j].val = y := Option.some.inj (hv'.symm.trans hy)
      rw [← ey, ← hval] at he
      refine wpAny_holding (he _ _ ?_)
      show wpAny _ _ (if (!true) = true then _ else _) _ _ _
      rw [if_neg (by decide)]
      refine wpAny_bind (wpAny_dictEpoch hoa hda ?_)
      rw [if_neg (by simp)]
      exact wpAny_pure ⟨rfl, rfl, x + 1, hrest, hlt⟩
  · rintro q t ⟨rfl, rfl, i, hr, hi⟩
    exact wpAny_pure h
theorem rc_dicts {Q : Value → Shared → Prop} (ha : (a == sysModules) = false) (hb : (b == sysModules) = false) (da : s.heap.DictOf knd a ka) (db : s.heap.DictOf knd b kb) (hlen : ka.length = kb.length) (hu : A.units < cLine) (hits : Hits P w A.in1 s kb ka) (h : Q (.bool true) s) :
    wpAny (model P w) A (richCompare .Eq (.ref a) (.ref b)) Q E s := by
  refine wpAny_richCompare_same_room (op := .Eq) da.typeIs db.typeIs F.slot_dict_eq (wpAny_call_entry F.slot_dict_eq da.typeIs F.entry_dict_eq ?_ (F.args_dict_eq_2 _ _)) hu
  show wpAny _ _ (Builtin.Dict.dictSlotArgs "__eq__" ⟨[.ref a, .ref b], []⟩ >>= _) _ _ s
  refine wpAny_bind ?_
  unfold Builtin.Dict.dictSlotArgs
  refine wpAny_bind (wpAny_notOrdered_dict da.typeIs ?_)
  show wpAny _ _ (pure (Value.ref a, Value.ref b)) _ _ s
  refine wpAny_pure ?_
  refine wpAny_bind (wpAny_isInstance (T := "dict") db.typeIs F.sub_dict_dict ?_)
  simp only [Bool.not_true, Bool.false_eq_true, if_false]
  refine wpAny_bind (wpAny_pure ?_)
  refine wpAny_bind (wpAny_pure ?_)
  refine wpAny_bind (same_pairs ha hb da db hlen hits ?_)
  refine wpAny_pure ⟨_, rfl, ⟨(fun x => nomatch x), ?_⟩⟩
  simpa using h
theorem rc_dicts_ne {Q : Value → Shared → Prop} (ha : (a == sysModules) = false) (hb : (b == sysModules) = false) (da : s.heap.DictOf knd a ka) (db : s.heap.DictOf knd b kb) (hlen : ka.length = kb.length) (hu : A.units < cLine) (hits : Hits P w A.in1 s kb ka) (h : Q (.bool false) s) :
    wpAny (model P w) A (richCompare .NotEq (.ref a) (.ref b)) Q E s := by
  refine wpAny_richCompare_same_room (op := .NotEq) da.typeIs db.typeIs F.slot_dict_ne (wpAny_call_entry F.slot_dict_ne da.typeIs F.entry_dict_ne ?_ (F.args_dict_ne_2 _ _)) hu
  show wpAny _ _ (Builtin.Dict.dictSlotArgs "__ne__" ⟨[.ref a, .ref b], []⟩ >>= _) _ _ s
  refine wpAny_bind ?_
  unfold Builtin.Dict.dictSlotArgs
  refine wpAny_bind (wpAny_notOrdered_dict da.typeIs ?_)
  show wpAny _ _ (pure (Value.ref a, Value.ref b)) _ _ s
  refine wpAny_pure ?_
  refine wpAny_bind (wpAny_isInstance (T := "dict") db.typeIs F.sub_dict_dict ?_)
  simp only [Bool.not_true, Bool.false_eq_true, if_false]
  refine wpAny_bind (wpAny_pure ?_)
  refine wpAny_bind (wpAny_pure ?_)
  refine wpAny_bind (same_pairs ha hb da db hlen hits ?_)
  refine wpAny_pure ⟨_, rfl, ⟨(fun x => nomatch x), ?_⟩⟩
  simpa using h
end
end Rg
set_option Elab.async false
set_option linter.all false
set_option maxRecDepth 100000
set_option maxHeartbeats 4000000
/-! two things that are borne alike are alike by == -/
namespace Rg
open PySem PySem.SeqAt L2
theorem valueAt_cons {K : Type} [DecidableEq K] {k j : K} {v : Value} {r : List (K × Value)} : valueAt ((j, v) :: r) k = if j = k then some v else valueAt r k := by
  unfold valueAt
  by_cases h : j = k
  · simp [h]
  · simp [h]
section
variable {P : Program} {w : World} {H : Hp} {s : Shared} (hok : HOk P w H s.heap)
include hok
mutual
theorem rep_eq : ∀ (t : Th) {v v' : V} {u u' : Value} {A : Around}, Rep H t v → Rep H t v' → L2.RelV v u → L2.RelV v' u' → t.Ok → A.units + t.size < cLine → EqIn P w A s u u'
  | .num i, v, v', u, u', A, h, h', r, r', _, _ => by
    rw [(h : v = .int i)] at r
    rw [(h' : v' = .int i)] at r'
    obtain ⟨t1, rfl⟩ := r
    obtain ⟨t2, rfl⟩ := r'
    have z := EqAt.int_int (A := A) (s := s) i t1 i t2
    rw [beq_self_eq_true] at z
    exact EqIn.of z
  | .word x, v, v', u, u', A, h, h', r, r', _, _ => by
    rw [(h : v = .str x)] at r
    rw [(h' : v' = .str x)] at r'
    obtain ⟨t1, rfl⟩ := r
    obtain ⟨t2, rfl⟩ := r'
    have z := EqAt.str_str (A := A) (s := s) x t1 x t2
    rw [beq_self_eq_true] at z
    exact EqIn.of z
  | .row l, v, v', u, u', A, h, h', r, r', ok, hu => by
    obtain ⟨a, xs, rfl, h2, h3⟩ := (h : ∃ a xs, v = V.ref a ∧ H a = some (.lst xs) ∧ RepR H l xs)
    obtain ⟨b, ys, rfl, g2, g3⟩ := (h' : ∃ a xs, v' = V.ref a ∧ H a = some (.lst xs) ∧ RepR H l xs)
    cases r
    cases r'
    obtain ⟨_, its, n, rv, e1⟩ := hok a _ h2
    obtain ⟨_, jts, m, rw', e2⟩ := hok b _ g2
    have hu' : A.units + (l.size + 1) < cLine := hu
    have key := repR_eq (A := A.in1) l h3 g3 rv rw' ok.2 (by show A.units + 1 + l.size < cLine; omega)
    have hl : its.length = jts.length := by rw [← rv.length, ← rw'.length, h3.len, g3.len]
    refine EqIn.refs fun E Q q => rc_lists (items := its.toArray) (items2 := jts.toArray) ⟨_, e1, rfl, n, rfl⟩ ⟨_, e2, rfl, m, rfl⟩ (by simpa using hl) (by omega) (fun j h1 h2' => ?_) q
    simpa using key j (by simpa using h1) (by simpa using h2')
  | .dic l, v, v', u, u', A, h, h', r, r', ok, hu => by
    obtain ⟨a, kvs, rfl, h2, h3⟩ := (h : ∃ a xs, v = V.ref a ∧ H a = some (.dK xs) ∧ RepD H l xs)
    obtain ⟨b, kws, rfl, g2, g3⟩ := (h' : ∃ a xs, v' = V.ref a ∧ H a = some (.dK xs) ∧ RepD H l xs)
    cases r
    cases r'
    obtain ⟨_, sa, vs, rv, d1⟩ := dk_of hok h2
    obtain ⟨_, sb, ws, rw', d2⟩ := dk_of hok g2
    have hu' : A.units + (l.size + 1) < cLine := hu
    have key := repD_eq (A := A.in1) l h3 g3 rv rw' ok.2.1 ok.2.2 (by show A.units + 1 + l.size < cLine; omega)
    have hl : vs.length = ws.length := by rw [← rv.length, ← rw'.length, h3.len, g3.len]
    exact EqIn.refs fun E Q q => rc_dicts sa sb d1 d2 hl (by omega) key q
theorem repR_eq : ∀ (l : Ts) {xs ys : List V} {us ws : List Value} {A : Around}, RepR H l xs → RepR H l ys → Vals xs us → Vals ys ws → l.Ok → A.units + l.size < cLine → ∀ (j : Nat) (h1 : j < us.length) (h2 : j < ws.length), EqIn P w A s us[j] ws[j]
  | .nil, xs, ys, us, ws, A, h, h', r, r', _, _, j, h1, h2 => by
    rw [(h : xs = [])] at r
    cases r
    exact absurd h1 (Nat.not_lt_zero _)
  | .cons k t q, xs, ys, us, ws, A, h, h', r, r', ok, hu, j, h1, h2 => by
    obtain ⟨y, yr, rfl, a1, a2⟩ := (h : ∃ y ys, xs = y :: ys ∧ Rep H t y ∧ RepR H q ys)
    obtain ⟨z, zr, rfl, b1, b2⟩ := (h' : ∃ y ys', ys = y :: ys' ∧ Rep H t y ∧ RepR H q ys')
    cases r with
    | cons r rr =>
      cases r' with
      | cons r' rr' =>
        have hu' : A.units + (t.size + q.size) < cLine := hu
        cases j with
        | zero => exact rep_eq t a1 b1 r r' ok.2.1 (by omega)
        | succ j => exact repR_eq q a2 b2 rr rr' ok.2.2 (by omega) j (Nat.lt_of_succ_lt_succ h1) (Nat.lt_of_succ_lt_succ h2)
theorem repD_eq : ∀ (l : Ts) {xs ys : List (Key × V)} {us ws : List (Key × Value)} {A : Around}, RepD H l xs → RepD H l ys → KV xs us → KV ys ws → l.keys.Nodup → l.Ok → A.units + l.size < cLine → Hits P w A s ws us
  | .nil, xs, ys, us, ws, A, h, h', r, r', _, _, _, k, v, hm => by
    rw [(h : xs = [])] at r
    cases r
    exact absurd hm (by simp)
  | .cons k t q, xs, ys, us, ws, A, h, h', r, r', nd, ok, hu, k', v, hm => by
    obtain ⟨y, yr, rfl, a1, a2⟩ := (h : ∃ y ys, xs = (Sum.inr k, y) :: ys ∧ Rep H t y ∧ RepD H q ys)
    obtain ⟨z, zr, rfl, b1, b2⟩ := (h' : ∃ y ys', ys = (Sum.inr k, y) :: ys' ∧ Rep H t y ∧ RepD H q ys')
    have nd' : (k :: q.keys).Nodup := nd
    obtain ⟨n1, n2⟩ := List.nodup_cons.mp nd'
    have hk := L2.KV.keys r
    cases r with
    | @cons p1 p2 l1 l2 r rr =>
      cases r' with
      | @cons p3 p4 l3 l4 r' rr' =>
        obtain ⟨c1, c2⟩ := p2
        obtain ⟨d1, d2⟩ := p4
        have e1 : Sum.inr k = c1 := r.1
        have e2 : Sum.inr k = d1 := r'.1
        subst e1
        subst e2
        have hu' : A.units + (t.size + q.size) < cLine := hu
        rw [valueAt_cons]
        rcases List.mem_cons.mp hm with e | hm
        · cases e
          exact ⟨d2, by rw [if_pos rfl], rep_eq t a1 b1 r.2 r'.2 ok.2.1 (by omega)⟩
        · have hne : ¬ (Sum.inr k : Key) = k' := fun e => by
            have z1 : k' ∈ l2.map (·.1) := List.mem_map.mpr ⟨_, hm, rfl⟩
            have z2 : yr.map (·.1) = l2.map (·.1) := L2.KV.keys rr
            rw [← z2, a2.keys, ← e] at z1
            obtain ⟨k2, z3, z4⟩ := List.mem_map.mp z1
            cases z4
            exact n1 z3
          rw [if_neg hne]
          exact repD_eq q a2 b2 rr rr' n2 ok.2.2 (by omega) k' v hm
end
end
end Rg
set_option Elab.async false
set_option linter.all false
set_option maxRecDepth 100000
set_option maxHeartbeats 4000000
/-! What the sort answers, as a function of the words; the order of things, and the keys that tell it -/
namespace Rg
open PySem PySem.W PyProof.Rows
def kasRun {α : Type} (lt : Nat → Nat → Bool) : KasT α → α
  | .ret a => a
  | .ask i j k => kasRun lt (k (lt i j))
theorem kasRun_ok {α : Type} {lt : Nat → Nat → Bool} {n : Nat} {P : α → Prop} : ∀ {t : KasT α}, KOk n P t → P (kasRun lt t)
  | .ret _, h => h
  | .ask i j k, h => kasRun_ok (t := k (lt i j)) (h.2.2 _)
def cmpI (i j : Int) : Ordering := if i = j then .eq else if i < j then .lt else .gt
def cmpS (x y : Str) : Ordering := if x = y then .eq else if x.cps.toList < y.cps.toList then .lt else .gt
def cmpW (x y : Str) : Ordering := (cmpI x.length y.length).then (cmpS x y)
def ltW (x y : Str) : Bool := cmpW x y == .lt
/-- the words in the order in which the sort by (length, word) leaves them -/
def srtP (xs : List Str) : List Nat := if xs.length < 2 then List.range xs.length else (kasRun (fun i j => ltW (xs.getD i Str.empty) (xs.getD j Str.empty)) (kas_sort xs.length)).toList
def srt (xs : List Str) : List Str := (srtP xs).map fun i => xs.getD i Str.empty
theorem srtP_perm (xs : List Str) : (srtP xs).Perm (List.range xs.length) := by
  unfold srtP
  split
  · exact List.Perm.refl _
  · rename_i h
    exact kasRun_ok (P := Pm xs.length) (sort_ok (by omega))
theorem range_getD (xs : List Str) : (List.range xs.length).map (fun i => xs.getD i Str.empty) = xs := by
  apply List.ext_getElem
  · simp
  · intro i q1 q2
    simp [List.getD_eq_getElem?_getD, List.getElem?_eq_getElem q2]
theorem srt_perm (xs : List Str) : (srt xs).Perm xs := by
  have z := (srtP_perm xs).map fun i => xs.getD i Str.empty
  rw [range_getD] at z
  exact z
theorem cmpI_eq {i j : Int} (h : cmpI i j = .eq) : i = j := by
  unfold cmpI at h
  by_cases e : i = j
  · exact e
  · rw [if_neg e] at h
    by_cases l : i < j
    · rw [if_pos l] at h; cases h
    · rw [if_neg l] at h; cases h
theorem then_eq {a b : Ordering} (h : a.then b = .eq) : a = .eq ∧ b = .eq := by cases a <;> cases b <;> first | exact ⟨rfl, rfl⟩ | cases h
theorem then_assoc (a b c : Ordering) : (a.then b).then c = a.then (b.then c) := by cases a <;> rfl
/-- what a thing is, without what it holds -/
inductive Own where
  | num (i : Int)
  | word (x : Str)
  | row
  | dic
def Own.sort : Own → Int
  | .num _ => 0
  | .word _ => 1
  | .row => 2
  | .dic => 3
def neg (i : Int) : Int := if i < 0 then 1 else 0
def Own.in1 : Own → Own → Ordering
  | .num i, .num j => (cmpI i.natAbs j.natAbs).then (cmpI (neg i) (neg j))
  | .word x, .word y => cmpW x y
  | _, _ => .eq
def Own.cmp (a b : Own) : Ordering := (cmpI a.sort b.sort).then (a.in1 b)
structure Kt where
  f : Str
  n : Nat
  own : Own
def Kt.cmp (a b : Kt) : Ordering := (cmpW a.f b.f).then ((cmpI a.n b.n).then (a.own.cmp b.own))
def cmpL : List Kt → List Kt → Ordering
  | [], [] => .eq
  | [], _ :: _ => .lt
  | _ :: _, [] => .gt
  | a :: l, b :: m => (a.cmp b).then (cmpL l m)
def Th.own : Th → Own
  | .num i => .num i
  | .word x => .word x
  | .row _ => .row
  | .dic _ => .dic
mutual
/-- the order of things (their fields in order already) -/
def ordT : Th → Th → Ordering
  | .num i, b => (cmpI (1 : Nat) b.size).then ((Own.num i).cmp b.own)
  | .word x, b => (cmpI (1 : Nat) b.size).then ((Own.word x).cmp b.own)
  | .row l, b => (cmpI (l.size + 1 : Nat) b.size).then ((Own.row.cmp b.own).then (match b with | .row m => ordS l m | _ => .eq))
  | .dic l, b => (cmpI (l.size + 1 : Nat) b.size).then ((Own.dic.cmp b.own).then (match b with | .dic m => ordS l m | _ => .eq))
def ordS : Ts → Ts → Ordering
  | .nil, _ => .eq
  | .cons k t r, m => match m with
    | .nil => .eq
    | .cons k' t' r' => (cmpW k k').then ((ordT t t').then (ordS r r'))
end
mutual
def keyT : Str → Th → List Kt
  | f, .num i => [⟨f, 1, .num i⟩]
  | f, .word x => [⟨f, 1, .word x⟩]
  | f, .row l => ⟨f, l.size + 1, .row⟩ :: keyS l
  | f, .dic l => ⟨f, l.size + 1, .dic⟩ :: keyS l
def keyS : Ts → List Kt
  | .nil => []
  | .cons k t r => keyT k t ++ keyS r
end
theorem ordT_size {a b : Th} (h : ordT a b = .eq) : a.size = b.size := by
  cases a <;> (unfold ordT at h; have z := cmpI_eq (then_eq h).1; exact Int.ofNat.inj z)
theorem size_pos (t : Th) : 1 ≤ t.size := by cases t <;> (unfold Th.size; omega)
mutual
theorem key_cmp : ∀ (a : Th) (f g : Str) (b : Th) (R S : List Kt), cmpL (keyT f a ++ R) (keyT g b ++ S) = (cmpW f g).then ((ordT a b).then (cmpL R S))
  | .num i, f, g, b, R, S => by
    cases b <;> (unfold keyT ordT; show (Kt.cmp _ _).then _ = _; unfold Kt.cmp)
    · simp only [then_assoc, List.nil_append]; rfl
    · simp only [then_assoc, List.nil_append]; rfl
    · simp only [then_assoc]
      cases cmpW f g <;> rfl
    · simp only [then_assoc]
      cases cmpW f g <;> rfl
  | .word x, f, g, b, R, S => by
    cases b <;> (unfold keyT ordT; show (Kt.cmp _ _).then _ = _; unfold Kt.cmp)
    · simp only [then_assoc, List.nil_append]; rfl
    · simp only [then_assoc, List.nil_append]; rfl
    · simp only [then_assoc]
      cases cmpW f g <;> rfl
    · simp only [then_assoc]
      cases cmpW f g <;> rfl
  | .row l, f, g, b, R, S => by
    cases b with
    | num j =>
      unfold keyT ordT; show (Kt.cmp _ _).then _ = _; unfold Kt.cmp
      simp only [then_assoc]
      cases cmpW f g <;> first | rfl | (show (cmpI _ _).then _ = (cmpI _ _).then _; cases cmpI _ _ <;> rfl)
    | word y =>
      unfold keyT ordT; show (Kt.cmp _ _).then _ = _; unfold Kt.cmp
      simp only [then_assoc]
      cases cmpW f g <;> first | rfl | (show (cmpI _ _).then _ = (cmpI _ _).then _; cases cmpI _ _ <;> rfl)
    | row m =>
      unfold keyT ordT; show (Kt.cmp _ _).then (cmpL (keyS l ++ R) (keyS m ++ S)) = _; unfold Kt.cmp
      simp only [then_assoc]
      cases cmpW f g <;> try rfl
      show (cmpI (l.size + 1 : Nat) (m.size + 1 : Nat)).then _ = (cmpI (l.size + 1 : Nat) (m.size + 1 : Nat)).then _
      cases e : cmpI ((l.size + 1 : Nat) : Int) ((m.size + 1 : Nat) : Int) <;> try rfl
      have hz : l.size = m.size := by have z := cmpI_eq e; omega
      exact keyS_cmp l m R S hz
    | dic m =>
      unfold keyT ordT; show (Kt.cmp _ _).then _ = _; unfold Kt.cmp
      simp only [then_assoc]
      cases cmpW f g <;> first | rfl | (show (cmpI _ _).then _ = (cmpI _ _).then _; cases cmpI _ _ <;> rfl)
  | .dic l, f, g, b, R, S => by
    cases b with
    | num j =>
      unfold keyT ordT; show (Kt.cmp _ _).then _ = _; unfold Kt.cmp
      simp only [then_assoc]
      cases cmpW f g <;> first | rfl | (show (cmpI _ _).then _ = (cmpI _ _).then _; cases cmpI _ _ <;> rfl)
    | word y =>
      unfold keyT ordT; show (Kt.cmp _ _).then _ = _; unfold Kt.cmp
      simp only [then_assoc]
      cases cmpW f g <;> first | rfl | (show (cmpI _ _).then _ = (cmpI _ _).then _; cases cmpI _ _ <;> rfl)
    | row m =>
      unfold keyT ordT; show (Kt.cmp _ _).then _ = _; unfold Kt.cmp
      simp only [then_assoc]
      cases cmpW f g <;> first | rfl | (show (cmpI _ _).then _ = (cmpI _ _).then _; cases cmpI _ _ <;> rfl)
    | dic m =>
      unfold keyT ordT; show (Kt.cmp _ _).then (cmpL (keyS l ++ R) (keyS m ++ S)) = _; unfold Kt.cmp
      simp only [then_assoc]
      cases cmpW f g <;> try rfl
      show (cmpI (l.size + 1 : Nat) (m.size + 1 : Nat)).then _ = (cmpI (l.size + 1 : Nat) (m.size + 1 : Nat)).then _
      cases e : cmpI ((l.size + 1 : Nat) : Int) ((m.size + 1 : Nat) : Int) <;> try rfl
      have hz : l.size = m.size := by have z := cmpI_eq e; omega
      exact keyS_cmp l m R S hz
theorem keyS_cmp : ∀ (l m : Ts) (R S : List Kt), l.size = m.size → cmpL (keyS l ++ R) (keyS m ++ S) = (ordS l m).then (cmpL R S)
  | .nil, .nil, R, S, _ => by unfold keyS ordS; rfl
  | .nil, .cons k t r, R, S, h => by
    have z := size_pos t
    have h' : 0 = t.size + r.size := h
    omega
  | .cons k t r, .nil, R, S, h => by
    have z := size_pos t
    have h' : t.size + r.size = 0 := h
    omega
  | .cons k t r, .cons k' t' r', R, S, h => by
    have h' : t.size + r.size = t'.size + r'.size := h
    unfold keyS ordS
    rw [List.append_assoc, List.append_assoc, key_cmp t k k' t' (keyS r ++ R) (keyS r' ++ S), then_assoc, then_assoc]
    cases cmpW k k' <;> try rfl
    show (ordT t t').then _ = (ordT t t').then _
    cases e : ordT t t' <;> try rfl
    have z := ordT_size e
    exact keyS_cmp r r' R S (by omega)
end
end Rg
set_option Elab.async false
set_option linter.all false
set_option maxRecDepth 100000
set_option maxHeartbeats 4000000
/-! A thing with its fields in order; the things within it one after another, their sizes told from the end on -/
namespace Rg
open PySem
def Ts.fld (k : Str) : Ts → Th
  | .nil => .num 0
  | .cons j t r => if j = k then t else r.fld k
def Ts.ofL : List (Str × Th) → Ts
  | [] => .nil
  | p :: r => .cons p.1 p.2 (Ts.ofL r)
def Ts.toL : Ts → List (Str × Th)
  | .nil => []
  | .cons k t r => (k, t) :: r.toL
theorem toL_ofL : ∀ l : List (Str × Th), (Ts.ofL l).toL = l
  | [] => rfl
  | p :: r => by unfold Ts.ofL Ts.toL; rw [toL_ofL r]
theorem toL_len : ∀ l : Ts, l.toL.length = l.len
  | .nil => rfl
  | .cons k t r => by unfold Ts.toL Ts.len; rw [List.length_cons, toL_len r]
theorem toL_keys : ∀ l : Ts, l.toL.map (·.1) = l.keys
  | .nil => rfl
  | .cons k t r => by unfold Ts.toL Ts.keys; rw [List.map_cons, toL_keys r]
theorem keys_len (l : Ts) : l.keys.length = l.len := by rw [← toL_keys, List.length_map, toL_len]
theorem toL_size : ∀ l : Ts, l.size = (l.toL.map fun p => p.2.size).sum
  | .nil => rfl
  | .cons k t r => by unfold Ts.toL Ts.size; rw [List.map_cons, List.sum_cons, toL_size r]
mutual
/-- the fields in order, in rows none -/
def nrm : Th → Th
  | .num i => .num i
  | .word x => .word x
  | .row l => .row (nrmR l)
  | .dic l => .dic (Ts.ofL ((srt l.keys).map fun k => (k, (nrmS l).fld k)))
def nrmR : Ts → Ts
  | .nil => .nil
  | .cons _ t r => .cons Str.empty (nrm t) (nrmR r)
def nrmS : Ts → Ts
  | .nil => .nil
  | .cons k t r => .cons k (nrm t) (nrmS r)
end
/-- what a thing holds, in order -/
def kids : Th → List (Str × Th)
  | .row l => l.toL.map fun p => (Str.empty, p.2)
  | .dic l => (srt l.keys).map fun k => (k, l.fld k)
  | _ => []
/-- what a thing in order holds -/
def kidsN : Th → List (Str × Th)
  | .row l => l.toL
  | .dic l => l.toL
  | _ => []
theorem get_all : ∀ (l : Ts), l.keys.Nodup → l.keys.map (fun k => (k, l.fld k)) = l.toL
  | .nil, _ => rfl
  | .cons j t r, h => by
    obtain ⟨h1, h2⟩ := List.nodup_cons.mp (show (j :: r.keys).Nodup from h)
    show (j, (Ts.cons j t r).fld j) :: r.keys.map (fun k => (k, (Ts.cons j t r).fld k)) = (j, t) :: r.toL
    have e : (Ts.cons j t r).fld j = t := by unfold Ts.fld; rw [if_pos rfl]
    rw [e, ← get_all r h2]
    congr 1
    refine List.map_congr_left fun k hk => ?_
    show (k, (Ts.cons j t r).fld k) = (k, r.fld k)
    have e2 : (Ts.cons j t r).fld k = r.fld k := by show (if j = k then t else r.fld k) = r.fld k; rw [if_neg (fun z => h1 (by rw [z]; exact hk))]
    rw [e2]
theorem nrmS_keys : ∀ l : Ts, (nrmS l).keys = l.keys
  | .nil => rfl
  | .cons k t r => by show k :: (nrmS r).keys = k :: r.keys; rw [nrmS_keys r]
mutual
theorem nrm_size : ∀ t : Th, t.Ok → (nrm t).size = t.size
  | .num i, _ => rfl
  | .word x, _ => rfl
  | .row l, h => by
    show (nrmR l).size + 1 = l.size + 1
    rw [nrmR_size l h.2]
  | .dic l, h => by
    show (Ts.ofL ((srt l.keys).map fun k => (k, (nrmS l).fld k))).size + 1 = l.size + 1
    rw [toL_size, toL_ofL]
    have e1 : ((srt l.keys).map fun k => (k, (nrmS l).fld k)).Perm (nrmS l).toL := by
      have z := (srt_perm l.keys).map fun k => (k, (nrmS l).fld k)
      rw [← nrmS_keys l] at z ⊢
      rw [get_all (nrmS l) (by rw [nrmS_keys]; exact h.2.1)] at z
      exact z
    rw [(e1.map fun p => p.2.size).sum_nat, ← toL_size, nrmS_size l h.2.2]
theorem nrmR_size : ∀ l : Ts, l.Ok → (nrmR l).size = l.size
  | .nil, _ => rfl
  | .cons k t r, h => by
    have h' : k.length ≤ 100 ∧ Th.Ok t ∧ Ts.Ok r := h
    show (nrm t).size + (nrmR r).size = t.size + r.size
    rw [nrm_size t h'.2.1, nrmR_size r h'.2.2]
theorem nrmS_size : ∀ l : Ts, l.Ok → (nrmS l).size = l.size
  | .nil, _ => rfl
  | .cons k t r, h => by
    have h' : k.length ≤ 100 ∧ Th.Ok t ∧ Ts.Ok r := h
    show (nrm t).size + (nrmS r).size = t.size + r.size
    rw [nrm_size t h'.2.1, nrmS_size r h'.2.2]
end
mutual
/-- the thing and all things within it, each ahead of what it holds -/
def pre : Str → Th → List (Str × Th)
  | f, .num i => [(f, .num i)]
  | f, .word x => [(f, .word x)]
  | f, .row l => (f, .row l) :: preS l
  | f, .dic l => (f, .dic l) :: preS l
def preS : Ts → List (Str × Th)
  | .nil => []
  | .cons k t r => pre k t ++ preS r
end
def ktOf (p : Str × Th) : Kt := ⟨p.1, p.2.size, p.2.own⟩
mutual
theorem key_pre : ∀ (t : Th) (f : Str), keyT f t = (pre f t).map ktOf
  | .num i, f => rfl
  | .word x, f => rfl
  | .row l, f => by show _ :: keyS l = _ :: (preS l).map ktOf; rw [keyS_pre l]; rfl
  | .dic l, f => by show _ :: keyS l = _ :: (preS l).map ktOf; rw [keyS_pre l]; rfl
theorem keyS_pre : ∀ l : Ts, keyS l = (preS l).map ktOf
  | .nil => rfl
  | .cons k t r => by show keyT k t ++ keyS r = (pre k t ++ preS r).map ktOf; rw [List.map_append, key_pre t k, keyS_pre r]
end
mutual
theorem pre_len : ∀ (t : Th) (f : Str), (pre f t).length = t.size
  | .num i, f => rfl
  | .word x, f => rfl
  | .row l, f => by show (preS l).length + 1 = l.size + 1; rw [preS_len l]
  | .dic l, f => by show (preS l).length + 1 = l.size + 1; rw [preS_len l]
theorem preS_len : ∀ l : Ts, (preS l).length = l.size
  | .nil => rfl
  | .cons k t r => by show (pre k t ++ preS r).length = t.size + r.size; rw [List.length_append, pre_len t k, preS_len r]
end
/-- sizes that wait, from the end on -/
def stk : List (Str × Th) → List Nat
  | [] => []
  | p :: r => (1 + ((stk r).take (kidsN p.2).length).sum) :: (stk r).drop (kidsN p.2).length
def Good : List (Str × Th) → Prop
  | [] => True
  | p :: r => (kidsN p.2).length ≤ (stk r).length ∧ Good r
mutual
theorem stk_pre : ∀ (t : Th) (f : Str) (R : List (Str × Th)), stk (pre f t ++ R) = t.size :: stk R
  | .num i, f, R => rfl
  | .word x, f, R => rfl
  | .row l, f, R => by
    show (1 + ((stk (preS l ++ R)).take l.toL.length).sum) :: (stk (preS l ++ R)).drop l.toL.length = (l.size + 1) :: stk R
    have z : (l.toL.map fun p => p.2.size).length = l.toL.length := List.length_map _
    rw [stk_preS l R, ← z, List.take_left, List.drop_left, ← toL_size, Nat.add_comm]
  | .dic l, f, R => by
    show (1 + ((stk (preS l ++ R)).take l.toL.length).sum) :: (stk (preS l ++ R)).drop l.toL.length = (l.size + 1) :: stk R
    have z : (l.toL.map fun p => p.2.size).length = l.toL.length := List.length_map _
    rw [stk_preS l R, ← z, List.take_left, List.drop_left, ← toL_size, Nat.add_comm]
theorem stk_preS : ∀ (l : Ts) (R : List (Str × Th)), stk (preS l ++ R) = (l.toL.map fun p => p.2.size) ++ stk R
  | .nil, R => rfl
  | .cons k t r, R => by
    show stk ((pre k t ++ preS r) ++ R) = t.size :: ((r.toL.map fun p => p.2.size) ++ stk R)
    rw [List.append_assoc, stk_pre t k, stk_preS r R]
end
mutual
theorem good_pre : ∀ (t : Th) (f : Str) (R : List (Str × Th)), Good R → Good (pre f t ++ R)
  | .num i, f, R, h => ⟨Nat.zero_le _, h⟩
  | .word x, f, R, h => ⟨Nat.zero_le _, h⟩
  | .row l, f, R, h => ⟨by show l.toL.length ≤ (stk (preS l ++ R)).length; rw [stk_preS l R, List.length_append, List.length_map]; exact Nat.le_add_right _ _, good_preS l R h⟩
  | .dic l, f, R, h => ⟨by show l.toL.length ≤ (stk (preS l ++ R)).length; rw [stk_preS l R, List.length_append, List.length_map]; exact Nat.le_add_right _ _, good_preS l R h⟩
theorem good_preS : ∀ (l : Ts) (R : List (Str × Th)), Good R → Good (preS l ++ R)
  | .nil, R, h => h
  | .cons k t r, R, h => by
    show Good ((pre k t ++ preS r) ++ R)
    rw [List.append_assoc]
    exact good_pre t k _ (good_preS r R h)
end
/-- the sizes that are told -/
def szs : List (Str × Th) → List Nat
  | [] => []
  | p :: r => (stk (p :: r)).headD 0 :: szs r
mutual
theorem szs_pre : ∀ (t : Th) (f : Str) (R : List (Str × Th)), szs (pre f t ++ R) = ((pre f t).map fun p => p.2.size) ++ szs R
  | .num i, f, R => rfl
  | .word x, f, R => rfl
  | .row l, f, R => by
    show (stk (pre f (.row l) ++ R)).headD 0 :: szs (preS l ++ R) = (l.size + 1) :: (((preS l).map fun p => p.2.size) ++ szs R)
    rw [stk_pre, szs_preS l R]
    rfl
  | .dic l, f, R => by
    show (stk (pre f (.dic l) ++ R)).headD 0 :: szs (preS l ++ R) = (l.size + 1) :: (((preS l).map fun p => p.2.size) ++ szs R)
    rw [stk_pre, szs_preS l R]
    rfl
theorem szs_preS : ∀ (l : Ts) (R : List (Str × Th)), szs (preS l ++ R) = ((preS l).map fun p => p.2.size) ++ szs R
  | .nil, R => rfl
  | .cons k t r, R => by
    show szs ((pre k t ++ preS r) ++ R) = ((pre k t ++ preS r).map fun p => p.2.size) ++ szs R
    rw [List.append_assoc, szs_pre t k, szs_preS r R, List.map_append, List.append_assoc]
end
end Rg
set_option Elab.async false
set_option linter.all false
set_option maxRecDepth 100000
set_option maxHeartbeats 4000000
/-! == and < of tuples and lists, by the first place at which they are unlike -/
namespace Rg
open PySem PySem.SeqAt
open AutoSeq1 (wpAny_loadPart')
open MeetsSeq MeetsSeq2 MeetsSeq3 SeqRoads2
def LtAt (A : Around) (s : Shared) (u v : Value) (b : Bool) : Prop :=
  ∀ (prog : Program) (w : World) (E : Value → Shared → Prop) (Q : Value → Shared → Prop), Q (.bool b) s → wpAny (model prog w) A (richCompare .Lt u v) Q E s
def SeqLt (A : Around) (s : Shared) : List Value → List Value → Bool → Prop
  | [], [], r => r = false
  | [], _ :: _, r => r = true
  | _ :: _, [], r => r = false
  | x :: xs, y :: ys, r => (EqAt A s x y true ∧ SeqLt A s xs ys r) ∨ (EqAt A s x y false ∧ LtAt A s x y r)
def SeqEq (A : Around) (s : Shared) : List Value → List Value → Bool → Prop
  | [], [], r => r = true
  | [], _ :: _, r => r = false
  | _ :: _, [], r => r = false
  | x :: xs, y :: ys, r => (EqAt A s x y true ∧ SeqEq A s xs ys r) ∨ (EqAt A s x y false ∧ r = false)
section
variable {l b : Addr} {items items2 : Array Value} {n n2 : Nat} {dd dd2 : Option Addr} {sl sl2 : Array (Option Value)} {r : Bool}
theorem tuple_ltS : Meets (Builtin.«tuple.__lt__» ⟨[.ref l, .ref b], []⟩)
      (fun A R s => s.heap.get? l = some { cls := .type "tuple", dict := dd, data := .seq items n, slots := sl } ∧ s.heap.get? b = some { cls := .type "tuple", dict := dd2, data := .seq items2 n2, slots := sl2 } ∧
        SeqLt A.in1 s items.toList items2.toList r ∧ R (.ok (.ret (.bool r))) s) :=
  .of_wp fun prog w A R s h => by
    obtain ⟨hp, g, d, tk, os⟩ := s; obtain ⟨hl, hb, hS, h⟩ := h
    have f2 := AutoSeq1.sub_tuple_tuple
    wp_walk using wpAny_loadPart' hl, wpAny_loadPart' hb, wpAny_forIn_list _ (fun rest b s' => b.1 = none ∧ s' = ⟨hp, g, d, tk, os⟩ ∧ ∃ (vs ws : List Value), rest = vs.zip ws ∧
      SeqLt A.in1 ⟨hp, g, d, tk, os⟩ vs ws r ∧ vs.length + items2.size = ws.length + items.size) _
    case turn =>
      rintro ⟨y, x⟩ rest b s' ⟨hb', rfl, vs, ws, hz, hS, hlen⟩
      cases vs with
      | nil => rw [List.zip_nil_left] at hz; cases hz
      | cons a vs =>
        cases ws with
        | nil => rw [List.zip_nil_right] at hz; cases hz
        | cons c ws =>
          rw [List.zip_cons_cons] at hz
          injection hz with hyx hrest
          injection hyx with hy hx
          subst hy hx
          simp only [List.length_cons] at hlen
          rcases (show (EqAt A.in1 ⟨hp, g, d, tk, os⟩ y x true ∧ SeqLt A.in1 ⟨hp, g, d, tk, os⟩ vs ws r) ∨ (EqAt A.in1 ⟨hp, g, d, tk, os⟩ y x false ∧ LtAt A.in1 ⟨hp, g, d, tk, os⟩ y x r) from hS) with ⟨he, hS⟩ | ⟨he, hS⟩
          · refine wpAny_bind (he prog w _ _ ?_)
            wp_walk
            exact ⟨rfl, rfl, _, _, hrest, hS, by omega⟩
          · refine wpAny_bind (he prog w _ _ ?_)
            have hri := hS prog w
            wp_walk using hri
            exact ⟨_, rfl, h⟩
    case fin =>
      rintro ⟨b1, b2⟩ s' ⟨hb', rfl, vs, ws, hz, hS, hlen⟩
      simp only at hb'
      subst hb'
      have hv : r = decide (items.size < items2.size) := by
        cases vs with
        | nil =>
          cases ws with
          | nil =>
            simp only [List.length_nil] at hlen
            exact (show r = false from hS).trans (decide_eq_false (by omega)).symm
          | cons c ws =>
            simp only [List.length_nil, List.length_cons] at hlen
            exact (show r = true from hS).trans (decide_eq_true (by omega)).symm
        | cons a vs =>
          cases ws with
          | nil =>
            simp only [List.length_nil, List.length_cons] at hlen
            exact (show r = false from hS).trans (decide_eq_false (by omega)).symm
          | cons c ws =>
            rw [List.zip_cons_cons] at hz
            cases hz
      rw [hv] at h
      wp_walk
      exact ⟨_, rfl, by simpa [Builtin.Tuple.tupleCompareSizes] using h⟩
    case h =>
      exact ⟨rfl, rfl, items.toList, items2.toList, rfl, hS, by rw [Array.length_toList, Array.length_toList]; omega⟩
theorem tuple_eqS : Meets (Builtin.«tuple.__eq__» ⟨[.ref l, .ref b], []⟩)
      (fun A R s => s.heap.get? l = some { cls := .type "tuple", dict := dd, data := .seq items n, slots := sl } ∧ s.heap.get? b = some { cls := .type "tuple", dict := dd2, data := .seq items2 n2, slots := sl2 } ∧
        SeqEq A.in1 s items.toList items2.toList r ∧ R (.ok (.ret (.bool r))) s) :=
  .of_wp fun prog w A R s h => by
    obtain ⟨hp, g, d, tk, os⟩ := s; obtain ⟨hl, hb, hS, h⟩ := h
    have f2 := AutoSeq1.sub_tuple_tuple
    wp_walk using wpAny_loadPart' hl, wpAny_loadPart' hb, wpAny_forIn_list _ (fun rest b s' => b.1 = none ∧ s' = ⟨hp, g, d, tk, os⟩ ∧ ∃ (vs ws : List Value), rest = vs.zip ws ∧
      SeqEq A.in1 ⟨hp, g, d, tk, os⟩ vs ws r ∧ vs.length + items2.size = ws.length + items.size) _
    case turn =>
      rintro ⟨y, x⟩ rest b s' ⟨hb', rfl, vs, ws, hz, hS, hlen⟩
      cases vs with
      | nil => rw [List.zip_nil_left] at hz; cases hz
      | cons a vs =>
        cases ws with
        | nil => rw [List.zip_nil_right] at hz; cases hz
        | cons c ws =>
          rw [List.zip_cons_cons] at hz
          injection hz with hyx hrest
          injection hyx with hy hx
          subst hy hx
          simp only [List.length_cons] at hlen
          rcases (show (EqAt A.in1 ⟨hp, g, d, tk, os⟩ y x true ∧ SeqEq A.in1 ⟨hp, g, d, tk, os⟩ vs ws r) ∨ (EqAt A.in1 ⟨hp, g, d, tk, os⟩ y x false ∧ r = false) from hS) with ⟨he, hS⟩ | ⟨he, hS⟩
          · refine wpAny_bind (he prog w _ _ ?_)
            wp_walk
            exact ⟨rfl, rfl, _, _, hrest, hS, by omega⟩
          · refine wpAny_bind (he prog w _ _ ?_)
            rw [hS] at h
            wp_walk
            exact ⟨_, rfl, h⟩
    case fin =>
      rintro ⟨b1, b2⟩ s' ⟨hb', rfl, vs, ws, hz, hS, hlen⟩
      simp only at hb'
      subst hb'
      have hv : r = (items.size == items2.size) := by
        cases vs with
        | nil =>
          cases ws with
          | nil =>
            simp only [List.length_nil] at hlen
            exact (show r = true from hS).trans (beq_iff_eq.mpr (by omega)).symm
          | cons c ws =>
            simp only [List.length_nil, List.length_cons] at hlen
            exact (show r = false from hS).trans (beq_eq_false_iff_ne.mpr (by omega)).symm
        | cons a vs =>
          cases ws with
          | nil =>
            simp only [List.length_nil, List.length_cons] at hlen
            exact (show r = false from hS).trans (beq_eq_false_iff_ne.mpr (by omega)).symm
          | cons c ws =>
            rw [List.zip_cons_cons] at hz
            cases hz
      rw [hv] at h
      wp_walk
      exact ⟨_, rfl, by simpa [Builtin.Tuple.tupleCompareSizes] using h⟩
    case h =>
      exact ⟨rfl, rfl, items.toList, items2.toList, rfl, hS, by rw [Array.length_toList, Array.length_toList]; omega⟩
end
/-- the two are so ordered, and all stays -/
def ElC (A : Around) (s : Shared) (u v : Value) (c : Ordering) : Prop := EqAt A s u v (c == .eq) ∧ (c ≠ .eq → LtAt A s u v (c == .lt))
def SeqC (A : Around) (s : Shared) (us vs : List Value) (c : Ordering) : Prop := SeqEq A s us vs (c == .eq) ∧ SeqLt A s us vs (c == .lt)
section
variable {A : Around} {s : Shared}
theorem SeqC.nil : SeqC A s [] [] .eq := ⟨rfl, rfl⟩
theorem SeqC.more {x : Value} {xs : List Value} : SeqC A s (x :: xs) [] .gt := ⟨rfl, rfl⟩
theorem SeqC.cons {x y : Value} {xs ys : List Value} {c d : Ordering} (h : ElC A s x y c) (t : c = .eq → SeqC A s xs ys d) : SeqC A s (x :: xs) (y :: ys) (c.then d) := by
  cases c with
  | eq => exact ⟨.inl ⟨h.1, (t rfl).1⟩, .inl ⟨h.1, (t rfl).2⟩⟩
  | lt => exact ⟨.inr ⟨h.1, rfl⟩, .inr ⟨h.1, h.2 (by decide)⟩⟩
  | gt => exact ⟨.inr ⟨h.1, rfl⟩, .inr ⟨h.1, h.2 (by decide)⟩⟩
theorem ElC.int (a c : Int) (t u : Tok) : ElC A s (.int a t) (.int c u) (cmpI a c) := by
  have e1 : (a == c) = (cmpI a c == .eq) := by
    unfold cmpI
    by_cases h : a = c
    · rw [if_pos h, h]; simp
    · rw [if_neg h, beq_eq_false_iff_ne.mpr h]
      by_cases l : a < c
      · rw [if_pos l]; rfl
      · rw [if_neg l]; rfl
  refine ⟨by rw [← e1]; exact EqAt.int_int a t c u, fun hn => ?_⟩
  have e2 : decide (a < c) = (cmpI a c == .lt) := by
    unfold cmpI
    by_cases h : a = c
    · rw [if_pos h, h]; simp
    · rw [if_neg h]
      by_cases l : a < c
      · rw [if_pos l, decide_eq_true l]; rfl
      · rw [if_neg l, decide_eq_false l]; rfl
  rw [← e2]
  exact fun prog w E Q q => HT.rcLt_int A s a t c u prog w E Q q
theorem ElC.str (a c : Str) (t u : Tok) : ElC A s (.str a t) (.str c u) (cmpS a c) := by
  have e1 : (a == c) = (cmpS a c == .eq) := by
    unfold cmpS
    by_cases h : a = c
    · rw [if_pos h, h]; simp
    · rw [if_neg h, beq_eq_false_iff_ne.mpr h]
      by_cases l : a.cps.toList < c.cps.toList
      · rw [if_pos l]; rfl
      · rw [if_neg l]; rfl
  refine ⟨by rw [← e1]; exact EqAt.str_str a t c u, fun hn => ?_⟩
  have e2 : decide (a.cps.toList < c.cps.toList) = (cmpS a c == .lt) := by
    unfold cmpS
    by_cases h : a = c
    · rw [if_pos h, h, decide_eq_false (List.lt_irrefl _)]; rfl
    · rw [if_neg h]
      by_cases l : a.cps.toList < c.cps.toList
      · rw [if_pos l, decide_eq_true l]; rfl
      · rw [if_neg l, decide_eq_false l]; rfl
  rw [← e2]
  exact fun prog w E Q q => (PyProof.Rows.lt_str q : wpAny (model prog w) A (compareOp .Lt (.str a t) (.str c u)) Q E s)
theorem rcEq_tup {l b : Addr} {us vs : List Value} {c : Ordering} (hl : s.heap.IsTuple l us.toArray) (hb : s.heap.IsTuple b vs.toArray) (hu : A.units < cLine) (h : SeqC A.in1 s us vs c) : RcAt A s (.ref l) (.ref b) (c == .eq) := fun prog w E Q q => by
  obtain ⟨⟨cls, dd, data, sl⟩, ho, hc, n, hd⟩ := id hl
  obtain ⟨⟨cls2, dd2, data2, sl2⟩, ho2, hc2, n2, hd2⟩ := id hb
  simp only at hc hd hc2 hd2
  subst hc hd hc2 hd2
  exact richCompare_meets_room (op := .Eq) ⟨_, ho, rfl⟩ ⟨_, ho2, rfl⟩ PySem.F.slot_tuple_eq PySem.F.entry_tuple_eq (PySem.F.args_tuple_eq_2 _ _) (tuple_eqS (items := us.toArray) (items2 := vs.toArray))
    ⟨ho, ho2, h.1, (fun x => nomatch x), q⟩ hu
theorem ElC.tup {l b : Addr} {us vs : List Value} {c : Ordering} (hl : s.heap.IsTuple l us.toArray) (hb : s.heap.IsTuple b vs.toArray) (hu : A.units < cLine) (h : SeqC A.in1 s us vs c) (he : l = b → c = .eq) : ElC A s (.ref l) (.ref b) c := by
  refine ⟨?_, fun _ => ?_⟩
  · by_cases e : l = b
    · rw [he e, e]
      exact EqAt.same _
    · exact EqAt.of_refs e (rcEq_tup hl hb hu h)
  · intro prog w E Q q
    obtain ⟨⟨cls, dd, data, sl⟩, ho, hc, n, hd⟩ := id hl
    obtain ⟨⟨cls2, dd2, data2, sl2⟩, ho2, hc2, n2, hd2⟩ := id hb
    simp only at hc hd hc2 hd2
    subst hc hd hc2 hd2
    exact richCompare_meets_room (op := .Lt) ⟨_, ho, rfl⟩ ⟨_, ho2, rfl⟩ PySem.F.slot_tuple_lt PySem.F.entry_tuple_lt (PySem.F.args_tuple_lt_2 _ _) (tuple_ltS (items := us.toArray) (items2 := vs.toArray))
      ⟨ho, ho2, h.2, (fun x => nomatch x), q⟩ hu
end
end Rg
set_option Elab.async false
set_option linter.all false
set_option maxRecDepth 100000
set_option maxHeartbeats 4000000
/-! data: numbers, texts, truths, None, lists, tuples, records, and == of two that are borne alike -/
namespace Rg
open PySem PySem.SeqAt
open AutoSeq1 (wpAny_loadPart')
open MeetsSeq MeetsSeq2 MeetsSeq3 SeqRoads2
section
variable {P : Program} {w : World} {l b : Addr} {items items2 : Array Value} {n n2 : Nat} {dd dd2 : Option Addr} {sl sl2 : Array (Option Value)}
def TSpec (P : Program) (w : World) (l b : Addr) (items items2 : Array Value) (n n2 : Nat) (dd dd2 : Option Addr) (sl sl2 : Array (Option Value)) (r : Bool) : Spec := fun A R s =>
  s.heap.get? l = some { cls := .type "tuple", dict := dd, data := .seq items n, slots := sl } ∧ s.heap.get? b = some { cls := .type "tuple", dict := dd2, data := .seq items2 n2, slots := sl2 } ∧
    (∀ j (h1 : j < items.size) (h2 : j < items2.size), EqIn P w A.in1 s items[j] items2[j]) ∧ R (.ok (.ret (.bool r))) s
theorem tuple_eqIn (hsz : items.size = items2.size) : MeetsIn P w (Builtin.«tuple.__eq__» ⟨[.ref l, .ref b], []⟩) (TSpec P w l b items items2 n n2 dd dd2 sl sl2 true) := by
  intro A R s h
  obtain ⟨hp, g, d, tk, os⟩ := s
  obtain ⟨hl, hb, he, h⟩ := h
  have f2 := AutoSeq1.sub_tuple_tuple
  wp_walk using wpAny_loadPart' hl, wpAny_loadPart' hb, wpAny_forIn_list _ (fun rest b s' => b.1 = none ∧ s' = ⟨hp, g, d, tk, os⟩ ∧ ∃ i : Nat, rest = (items.toList.drop i).zip (items2.toList.drop i)) _
  case turn =>
    rintro ⟨y, x⟩ rest b s' ⟨hb', rfl, i, hz⟩
    rcases Nat.lt_or_ge i items.size with hi | hi
    · have h1 : items.toList.drop i = items[i] :: items.toList.drop (i + 1) := by
        rw [List.drop_eq_getElem_cons (by simpa using hi)]
        simp
      have h2 : items2.toList.drop i = items2[i]'(by omega) :: items2.toList.drop (i + 1) := by
        rw [List.drop_eq_getElem_cons (by simp; omega)]
        simp
      rw [h1, h2, List.zip_cons_cons] at hz
      injection hz with hyx hrest
      injection hyx with hy hx
      subst hy hx
      refine wpAny_bind (he i hi (by omega) _ _ ?_)
      wp_walk
      exact ⟨rfl, rfl, i + 1, hrest⟩
    · rw [List.drop_of_length_le (by simpa using hi), List.zip_nil_left] at hz
      cases hz
  case fin =>
    rintro ⟨b1, b2⟩ s' ⟨hb', rfl, i, hz⟩
    simp only at hb'
    subst hb'
    have hv : (true : Bool) = (items.size == items2.size) := by simp [hsz]
    rw [hv] at h
    wp_walk
    simpa [Builtin.Tuple.tupleCompareSizes] using h
  case h =>
    exact ⟨rfl, rfl, 0, rfl⟩
theorem tuple_neIn (hsz : items.size = items2.size) : MeetsIn P w (Builtin.«tuple.__ne__» ⟨[.ref l, .ref b], []⟩) (TSpec P w l b items items2 n n2 dd dd2 sl sl2 false) := by
  intro A R s h
  obtain ⟨hp, g, d, tk, os⟩ := s
  obtain ⟨hl, hb, he, h⟩ := h
  have f2 := AutoSeq1.sub_tuple_tuple
  wp_walk using wpAny_loadPart' hl, wpAny_loadPart' hb, wpAny_forIn_list _ (fun rest b s' => b.1 = none ∧ s' = ⟨hp, g, d, tk, os⟩ ∧ ∃ i : Nat, rest = (items.toList.drop i).zip (items2.toList.drop i)) _
  case turn =>
    rintro ⟨y, x⟩ rest b s' ⟨hb', rfl, i, hz⟩
    rcases Nat.lt_or_ge i items.size with hi | hi
    · have h1 : items.toList.drop i = items[i] :: items.toList.drop (i + 1) := by
        rw [List.drop_eq_getElem_cons (by simpa using hi)]
        simp
      have h2 : items2.toList.drop i = items2[i]'(by omega) :: items2.toList.drop (i + 1) := by
        rw [List.drop_eq_getElem_cons (by simp; omega)]
        simp
      rw [h1, h2, List.zip_cons_cons] at hz
      injection hz with hyx hrest
      injection hyx with hy hx
      subst hy hx
      refine wpAny_bind (he i hi (by omega) _ _ ?_)
      wp_walk
      exact ⟨rfl, rfl, i + 1, hrest⟩
    · rw [List.drop_of_length_le (by simpa using hi), List.zip_nil_left] at hz
      cases hz
  case fin =>
    rintro ⟨b1, b2⟩ s' ⟨hb', rfl, i, hz⟩
    simp only at hb'
    subst hb'
    have hv : (false : Bool) = (items.size != items2.size) := by simp [hsz]
    rw [hv] at h
    wp_walk
    simpa [Builtin.Tuple.tupleCompareSizes] using h
  case h =>
    exact ⟨rfl, rfl, 0, rfl⟩
end
section
variable {P : Program} {w : World} {A : Around} {E : Value → Shared → Prop} {s : Shared} {l b : Addr} {items items2 : Array Value} {Q : Value → Shared → Prop}
theorem rc_tups (hl : s.heap.IsTuple l items) (hb : s.heap.IsTuple b items2) (hsz : items.size = items2.size) (hu : A.units < cLine) (he : ∀ j (h1 : j < items.size) (h2 : j < items2.size), EqIn P w A.in1 s items[j] items2[j]) (h : Q (.bool true) s) :
    wpAny (model P w) A (richCompare .Eq (.ref l) (.ref b)) Q E s := by
  obtain ⟨⟨cls, dd, data, sl⟩, ho, hc, n, hd⟩ := id hl
  obtain ⟨⟨cls2, dd2, data2, sl2⟩, ho2, hc2, n2, hd2⟩ := id hb
  simp only at hc hd hc2 hd2
  subst hc hd hc2 hd2
  refine wpAny_richCompare_same_room (op := .Eq) (T := "tuple") ⟨_, ho, rfl⟩ ⟨_, ho2, rfl⟩ F.slot_tuple_eq (call_meetsIn F.slot_tuple_eq ⟨_, ho, rfl⟩ F.entry_tuple_eq (F.args_tuple_eq_2 _ _) (tuple_eqIn hsz) ⟨ho, ho2, he, ?_⟩) hu
  exact ⟨(fun x => nomatch x), h⟩
theorem rc_tups_ne (hl : s.heap.IsTuple l items) (hb : s.heap.IsTuple b items2) (hsz : items.size = items2.size) (hu : A.units < cLine) (he : ∀ j (h1 : j < items.size) (h2 : j < items2.size), EqIn P w A.in1 s items[j] items2[j]) (h : Q (.bool false) s) :
    wpAny (model P w) A (richCompare .NotEq (.ref l) (.ref b)) Q E s := by
  obtain ⟨⟨cls, dd, data, sl⟩, ho, hc, n, hd⟩ := id hl
  obtain ⟨⟨cls2, dd2, data2, sl2⟩, ho2, hc2, n2, hd2⟩ := id hb
  simp only at hc hd hc2 hd2
  subst hc hd hc2 hd2
  refine wpAny_richCompare_same_room (op := .NotEq) (T := "tuple") ⟨_, ho, rfl⟩ ⟨_, ho2, rfl⟩ F.slot_tuple_ne (call_meetsIn F.slot_tuple_ne ⟨_, ho, rfl⟩ F.entry_tuple_ne (F.args_tuple_ne_2 _ _) (tuple_neIn hsz) ⟨ho, ho2, he, ?_⟩) hu
  exact ⟨(fun x => nomatch x), h⟩
end
end Rg
namespace Rg
open PySem PySem.SeqAt L2
inductive Dt where
  | int (i : Int) | str (x : Str) | bl (b : Bool) | non
  | lst (l : List Dt) | tup (l : List Dt) | dic (ks : List Str) (l : List Dt)
mutual
/-- how a tracked heap bears data -/
def DRep (H : Hp) : Dt → V → Prop
  | .int i, v => v = .int i
  | .str x, v => v = .str x
  | .bl b, v => v = .bl b
  | .non, v => v = .non
  | .lst l, v => ∃ a xs, v = .ref a ∧ H a = some (.lst xs) ∧ DReps H l xs
  | .tup l, v => ∃ a xs, v = .ref a ∧ H a = some (.tup xs) ∧ DReps H l xs
  | .dic ks l, v => ∃ a kvs, v = .ref a ∧ H a = some (.dK kvs) ∧ kvs.map (·.1) = ks.map Sum.inr ∧ DReps H l (kvs.map (·.2))
def DReps (H : Hp) : List Dt → List V → Prop
  | [], xs => xs = []
  | d :: l, xs => ∃ y ys, xs = y :: ys ∧ DRep H d y ∧ DReps H l ys
end
mutual
def Dt.size : Dt → Nat
  | .lst l => Dt.sizes l + 1
  | .tup l => Dt.sizes l + 1
  | .dic _ l => Dt.sizes l + 1
  | _ => 1
def Dt.sizes : List Dt → Nat
  | [] => 0
  | d :: l => d.size + Dt.sizes l
end
mutual
/-- how deep -/
def Dt.deep : Dt → Nat
  | .lst l => Dt.deeps l + 1
  | .tup l => Dt.deeps l + 1
  | .dic _ l => Dt.deeps l + 1
  | _ => 0
def Dt.deeps : List Dt → Nat
  | [] => 0
  | d :: l => max d.deep (Dt.deeps l)
end
mutual
/-- no field twice -/
def Dt.Fine : Dt → Prop
  | .lst l => Dt.Fines l
  | .tup l => Dt.Fines l
  | .dic ks l => ks.Nodup ∧ Dt.Fines l
  | _ => True
def Dt.Fines : List Dt → Prop
  | [] => True
  | d :: l => d.Fine ∧ Dt.Fines l
end
theorem DReps.len {H : Hp} : ∀ {l : List Dt} {xs : List V}, DReps H l xs → xs.length = l.length
  | [], xs, h => by rw [(h : xs = [])]; rfl
  | d :: l, xs, h => by
    obtain ⟨y, ys, rfl, _, h3⟩ := (h : ∃ y ys, xs = y :: ys ∧ DRep H d y ∧ DReps H l ys)
    exact congrArg (· + 1) (DReps.len h3)
mutual
theorem DRep.mono {H H' : Hp} (e : Same H H') : ∀ {d : Dt} {v : V}, DRep H d v → DRep H' d v
  | .int _, _, h => h
  | .str _, _, h => h
  | .bl _, _, h => h
  | .non, _, h => h
  | .lst l, v, h => by
    obtain ⟨a, xs, h1, h2, h3⟩ := (h : ∃ a xs, v = .ref a ∧ H a = some (.lst xs) ∧ DReps H l xs)
    exact ⟨a, xs, h1, e _ _ h2, DReps.mono e h3⟩
  | .tup l, v, h => by
    obtain ⟨a, xs, h1, h2, h3⟩ := (h : ∃ a xs, v = .ref a ∧ H a = some (.tup xs) ∧ DReps H l xs)
    exact ⟨a, xs, h1, e _ _ h2, DReps.mono e h3⟩
  | .dic ks l, v, h => by
    obtain ⟨a, xs, h1, h2, h3, h4⟩ := (h : ∃ a kvs, v = .ref a ∧ H a = some (.dK kvs) ∧ kvs.map (·.1) = ks.map Sum.inr ∧ DReps H l (kvs.map (·.2)))
    exact ⟨a, xs, h1, e _ _ h2, h3, DReps.mono e h4⟩
theorem DReps.mono {H H' : Hp} (e : Same H H') : ∀ {d : List Dt} {v : List V}, DReps H d v → DReps H' d v
  | [], _, h => h
  | d :: l, xs, h => by
    obtain ⟨y, ys, h1, h2, h3⟩ := (h : ∃ y ys, xs = y :: ys ∧ DRep H d y ∧ DReps H l ys)
    exact ⟨y, ys, h1, DRep.mono e h2, DReps.mono e h3⟩
end
theorem DReps.get {H : Hp} : ∀ {l : List Dt} {xs : List V}, DReps H l xs → ∀ (i : Nat) {x : V}, xs[i]? = some x → ∃ d, l[i]? = some d ∧ DRep H d x
  | [], xs, h, i, x, e => by rw [(h : xs = [])] at e; cases e
  | d :: l, xs, h, i, x, e => by
    obtain ⟨y, ys, rfl, h2, h3⟩ := (h : ∃ y ys, xs = y :: ys ∧ DRep H d y ∧ DReps H l ys)
    cases i with
    | zero => cases e; exact ⟨d, rfl, h2⟩
    | succ i => exact DReps.get h3 i e
theorem DReps.at {H : Hp} : ∀ {l : List Dt} {xs : List V}, DReps H l xs → ∀ (i : Nat) {d : Dt}, l[i]? = some d → ∃ x, xs[i]? = some x ∧ DRep H d x
  | [], xs, h, i, d, e => by cases e
  | d :: l, xs, h, i, d', e => by
    obtain ⟨y, ys, rfl, h2, h3⟩ := (h : ∃ y ys, xs = y :: ys ∧ DRep H d y ∧ DReps H l ys)
    cases i with
    | zero => cases e; exact ⟨y, rfl, h2⟩
    | succ i => exact DReps.at h3 i e
theorem DReps.app {H : Hp} {m : List Dt} {zs : List V} (h' : DReps H m zs) : ∀ {l : List Dt} {xs : List V}, DReps H l xs → DReps H (l ++ m) (xs ++ zs)
  | [], xs, h => by rw [(h : xs = [])]; exact h'
  | d :: l, xs, h => by
    obtain ⟨y, ys, rfl, h2, h3⟩ := (h : ∃ y ys, xs = y :: ys ∧ DRep H d y ∧ DReps H l ys)
    exact ⟨y, ys ++ zs, rfl, h2, DReps.app h' h3⟩
theorem DReps.snoc {H : Hp} {l : List Dt} {xs : List V} {d : Dt} {x : V} (h : DReps H l xs) (hx : DRep H d x) : DReps H (l ++ [d]) (xs ++ [x]) := DReps.app (show DReps H [d] [x] from ⟨x, [], rfl, hx, rfl⟩) h
theorem DReps.take {H : Hp} : ∀ {l : List Dt} {xs : List V} (n : Nat), DReps H l xs → DReps H (l.take n) (xs.take n)
  | _, _, 0, _ => rfl
  | [], xs, n + 1, h => by rw [(h : xs = [])]; rfl
  | d :: l, xs, n + 1, h => by
    obtain ⟨y, ys, rfl, h2, h3⟩ := (h : ∃ y ys, xs = y :: ys ∧ DRep H d y ∧ DReps H l ys)
    exact ⟨y, ys.take n, rfl, h2, DReps.take n h3⟩
theorem DReps.drop {H : Hp} : ∀ {l : List Dt} {xs : List V} (n : Nat), DReps H l xs → DReps H (l.drop n) (xs.drop n)
  | _, _, 0, h => h
  | [], xs, n + 1, h => by rw [(h : xs = [])]; rfl
  | d :: l, xs, n + 1, h => by
    obtain ⟨y, ys, rfl, h2, h3⟩ := (h : ∃ y ys, xs = y :: ys ∧ DRep H d y ∧ DReps H l ys)
    exact DReps.drop n h3
theorem DReps.strs {H : Hp} : ∀ (ns : List Str), DReps H (ns.map Dt.str) (ns.map V.str)
  | [] => rfl
  | n :: r => ⟨.str n, r.map V.str, rfl, rfl, DReps.strs r⟩
theorem DReps.strs_of {H : Hp} : ∀ {ns : List Str} {xs : List V}, DReps H (ns.map Dt.str) xs → xs = ns.map V.str
  | [], xs, h => h
  | n :: r, xs, h => by
    obtain ⟨y, ys, rfl, h2, h3⟩ := (h : ∃ y ys, xs = y :: ys ∧ DRep H (.str n) y ∧ DReps H (r.map Dt.str) ys)
    rw [(h2 : y = .str n), DReps.strs_of h3]
    rfl
theorem kv_vals : ∀ {kvs : List (Key × V)} {vs : List (Key × Value)}, KV kvs vs → Vals (kvs.map (·.2)) (vs.map (·.2))
  | _, _, .nil => .nil
  | _, _, .cons r t => .cons r.2 (kv_vals t)
theorem hits_of {P : Program} {w : World} {A : Around} {s : Shared} : ∀ {ks : List Str} {us ws : List (Key × Value)}, ks.Nodup → us.map (·.1) = ks.map Sum.inr → ws.map (·.1) = ks.map Sum.inr →
    (∀ (j : Nat) (h1 : j < (us.map (·.2)).length) (h2 : j < (ws.map (·.2)).length), EqIn P w A s (us.map (·.2))[j] (ws.map (·.2))[j]) → Hits P w A s ws us
  | [], us, ws, _, h1, _, _ => by
    intro k v hm
    have e : us = [] := List.map_eq_nil_iff.mp h1
    rw [e] at hm
    cases hm
  | n :: ks, us, ws, nd, h1, h2, he => by
    cases us with
    | nil => cases h1
    | cons p us =>
      cases ws with
      | nil => cases h2
      | cons q ws =>
        obtain ⟨k1, v1⟩ := p
        obtain ⟨k2, v2⟩ := q
        have e1 : k1 = Sum.inr n := by injection h1
        have e2 : k2 = Sum.inr n := by injection h2
        have f1 : us.map (·.1) = ks.map Sum.inr := by injection h1
        have f2 : ws.map (·.1) = ks.map Sum.inr := by injection h2
        subst e1 e2
        obtain ⟨nd1, nd2⟩ := List.nodup_cons.mp nd
        intro k v hm
        rw [valueAt_cons]
        rcases List.mem_cons.mp hm with e | hm
        · cases e
          exact ⟨v2, by rw [if_pos rfl], he 0 (by simp) (by simp)⟩
        · have hne : ¬ (Sum.inr n : Key) = k := fun e => by
            have z1 : k ∈ us.map (·.1) := List.mem_map.mpr ⟨_, hm, rfl⟩
            rw [f1, ← e] at z1
            obtain ⟨k2, z3, z4⟩ := List.mem_map.mp z1
            cases z4
            exact nd1 z3
          rw [if_neg hne]
          exact hits_of nd2 f1 f2 (fun j g1 g2 => he (j + 1) (by simpa using g1) (by simpa using g2)) k v hm
section
variable {P : Program} {w : World} {H : Hp} {s : Shared} (hok : HOk P w H s.heap)
include hok
mutual
theorem drep_eq : ∀ (d : Dt) {v v' : V} {u u' : Value} {A : Around}, DRep H d v → DRep H d v' → L2.RelV v u → L2.RelV v' u' → d.Fine → A.units + d.deep < cLine → EqIn P w A s u u'
  | .int i, v, v', u, u', A, h, h', r, r', _, _ => by
    rw [(h : v = .int i)] at r
    rw [(h' : v' = .int i)] at r'
    obtain ⟨t1, rfl⟩ := r
    obtain ⟨t2, rfl⟩ := r'
    have z := EqAt.int_int (A := A) (s := s) i t1 i t2
    rw [beq_self_eq_true] at z
    exact EqIn.of z
  | .str x, v, v', u, u', A, h, h', r, r', _, _ => by
    rw [(h : v = .str x)] at r
    rw [(h' : v' = .str x)] at r'
    obtain ⟨t1, rfl⟩ := r
    obtain ⟨t2, rfl⟩ := r'
    have z := EqAt.str_str (A := A) (s := s) x t1 x t2
    rw [beq_self_eq_true] at z
    exact EqIn.of z
  | .bl b, v, v', u, u', A, h, h', r, r', _, _ => by
    rw [(h : v = .bl b)] at r
    rw [(h' : v' = .bl b)] at r'
    cases r
    cases r'
    exact EqIn.of (EqAt.same _)
  | .non, v, v', u, u', A, h, h', r, r', _, _ => by
    rw [(h : v = .non)] at r
    rw [(h' : v' = .non)] at r'
    cases r
    cases r'
    exact EqIn.of (EqAt.same _)
  | .lst l, v, v', u, u', A, h, h', r, r', ok, hu => by
    obtain ⟨a, xs, rfl, h2, h3⟩ := (h : ∃ a xs, v = V.ref a ∧ H a = some (.lst xs) ∧ DReps H l xs)
    obtain ⟨b, ys, rfl, g2, g3⟩ := (h' : ∃ a xs, v' = V.ref a ∧ H a = some (.lst xs) ∧ DReps H l xs)
    cases r
    cases r'
    obtain ⟨_, its, n, rv, e1⟩ := hok a _ h2
    obtain ⟨_, jts, m, rw', e2⟩ := hok b _ g2
    have hu' : A.units + (Dt.deeps l + 1) < cLine := hu
    have key := dreps_eq (A := A.in1) l h3 g3 rv rw' ok (by show A.units + 1 + Dt.deeps l < cLine; omega)
    have hl : its.length = jts.length := by rw [← rv.length, ← rw'.length, h3.len, g3.len]
    refine EqIn.refs fun E Q q => rc_lists (items := its.toArray) (items2 := jts.toArray) ⟨_, e1, rfl, n, rfl⟩ ⟨_, e2, rfl, m, rfl⟩ (by simpa using hl) (by omega) (fun j h1 h2' => ?_) q
    simpa using key j (by simpa using h1) (by simpa using h2')
  | .tup l, v, v', u, u', A, h, h', r, r', ok, hu => by
    obtain ⟨a, xs, rfl, h2, h3⟩ := (h : ∃ a xs, v = V.ref a ∧ H a = some (.tup xs) ∧ DReps H l xs)
    obtain ⟨b, ys, rfl, g2, g3⟩ := (h' : ∃ a xs, v' = V.ref a ∧ H a = some (.tup xs) ∧ DReps H l xs)
    cases r
    cases r'
    obtain ⟨_, its, rv, e1⟩ := hok a _ h2
    obtain ⟨_, jts, rw', e2⟩ := hok b _ g2
    have hu' : A.units + (Dt.deeps l + 1) < cLine := hu
    have key := dreps_eq (A := A.in1) l h3 g3 rv rw' ok (by show A.units + 1 + Dt.deeps l < cLine; omega)
    have hl : its.length = jts.length := by rw [← rv.length, ← rw'.length, h3.len, g3.len]
    refine EqIn.refs fun E Q q => rc_tups (items := its.toArray) (items2 := jts.toArray) e1 e2 (by simpa using hl) (by omega) (fun j h1 h2' => ?_) q
    simpa using key j (by simpa using h1) (by simpa using h2')
  | .dic ks l, v, v', u, u', A, h, h', r, r', ok, hu => by
    obtain ⟨a, kvs, rfl, h2, h3, h4⟩ := (h : ∃ a kvs, v = .ref a ∧ H a = some (.dK kvs) ∧ kvs.map (·.1) = ks.map Sum.inr ∧ DReps H l (kvs.map (·.2)))
    obtain ⟨b, kws, rfl, g2, g3, g4⟩ := (h' : ∃ a kvs, v' = .ref a ∧ H a = some (.dK kvs) ∧ kvs.map (·.1) = ks.map Sum.inr ∧ DReps H l (kvs.map (·.2)))
    cases r
    cases r'
    obtain ⟨_, sa, vs, rv, d1⟩ := dk_of hok h2
    obtain ⟨_, sb, ws, rw', d2⟩ := dk_of hok g2
    have hu' : A.units + (Dt.deeps l + 1) < cLine := hu
    have hl : vs.length = ws.length := by
      rw [← rv.length, ← rw'.length, ← List.length_map (·.1), ← List.length_map (as := kws) (·.1), h3, g3]
    have kv := (kv_vals rv)
    have kw := (kv_vals rw')
    have key := dreps_eq (A := A.in1) l h4 g4 kv kw ok.2 (by show A.units + 1 + Dt.deeps l < cLine; omega)
    refine EqIn.refs fun E Q q => rc_dicts sa sb d1 d2 hl (by omega) (hits_of (ks := ks) ok.1 (by rw [← L2.KV.keys rv]; exact h3) (by rw [← L2.KV.keys rw']; exact g3) key) q
theorem dreps_eq : ∀ (l : List Dt) {xs ys : List V} {us ws : List Value} {A : Around}, DReps H l xs → DReps H l ys → Vals xs us → Vals ys ws → Dt.Fines l → A.units + Dt.deeps l < cLine → ∀ (j : Nat) (h1 : j < us.length) (h2 : j < ws.length), EqIn P w A s us[j] ws[j]
  | [], xs, ys, us, ws, A, h, h', r, r', _, _, j, h1, h2 => by
    rw [(h : xs = [])] at r
    cases r
    exact absurd h1 (Nat.not_lt_zero _)
  | d :: q, xs, ys, us, ws, A, h, h', r, r', ok, hu, j, h1, h2 => by
    obtain ⟨y, yr, rfl, a1, a2⟩ := (h : ∃ y ys, xs = y :: ys ∧ DRep H d y ∧ DReps H q ys)
    obtain ⟨z, zr, rfl, b1, b2⟩ := (h' : ∃ y ys', ys = y :: ys' ∧ DRep H d y ∧ DReps H q ys')
    cases r with
    | cons r rr =>
      cases r' with
      | cons r' rr' =>
        have hu' : A.units + max d.deep (Dt.deeps q) < cLine := hu
        cases j with
        | zero => exact drep_eq d a1 b1 r r' ok.1 (by omega)
        | succ j => exact dreps_eq q a2 b2 rr rr' ok.2 (by omega) j (Nat.lt_of_succ_lt_succ h1) (Nat.lt_of_succ_lt_succ h2)
end
end
/-- two that are borne alike are not unlike -/
theorem op_neD {X : Cx} {k : Nat} (hr : Room k X.A) : OpR X (compareOp .NotEq) (fun x y H Q => ∃ d : Dt, DRep H d x ∧ DRep H d y ∧ d.Fine ∧ d.deep ≤ 50 ∧ Q (.bl false) H) := by
  intro pins s σ H x y v u Q I rx ry h
  obtain ⟨d, h1, h2, ok, hz, q⟩ := h
  have hu : X.A.units + 60 < cLine := by have z := hr.un; omega
  cases d with
  | int i =>
    rw [(h1 : x = .int i)] at rx
    rw [(h2 : y = .int i)] at ry
    exact op_ne pins s σ H _ _ v u Q I rx ry ⟨rfl, by simpa using q⟩
  | str z =>
    rw [(h1 : x = .str z)] at rx
    rw [(h2 : y = .str z)] at ry
    exact op_ne pins s σ H _ _ v u Q I rx ry ⟨rfl, by simpa using q⟩
  | bl z =>
    rw [(h1 : x = .bl z)] at rx
    rw [(h2 : y = .bl z)] at ry
    exact op_ne pins s σ H _ _ v u Q I rx ry ⟨rfl, by simpa using q⟩
  | non =>
    rw [(h1 : x = .non)] at rx
    rw [(h2 : y = .non)] at ry
    exact op_ne pins s σ H _ _ v u Q I rx ry ⟨rfl, by simpa using q⟩
  | lst l =>
    obtain ⟨a, xs, rfl, a2, a3⟩ := (h1 : ∃ a xs, x = V.ref a ∧ H a = some (.lst xs) ∧ DReps H l xs)
    obtain ⟨b, ys, rfl, b2, b3⟩ := (h2 : ∃ a xs, y = V.ref a ∧ H a = some (.lst xs) ∧ DReps H l xs)
    cases rx
    cases ry
    obtain ⟨_, its, n, rv, e1⟩ := I.hok a _ a2
    obtain ⟨_, jts, m, rw', e2⟩ := I.hok b _ b2
    have hz' : Dt.deeps l + 1 ≤ 50 := hz
    have key := dreps_eq I.hok (A := X.A.in1) l a3 b3 rv rw' ok (by show X.A.units + 1 + Dt.deeps l < cLine; omega)
    have hl : its.length = jts.length := by rw [← rv.length, ← rw'.length, a3.len, b3.len]
    refine rc_lists_ne (items := its.toArray) (items2 := jts.toArray) ⟨_, e1, rfl, n, rfl⟩ ⟨_, e2, rfl, m, rfl⟩ (by simpa using hl) (by omega) (fun j h1' h2' => ?_) ⟨.bl false, H, I, rfl, q⟩
    simpa using key j (by simpa using h1') (by simpa using h2')
  | tup l =>
    obtain ⟨a, xs, rfl, a2, a3⟩ := (h1 : ∃ a xs, x = V.ref a ∧ H a = some (.tup xs) ∧ DReps H l xs)
    obtain ⟨b, ys, rfl, b2, b3⟩ := (h2 : ∃ a xs, y = V.ref a ∧ H a = some (.tup xs) ∧ DReps H l xs)
    cases rx
    cases ry
    obtain ⟨_, its, rv, e1⟩ := I.hok a _ a2
    obtain ⟨_, jts, rw', e2⟩ := I.hok b _ b2
    have hz' : Dt.deeps l + 1 ≤ 50 := hz
    have key := dreps_eq I.hok (A := X.A.in1) l a3 b3 rv rw' ok (by show X.A.units + 1 + Dt.deeps l < cLine; omega)
    have hl : its.length = jts.length := by rw [← rv.length, ← rw'.length, a3.len, b3.len]
    refine rc_tups_ne (items := its.toArray) (items2 := jts.toArray) e1 e2 (by simpa using hl) (by omega) (fun j h1' h2' => ?_) ⟨.bl false, H, I, rfl, q⟩
    simpa using key j (by simpa using h1') (by simpa using h2')
  | dic ks l =>
    obtain ⟨a, kvs, rfl, a2, a3, a4⟩ := (h1 : ∃ a kvs, x = .ref a ∧ H a = some (.dK kvs) ∧ kvs.map (·.1) = ks.map Sum.inr ∧ DReps H l (kvs.map (·.2)))
    obtain ⟨b, kws, rfl, b2, b3, b4⟩ := (h2 : ∃ a kvs, y = .ref a ∧ H a = some (.dK kvs) ∧ kvs.map (·.1) = ks.map Sum.inr ∧ DReps H l (kvs.map (·.2)))
    cases rx
    cases ry
    obtain ⟨_, sa, vs, rv, d1⟩ := dk_of I.hok a2
    obtain ⟨_, sb, ws, rw', d2⟩ := dk_of I.hok b2
    have hz' : Dt.deeps l + 1 ≤ 50 := hz
    have hl : vs.length = ws.length := by
      rw [← rv.length, ← rw'.length, ← List.length_map (·.1), ← List.length_map (as := kws) (·.1), a3, b3]
    have key := dreps_eq I.hok (A := X.A.in1) l a4 b4 (kv_vals rv) (kv_vals rw') ok.2 (by show X.A.units + 1 + Dt.deeps l < cLine; omega)
    exact rc_dicts_ne sa sb d1 d2 hl (by omega) (hits_of (ks := ks) ok.1 (by rw [← L2.KV.keys rv]; exact a3) (by rw [← L2.KV.keys rw']; exact b3) key) ⟨.bl false, H, I, rfl, q⟩
end Rg
set_option linter.all false
/-! depths of what leans on one another, over plain lists -/
namespace Rg
section
variable {α : Type} [DecidableEq α]
theorem length_le_of_sub : ∀ {l m : List α}, l.Nodup → (∀ x ∈ l, x ∈ m) → l.length ≤ m.length
  | [], _, _, _ => Nat.zero_le _
  | x :: l, m, nd, h => by
    have nd' := List.nodup_cons.mp nd
    have hx : x ∈ m := h x List.mem_cons_self
    have z := length_le_of_sub (l := l) (m := m.erase x) nd'.2 fun y hy => (List.mem_erase_of_ne (fun e => nd'.1 (by rw [← e]; exact hy))).mpr (h y (List.mem_cons_of_mem _ hy))
    rw [List.length_erase_of_mem hx] at z
    have : 0 < m.length := List.length_pos_of_mem hx
    show l.length + 1 ≤ m.length
    omega
def maxL : List Nat → Nat
  | [] => 0
  | n :: r => max n (maxL r)
theorem le_maxL : ∀ {l : List Nat} {n : Nat}, n ∈ l → n ≤ maxL l
  | m :: r, n, h => by
    show n ≤ max m (maxL r)
    rcases List.mem_cons.mp h with rfl | h
    · omega
    · have := le_maxL h; omega
theorem maxL_le : ∀ {l : List Nat} {k : Nat}, (∀ n ∈ l, n ≤ k) → maxL l ≤ k
  | [], _, _ => Nat.zero_le _
  | m :: r, k, h => by
    show max m (maxL r) ≤ k
    have h1 := h m List.mem_cons_self
    have h2 := maxL_le (l := r) fun n hn => h n (List.mem_cons_of_mem _ hn)
    omega
theorem maxL_mem : ∀ {l : List Nat}, l ≠ [] → maxL l ∈ l
  | [], h => absurd rfl h
  | [m], _ => by show max m 0 ∈ [m]; rw [Nat.max_zero]; exact List.mem_cons_self
  | m :: k :: r, _ => by
    have z := maxL_mem (l := k :: r) (by simp)
    show max m (maxL (k :: r)) ∈ m :: k :: r
    rcases Nat.le_total m (maxL (k :: r)) with e | e
    · rw [Nat.max_eq_right e]; exact List.mem_cons_of_mem _ z
    · rw [Nat.max_eq_left e]; exact List.mem_cons_self
/-- what leans on what: every name's leanings are names of a lesser rank -/
structure Leans (ns : List α) (ln : α → List α) (rk : α → Nat) : Prop where
  nd : ns.Nodup
  dn : ∀ n ∈ ns, ∀ m ∈ ln n, m ∈ ns ∧ rk m < rk n
def depF (ln : α → List α) : Nat → α → Nat
  | 0, _ => 0
  | k + 1, n => maxL ((ln n).map fun m => depF ln k m + 1)
theorem depF_eq {ns : List α} {ln : α → List α} {rk : α → Nat} (L : Leans ns ln rk) : ∀ (k j : Nat) (n : α), n ∈ ns → rk n < k → rk n < j → depF ln k n = depF ln j n
  | 0, _, _, _, h, _ => absurd h (Nat.not_lt_zero _)
  | _, 0, _, _, _, h => absurd h (Nat.not_lt_zero _)
  | k + 1, j + 1, n, hn, h1, h2 => by
    show maxL _ = maxL _
    congr 1
    apply List.map_congr_left
    intro m hm
    obtain ⟨a, b⟩ := L.dn n hn m hm
    rw [depF_eq L k j m a (by omega) (by omega)]
/-- the depth of a name -/
def depR (ln : α → List α) (rk : α → Nat) (n : α) : Nat := depF ln (rk n + 1) n
variable {ns : List α} {ln : α → List α} {rk : α → Nat}
theorem depR_eq (L : Leans ns ln rk) {n : α} (hn : n ∈ ns) : depR ln rk n = maxL ((ln n).map fun m => depR ln rk m + 1) := by
  show maxL _ = maxL _
  congr 1
  apply List.map_congr_left
  intro m hm
  obtain ⟨a, b⟩ := L.dn n hn m hm
  show depF ln (rk n) m + 1 = depF ln (rk m + 1) m + 1
  rw [depF_eq L (rk n) (rk m + 1) m a b (by omega)]
theorem dep_lt (L : Leans ns ln rk) {n m : α} (hn : n ∈ ns) (hm : m ∈ ln n) : depR ln rk m < depR ln rk n := by
  rw [depR_eq L hn]
  exact Nat.lt_of_lt_of_le (Nat.lt_succ_self _) (le_maxL (List.mem_map.mpr ⟨m, hm, rfl⟩))
theorem dep_le (L : Leans ns ln rk) {n : α} {d : Nat} (hn : n ∈ ns) (h : ∀ m ∈ ln n, depR ln rk m < d) : depR ln rk n ≤ d := by
  rw [depR_eq L hn]
  refine maxL_le fun k hk => ?_
  obtain ⟨m, hm, rfl⟩ := List.mem_map.mp hk
  exact h m hm
theorem dep_down (L : Leans ns ln rk) : ∀ (d : Nat) (n : α), n ∈ ns → depR ln rk n = d → ∀ e, e ≤ d → ∃ m ∈ ns, depR ln rk m = e
  | 0, n, hn, h, e, he => ⟨n, hn, by omega⟩
  | d + 1, n, hn, h, e, he => by
    rcases Nat.lt_or_ge e (d + 1) with z | z
    · rw [depR_eq L hn] at h
      have hne : ((ln n).map fun m => depR ln rk m + 1) ≠ [] := fun q => by rw [q] at h; cases h
      have q := maxL_mem hne
      rw [h] at q
      obtain ⟨m, hm, e1⟩ := List.mem_map.mp q
      exact dep_down L d m (L.dn n hn m hm).1 (by omega) e (by omega)
    · exact ⟨n, hn, by rw [h]; omega⟩
/-- no depth is as great as the number of names -/
theorem dep_small (L : Leans ns ln rk) {n : α} (hn : n ∈ ns) : depR ln rk n < ns.length := by
  have h : (List.range (depR ln rk n + 1)).length ≤ (ns.map (depR ln rk)).length := by
    refine length_le_of_sub List.nodup_range fun e he => ?_
    obtain ⟨m, hm, q⟩ := dep_down L _ n hn rfl e (by have := List.mem_range.mp he; omega)
    exact List.mem_map.mpr ⟨m, hm, q⟩
  rw [List.length_range, List.length_map] at h
  omega
/-- the names by their depth, those of lesser depth first -/
def depL (ns : List α) (dp : α → Nat) (d : Nat) : List (α × Nat) := (List.range d).flatMap fun e => (ns.filter fun n => decide (dp n = e)).map fun n => (n, e)
theorem depL_succ (dp : α → Nat) (d : Nat) : depL ns dp (d + 1) = depL ns dp d ++ (ns.filter fun n => decide (dp n = d)).map fun n => (n, d) := by
  unfold depL
  rw [List.range_succ, List.flatMap_append]
  simp
theorem mem_depL {dp : α → Nat} {d : Nat} {p : α × Nat} : p ∈ depL ns dp d ↔ p.1 ∈ ns ∧ dp p.1 = p.2 ∧ p.2 < d := by
  unfold depL
  rw [List.mem_flatMap]
  constructor
  · rintro ⟨e, he, hp⟩
    obtain ⟨n, hn, rfl⟩ := List.mem_map.mp hp
    obtain ⟨h1, h2⟩ := List.mem_filter.mp hn
    exact ⟨h1, of_decide_eq_true h2, List.mem_range.mp he⟩
  · rintro ⟨h1, h2, h3⟩
    exact ⟨p.2, List.mem_range.mpr h3, List.mem_map.mpr ⟨p.1, List.mem_filter.mpr ⟨h1, decide_eq_true h2⟩, rfl⟩⟩
theorem depL_keys {dp : α → Nat} {d : Nat} {n : α} : n ∈ (depL ns dp d).map (·.1) ↔ n ∈ ns ∧ dp n < d := by
  rw [List.mem_map]
  constructor
  · rintro ⟨p, hp, rfl⟩
    obtain ⟨h1, h2, h3⟩ := mem_depL.mp hp
    exact ⟨h1, by omega⟩
  · rintro ⟨h1, h2⟩
    exact ⟨(n, dp n), mem_depL.mpr ⟨h1, rfl, h2⟩, rfl⟩
theorem depL_nodup {dp : α → Nat} (nd : ns.Nodup) : ∀ d, ((depL ns dp d).map (·.1)).Nodup
  | 0 => List.nodup_nil
  | d + 1 => by
    rw [depL_succ, List.map_append, List.map_map]
    refine List.nodup_append.mpr ⟨depL_nodup nd d, ?_, ?_⟩
    · have : ((fun p : α × Nat => p.1) ∘ fun n => (n, d)) = id := rfl
      rw [this, List.map_id]
      exact nd.filter _
    · intro a ha b hb e
      subst e
      obtain ⟨_, h2⟩ := depL_keys.mp ha
      obtain ⟨n, hn, e⟩ := List.mem_map.mp hb
      obtain ⟨_, h3⟩ := List.mem_filter.mp hn
      have h3 := of_decide_eq_true h3
      have e' : n = a := e
      rw [e'] at h3
      omega
theorem depL_len {dp : α → Nat} (nd : ns.Nodup) (d : Nat) : (depL ns dp d).length ≤ ns.length := by
  have z := length_le_of_sub (depL_nodup (dp := dp) nd d) (m := ns) fun x hx => (depL_keys.mp hx).1
  rw [List.length_map] at z
  exact z
/-- where as many are in as there are names, all are in -/
theorem depL_full {dp : α → Nat} (nd : ns.Nodup) {d : Nat} (h : (depL ns dp d).length = ns.length) : ∀ n ∈ ns, dp n < d := by
  intro n hn
  rcases Nat.lt_or_ge (dp n) d with z | z
  · exact z
  · have q := length_le_of_sub (l := n :: (depL ns dp d).map (·.1)) (m := ns) (List.nodup_cons.mpr ⟨fun m => by have := (depL_keys.mp m).2; omega, depL_nodup nd d⟩) (fun x hx => by
      rcases List.mem_cons.mp hx with rfl | hx
      · exact hn
      · exact (depL_keys.mp hx).1)
    rw [List.length_cons, List.length_map] at q
    omega
theorem depL_stop {dp : α → Nat} {d e : Nat} (h : ∀ n ∈ ns, dp n < d) (he : d ≤ e) : depL ns dp e = depL ns dp d := by
  induction e with
  | zero => have : d = 0 := by omega
            rw [this]
  | succ e ih =>
    rcases Nat.lt_or_ge e d with z | z
    · have : d = e + 1 := by omega
      rw [this]
    · rw [depL_succ, ih z]
      have : (ns.filter fun n => decide (dp n = e)) = [] := List.filter_eq_nil_iff.mpr fun n hn q => by
        have := h n hn
        have := of_decide_eq_true q
        omega
      rw [this]
      simp
end
end Rg
set_option Elab.async false
set_option linter.all false
set_option maxRecDepth 100000
set_option maxHeartbeats 4000000
namespace Rg
open PySem L2
/-- the name of a thing's type -/
def Th.ty : Th → String
  | .num _ => "int"
  | .word _ => "str"
  | .row _ => "list"
  | .dic _ => "dict"
theorem Rep.ty {K : PySem.W.Frag} {H : Hp} : ∀ {t : Th} {v : V}, Rep H t v → TyOf K H v (.type t.ty)
  | .num i, v, h => by rw [(h : v = .int i)]; exact .int i
  | .word x, v, h => by rw [(h : v = .str x)]; exact .str x
  | .row l, v, h => by
    obtain ⟨a, xs, rfl, h2, _⟩ := (h : ∃ a xs, v = V.ref a ∧ H a = some (.lst xs) ∧ RepR H l xs)
    exact .lst h2
  | .dic l, v, h => by
    obtain ⟨a, xs, rfl, h2, _⟩ := (h : ∃ a xs, v = V.ref a ∧ H a = some (.dK xs) ∧ RepD H l xs)
    exact .dK h2
section
variable (K : PySem.W.Frag)
end
end Rg
namespace Rg
open PySem PySem.Spec PyProof.Rows L2
def isL : Th → Bool
  | .row _ => true
  | _ => false
def isD : Th → Bool
  | .dic _ => true
  | _ => false
def rIsi (K : PySem.W.Frag) : List V → Hp → VK → Prop := fun xs H Q => ∃ x n t b, xs = [x, .ty n] ∧ TyOf K H x t ∧ PySem.W.kitOne K t (.type n) = some b ∧ Q (.bl b) H
theorem call_isi {X : Cx} : CallR X (.builtin "isinstance") (rIsi X.K) := by
  intro pins s σ H xs us Q I r h
  obtain ⟨x, n, t, b, rfl, ty, e, q⟩ := h
  obtain ⟨u, w', rfl, ru, rw'⟩ := vals2 r
  cases rw'
  exact isinst_ok I ru ty e fun tk => ⟨.bl b, H, I.tok tk, rfl, q⟩
/-- what must be seen of a comprehension's scope, written out -/
structure LcSt (x : Str) (fr : List (Str × Nat)) (scope sc : Scope) (N : List Str) : Prop where
  nocell : ∀ y ∈ scope.names, y.2 ≠ .cell
  kind : scope.kind = .function
  nm : ∀ y ∈ scope.names, y.2 = .local → scope.names.lookup y.1 = some .local
  hx : scope.names.lookup x = some .local
  nd : (blkN x fr).Nodup
  free : ∀ y ∈ scope.names, y.2 = .free → sc.names.lookup y.1 = some .cell ∨ sc.names.lookup y.1 = some .free
  fr : ∀ p ∈ fr, N[p.2]? = some p.1 ∧ scope.names.lookup p.1 = some .free
theorem LcSt.ok {X : Cx} {x : Str} {fr : List (Str × Nat)} {scope sc : Scope} {N : List Str} (S : LcSt x fr scope sc N) (h1 : X.env.scope = sc) (h2 : X.N = N) : LcOk X x fr scope := by
  subst h1
  subst h2
  exact ⟨S.nocell, S.kind, S.nm, S.hx, S.nd, S.free, S.fr⟩
/-- tuples stay -/
def TupsStay (H H' : Hp) : Prop := ∀ p xs, H p = some (.tup xs) → H' p = some (.tup xs)
theorem TupsStay.lst {H : Hp} {a : Addr} {xs : List V} {o : HO} (h : H a = some (.lst xs)) : TupsStay H (upd H a o) := fun p ys q => by
  rw [upd_ne (ne_of q h (fun z => by cases z))]
  exact q
theorem TupsStay.trans {H H1 H2 : Hp} (a : TupsStay H H1) (b : TupsStay H1 H2) : TupsStay H H2 := fun p xs h => b p xs (a p xs h)
/-- the things that the tuples of a list bear, one by one: the tuples stand in H, the things in H0 -/
abbrev PartsAre (H0 H : Hp) : List V → List Th → Prop := Paired fun v c => ∃ p k y, v = V.ref p ∧ H p = some (.tup [.str k, y]) ∧ Rep H0 c y
theorem PartsAre.mono {H0 H H' : Hp} (e : TupsStay H H') {vs : List V} {cs : List Th} (h : PartsAre H0 H vs cs) : PartsAre H0 H' vs cs := Paired.mapP h fun _ _ ⟨p, k, y, h1, h2, h3⟩ => ⟨p, k, y, h1, e _ _ h2, h3⟩
theorem PartsAre.app {H0 H : Hp} : ∀ {vs ws : List V} {cs ds : List Th}, PartsAre H0 H vs cs → PartsAre H0 H ws ds → PartsAre H0 H (vs ++ ws) (cs ++ ds)
  | _, _, _, _, .nil, h => h
  | _, _, _, _, .cons r t, h => .cons r (PartsAre.app t h)
theorem PartsAre.rev {H0 H : Hp} {vs : List V} {cs : List Th} (h : PartsAre H0 H vs cs) : PartsAre H0 H vs.reverse cs.reverse := by
  induction h with
  | nil => exact .nil
  | cons r _ ih =>
    rw [List.reverse_cons, List.reverse_cons]
    exact PartsAre.app ih (.cons r .nil)
theorem PartsAre.len {H0 H : Hp} {vs : List V} {cs : List Th} (h : PartsAre H0 H vs cs) : vs.length = cs.length := Paired.length h
end Rg
set_option Elab.async false
set_option linter.all false
set_option maxRecDepth 100000
set_option maxHeartbeats 4000000
/-! what a call has made, apart from what stood before -/
namespace Rg
open PySem L2
def newOf (G H : Hp) : Hp := fun a => if (G a).isSome = true then none else H a
def Dom (G H : Hp) : Prop := ∀ a, G a ≠ none → H a ≠ none
theorem Dom.refl (G : Hp) : Dom G G := fun _ h => h
theorem Dom.trans {G H I : Hp} (a : Dom G H) (b : Dom H I) : Dom G I := fun x h => b x (a x h)
theorem Dom.of {G H : Hp} (e : Same G H) : Dom G H := fun a h => by
  cases q : G a with
  | none => exact absurd q h
  | some o => rw [e a o q]; simp
theorem Dom.upd {G H : Hp} {a : Addr} {o : HO} (d : Dom G H) : Dom G (L2.upd H a o) := fun b h => by
  by_cases e : b = a
  · rw [e, upd_same]; simp
  · rw [upd_ne e]; exact d b h
theorem newOf_some {G H : Hp} {a : Addr} {o : HO} (h : newOf G H a = some o) : G a = none ∧ H a = some o := by
  unfold newOf at h
  cases q : G a with
  | none => rw [q] at h; exact ⟨rfl, h⟩
  | some u => rw [q] at h; cases h
theorem newOf_at {G H : Hp} {a : Addr} {o : HO} (h : G a = none) (h2 : H a = some o) : newOf G H a = some o := by
  unfold newOf
  rw [h]
  exact h2
theorem newOf_sub {G H : Hp} : Same (newOf G H) H := fun _ _ h => (newOf_some h).2
def Ts.snoc (k : Str) (t : Th) : Ts → Ts
  | .nil => .cons k t .nil
  | .cons j u r => .cons j u (r.snoc k t)
theorem RepR.snoc {H : Hp} {k : Str} {t : Th} {y : V} (ht : Rep H t y) : ∀ {l : Ts} {xs : List V}, RepR H l xs → RepR H (l.snoc k t) (xs ++ [y])
  | .nil, xs, h => by rw [(h : xs = [])]; exact ⟨y, [], rfl, ht, rfl⟩
  | .cons j u r, xs, h => by
    obtain ⟨z, zs, rfl, h2, h3⟩ := (h : ∃ y ys, xs = y :: ys ∧ Rep H u y ∧ RepR H r ys)
    exact ⟨z, zs ++ [y], rfl, h2, RepR.snoc ht h3⟩
theorem RepD.snoc {H : Hp} {k : Str} {t : Th} {y : V} (ht : Rep H t y) : ∀ {l : Ts} {xs : List (Key × V)}, RepD H l xs → RepD H (l.snoc k t) (xs ++ [(Sum.inr k, y)])
  | .nil, xs, h => by rw [(h : xs = [])]; exact ⟨y, [], rfl, ht, rfl⟩
  | .cons j u r, xs, h => by
    obtain ⟨z, zs, rfl, h2, h3⟩ := (h : ∃ y ys, xs = (Sum.inr j, y) :: ys ∧ Rep H u y ∧ RepD H r ys)
    exact ⟨z, zs ++ [(Sum.inr k, y)], rfl, h2, RepD.snoc ht h3⟩
theorem RepD.fresh {H : Hp} {l : Ts} {kvs : List (Key × V)} {k : Str} (h : RepD H l kvs) (hk : ¬ k ∈ l.keys) : valV kvs (Sum.inr k) = none := by
  cases e : valV kvs (Sum.inr k) with
  | none => rfl
  | some v =>
    have z := valV_in e
    rw [h.keys] at z
    obtain ⟨j, z1, z2⟩ := List.mem_map.mp z
    cases z2
    exact absurd z1 hk
theorem atI_mem {α : Type} {xs : List α} {i : Int} (h0 : 0 ≤ i) (h1 : i < (xs.length : Int)) : ∃ v, atI xs i = some v ∧ v ∈ xs := by
  obtain ⟨k, rfl⟩ : ∃ k : Nat, i = (k : Int) := ⟨i.toNat, by omega⟩
  have hk : k < xs.length := by omega
  exact ⟨xs[k], atI_nat (List.getElem?_eq_getElem hk), List.getElem_mem hk⟩
end Rg
set_option Elab.async false
set_option linter.all false
set_option maxRecDepth 100000
set_option maxHeartbeats 4000000
/-! forms as data -/
namespace Rg
open PySem L2
inductive Fm where
  | any
  | num (lo hi : Option Int)
  | wrd (ws : List Str)
  | row (ps : List (Str × Nat × Option Nat))
  | rcd (fs : List (Str × Bool × Str)) (op : Bool)
  /-- all (0), some (1), one (2) -/
  | many (k : Fin 3) (ns : List Str)
  | nott (n : Str)
  | look (f w a b : Str)
def optD : Option Int → Dt
  | none => .non
  | some i => .int i
def optN : Option Nat → Dt
  | none => .non
  | some i => .int i
def manyS : Fin 3 → Str
  | 0 => "all"
  | 1 => "some"
  | 2 => "one"
def Fm.sort : Fm → Str
  | .any => "any"
  | .num _ _ => "number"
  | .wrd _ => "word"
  | .row _ => "row"
  | .rcd _ _ => "record"
  | .many k _ => manyS k
  | .nott _ => "not"
  | .look _ _ _ _ => "look"
def partD (p : Str × Nat × Option Nat) : Dt := .tup [.str p.1, .int p.2.1, optN p.2.2]
def fieldD (p : Str × Bool × Str) : Dt := .tup [.str p.1, .bl p.2.1, .str p.2.2]
def Fm.args : Fm → List Dt
  | .any => []
  | .num lo hi => [optD lo, optD hi]
  | .wrd ws => [.lst (ws.map .str)]
  | .row ps => [.lst (ps.map partD)]
  | .rcd fs op => [.lst (fs.map fieldD), .bl op]
  | .many _ ns => [.lst (ns.map .str)]
  | .nott n => [.str n]
  | .look f w a b => [.str f, .str w, .str a, .str b]
def Fm.dt (F : Fm) : Dt := .tup (.str F.sort :: F.args)
def pairD (p : Str × Fm) : Dt := .tup [.str p.1, p.2.dt]
/-- a list of forms -/
def formsD (fs : List (Str × Fm)) : Dt := .lst (fs.map pairD)
/-- what a form leans on -/
def Fm.leans : Fm → List Str
  | .many _ ns => ns
  | .nott n => [n]
  | .look _ _ a b => [a, b]
  | _ => []
/-- what stands in a form -/
def Fm.named : Fm → List Str
  | .row ps => ps.map (·.1)
  | .rcd fs _ => fs.map (·.2.2)
  | F => F.leans
/-- short lists -/
def Fm.Ok : Fm → Prop
  | .wrd ws => ws.length ≤ 100
  | .row ps => ps.length ≤ 100
  | .rcd fs _ => fs.length ≤ 100
  | .many _ ns => ns.length ≤ 100
  | _ => True
theorem Fm.leans_len {F : Fm} (h : F.Ok) : F.leans.length ≤ 100 := by
  cases F with
  | many k ns => exact h
  | nott n => exact (by decide : 1 ≤ 100)
  | look f w a b => exact (by decide : 2 ≤ 100)
  | any => exact Nat.zero_le _
  | num lo hi => exact Nat.zero_le _
  | wrd ws => exact Nat.zero_le _
  | row ps => exact Nat.zero_le _
  | rcd fs op => exact Nat.zero_le _
theorem DRep.tup_of {H : Hp} {l : List Dt} {v : V} (h : DRep H (.tup l) v) : ∃ a xs, v = .ref a ∧ H a = some (.tup xs) ∧ DReps H l xs := h
theorem DRep.lst_of {H : Hp} {l : List Dt} {v : V} (h : DRep H (.lst l) v) : ∃ a xs, v = .ref a ∧ H a = some (.lst xs) ∧ DReps H l xs := h
theorem DReps.cons_of {H : Hp} {d : Dt} {l : List Dt} {xs : List V} (h : DReps H (d :: l) xs) : ∃ y ys, xs = y :: ys ∧ DRep H d y ∧ DReps H l ys := h
theorem DReps.nil_of {H : Hp} {xs : List V} (h : DReps H [] xs) : xs = [] := h
/-- a form: its tuple, the word first -/
theorem form_at {H : Hp} {F : Fm} {v : V} (h : DRep H F.dt v) : ∃ a xs, v = .ref a ∧ H a = some (.tup (.str F.sort :: xs)) ∧ DReps H F.args xs := by
  obtain ⟨a, xs, rfl, h2, h3⟩ := h.tup_of
  obtain ⟨y, ys, rfl, h4, h5⟩ := h3.cons_of
  exact ⟨a, ys, rfl, by rw [h2, (h4 : y = .str F.sort)], h5⟩
theorem many_at {H : Hp} {k : Fin 3} {ns : List Str} {v : V} (h : DRep H (Fm.many k ns).dt v) : ∃ a b, v = .ref a ∧ H a = some (.tup [.str (manyS k), .ref b]) ∧ H b = some (.lst (ns.map V.str)) := by
  obtain ⟨a, xs, rfl, h2, h3⟩ := form_at h
  obtain ⟨y, ys, rfl, h4, h5⟩ := h3.cons_of
  obtain ⟨b, zs, rfl, h6, h7⟩ := h4.lst_of
  rw [h5.nil_of] at h2
  rw [DReps.strs_of h7] at h6
  exact ⟨a, b, rfl, h2, h6⟩
theorem nott_at {H : Hp} {n : Str} {v : V} (h : DRep H (Fm.nott n).dt v) : ∃ a, v = .ref a ∧ H a = some (.tup [.str "not", .str n]) := by
  obtain ⟨a, xs, rfl, h2, h3⟩ := form_at h
  obtain ⟨y, ys, rfl, h4, h5⟩ := h3.cons_of
  rw [h5.nil_of, (h4 : y = .str n)] at h2
  exact ⟨a, rfl, h2⟩
theorem look_at {H : Hp} {f w a b : Str} {v : V} (h : DRep H (Fm.look f w a b).dt v) : ∃ p, v = .ref p ∧ H p = some (.tup [.str "look", .str f, .str w, .str a, .str b]) := by
  obtain ⟨p, xs, rfl, h2, h3⟩ := form_at h
  obtain ⟨y1, ys, rfl, e1, h3⟩ := h3.cons_of
  obtain ⟨y2, ys, rfl, e2, h3⟩ := h3.cons_of
  obtain ⟨y3, ys, rfl, e3, h3⟩ := h3.cons_of
  obtain ⟨y4, ys, rfl, e4, h3⟩ := h3.cons_of
  rw [h3.nil_of, (e1 : y1 = .str f), (e2 : y2 = .str w), (e3 : y3 = .str a), (e4 : y4 = .str b)] at h2
  exact ⟨p, rfl, h2⟩
/-- a list of forms: the tuples one by one -/
theorem forms_at {H : Hp} {fs : List (Str × Fm)} {v : V} (h : DRep H (formsD fs) v) : ∃ a xs, v = .ref a ∧ H a = some (.lst xs) ∧ DReps H (fs.map pairD) xs := h.lst_of
theorem pair_at {H : Hp} {p : Str × Fm} {v : V} (h : DRep H (pairD p) v) : ∃ a u, v = .ref a ∧ H a = some (.tup [.str p.1, u]) ∧ DRep H p.2.dt u := by
  obtain ⟨a, xs, rfl, h2, h3⟩ := h.tup_of
  obtain ⟨y, ys, rfl, h4, h5⟩ := h3.cons_of
  obtain ⟨u, zs, rfl, h6, h7⟩ := h5.cons_of
  rw [h7.nil_of, (h4 : y = .str p.1)] at h2
  exact ⟨a, u, rfl, h2, h6⟩
theorem forms_get {H : Hp} {fs : List (Str × Fm)} {xs : List V} (h : DReps H (fs.map pairD) xs) {i : Nat} {x : V} (e : xs[i]? = some x) : ∃ n F a u, fs[i]? = some (n, F) ∧ x = .ref a ∧ H a = some (.tup [.str n, u]) ∧ DRep H F.dt u := by
  obtain ⟨d, h1, h2⟩ := h.get i e
  rw [List.getElem?_map] at h1
  cases ef : fs[i]? with
  | none => rw [ef] at h1; cases h1
  | some p =>
    rw [ef] at h1
    cases h1
    obtain ⟨a, u, e1, e2, e3⟩ := pair_at h2
    exact ⟨p.1, p.2, a, u, rfl, e1, e2, e3⟩
/-- names unlike, leanings on names of lesser rank, few and short -/
structure Forms (fs : List (Str × Fm)) (rk : Str → Nat) : Prop where
  nd : (fs.map (·.1)).Nodup
  ln : ∀ p ∈ fs, ∀ m ∈ p.2.leans, m ∈ fs.map (·.1) ∧ rk m < rk p.1
  few : fs.length ≤ 60
  ok : ∀ p ∈ fs, p.2.Ok
/-- what the form of a name leans on -/
def leansOf (fs : List (Str × Fm)) (n : Str) : List Str := ((fs.lookup n).map Fm.leans).getD []
theorem lookup_of {fs : List (Str × Fm)} (nd : (fs.map (·.1)).Nodup) : ∀ {p : Str × Fm}, p ∈ fs → fs.lookup p.1 = some p.2 := by
  induction fs with
  | nil => intro p h; cases h
  | cons q r ih =>
    intro p h
    obtain ⟨h1, h2⟩ := List.nodup_cons.mp (show (q.1 :: r.map (·.1)).Nodup from nd)
    obtain ⟨q1, q2⟩ := q
    rw [List.lookup_cons]
    rcases List.mem_cons.mp h with e | h
    · subst e
      rw [beq_self_eq_true]
    · have hne : (p.1 == q1) = false := by
        rw [beq_eq_false_iff_ne]
        intro e
        exact h1 (by rw [← e]; exact List.mem_map.mpr ⟨p, h, rfl⟩)
      rw [hne]
      exact ih h2 h
theorem Forms.leans {fs : List (Str × Fm)} {rk : Str → Nat} (h : Forms fs rk) : Leans (fs.map (·.1)) (leansOf fs) rk where
  nd := h.nd
  dn := fun n hn m hm => by
    obtain ⟨p, hp, rfl⟩ := List.mem_map.mp hn
    unfold leansOf at hm
    rw [lookup_of h.nd hp] at hm
    exact h.ln p hp m hm
theorem Forms.leansOf {fs : List (Str × Fm)} {rk : Str → Nat} (h : Forms fs rk) {p : Str × Fm} (hp : p ∈ fs) : Rg.leansOf fs p.1 = p.2.leans := by
  unfold Rg.leansOf
  rw [lookup_of h.nd hp]
  rfl
/-- the depth of a name -/
def depOf (fs : List (Str × Fm)) (rk : Str → Nat) : Str → Nat := depR (leansOf fs) rk
/-- the depths as a dict, those of lesser depth first -/
def depKvs (fs : List (Str × Fm)) (rk : Str → Nat) (d : Nat) : List (Key × V) := (depL (fs.map (·.1)) (depOf fs rk) d).map fun p => (Sum.inr p.1, V.int (p.2 : Nat))
theorem valV_map_str {α : Type} (f : α → V) (l : List (Str × α)) (nd : (l.map (·.1)).Nodup) : ∀ {p : Str × α}, p ∈ l → valV (l.map fun p => ((Sum.inr p.1 : Key), f p.2)) (Sum.inr p.1) = some (f p.2) := by
  induction l with
  | nil => intro p h; cases h
  | cons q r ih =>
    intro p h
    obtain ⟨h1, h2⟩ := List.nodup_cons.mp (show (q.1 :: r.map (·.1)).Nodup from nd)
    rcases List.mem_cons.mp h with e | h
    · subst e
      exact valV_pos rfl
    · rw [List.map_cons, valV_neg (fun e => h1 (by rw [show q.1 = p.1 from Sum.inr.inj e]; exact List.mem_map.mpr ⟨p, h, rfl⟩))]
      exact ih h2 h
theorem valV_map_none {α : Type} (f : α → V) {l : List (Str × α)} {n : Str} (h : ¬ n ∈ l.map (·.1)) : valV (l.map fun p => ((Sum.inr p.1 : Key), f p.2)) (Sum.inr n) = none := by
  induction l with
  | nil => rfl
  | cons q r ih =>
    have h' : ¬ n ∈ q.1 :: r.map (·.1) := h
    rw [List.map_cons, valV_neg (fun e => h' (by rw [show q.1 = n from Sum.inr.inj e]; exact List.mem_cons_self))]
    exact ih fun z => h' (List.mem_cons_of_mem _ z)
end Rg
namespace Rg
open PySem L2
theorem new_l {G G' H : Hp} (d : Dom G G') : Same (newOf G' H) (newOf G H) := fun a o h => by
  obtain ⟨h1, h2⟩ := newOf_some h
  refine newOf_at ?_ h2
  cases q : G a with
  | none => rfl
  | some u => exact absurd h1 (d a (by rw [q]; simp))
theorem new_r {G H H' : Hp} (e : Same H H') : Same (newOf G H) (newOf G H') := fun a o h => by
  obtain ⟨h1, h2⟩ := newOf_some h
  exact newOf_at h1 (e _ _ h2)
theorem new_upd {G H : Hp} {l : Addr} {o : HO} (h : G l ≠ none) : newOf G (upd H l o) = newOf G H := by
  funext b
  unfold newOf
  by_cases e : b = l
  · subst e
    cases q : G b with
    | none => exact absurd q h
    | some u => rfl
  · rw [upd_ne e]
theorem new_at {G H : Hp} {t : Addr} {o : HO} (h : G t = none) : newOf G (upd H t o) t = some o := newOf_at h upd_same
theorem dom_none {G H : Hp} (d : Dom G H) {t : Addr} (h : H t = none) : G t = none := by
  cases q : G t with
  | none => rfl
  | some u => exact absurd h (d t (by rw [q]; simp))
/-- all stays but what stands at l -/
def SameBut (l : Addr) (H H' : Hp) : Prop := ∀ b o, b ≠ l → H b = some o → H' b = some o
theorem cutV_strs (ws : List Str) (lo hi : Option Int) : ∃ us : List Str, cutV (ws.map V.str) lo hi = us.map V.str ∧ us.length ≤ ws.length ∧ ∀ u ∈ us, u ∈ ws := by
  refine ⟨(ws.drop (HT.sIx (ws.map V.str).length 0 lo)).take (HT.sIx (ws.map V.str).length (ws.map V.str).length hi - HT.sIx (ws.map V.str).length 0 lo), ?_, ?_, fun u hu => List.mem_of_mem_drop (List.mem_of_mem_take hu)⟩
  · unfold cutV
    rw [List.map_take, List.map_drop]
  · rw [List.length_take, List.length_drop]
    omega
end Rg
namespace Rg
open PySem L2
theorem deeps_le {k : Nat} : ∀ {l : List Dt}, (∀ d ∈ l, d.deep ≤ k) → Dt.deeps l ≤ k
  | [], _ => Nat.zero_le _
  | d :: l, h => by
    show max d.deep (Dt.deeps l) ≤ k
    have h1 := h d List.mem_cons_self
    have h2 := deeps_le (l := l) fun e he => h e (List.mem_cons_of_mem _ he)
    omega
theorem fines_of : ∀ {l : List Dt}, (∀ d ∈ l, d.Fine) → Dt.Fines l
  | [], _ => trivial
  | d :: l, h => ⟨h d List.mem_cons_self, fines_of fun e he => h e (List.mem_cons_of_mem _ he)⟩
theorem fine_optD (o : Option Int) : (optD o).Fine ∧ (optD o).deep = 0 := by cases o <;> exact ⟨trivial, rfl⟩
theorem fine_optN (o : Option Nat) : (optN o).Fine ∧ (optN o).deep = 0 := by cases o <;> exact ⟨trivial, rfl⟩
theorem fine_strs (ns : List Str) : (Dt.lst (ns.map .str)).Fine ∧ (Dt.lst (ns.map .str)).deep ≤ 1 :=
  ⟨fines_of fun d hd => by obtain ⟨n, _, rfl⟩ := List.mem_map.mp hd; trivial, by
    show Dt.deeps (ns.map .str) + 1 ≤ 1
    have := deeps_le (k := 0) (l := ns.map .str) fun d hd => by obtain ⟨n, _, rfl⟩ := List.mem_map.mp hd; exact Nat.le_refl _
    omega⟩
theorem Fm.fine_args : ∀ F : Fm, ∀ d ∈ F.args, d.Fine ∧ d.deep ≤ 2
  | .any, d, h => absurd h (by simp [Fm.args])
  | .num lo hi, d, h => by
    rcases List.mem_cons.mp (show d ∈ [optD lo, optD hi] from h) with rfl | h
    · exact ⟨(fine_optD lo).1, by rw [(fine_optD lo).2]; omega⟩
    · rw [List.mem_singleton.mp h]; exact ⟨(fine_optD hi).1, by rw [(fine_optD hi).2]; omega⟩
  | .wrd ws, d, h => by
    rw [List.mem_singleton.mp (show d ∈ [Dt.lst (ws.map .str)] from h)]
    exact ⟨(fine_strs ws).1, Nat.le_trans (fine_strs ws).2 (by decide)⟩
  | .row ps, d, h => by
    rw [List.mem_singleton.mp (show d ∈ [Dt.lst (ps.map partD)] from h)]
    refine ⟨fines_of fun d hd => ?_, ?_⟩
    · obtain ⟨p, _, rfl⟩ := List.mem_map.mp hd
      exact ⟨trivial, trivial, (fine_optN p.2.2).1, trivial⟩
    · show Dt.deeps _ + 1 ≤ 2
      have := deeps_le (k := 1) (l := ps.map partD) fun d hd => by
        obtain ⟨p, _, rfl⟩ := List.mem_map.mp hd
        show max 0 (max 0 (max (optN p.2.2).deep 0)) + 1 ≤ 1
        rw [(fine_optN p.2.2).2]
        decide
      omega
  | .rcd fs op, d, h => by
    rcases List.mem_cons.mp (show d ∈ [Dt.lst (fs.map fieldD), .bl op] from h) with rfl | h
    · refine ⟨fines_of fun d hd => ?_, ?_⟩
      · obtain ⟨p, _, rfl⟩ := List.mem_map.mp hd
        exact ⟨trivial, trivial, trivial, trivial⟩
      · show Dt.deeps _ + 1 ≤ 2
        have := deeps_le (k := 1) (l := fs.map fieldD) fun d hd => by
          obtain ⟨p, _, rfl⟩ := List.mem_map.mp hd
          show max 0 (max 0 (max 0 0)) + 1 ≤ 1
          decide
        omega
    · rw [List.mem_singleton.mp h]; exact ⟨trivial, Nat.zero_le _⟩
  | .many k ns, d, h => by
    rw [List.mem_singleton.mp (show d ∈ [Dt.lst (ns.map .str)] from h)]
    exact ⟨(fine_strs ns).1, Nat.le_trans (fine_strs ns).2 (by decide)⟩
  | .nott n, d, h => by
    rw [List.mem_singleton.mp (show d ∈ [Dt.str n] from h)]
    exact ⟨trivial, Nat.zero_le _⟩
  | .look f w a b, d, h => by
    have : d ∈ ([f, w, a, b] : List Str).map Dt.str := h
    obtain ⟨x, _, rfl⟩ := List.mem_map.mp this
    exact ⟨trivial, Nat.zero_le _⟩
theorem Fm.fine (F : Fm) : F.dt.Fine ∧ F.dt.deep ≤ 3 := by
  refine ⟨⟨trivial, fines_of fun d hd => (F.fine_args d hd).1⟩, ?_⟩
  show max 0 (Dt.deeps F.args) + 1 ≤ 3
  have := deeps_le (k := 2) (l := F.args) fun d hd => (F.fine_args d hd).2
  omega
theorem formsD_fine (fs : List (Str × Fm)) : (formsD fs).Fine ∧ (formsD fs).deep ≤ 5 := by
  refine ⟨fines_of fun d hd => ?_, ?_⟩
  · obtain ⟨p, _, rfl⟩ := List.mem_map.mp hd
    exact ⟨trivial, p.2.fine.1, trivial⟩
  · show Dt.deeps _ + 1 ≤ 5
    have := deeps_le (k := 4) (l := fs.map pairD) fun d hd => by
      obtain ⟨p, _, rfl⟩ := List.mem_map.mp hd
      show max 0 (max p.2.dt.deep 0) + 1 ≤ 4
      have := p.2.fine.2
      omega
    omega
theorem Forms.nil (rk : Str → Nat) : Forms [] rk := ⟨List.nodup_nil, fun p hp => absurd hp (by simp), Nat.zero_le _, fun p hp => absurd hp (by simp)⟩
theorem Forms.snoc {fs : List (Str × Fm)} {rk : Str → Nat} (h : Forms fs rk) {n : Str} {F : Fm} (hn : ¬ n ∈ fs.map (·.1)) (hl : ∀ m ∈ F.leans, m ∈ fs.map (·.1)) (hF : F.Ok) (hc : fs.length + 1 ≤ 60) : ∃ rk', Forms (fs ++ [(n, F)]) rk' := by
  refine ⟨fun m => if m = n then maxL ((fs.map (·.1)).map rk) + 1 else rk m, ?_, ?_, ?_, ?_⟩
  · rw [List.map_append]
    exact nd_snoc h.nd hn
  · intro p hp m hm
    have hin : ∀ {x : Str}, x ∈ fs.map (·.1) → x ∈ (fs ++ [(n, F)]).map (·.1) := fun hx => by rw [List.map_append]; exact List.mem_append_left _ hx
    rcases List.mem_append.mp hp with hp | hp
    · obtain ⟨h1, h2⟩ := h.ln p hp m hm
      have e1 : ¬ m = n := fun e => hn (by rw [← e]; exact h1)
      have e2 : ¬ p.1 = n := fun e => hn (by rw [← e]; exact List.mem_map.mpr ⟨p, hp, rfl⟩)
      exact ⟨hin h1, by rw [if_neg e1, if_neg e2]; exact h2⟩
    · rw [List.mem_singleton.mp hp] at hm ⊢
      have h1 := hl m hm
      have e1 : ¬ m = n := fun e => hn (by rw [← e]; exact h1)
      refine ⟨hin h1, ?_⟩
      rw [if_neg e1, if_pos rfl]
      exact Nat.lt_succ_of_le (le_maxL (List.mem_map.mpr ⟨m, h1, rfl⟩))
  · rw [List.length_append]; exact hc
  · intro p hp
    rcases List.mem_append.mp hp with hp | hp
    · exact h.ok p hp
    · rw [List.mem_singleton.mp hp]; exact hF
theorem Forms.perm {fs gs : List (Str × Fm)} {rk : Str → Nat} (h : Forms fs rk) (p : gs.Perm fs) : Forms gs rk :=
  ⟨(p.map (·.1)).nodup_iff.mpr h.nd, fun q hq m hm => by
    obtain ⟨h1, h2⟩ := h.ln q (p.mem_iff.mp hq) m hm
    exact ⟨(p.map (·.1)).mem_iff.mpr h1, h2⟩, by rw [p.length_eq]; exact h.few, fun q hq => h.ok q (p.mem_iff.mp hq)⟩
theorem rot_perm {α : Type} (l : List α) (n : Nat) : (l.drop n ++ l.take n).Perm l := by
  have := List.perm_append_comm (l₁ := l.drop n) (l₂ := l.take n)
  rw [List.take_append_drop] at this
  exact this
/-- of those that are not in there is one of least rank -/
theorem least_out {ns L : List Str} (rk : Str → Nat) (h : ∃ n ∈ ns, ¬ n ∈ L) : ∃ n ∈ ns, ¬ n ∈ L ∧ ∀ m ∈ ns, rk m < rk n → m ∈ L := by
  obtain ⟨n, hn, ho⟩ := h
  have key : ∀ (k : Nat) (n : Str), rk n ≤ k → n ∈ ns → ¬ n ∈ L → ∃ n ∈ ns, ¬ n ∈ L ∧ ∀ m ∈ ns, rk m < rk n → m ∈ L := by
    intro k
    induction k with
    | zero => exact fun n h0 hn ho => ⟨n, hn, ho, fun m _ hm => by omega⟩
    | succ k ih =>
      intro n h0 hn ho
      by_cases q : ∃ m ∈ ns, rk m < rk n ∧ ¬ m ∈ L
      · obtain ⟨m, h1, h2, h3⟩ := q
        exact ih m (by omega) h1 h3
      · exact ⟨n, hn, ho, fun m h1 h2 => Classical.byContradiction fun h3 => q ⟨m, h1, h2, h3⟩⟩
  exact key (rk n) n (Nat.le_refl _) hn ho
theorem some_out {ns L : List Str} (nd : ns.Nodup) (h : L.length < ns.length) : ∃ n ∈ ns, ¬ n ∈ L := by
  refine Classical.byContradiction fun q => ?_
  have := length_le_of_sub (l := ns) (m := L) nd fun x hx => Classical.byContradiction fun hx' => q ⟨x, hx, hx'⟩
  omega
end Rg
set_option Elab.async false
set_option linter.all false
set_option maxRecDepth 100000
set_option maxHeartbeats 4000000
/-! A list comprehension over pairs: [e for x, y in ..] -/
namespace Rg
open PySem PySem.W PySem.Spec PyProof.Rows L2
/-- the block's names: the loop's two, then those of the def that it closes over (with their slots there) -/
def blkN2 (x y : Str) (fr : List (Str × Nat)) : List Str := x :: y :: fr.map (·.1)
def blkS2 (v u : Option V) (fr : List (Str × Nat)) (σ : L2.St) : L2.St := v :: u :: fr.map fun p => (σ[p.2]?).getD none
def blk2 (X : Cx) (x y : Str) (fr : List (Str × Nat)) (scope : Scope) (fp : List Addr) (C : Addr) (s : Shared) (H : Hp) : Cx where
  prog := X.prog
  w := X.w
  K := X.K
  mg := X.mg
  base := X.base
  A := X.A
  N := blkN2 x y fr
  s₀ := s
  H₀ := H
  env := compEnvC scope (clOf X.env.cells scope.names) C X.env
  outer := X.stack
  stack := X.stack
  ex := fp
  fn := fun _ => false
  calm := X.calm
  pn := []
  xe := fun _ _ => False
/-- what must be seen of the text -/
structure LcOk2 (X : Cx) (x y : Str) (fr : List (Str × Nat)) (scope : Scope) : Prop where
  nocell : ∀ z ∈ scope.names, z.2 ≠ .cell
  kind : scope.kind = .function
  nm : ∀ z ∈ scope.names, z.2 = .local → scope.names.lookup z.1 = some .local
  hx : scope.names.lookup x = some .local
  hy : scope.names.lookup y = some .local
  nd : (blkN2 x y fr).Nodup
  free : ∀ z ∈ scope.names, z.2 = .free → X.env.scope.names.lookup z.1 = some .cell ∨ X.env.scope.names.lookup z.1 = some .free
  fr : ∀ p ∈ fr, X.N[p.2]? = some p.1 ∧ scope.names.lookup p.1 = some .free
def tLc2 (K : PySem.W.Frag) (fr : List (Str × Nat)) (wi : TI) (te : TE) : TE := fun σ H Q => wi σ H fun J H1 => ∃ W : Nat → Nat → List V → Hp → Prop, (∃ m, W 0 m [] H1) ∧ ∀ i m ys H, W i m ys H →
  (J.stop i H ∧ ys.length ≤ sizeLine ∧ ∀ p, H p = none → Q (.ref p) (upd H p (.lst ys))) ∨
  (J.go i H ∧ ys.length < sizeLine ∧ ∃ N : V → Hp → Prop, (∀ y H2, N y H2 → ∃ m', m' < m ∧ W (i + 1) m' (ys ++ [y]) H2) ∧ ∀ v H', J.yld i H v H' → ∃ a v1 v2, v = .ref a ∧ SqT K H' a [v1, v2] ∧ te (blkS2 (some v1) (some v2) fr σ) H' N)
section
variable {X : Cx} {elt iter : Expr} {x x2 : Str} {px py pt pos : Pos} {kt : Nat} {scope : Scope} {fr : List (Str × Nat)} {wi : TI} {te : TE}
end
end Rg
set_option Elab.async false
set_option linter.all false
set_option maxRecDepth 100000
set_option maxHeartbeats 4000000
/-! A walk over zip of two lists, over reversed of a list -/
namespace Rg
open PySem PySem.W PySem.Spec PyProof.Rows L2
section
variable {X : Cx} {pins : List (Addr × Obj)} {σ : L2.St} {H : Hp} {s : Shared} {h' : Heap}
/-- several objects of an iterator have turned -/
theorem inv_turnedL {t' : Nat} {fp : List Addr} (I : Inv X pins σ H s) (k : ∀ b o, b ∉ fp → s.heap.get? b = some o → h'.get? b = some o) (hf : ∀ b ∈ fp, FpOk X pins H b) : Inv X pins σ H { s with heap := h', toks := t' } := by
  have nit : ∀ b u, H b = some u → b ∉ fp := fun b u e z => by rw [(hf b z).1] at e; cases e
  refine I.step (g' := s.gens) (d' := s.drawn) (ch := fp) (fun b hb => ?_) (fun b o _ _ hc e _ => k b o hc e) (fun b o _ _ hc e _ => ⟨o.slots, k b o hc e⟩) (fun _ _ _ _ n => n)
    (fun b o hc e => ⟨o, k b o hc e⟩) (fun _ _ e => e) (fun _ _ _ e => e) (fun b ps e => ⟨#[], by rw [e]; simp⟩) (fun m hm => ?_) (fun b u e => ?_) I.bare
  · obtain ⟨f0, f1, f2, f3, f4, f5⟩ := hf b hb
    exact ⟨f3, f1, f4, f5⟩
  · obtain ⟨o, es, ep, ho, r⟩ := hm
    exact ⟨o, es, ep, k _ o (fun z => (hf _ z).2.1 rfl) ho, r⟩
  · refine (I.hok b u e).stay (fun c v hc q => k c v ?_ q) (fun _ q => q) fun _ _ q => q
    rcases hc with z | z
    · rw [z]; exact nit b u e
    · exact nit c _ z
end
/-- the pairs of two lists -/
def Itz (K : PySem.W.Frag) (a b : Addr) : It :=
  ⟨fun i H => ∃ xs ys x y, SqL K H a xs ∧ SqL K H b ys ∧ xs[i]? = some x ∧ ys[i]? = some y,
   fun i H v H' => ∃ T x y, v = .ref T ∧ H T = none ∧ H' = upd H T (.tup [x, y]) ∧ (∀ xs, SqL K H a xs → xs[i]? = some x) ∧ ∀ ys, SqL K H b ys → ys[i]? = some y,
   fun i H => ∃ xs ys, SqL K H a xs ∧ SqL K H b ys ∧ min xs.length ys.length = i⟩
section
variable {X : Cx}
def iZip (K : PySem.W.Frag) (ta : TA) : TI := fun σ H R => ta σ H fun vs H1 => ∃ a b, vs = [.ref a, .ref b] ∧ (∃ xs, SqL K H1 a xs) ∧ (∃ ys, SqL K H1 b ys) ∧ R (Itz K a b) H1
end
end Rg
set_option Elab.async false
set_option linter.all false
set_option maxRecDepth 100000
set_option maxHeartbeats 4000000
/-! reversed in a for; isinstance by a tuple of types; sum; index; list(record.values()); > of numbers and of words -/
namespace Rg
open PySem PySem.W PySem.Spec PyProof.Rows L2
/-- the list at a from the end on -/
def Itv (K : PySem.W.Frag) (a : Addr) (n : Nat) : It :=
  ⟨fun i H => i < n ∧ ∃ xs, SqL K H a xs ∧ xs.length = n, fun i H x H' => H' = H ∧ ∀ xs, SqL K H a xs → xs.length = n → xs.reverse[i]? = some x, fun i H => i = n⟩
section
variable {X : Cx} {tg : Expr}
def iRev (K : PySem.W.Frag) (ta : TA) : TI := fun σ H R => ta σ H fun vs H1 => ∃ a xs, vs = [.ref a] ∧ SqL K H1 a xs ∧ R (Itv K a xs.length) H1
end
/-- isinstance(x, (T1, T2)) -/
def rIsiT (K : PySem.W.Frag) : List V → Hp → VK → Prop := fun xs H Q => ∃ (x : V) (tp : Addr) (ns : List String) (t : Value) (b : Bool), xs = [x, .ref tp] ∧ H tp = some (.tup (ns.map V.ty)) ∧ TyOf K H x t ∧ PySem.W.kitAny K t (ns.map Value.type) = some b ∧ Q (.bl b) H
theorem vals_ty : ∀ {ns : List String} {us : List Value}, Vals (ns.map V.ty) us → us = ns.map Value.type
  | [], _, .nil => rfl
  | n :: r, _, .cons a t => by
    cases a
    rw [vals_ty t]
    rfl
theorem call_isiT {X : Cx} : CallR X (.builtin "isinstance") (rIsiT X.K) := by
  intro pins s σ H xs us Q I r h
  obtain ⟨x, tp, ns, t, b, rfl, htp, ty, e, q⟩ := h
  obtain ⟨u, w', rfl, ru, rw'⟩ := vals2 r
  cases rw'
  obtain ⟨_, its, rv, ⟨o, ho, hc, n, hd⟩⟩ := I.hok tp _ htp
  have ei := vals_ty rv
  subst ei
  obtain ⟨cls, dd, data, sl⟩ := o
  simp only at hc hd
  subst hc hd
  have fin : ∀ tk, EP X pins σ Q (.bool b) { s with toks := tk } := fun tk => ⟨.bl b, H, I.tok tk, rfl, q⟩
  cases ty with
  | non => cases (show u = Value.none from ru); exact PySem.W.kia_tup PySem.W.kitx_none I.kIn True.intro ho e (fun z => nomatch z) fin
  | bl y => cases (show u = Value.bool y from ru); exact PySem.W.kia_tup PySem.W.kitx_bool I.kIn True.intro ho e (fun z => nomatch z) fin
  | int i => obtain ⟨t, q⟩ := (show ∃ t, u = Value.int i t from ru); cases q; exact PySem.W.kia_tup PySem.W.kitx_int I.kIn True.intro ho e (fun z => nomatch z) fin
  | str y => obtain ⟨t, q⟩ := (show ∃ t, u = Value.str y t from ru); cases q; exact PySem.W.kia_tup PySem.W.kitx_str I.kIn True.intro ho e (fun z => nomatch z) fin
  | flt y => obtain ⟨t, q⟩ := (show ∃ t, u = Value.float y t from ru); cases q; exact PySem.W.kia_tup PySem.W.kitx_float I.kIn True.intro ho e (fun z => nomatch z) fin
  | @lst a xs ea =>
    cases (show u = Value.ref a from ru)
    obtain ⟨_, _, n, _, h1⟩ := (show ObjOk X.prog X.w H s.heap a (.lst xs) from I.hok a _ ea)
    exact PySem.W.kia_tup PySem.W.kitx_list I.kIn ⟨_, h1, rfl⟩ ho e (fun z => nomatch z) fin
  | @frz a ob xs ea =>
    cases (show u = Value.ref a from ru)
    obtain ⟨_, _, _, n, _, h1⟩ := (show ObjOk X.prog X.w H s.heap a (.frz ob (.lst xs)) from I.hok a _ ea)
    exact PySem.W.kia_tup PySem.W.kitx_list I.kIn ⟨_, h1, rfl⟩ ho e (fun z => nomatch z) fin
  | @tup a xs ea =>
    cases (show u = Value.ref a from ru)
    obtain ⟨_, _, _, p⟩ := (show ObjOk X.prog X.w H s.heap a (.tup xs) from I.hok a _ ea)
    obtain ⟨o, h1, h2, _⟩ := p
    exact PySem.W.kia_tup PySem.W.kitx_tuple I.kIn ⟨o, h1, h2⟩ ho e (fun z => nomatch z) fin
  | @dK a kvs ea =>
    cases (show u = Value.ref a from ru)
    obtain ⟨_, _, vs, _, p⟩ := (show ObjOk X.prog X.w H s.heap a (.dK kvs) from I.hok a _ ea)
    obtain ⟨o, es, ep, h1, h2, _⟩ := p
    exact PySem.W.kia_tup PySem.W.kitx_dict I.kIn ⟨o, h1, h2.1⟩ ho e (fun z => nomatch z) fin
  | @dT a kvs ea =>
    cases (show u = Value.ref a from ru)
    obtain ⟨_, _, xs, _, o, es, ep, h1, h2, _⟩ := (show ObjOk X.prog X.w H s.heap a (.dT kvs) from I.hok a _ ea)
    exact PySem.W.kia_tup PySem.W.kitx_dict I.kIn ⟨o, h1, h2.1⟩ ho e (fun z => nomatch z) fin
  | @ins a C dx fs ea cl ha hn htk hm =>
    cases (show u = Value.ref a from ru)
    obtain ⟨mA, O, _⟩ := ins_get I.hok ea
    obtain ⟨od, J, _⟩ := O.look
    exact PySem.W.kia_tup (PySem.W.kitx_own (cl.get _) cl.hd ha hn htk hm) I.kIn J ho e (fun z => nomatch z) fin
/-- sum(a list of numbers) -/
theorem ints_of_vals : ∀ {ns : List Int} {us : List Value}, Vals (ns.map V.int) us → IntsAre us ns
  | [], _, .nil => .nil
  | n :: r, _, .cons a t => by
    obtain ⟨k, rfl⟩ := a
    exact .cons n k (ints_of_vals t)
/-- the place of the first True in a list of truths -/
def rIndexT : V → List V → Hp → VK → Prop := fun x vs H Q => ∃ (l : Addr) (bs : List Bool) (j : Nat), x = .ref l ∧ vs = [.bl true] ∧ H l = some (.lst (bs.map V.bl)) ∧ j < 1000 ∧ bs[j]? = some true ∧ (∀ i, i < j → bs[i]? = some false) ∧ Q (.int (j : Nat)) H
theorem vals_bl : ∀ {bs : List Bool} {us : List Value}, Vals (bs.map V.bl) us → us = bs.map Value.bool
  | [], _, .nil => rfl
  | n :: r, _, .cons a t => by
    cases a
    rw [vals_bl t]
    rfl
/-- record.values() -/
def valsView (v a : Addr) : HO := .ext fun h => h.IsValuesView v a
end Rg
set_option Elab.async false
set_option linter.all false
set_option maxRecDepth 100000
set_option maxHeartbeats 4000000
/-! [e for x in .. if c] -/
namespace Rg
open PySem PySem.Spec PyProof.Rows L2
def tLcI (fr : List (Str × Nat)) (wi : TI) (tt : TT) (te : TE) : TE := fun σ H Q => wi σ H fun J H1 => ∃ W : Nat → Nat → List V → Hp → Prop, (∃ m, W 0 m [] H1) ∧ ∀ i m ys H, W i m ys H →
  (J.stop i H ∧ ys.length ≤ sizeLine ∧ ∀ p, H p = none → Q (.ref p) (upd H p (.lst ys))) ∨
  (J.go i H ∧ ys.length < sizeLine ∧ ∃ (N : V → Hp → Prop) (M : Hp → Prop), (∀ y H2, N y H2 → ∃ m', m' < m ∧ W (i + 1) m' (ys ++ [y]) H2) ∧ (∀ H2, M H2 → ∃ m', m' < m ∧ W (i + 1) m' ys H2) ∧
    ∀ v H', J.yld i H v H' → tt (blkS (some v) fr σ) H' fun ok H2 => if ok = true then te (blkS (some v) fr σ) H2 N else M H2)
section
variable {prog : Program} {w : World} {A : Around} {R : Result → Shared → Prop} {s : Shared}
theorem lc_loopI {elt target iter cnd : Expr} {scope : Scope} {pos : Pos} {it acc : Value} {env : Env} (I : Nat → Shared → Prop)
    (turn : ∀ n t, I n t → wpAny (model prog w) A (pyNext it) (fun r s₁ => match r with
      | none => R (.ok .next) s₁
      | some v => wpAny (model prog w) A (letOwnedTupleGo target it v) (fun _ s₂ => wpAny (model prog w) A (assign target env v) (fun _ s₃ => wpAny (model prog w) A (isTrue cnd env (eval cnd env)) (fun ok s₃' =>
          if ok = true then wpAny (model prog w) A (eval elt env) (fun y s₄ => wpAny (model prog w) A (call (.builtin "list.append") [acc, y]) (fun _ s₅ => ∃ m, m < n ∧ I m s₅) (fun _ _ => False) s₄) (fun _ _ => False) s₃'
          else ∃ m, m < n ∧ I m s₃') (fun _ _ => False) s₃) (fun _ _ => False) s₂) (fun _ _ => False) s₁) (fun _ _ => False) t)
    (n : Nat) (h : I n s) : codeAny (model prog w) A (.compLoop (.ListComp elt [⟨target, iter, [cnd], 0⟩] scope pos) 0 it acc env) R s := by
  refine codeAny_loop rfl I (fun k t hI => ?_) n h
  show wpAny _ _ ((compTurn (.ListComp elt [⟨target, iter, [cnd], 0⟩] scope pos) 0 it acc env).onRaise (fun x => do noteFrame x env; theTreesLotGoes x)) _ _ t
  refine wpAny_noted ?_
  rw [compTurn_list]
  refine wpAny_bind (wpAny_standAt (wpAny_bind (wpAny_mono (turn k t hI) (fun r s₁ h₁ => ?_) fun _ _ z => z.elim)))
  cases r with
  | none => exact wpAny_pure h₁
  | some v =>
    refine wpAny_bind (wpAny_mono h₁ (fun _ s₂ h₂ => ?_) fun _ _ z => z.elim)
    refine wpAny_bind (wpAny_mono h₂ (fun _ s₃ h₃ => wpAny_bind ?_) fun _ _ z => z.elim)
    rw [List.forIn_cons]
    refine wpAny_bind ?_
    rw [if_pos rfl]
    refine wpAny_bind (wpAny_mono h₃ (fun ok s₃' h₃' => wpAny_pure ?_) fun _ _ z => z.elim)
    dsimp only
    rw [List.forIn_nil]
    refine wpAny_pure ?_
    cases ok with
    | false => exact wpAny_pure ⟨rfl, by rw [if_neg Bool.false_ne_true] at h₃'; exact h₃'⟩
    | true =>
      rw [if_pos rfl] at h₃'
      refine wpAny_bind (wpAny_bind (wpAny_mono h₃' (fun y s₄ h₄ => ?_) fun _ _ z => z.elim))
      refine wpAny_bind (wpAny_mono h₄ (fun _ s₅ h₅ => ?_) fun _ _ z => z.elim)
      exact wpAny_pure (wpAny_pure ⟨rfl, h₅⟩)
end
section
variable {X : Cx} {elt iter cnd : Expr} {x : Str} {px pos : Pos} {scope : Scope} {fr : List (Str × Nat)} {wi : TI} {te : TE} {tt : TT}
end
end Rg
set_option Elab.async false
set_option linter.all false
set_option maxRecDepth 100000
set_option maxHeartbeats 4000000
/-! [e for x, .. in .. if c] with any number of names, as an expression and stored in a name -/
namespace Rg
open PySem PySem.W PySem.Spec PyProof.Rows L2
def blkNG (xs : List Str) (fr : List (Str × Nat)) : List Str := xs ++ fr.map (·.1)
def blkSG (vs : List (Option V)) (fr : List (Str × Nat)) (σ : L2.St) : L2.St := vs ++ fr.map fun p => (σ[p.2]?).getD none
def blkG (X : Cx) (xs : List Str) (fr : List (Str × Nat)) (scope : Scope) (fp : List Addr) (C : Addr) (s : Shared) (H : Hp) : Cx where
  prog := X.prog
  w := X.w
  K := X.K
  mg := X.mg
  base := X.base
  A := X.A
  N := blkNG xs fr
  s₀ := s
  H₀ := H
  env := compEnvC scope (clOf X.env.cells scope.names) C X.env
  outer := X.stack
  stack := X.stack
  ex := fp
  fn := fun _ => false
  calm := X.calm
  pn := []
  xe := fun _ _ => False
structure LcOkG (X : Cx) (xs : List Str) (fr : List (Str × Nat)) (scope : Scope) : Prop where
  nocell : ∀ y ∈ scope.names, y.2 ≠ .cell
  kind : scope.kind = .function
  nm : ∀ y ∈ scope.names, y.2 = .local → scope.names.lookup y.1 = some .local
  hx : ∀ x ∈ xs, scope.names.lookup x = some .local
  nd : (blkNG xs fr).Nodup
  free : ∀ y ∈ scope.names, y.2 = .free → X.env.scope.names.lookup y.1 = some .cell ∨ X.env.scope.names.lookup y.1 = some .free
  fr : ∀ p ∈ fr, X.N[p.2]? = some p.1 ∧ scope.names.lookup p.1 = some .free
structure LcStG (xs : List Str) (fr : List (Str × Nat)) (scope sc : Scope) (N : List Str) : Prop where
  nocell : ∀ y ∈ scope.names, y.2 ≠ .cell
  kind : scope.kind = .function
  nm : ∀ y ∈ scope.names, y.2 = .local → scope.names.lookup y.1 = some .local
  hx : ∀ x ∈ xs, scope.names.lookup x = some .local
  nd : (blkNG xs fr).Nodup
  free : ∀ y ∈ scope.names, y.2 = .free → sc.names.lookup y.1 = some .cell ∨ sc.names.lookup y.1 = some .free
  fr : ∀ p ∈ fr, N[p.2]? = some p.1 ∧ scope.names.lookup p.1 = some .free
theorem LcStG.ok {X : Cx} {xs : List Str} {fr : List (Str × Nat)} {scope sc : Scope} {N : List Str} (S : LcStG xs fr scope sc N) (h1 : X.env.scope = sc) (h2 : X.N = N) : LcOkG X xs fr scope := by
  subst h1
  subst h2
  exact ⟨S.nocell, S.kind, S.nm, S.hx, S.nd, S.free, S.fr⟩
/-- how a value is taken apart into the names -/
abbrev TU := V → List V → Hp → Prop
def uName : TU := fun v vs _ => vs = [v]
def uTup (K : PySem.W.Frag) : TU := fun v vs H => ∃ a, v = .ref a ∧ SqT K H a vs
def gUn (U : TU) (n : Nat) : TG := fun v σ H Q => ∃ vs, U v vs H ∧ vs.length = n ∧ Q (vs.map some ++ σ.drop n) H
def PTs (X : Cx) (cs : List Expr) (t : TT) : Prop := match cs with
  | [] => ∀ σ H Q, t σ H Q → Q true H
  | c :: _ => PT X c t
def tTrue : TT := fun _ H Q => Q true H
theorem pts_nil {X : Cx} : PTs X [] tTrue := fun _ _ _ h => h
theorem pts_one {X : Cx} {c : Expr} {t : TT} (h : PT X c t) : PTs X [c] t := h
def CondThen (M : Model) (A : Around) (cs : List Expr) (env : Env) (Q : Bool → Shared → Prop) (s : Shared) : Prop := match cs with
  | [] => Q true s
  | c :: _ => wpAny M A (isTrue c env (eval c env)) Q (fun _ _ => False) s
theorem condThen {X : Cx} {cs : List Expr} {tt : TT} {pins : List (Addr × Obj)} {σ : L2.St} {H : Hp} {s : Shared} {Q : Bool → Hp → Prop} {R : Bool → Shared → Prop} {M : Model} {A : Around} {env : Env} (hT : PTs X cs tt) (I : Inv X pins σ H s) (h : tt σ H Q) (k : ∀ ok s', TP X pins σ Q ok s' → R ok s')
    (hM : M = model X.prog X.w := by rfl) (hA : A = X.A := by rfl) (he : env = X.env := by rfl) (hx : X.xe = fun _ _ => False := by rfl) : CondThen M A cs env R s := by
  subst hM hA he
  cases cs with
  | nil => exact k true s ⟨H, I, hT σ H Q h⟩
  | cons c r =>
    have z := (show PT X c tt from hT) pins s σ H Q I h
    rw [hx] at z
    exact wpAny_mono z (fun ok s' q => k ok s' q) fun _ _ e => e
def LcRun (U : TU) (n : Nat) (fr : List (Str × Nat)) (tt : TT) (te : TE) (σ : L2.St) (Kf : List V → Hp → Prop) (J : It) (H1 : Hp) : Prop := ∃ W : Nat → Nat → List V → Hp → Prop, (∃ m, W 0 m [] H1) ∧ ∀ i m ys H, W i m ys H →
  (J.stop i H ∧ ys.length ≤ sizeLine ∧ Kf ys H) ∨
  (J.go i H ∧ ys.length < sizeLine ∧ ∃ (N : V → Hp → Prop) (M : Hp → Prop), (∀ y H2, N y H2 → ∃ m', m' < m ∧ W (i + 1) m' (ys ++ [y]) H2) ∧ (∀ H2, M H2 → ∃ m', m' < m ∧ W (i + 1) m' ys H2) ∧
    ∀ v H', J.yld i H v H' → ∃ vs, U v vs H' ∧ vs.length = n ∧ tt (blkSG (vs.map some) fr σ) H' fun ok H2 => if ok = true then te (blkSG (vs.map some) fr σ) H2 N else M H2)
def tLcG (U : TU) (n : Nat) (fr : List (Str × Nat)) (wi : TI) (tt : TT) (te : TE) : TE := fun σ H Q => wi σ H (LcRun U n fr tt te σ fun ys H => ∀ p, H p = none → Q (.ref p) (upd H p (.lst ys)))
section
variable {prog : Program} {w : World} {A : Around} {R : Result → Shared → Prop} {s : Shared}
theorem lc_loopG {elt target iter : Expr} {cs : List Expr} {scope : Scope} {pos : Pos} {it acc : Value} {env : Env} (hcs : cs = [] ∨ ∃ c, cs = [c]) (I : Nat → Shared → Prop)
    (turn : ∀ n t, I n t → wpAny (model prog w) A (pyNext it) (fun r s₁ => match r with
      | none => R (.ok .next) s₁
      | some v => wpAny (model prog w) A (letOwnedTupleGo target it v) (fun _ s₂ => wpAny (model prog w) A (assign target env v) (fun _ s₃ => CondThen (model prog w) A cs env (fun ok s₃' =>
          if ok = true then wpAny (model prog w) A (eval elt env) (fun y s₄ => wpAny (model prog w) A (call (.builtin "list.append") [acc, y]) (fun _ s₅ => ∃ m, m < n ∧ I m s₅) (fun _ _ => False) s₄) (fun _ _ => False) s₃'
          else ∃ m, m < n ∧ I m s₃') s₃) (fun _ _ => False) s₂) (fun _ _ => False) s₁) (fun _ _ => False) t)
    (n : Nat) (h : I n s) : codeAny (model prog w) A (.compLoop (.ListComp elt [⟨target, iter, cs, 0⟩] scope pos) 0 it acc env) R s := by
  rcases hcs with rfl | ⟨c, rfl⟩
  · refine lc_loop I (fun n t hI => wpAny_mono (turn n t hI) (fun r s₁ h₁ => ?_) fun _ _ e => e) n h
    cases r with
    | none => exact h₁
    | some v =>
      refine wpAny_mono h₁ (fun _ s₂ h₂ => wpAny_mono h₂ (fun _ s₃ h₃ => ?_) fun _ _ e => e) fun _ _ e => e
      have z := h₃
      unfold CondThen at z
      dsimp only at z
      rw [if_pos rfl] at z
      exact z
  · exact lc_loopI I turn n h
end
section
variable {X : Cx} {elt iter tg : Expr} {cs : List Expr} {xs : List Str} {pos : Pos} {scope : Scope} {fr : List (Str × Nat)} {wi : TI} {te : TE} {tt : TT} {U : TU}
theorem comp_core {pos2 : Pos} {use : Option (Value → Sem Unit)} {Q0 : Value → Shared → Prop} {pins : List (Addr × Obj)} {s : Shared} {σ : L2.St} {H : Hp} {Kf : List V → Hp → Prop} (hc : X.calm = true) (hcs : cs = [] ∨ ∃ c, cs = [c]) (hi : PI X tg iter wi) (S : LcOkG X xs fr scope)
    (hg : ∀ fp C s H, PG (blkG X xs fr scope fp C s H) tg (gUn U xs.length)) (hT : ∀ fp C s H, PTs (blkG X xs fr scope fp C s H) cs tt) (he : ∀ fp C s H, PE (blkG X xs fr scope fp C s H) elt te)
    (hs : ∀ v, foldedSetIterable iter X.env v = pure v) (I : Inv X pins σ H s) (h : wi σ H (LcRun U xs.length fr tt te σ Kf))
    (fin : ∀ (t1 : Shared) (D C : Addr) (H' : Hp) (ys : List V), H' D = none → Kf ys H' → Inv X pins σ (upd H' D (.lst ys)) t1 → FpOk X pins (upd H' D (.lst ys)) C → (∃ m, t1.heap.Ns C m) → compPost (model X.prog X.w) X.A X.xe use Q0 (.ref D) C (.ok .next) t1) :
    wpAny (model X.prog X.w) X.A (comprehension (.ListComp elt [⟨tg, iter, cs, 0⟩] scope pos) scope X.env pos2 (newList []) false (eval iter X.env) use) Q0 X.xe s := by
  have hcell : ∀ p ∈ scope.names, p.2 = .free → ∃ c, X.env.cells.lookup p.1 = some c := fun p hp hk => I.ok.has p.1 (S.free p hp hk)
  have hsub : ∀ y c, (clOf X.env.cells scope.names).lookup y = some c → X.env.cells.lookup y = some c := cl_sub scope.names [] hcell (fun y c z => by simp at z)
  refine wpAny_comprehension_free (use := use) rfl hs (clos_is hcell) S.kind S.nm ?_
  refine thn (hi pins s σ H _ I h) fun v s1 h1 => thn h1 fun itv s2 h2 => ?_
  obtain ⟨it, fp, tn, J, H2, e, I2, T, st2, f2, W, ⟨m0, w0⟩, turn⟩ := h2
  subst e
  refine wpAny_newObj_type (wpAny_newFunctionEnv S.nocell (by intro y hy; simp at hy) (fun h₁ hns₁ hsb₁ => ?_) S.kind)
  dsimp only at hns₁ hsb₁ ⊢
  generalize hP : s2.heap.push { cls := .type "list", dict := none, data := .seq ([] : List Value).toArray } = P at hns₁ hsb₁ ⊢
  have hC : P.objs.size = s2.heap.objs.size + 1 := by rw [← hP, Heap.size_push]
  have hDC : s2.heap.objs.size ≠ P.objs.size := by rw [hC]; exact Nat.ne_of_lt (Nat.lt_succ_self _)
  have hCle : s2.heap.objs.size ≤ P.objs.size := by rw [hC]; exact Nat.le_succ _
  have lt2 : ∀ b, b < s2.heap.objs.size → b ≠ P.objs.size ∧ b ≠ s2.heap.objs.size := fun b hb => ⟨by rw [hC]; exact Nat.ne_of_lt (Nat.lt_succ_of_lt hb), Nat.ne_of_lt hb⟩
  have old : ∀ b o, s2.heap.get? b = some o → h₁.get? b = some o := fun b o q =>
    (hsb₁.2 b (lt2 b (Heap.lt_size q)).1).trans (Heap.get?_push_of_some _ (by rw [← hP]; exact Heap.get?_push_of_some _ q))
  have hacc : h₁.get? s2.heap.objs.size = some { cls := .type "list", data := .seq ([] : List Value).toArray } :=
    (hsb₁.2 _ hDC).trans (Heap.get?_push_of_some _ (by rw [← hP]; exact Heap.get?_push_size _ rfl))
  have hD2 : H2 s2.heap.objs.size = none := I2.hok.fresh (Nat.le_refl _)
  have hC2 : H2 P.objs.size = none := I2.hok.fresh hCle
  have hfplt : ∀ b ∈ fp, b < s2.heap.objs.size := fun b hb => by
    obtain ⟨o, q, _⟩ := T.obj 0 _ st2 b hb
    exact Heap.lt_size q
  have hstk : ∀ b ∈ frs X.stack, b < s2.heap.objs.size := fun b hb => by
    obtain ⟨_, o, q, _⟩ := I2.stack.mem hb
    exact Heap.lt_size q
  have okY : (blkG X xs fr scope fp P.objs.size s2 H2).Ok := by
    refine ⟨I2.ok.mod, ?_, I2.ok.glob, I2.ok.blt, hCle, ?_, ?_, ?_, I2.ok.hd, I2.ok.frames, .inl rfl, ?_, I2.bs, Nat.le_trans I2.ok.bsz I2.sz, ?_, ?_, I2.stack, I2.stkFree⟩
    · exact S.kind
    · exact fun y z c h1 h2 => I2.ok.inj y z c (hsub y c h1) (hsub z c h2)
    · intro y hy
      have hf : scope.names.lookup y = some .free := free_relabel S.nocell hy
      exact Option.isSome_iff_exists.mp (cl_has (cells := X.env.cells) (y := y) scope.names [] (.inl (PySem.mem_of_lookup hf)))
    · intro y c hf
      exact absurd (show false = true from hf) (by decide)
    · intro b hb
      obtain ⟨_, _, _, _, f4, _⟩ := f2 b hb
      exact ⟨(lt2 b (hfplt b hb)).1, fun y c q => f4 y c (hsub y c q)⟩
    · intro b o q hb
      obtain ⟨_, _, _, f3, _, _⟩ := f2 b hb
      rcases f3 with z | z
      · exact I2.ok.noex b o q z
      · exact absurd (Nat.lt_of_lt_of_le (Heap.lt_size q) (Nat.le_trans I2.ok.bsz z)) (Nat.lt_irrefl _)
    · intro b hb hz
      obtain ⟨_, f1, f2', _⟩ := f2 b hb
      rcases List.mem_cons.mp (I2.stkSub b hz) with z | z
      · exact f1 z
      · exact f2' z
  -- the start
  let own (us : List Value) (k : Nat) : Addr × Obj := (s2.heap.objs.size, { cls := .type "list", data := .seq us.toArray k })
  have pinD : ∀ (us : List Value) (k : Nat) (t : Shared) (H' : Hp), t.heap.get? s2.heap.objs.size = some { cls := .type "list", data := .seq us.toArray k } → H' s2.heap.objs.size = none →
      t.heap.get? (own us k).1 = some (own us k).2 ∧ H' (own us k).1 = none ∧ (own us k).1 ≠ (blkG X xs fr scope fp P.objs.size s2 H2).env.locals ∧ (own us k).1 ∉ (blkG X xs fr scope fp P.objs.size s2 H2).fs ∧ ∀ v, (own us k).2.data ≠ .cell v :=
    fun us k t H' q n => ⟨q, n, hDC, fun z => absurd (hstk _ z) (Nat.lt_irrefl _), fun v z => nomatch z⟩
  have I4 : Inv (blkG X xs fr scope fp P.objs.size s2 H2) [own [] 0] (blkSG (xs.map fun _ => none) fr σ) H2 { s2 with heap := h₁, toks := s2.toks + ([] : List (Str × Value)).length } := by
    refine ⟨okY, rfl, I2.bare, Un.kept old, ⟨_, hns₁, fun i y v q1 q2 q3 => ?_⟩, fun y c q => ?_, hC2, fun y c q => I2.freeC y c (hsub y c q), fun p hp => ?_, I2.hok.kept old, ?_⟩
    · have lx : (xs.map fun _ => (none : Option V)).length = xs.length := List.length_map _
      rcases Nat.lt_or_ge i xs.length with hlt | hge
      · have q2' : (xs.map fun _ => (none : Option V))[i]? = some (some v) := by
          rw [← List.getElem?_append_left (by rw [lx]; exact hlt)]; exact q2
        rw [List.getElem?_map] at q2'
        cases ez : xs[i]? with
        | none => rw [ez] at q2'; cases q2'
        | some z => rw [ez] at q2'; cases q2'
      · obtain ⟨j, rfl⟩ : ∃ j, i = xs.length + j := ⟨i - xs.length, by omega⟩
        have q1' : (fr.map (·.1))[j]? = some y := by
          have z : (xs ++ fr.map (·.1))[xs.length + j]? = some y := q1
          rw [List.getElem?_append_right (by omega), Nat.add_sub_cancel_left] at z
          exact z
        have q2' : (fr.map fun p => (σ[p.2]?).getD none)[j]? = some (some v) := by
          have z : ((xs.map fun _ => (none : Option V)) ++ fr.map fun p => (σ[p.2]?).getD none)[xs.length + j]? = some (some v) := q2
          rw [List.getElem?_append_right (by rw [lx]; omega), lx, Nat.add_sub_cancel_left] at z
          exact z
        rw [List.getElem?_map] at q1' q2'
        cases ef : fr[j]? with
        | none => rw [ef] at q1'; cases q1'
        | some p =>
          rw [ef] at q1' q2'
          have e1 : p.1 = y := Option.some.inj q1'
          have e2 : (σ[p.2]?).getD none = some v := Option.some.inj q2'
          obtain ⟨n1, n2⟩ := S.fr p (List.mem_of_getElem? ef)
          rw [e1] at n1 n2
          have e3 : σ[p.2]? = some (some v) := by
            cases ez : σ[p.2]? with
            | none => rw [ez] at e2; cases e2
            | some z => rw [ez] at e2; exact congrArg some e2
          have kX := S.free _ (PySem.mem_of_lookup n2) rfl
          obtain ⟨m, hm, hl⟩ := I2.loc
          obtain ⟨u, ru, lk⟩ := hl p.2 y v n1 e3 (.inr kX)
          refine ⟨u, ru, .inr ⟨relabel_free n2, ?_⟩⟩
          rcases lk with ⟨k1, _⟩ | ⟨_, c, q, ic⟩
          · have k1' : X.env.scope.names.lookup y = some .local := k1
            rcases kX with kX | kX
            · exact absurd (k1'.symm.trans kX) (by simp)
            · exact absurd (k1'.symm.trans kX) (by simp)
          · obtain ⟨c', hc'⟩ := Option.isSome_iff_exists.mp (cl_has (cells := X.env.cells) (y := y) scope.names [] (.inl (PySem.mem_of_lookup n2)))
            have e4 : c' = c := Option.some.inj ((hsub y c' hc').symm.trans q)
            subst e4
            obtain ⟨oc, g1, g2⟩ := ic
            exact ⟨c', hc', oc, old _ _ g1, g2⟩
    · obtain ⟨z, oc, g1, g2⟩ := I2.cell y c (hsub y c q)
      exact ⟨z, oc, old _ _ g1, g2⟩
    · have e : p = own [] 0 := by simpa [blkG] using hp
      subst e
      exact pinD [] 0 { s2 with heap := h₁, toks := s2.toks + ([] : List (Str × Value)).length } H2 hacc hD2
    · show (blkSG (xs.map fun _ => none) fr σ).length = (blkNG xs fr).length
      unfold blkSG blkNG
      rw [List.length_append, List.length_append, List.length_map, List.length_map, List.length_map]
  have statY : ∀ {H' : Hp} {us : List Value} {k : Nat}, (∀ b ∈ fp, H' b = none) → ∀ b ∈ fp, FpOk (blkG X xs fr scope fp P.objs.size s2 H2) [own us k] H' b := fun {H' us k} hn b hb => by
    obtain ⟨_, f1, f2', f3, f4, f5⟩ := f2 b hb
    refine ⟨hn b hb, (lt2 b (hfplt b hb)).1, okY.exfs b hb, .inl hb, fun y c q => f4 y c (hsub y c q), fun p hp z => ?_⟩
    have e : p = own us k := by simpa [blkG] using hp
    subst e
    exact (lt2 b (hfplt b hb)).2 z.symm
  have loop : ∀ s₃ : Shared, s₃ = { s2 with heap := h₁, toks := s2.toks + ([] : List (Str × Value)).length } →
      codeAny (model X.prog X.w) X.A (.compLoop (.ListComp elt [⟨tg, iter, cs, 0⟩] scope pos) 0 (.ref it) (.ref s2.heap.objs.size) (compEnvC scope (clOf X.env.cells scope.names) P.objs.size X.env))
        (compPost (model X.prog X.w) X.A X.xe use Q0 (.ref s2.heap.objs.size) P.objs.size) s₃ := by
    rintro s₃ rfl
    refine lc_loopG hcs (fun n t => ∃ i ys us k H', Inv (blkG X xs fr scope fp P.objs.size s2 H2) [own us k] (blkSG (xs.map fun _ => none) fr σ) H' t ∧ Vals ys us ∧ tn i t.heap ∧ (∀ b ∈ fp, H' b = none) ∧ W i n ys H') ?_ m0
      ⟨0, [], [], 0, H2, I4, .nil, T.keep _ _ _ st2 fun b hb o q => old b o q, fun b hb => (f2 b hb).1, w0⟩
    rintro n t ⟨i, ys, us, k, H', It, rv, st, frs', w1⟩
    have hDn : H' s2.heap.objs.size = none := (It.pin (own us k) (by simp [blkG])).2.1
    have hDo : t.heap.get? s2.heap.objs.size = some { cls := .type "list", data := .seq us.toArray k } := (It.pin (own us k) (by simp [blkG])).1
    rcases turn i n ys H' w1 with ⟨stop, zl, qn⟩ | ⟨go, zl, N, M, hN, hM, step⟩
    · refine thn (T.done (blkG X xs fr scope fp P.objs.size s2 H2) rfl rfl rfl hc i _ t _ H' _ It (statY frs') st stop) fun r t1 ⟨hr, I1⟩ => ?_
      subst hr
      have hDo1 : t1.heap.get? s2.heap.objs.size = some { cls := .type "list", data := .seq us.toArray k } := (I1.pin (own us k) (by simp [blkG])).1
      have hCn : H' P.objs.size = none := I1.free
      refine fin t1 _ _ H' ys hDn qn ?_ (I2.fpOk hCle (by rw [upd_ne (Ne.symm hDC)]; exact hCn)) (let ⟨m, hns, _⟩ := I1.loc; ⟨m, hns⟩)
      have sb : Heap.SameBut P.objs.size t1.heap t1.heap := .refl _ _
      refine I2.call' (s' := t1) (ch := fp) I1.os (un_tail I1.base hCle (Nat.le_refl _) hDn sb) ?_ I1.bare fun b hb => ?_
      · intro a o q
        by_cases ha : a = s2.heap.objs.size
        · subst ha
          rw [upd_same] at q
          cases q
          exact ⟨zl, us, k, rv, (sb.2 _ hDC).trans hDo1⟩
        · rw [upd_ne ha] at q
          refine (I1.hok a o q).stay (fun b u hb q' => (sb.2 b ?_).trans q') (fun b z => ?_) fun b xs z => ?_
          · rcases hb with rfl | hb
            · exact ne_of_none q I1.free
            · exact ne_of_none hb I1.free
          · rw [upd_ne (ne_of_none z hDn)]; exact z
          · rw [upd_ne (ne_of_none z hDn)]; exact z
      · obtain ⟨_, f1, _, f3, f4, f5⟩ := f2 b hb
        exact ⟨f3, f1, f4, f5⟩
    · refine thn (T.item (blkG X xs fr scope fp P.objs.size s2 H2) rfl rfl rfl hc i _ t _ H' _ It (statY frs') st go) fun r t1 ⟨u, hr, h4⟩ => ?_
      subst hr
      refine thn h4 fun _ t2 ⟨v, H5, I5, r5, y5, st5, fr5⟩ => ?_
      have I5' := I5.pinned (statY fr5) (T.obj _ _ st5)
      obtain ⟨vs, hU, hvl, st6⟩ := step v H5 y5
      refine thn (hg fp P.objs.size s2 H2 _ t2 _ H5 v u (fun σ' H6 => σ' = blkSG (vs.map some) fr σ ∧ H6 = H5) I5' r5 ⟨vs, hU, hvl, by
        unfold blkSG
        rw [List.drop_left' (by rw [List.length_map])], rfl⟩) fun _ t3 ⟨σ6, H6, I6, e6, e7⟩ => ?_
      subst e6; subst e7
      have wk : ∀ j z, (blkSG (xs.map fun _ => none) fr σ)[j]? = some (some z) → (blkSG (vs.map some) fr σ)[j]? = some (some z) := fun j z hz => by
        have lx : (xs.map fun _ => (none : Option V)).length = xs.length := List.length_map _
        have lv : (vs.map (some (α := V))).length = xs.length := by rw [List.length_map]; exact hvl
        unfold blkSG at hz ⊢
        rcases Nat.lt_or_ge j xs.length with hlt | hge
        · rw [List.getElem?_append_left (by rw [lx]; exact hlt), List.getElem?_map] at hz
          cases ez : xs[j]? with
          | none => rw [ez] at hz; cases hz
          | some z => rw [ez] at hz; cases hz
        · rw [List.getElem?_append_right (by rw [lx]; exact hge), lx] at hz
          rw [List.getElem?_append_right (by rw [lv]; exact hge), lv]
          exact hz
      have wl : (blkSG (xs.map fun _ => none) fr σ).length = (blkSG (vs.map some) fr σ).length := by
        unfold blkSG
        rw [List.length_append, List.length_append, List.length_map, List.length_map (some (α := V)), hvl]
      refine condThen (hT fp P.objs.size s2 H2) I6 st6 fun ok t3' ⟨H6', I6', q6⟩ => ?_
      cases ok with
      | false =>
        obtain ⟨m', hm, w7⟩ := hM H6' q6
        rw [if_neg Bool.false_ne_true]
        have pf : ∀ b ∈ fp, ∃ o, t2.heap.get? b = some o ∧ t3'.heap.get? b = some o ∧ H6' b = none := fun b hb => by
          obtain ⟨o, q, _⟩ := T.obj _ _ st5 b hb
          have z := I6'.pin (b, o) (List.mem_append_right _ (List.mem_append_right _ (mem_pinsAt hb q)))
          exact ⟨o, q, z.1, z.2.1⟩
        have hDo4 : t3'.heap.get? s2.heap.objs.size = some { cls := .type "list", data := .seq us.toArray k } := (I6'.pin (own us k) (by simp [blkG])).1
        have hDn4 : H6' s2.heap.objs.size = none := (I6'.pin (own us k) (by simp [blkG])).2.1
        have I9 := (I6'.pins_of (pins' := []) (fun p hp => absurd hp (by simp))).weak (σ' := blkSG (xs.map fun _ => none) fr σ) wl wk
        refine ⟨m', hm, i + 1, ys, us, k, H6', I9.pins_of fun p hp => ?_, rv, ?_, ?_, w7⟩
        · have e : p = own us k := by simpa using hp
          subst e
          exact pinD _ _ _ H6' hDo4 hDn4
        · refine T.keep _ _ _ st5 fun b hb o q => ?_
          obtain ⟨o', q1, q2, _⟩ := pf b hb
          rw [q] at q1
          cases q1
          exact q2
        · exact fun b hb => by
            obtain ⟨_, _, _, q3⟩ := pf b hb
            exact q3
      | true =>
        rw [if_pos rfl]
        refine thn (he fp P.objs.size s2 H2 _ t3' _ H6' _ I6' q6) fun yv t4 ⟨y, H7, I7, r7, n7⟩ => ?_
        obtain ⟨m', hm, w7⟩ := hN y H7 n7
        have hDo4 : t4.heap.get? s2.heap.objs.size = some { cls := .type "list", data := .seq us.toArray k } := (I7.pin (own us k) (by simp [blkG])).1
        have hDn4 : H7 s2.heap.objs.size = none := (I7.pin (own us k) (by simp [blkG])).2.1
        have hlen : us.length < sizeLine := by rw [← rv.length]; exact zl
        refine call_meets F.slot_list_append ⟨_, hDo4, rfl⟩ F.entry_list_append (F.args_list_append_2 _ _) (PySem.list_append s2.heap.objs.size us.toArray k yv (by rw [List.size_toArray]; omega)) ⟨hDo4, ?_⟩
        have hup := PySem.IsL.update hDo4 (·.push yv)
        have hea : us.toArray.push yv = (us ++ [yv]).toArray := by simp
        rw [hea] at hup
        have pf : ∀ b ∈ fp, ∃ o, t2.heap.get? b = some o ∧ t4.heap.get? b = some o ∧ H7 b = none := fun b hb => by
          obtain ⟨o, q, _⟩ := T.obj _ _ st5 b hb
          have z := I7.pin (b, o) (List.mem_append_right _ (List.mem_append_right _ (mem_pinsAt hb q)))
          exact ⟨o, q, z.1, z.2.1⟩
        have I8 := (I7.pins_of (pins' := []) (fun p hp => absurd hp (by simp))).turned (it := s2.heap.objs.size) (h' := t4.heap.update s2.heap.objs.size (Obj.mapSeq (·.push yv))) (t' := t4.toks)
          (fun b o hb q => (Heap.get?_update_other t4.heap (Obj.mapSeq (·.push yv)) (Ne.symm hb)).trans q) hDn4 hDC (.inr (Nat.le_refl _))
          (fun z c q hz => by
            obtain ⟨_, oc, g1, _⟩ := I2.cell z c (hsub z c q)
            exact absurd (Heap.lt_size g1) (by rw [hz]; exact Nat.lt_irrefl _))
          (fun p hp => absurd (show p ∈ ([] : List (Addr × Obj)) from hp) (by simp))
        have I9 := I8.weak (σ' := blkSG (xs.map fun _ => none) fr σ) wl wk
        refine ⟨m', hm, i + 1, ys ++ [y], us ++ [yv], (if ((us ++ [yv]).toArray.size == us.toArray.size) = true then k else k + 1), H7, I9.pins_of fun p hp => ?_, rv.append (.cons r7 .nil), ?_, ?_, w7⟩
        · have e : p = own (us ++ [yv]) (if ((us ++ [yv]).toArray.size == us.toArray.size) = true then k else k + 1) := by simpa using hp
          subst e
          exact pinD _ _ _ H7 hup hDn4
        · refine T.keep _ _ _ st5 fun b hb o q => ?_
          obtain ⟨o', q1, q2, _⟩ := pf b hb
          rw [q] at q1
          cases q1
          exact (Heap.get?_update_other t4.heap (Obj.mapSeq (·.push yv)) (Ne.symm (lt2 b (hfplt b hb)).2)).trans q2
        · exact fun b hb => by
            obtain ⟨_, _, _, q3⟩ := pf b hb
            exact q3
  exact codeAny_compStart_list (loop _ rfl) (T.self X.A 0 _ _ _ (T.keep _ _ _ st2 fun b hb o q => old b o q) (loop _ rfl))
theorem pe_lcG (hc : X.calm = true) (hcs : cs = [] ∨ ∃ c, cs = [c]) (hi : PI X tg iter wi) (S : LcOkG X xs fr scope)
    (hg : ∀ fp C s H, PG (blkG X xs fr scope fp C s H) tg (gUn U xs.length)) (hT : ∀ fp C s H, PTs (blkG X xs fr scope fp C s H) cs tt) (he : ∀ fp C s H, PE (blkG X xs fr scope fp C s H) elt te)
    (hs : ∀ v, foldedSetIterable iter X.env v = pure v := by intro _; rfl) : PE X (.ListComp elt [⟨tg, iter, cs, 0⟩] scope pos) (tLcG U xs.length fr wi tt te) := by
  intro pins s σ H Q I h
  rw [eval_ListComp]
  exact comp_core hc hcs hi S hg hT he hs I h fun t1 D C H' ys hD k IX fC ⟨m, hns⟩ => ⟨m, hns, fun h' sb => ⟨.ref D, _, own_turn (t' := t1.toks) IX fC (fun c o hc e => (sb.2 c hc).trans e), rfl, k D hD⟩⟩
theorem ps_lcG {i : Nat} {y : Str} {py spos : Pos} (hN : X.N.Nodup) (hiN : X.N[i]? = some y) (hyL : Loc X.env.scope y) (hc : X.calm = true) (hcs : cs = [] ∨ ∃ c, cs = [c]) (hi : PI X tg iter wi) (S : LcOkG X xs fr scope)
    (hg : ∀ fp C s H, PG (blkG X xs fr scope fp C s H) tg (gUn U xs.length)) (hT : ∀ fp C s H, PTs (blkG X xs fr scope fp C s H) cs tt) (he : ∀ fp C s H, PE (blkG X xs fr scope fp C s H) elt te)
    (hs : ∀ v, foldedSetIterable iter X.env v = pure v := by intro _; rfl) (hsw : swapsWith (.ListComp elt [⟨tg, iter, cs, 0⟩] scope pos) (some (.Name y py)) spos.line X.env = pure true := by rfl)
    (hfn : X.fn y = true ∨ X.env.scope.names.lookup y = some .local := by first | exact .inl rfl | exact .inr rfl | assumption) : PS X (.Assign [.Name y py] (.ListComp elt [⟨tg, iter, cs, 0⟩] scope pos) spos) (tAsg (tLcG U xs.length fr wi tt te) (gName i)) := by
  intro pins s σ H D I h
  have hgY : PG X (.Name y py) (gName i) := pg_name (i := i) hN hiN hyL hfn
  rw [exec_Assign_Name_used _ _ _ _ hsw]
  refine wpAny_bind (wpAny_standAt (wpAny_bind ?_))
  show wpAny _ X.A (do let _ ← comprehension (.ListComp elt [⟨tg, iter, cs, 0⟩] scope pos) scope X.env _ (newList []) false (eval iter X.env) (some (assign (.Name y py) X.env))) _ _ s
  refine wpAny_bind (wpAny_mono (comp_core (Q0 := fun _ s' => SP X pins D .next s') hc hcs hi S hg hT he hs I h fun t1 Da C H' ys hD k IX fC ⟨m, hns⟩ => ?_) (fun _ s' hq => wpAny_pure (wpAny_pure hq)) fun _ _ e => e)
  obtain ⟨oC, es, ep, hoC, hdC, rC⟩ := id hns
  have IP := own_pin IX fC hoC (fun v z => by rw [hdC] at z; cases z)
  refine thn (hgY _ t1 σ _ (.ref Da) (.ref Da) _ IP rfl (k Da hD)) fun _ t2 ⟨σ3, H3, I3, q3⟩ => ?_
  have hC3 := own_at I3
  exact ⟨m, ⟨oC, es, ep, hC3.1, hdC, rC⟩, fun h' sb => ⟨σ3, H3, own_turn (t' := t2.toks) (own_unpin I3) (fp_heap fC hC3.2) (fun c o hc e => (sb.2 c hc).trans e), q3⟩⟩
end
theorem two_of {α : Type} {l : List α} (h : l.length = 2) : ∃ a b, l = [a, b] := by
  match l, h with
  | [a, b], _ => exact ⟨a, b, rfl⟩
theorem cons2_of {α : Type} {l : List α} (h : 2 ≤ l.length) : ∃ a b r, l = a :: b :: r := by
  match l, h with
  | a :: b :: r, _ => exact ⟨a, b, r, rfl⟩
section
variable {X : Cx} {xs : List Str} {fr : List (Str × Nat)} {scope : Scope}
/-- one name -/
theorem gu_name {x : Str} {px : Pos} (S : LcOkG X [x] fr scope) : ∀ fp C s H, PG (blkG X [x] fr scope fp C s H) (.Name x px) (gUn uName 1) := fun fp C s H0 pins s1 σ H v u Q I r h => by
  obtain ⟨vs, hU, _, q⟩ := h
  have hU' : vs = [v] := hU
  subst hU'
  have hx := S.hx x List.mem_cons_self
  have hg : PG (blkG X [x] fr scope fp C s H0) (.Name x px) (gName 0) := pg_name (i := 0) S.nd rfl (.inl (lookup_relabel_local hx)) (.inr (lookup_relabel_local hx))
  refine hg pins s1 σ H v u Q I r ?_
  have hl : σ.length = (blkNG [x] fr).length := I.len
  cases σ with
  | nil => unfold blkNG at hl; simp at hl
  | cons a b => exact q
theorem gu_tup2 {x y : Str} {px py pt : Pos} {kt : Nat} (hc : X.calm = true) (S : LcOkG X [x, y] fr scope) : ∀ fp C s H, PG (blkG X [x, y] fr scope fp C s H) (.Tuple [.Name x px, .Name y py] kt pt) (gUn (uTup X.K) 2) := fun fp C s H0 pins s1 σ H v u Q I r h => by
  obtain ⟨vs, ⟨a, hv, hq⟩, hl, q⟩ := h
  have hx := S.hx x List.mem_cons_self
  have hy := S.hx y (List.mem_cons_of_mem _ List.mem_cons_self)
  have hg : PG (blkG X [x, y] fr scope fp C s H0) (.Tuple [.Name x px, .Name y py] kt pt) (gTup X.K 2 (gCons (gName 0) (gCons (gName 1) gNil))) := pg_tup hc (pgs_cons (pg_name (i := 0) S.nd rfl (.inl (lookup_relabel_local hx)) (.inr (lookup_relabel_local hx))) (pgs_cons (pg_name (i := 1) S.nd rfl (.inl (lookup_relabel_local hy)) (.inr (lookup_relabel_local hy))) pgs_nil))
  have hsl : σ.length = (blkNG [x, y] fr).length := I.len
  obtain ⟨v1, v2, rfl⟩ := two_of hl
  obtain ⟨t1, t2, sr, rfl⟩ := cons2_of (l := σ) (by rw [hsl]; unfold blkNG; simp)
  exact hg pins _ _ H v u Q I r ⟨a, [v1, v2], hv, hq, rfl, v1, _, rfl, v2, _, rfl, rfl, q⟩
end
end Rg
set_option Elab.async false
set_option linter.all false
set_option maxRecDepth 100000
set_option maxHeartbeats 4000000
/-! rules that serve whatever the values are; contracts in one word; loops over anything -/
namespace Rg
open PySem PySem.W PySem.Spec PyProof.Rows L2
theorem PI.or {X : Cx} {tg iter : Expr} {w1 w2 : TI} (h1 : PI X tg iter w1) (h2 : PI X tg iter w2) : PI X tg iter (fun σ H R => w1 σ H R ∨ w2 σ H R) :=
  fun pins s σ H R I h => h.elim (fun h => h1 pins s σ H R I h) (fun h => h2 pins s σ H R I h)
theorem PSet.or {X : Cx} {t u : TSet} (h1 : PSet X t) (h2 : PSet X u) : PSet X (fun o i v H Q => t o i v H Q ∨ u o i v H Q) :=
  fun pins s σ H o i v ov iv w Q I r1 r2 r3 h => h.elim (fun h => h1 pins s σ H o i v ov iv w Q I r1 r2 r3 h) (fun h => h2 pins s σ H o i v ov iv w Q I r1 r2 r3 h)
section
variable {X : Cx}
def rIxD : R2 := fun x y H Q => ∃ a v, x = .ref a ∧ DGet H a y (some v) ∧ Q v H
theorem ix_dict (hu : X.A.units + 1 < cLine) : IxR X rIxD := by
  intro value slice pins s σ H x y v u Q I rx ry h hs
  obtain ⟨a, w', rfl, g, q⟩ := h
  obtain rfl : v = Value.ref a := rx
  have hT := dict_typeIs I g
  unfold subscriptTail
  refine wpAny_bind ?_
  rw [getitemInPython_of_ne hT.not_modules]
  refine wpAny_bind (wpAny_specialOf hT PySem.F.slot_dict_getitem.lookup ?_)
  have fin : wpAny (model X.prog X.w) X.A (subscripted slice false (.ref a) u) (fun r s₃ => wpAny (model X.prog X.w) X.A (letTemporaryGo value (.ref a) r >>= fun _ => pure r) (EP X pins σ Q) X.xe s₃) X.xe s := by
    rw [hs]
    exact wpAny_operating (d_getItem hu I g ry fun z s3 I3 rz => wpAny_bind (wpAny_letTemporaryGo (wpAny_pure ⟨w', H, I3, rz, q⟩)))
  first
    | exact wpAny_pure (wpAny_bind fin)
    | exact wpAny_bind (wpAny_pure (wpAny_bind fin))
    | exact wpAny_bind fin
theorem op_inD (hu : X.A.units + 1 < cLine) : OpR X (compareOp .In) (fun y x H Q => ∃ a o, x = .ref a ∧ DGet H a y o ∧ Q (.bl o.isSome) H) := by
  intro pins s σ H x y v u Q I rx ry h
  obtain ⟨a, o, rfl, g, q⟩ := h
  obtain rfl : u = Value.ref a := ry
  exact d_in hu I g rx fun s3 I3 => ⟨.bl o.isSome, H, I3, rfl, q⟩
theorem op_notinD (hu : X.A.units + 1 < cLine) : OpR X (compareOp .NotIn) (fun y x H Q => ∃ a o, x = .ref a ∧ DGet H a y o ∧ Q (.bl (!o.isSome)) H) := by
  intro pins s σ H x y v u Q I rx ry h
  obtain ⟨a, o, rfl, g, q⟩ := h
  obtain rfl : u = Value.ref a := ry
  exact d_notIn hu I g rx fun s3 I3 => ⟨.bl (!o.isSome), H, I3, rfl, q⟩
theorem set_dict (hu : X.A.units + 1 < cLine) : PSet X (fun o i v H Q => ∃ a H4, o = .ref a ∧ DPut H a i v H4 ∧ Q H4) := by
  intro pins s σ H o i v ov iv u Q I ro ri rv h
  obtain ⟨a, H4, rfl, g, q⟩ := h
  obtain rfl : ov = Value.ref a := ro
  exact d_setItem hu I g ri rv fun s4 I4 => ⟨H4, I4, q⟩
/-- + of numbers, of texts, of lists, of tuples -/
@[irreducible] def rAddU (K : PySem.W.Frag) : R2 := fun x y H Q => rI0 (fun i j => .int (i + j)) x y H Q ∨ (∃ i j, x = .str i ∧ y = .str j ∧ i.length + j.length ≤ sizeLine ∧ Q (.str (i ++ j)) H) ∨ rCat x y H Q ∨ rCatT K x y H Q
theorem uAdd (K : PySem.W.Frag) (hK : X.K = K := by rfl) : OpR X (binaryOp .Add) (rAddU K) := by
  subst hK
  unfold rAddU
  exact op_add.or (op_add_str.or (op_cat.or op_catT))
/-- a place of a tuple, of a list, of a dict, of a text -/
@[irreducible] def rIxU (K : PySem.W.Frag) : R2 := fun x y H Q => rIxT K x y H Q ∨ rIxL K x y H Q ∨ rIxD x y H Q ∨ rIxS x y H Q
theorem uIx (K : PySem.W.Frag) (hu : X.A.units + 1 < cLine) (hK : X.K = K := by rfl) : IxR X (rIxU K) := by
  subst hK
  unfold rIxU
  exact ix_tup.or (ix_list.or ((ix_dict hu).or ix_str))
/-- in: a dict; a list or a tuple; a text -/
@[irreducible] def rInU (K : PySem.W.Frag) : R2 := fun y x H Q => (∃ a o, x = .ref a ∧ DGet H a y o ∧ Q (.bl o.isSome) H) ∨ rIn K false y x H Q ∨ (∃ i j, y = .str i ∧ x = .str j ∧ Q (.bl (!(Builtin.Str.occurrences j i 0 j.length 1).isEmpty)) H)
@[irreducible] def rNotInU (K : PySem.W.Frag) : R2 := fun y x H Q => (∃ a o, x = .ref a ∧ DGet H a y o ∧ Q (.bl (!o.isSome)) H) ∨ rIn K true y x H Q ∨ (∃ i j, y = .str i ∧ x = .str j ∧ Q (.bl (!(!(Builtin.Str.occurrences j i 0 j.length 1).isEmpty))) H)
theorem uIn (K : PySem.W.Frag) (hu : X.A.units + 1 < cLine) (hK : X.K = K := by rfl) : OpR X (compareOp .In) (rInU K) := by
  subst hK
  unfold rInU
  exact (op_inD hu).or (op_in_seq.or op_in_str)
theorem uNotIn (K : PySem.W.Frag) (hu : X.A.units + 1 < cLine) (hK : X.K = K := by rfl) : OpR X (compareOp .NotIn) (rNotInU K) := by
  subst hK
  unfold rNotInU
  exact (op_notinD hu).or (op_notIn_seq.or op_notIn_str)
/-- a[i] = v of a dict, of a list -/
@[irreducible] def rSetU : TSet := fun o i v H Q => (∃ a H4, o = .ref a ∧ DPut H a i v H4 ∧ Q H4) ∨ rSetL o i v H Q
theorem uSet (hu : X.A.units + 1 < cLine) : PSet X rSetU := by
  unfold rSetU
  exact PSet.or (set_dict hu) set_list
@[irreducible] def rSlU (K : PySem.W.Frag) : V → Option Int → Option Int → Hp → VK → Prop := fun x lo hi H Q => rSlL K x lo hi H Q ∨ rSlT K x lo hi H Q
theorem uSl (K : PySem.W.Frag) (hK : X.K = K := by rfl) : SlR X (rSlU K) := by
  subst hK
  unfold rSlU
  exact sl_list.or sl_tup
@[irreducible] def rLenU (K : PySem.W.Frag) : List V → Hp → VK → Prop := fun xs H Q => (∃ x n, xs = [x] ∧ LenV K x H n ∧ Q (.int n) H) ∨ (∃ a kvs, xs = [V.ref a] ∧ H a = some (.dK kvs) ∧ Q (.int kvs.length) H)
theorem uLen (K : PySem.W.Frag) (hK : X.K = K := by rfl) : CallR X (.builtin "len") (rLenU K) := by
  subst hK
  unfold rLenU
  exact call_len.or call_lenD
@[irreducible] def rIsiU (K : PySem.W.Frag) : List V → Hp → VK → Prop := fun xs H Q => rIsi K xs H Q ∨ rIsiT K xs H Q
theorem uIsi (K : PySem.W.Frag) (hK : X.K = K := by rfl) : CallR X (.builtin "isinstance") (rIsiU K) := by
  subst hK
  unfold rIsiU
  exact call_isi.or call_isiT
@[irreducible] def rListU (K : PySem.W.Frag) : List V → Hp → VK → Prop := fun xs H Q => ∃ p ys, xs = [.ref p] ∧ (SqL K H p ys ∨ SqT K H p ys) ∧ ∀ l, H l = none → Q (.ref l) (upd H l (.lst ys))
theorem uList (K : PySem.W.Frag) (hK : X.K = K := by rfl) : CallR X (.type "list") (rListU K) := by
  subst hK
  unfold rListU
  exact call_list_of
@[irreducible] def rTupleU (K : PySem.W.Frag) : List V → Hp → VK → Prop := fun xs H Q => ∃ p ys, xs = [.ref p] ∧ ((SqL K H p ys ∧ ∀ l, H l = none → Q (.ref l) (upd H l (.tup ys))) ∨ (SqT K H p ys ∧ Q (.ref p) H))
theorem uTuple (K : PySem.W.Frag) (hK : X.K = K := by rfl) : CallR X (.type "tuple") (rTupleU K) := by
  subst hK
  unfold rTupleU
  exact call_tuple_of
def tTruU (K : PySem.W.Frag) (ta : TE) : TT := fun σ H Q => ta σ H fun x H' => ∃ k, TruV K x H' k ∧ Q k H'
theorem uTru (K : PySem.W.Frag) {a : Expr} {ta : TE} (ha : PE X a ta) (he : ∀ whole, isTrue a X.env whole = (do let v ← whole; standAt a.pos; holding [v] (truthy v))) (hK : X.K = K := by rfl) : PT X a (tTruU K ta) := by
  subst hK
  exact pt_truth ha he
@[irreducible] def rNeU : R2 := fun x y H Q => rNe x y H Q ∨ ∃ d : Dt, DRep H d x ∧ DRep H d y ∧ d.Fine ∧ d.deep ≤ 50 ∧ Q (.bl false) H
theorem uNe {k : Nat} (hr : Room k X.A) : OpR X (compareOp .NotEq) rNeU := by
  unfold rNeU
  exact op_ne.or (op_neD hr)
end
section
variable {K : PySem.W.Frag} {H : Hp} {Q : VK} {a b p : Addr} {xs ys : List V} {kvs : List (Key × V)}
theorem add_i {i j : Int} (q : Q (.int (i + j)) H) : rAddU K (.int i) (.int j) H Q := by
  unfold rAddU
  exact .inl ⟨_, _, rfl, rfl, q⟩
theorem add_s {i j : Str} (h : i.length + j.length ≤ sizeLine) (q : Q (.str (i ++ j)) H) : rAddU K (.str i) (.str j) H Q := by
  unfold rAddU
  exact .inr (.inl ⟨_, _, rfl, rfl, h, q⟩)
theorem add_l (ha : H a = some (.lst xs)) (hb : H b = some (.lst ys)) (h : xs.length + ys.length ≤ sizeLine) (q : ∀ p, H p = none → Q (.ref p) (upd H p (.lst (xs ++ ys)))) : rAddU K (.ref a) (.ref b) H Q := by
  unfold rAddU
  exact .inr (.inr (.inl ⟨a, b, xs, ys, rfl, rfl, ha, hb, h, q⟩))
theorem ix_t {i : Int} {v : V} (h : H a = some (.tup xs)) (e : atI xs i = some v) (q : Q v H) : rIxU K (.ref a) (.int i) H Q := by
  unfold rIxU
  exact .inl ⟨a, xs, i, v, rfl, rfl, SqT.of h, e, q⟩
theorem atI_zero {α : Type} (x : α) (xs : List α) : atI (x :: xs) 0 = some x := atI_nat (j := 0) rfl
theorem ix_h {x : V} (h : H a = some (.tup (x :: xs))) (q : Q x H) : rIxU K (.ref a) (.int 0) H Q := ix_t h (atI_zero x xs) q
theorem ix_l {i : Int} {v : V} (h : SqL K H a xs) (e : atI xs i = some v) (q : Q v H) : rIxU K (.ref a) (.int i) H Q := by
  unfold rIxU
  exact .inr (.inl ⟨a, xs, i, v, rfl, rfl, h, e, q⟩)
theorem ix_d {y v : V} (g : DGet H a y (some v)) (q : Q v H) : rIxU K (.ref a) y H Q := by
  unfold rIxU
  exact .inr (.inr (.inl ⟨a, v, rfl, g, q⟩))
theorem ix_s {k : Str} {v : V} (h : H a = some (.dK kvs)) (e : valV kvs (Sum.inr k) = some v) (q : Q v H) : rIxU K (.ref a) (.str k) H Q := ix_d (by rw [← e]; exact DGet.k (k := Sum.inr k) h) q
theorem in_d {k : Str} (h : H a = some (.dK kvs)) (q : Q (.bl (valV kvs (Sum.inr k)).isSome) H) : rInU K (.str k) (.ref a) H Q := by
  unfold rInU
  exact .inl ⟨a, _, rfl, DGet.k (k := Sum.inr k) h, q⟩
theorem notin_d {k : Str} (h : H a = some (.dK kvs)) (q : Q (.bl (!(valV kvs (Sum.inr k)).isSome)) H) : rNotInU K (.str k) (.ref a) H Q := by
  unfold rNotInU
  exact .inl ⟨a, _, rfl, DGet.k (k := Sum.inr k) h, q⟩
theorem in_t {x : V} (h : H a = some (.tup xs)) (q : Q (.bl (inV x xs)) H) (f1 : flatV x = true := by rfl) (f2 : xs.all flatV = true := by rfl) : rInU K x (.ref a) H Q := by
  unfold rInU
  exact .inr (.inl ⟨a, xs, rfl, .inr (SqT.of h), f1, f2, q⟩)
theorem put_s {k : Str} {v : V} {R : Hp → Prop} (h : H a = some (.dK kvs)) (hl : kvs.length < sizeLine) (q : R (upd H a (.dK (putK kvs (Sum.inr k) v)))) : rSetU (.ref a) (.str k) v H R := by
  unfold rSetU
  exact .inl ⟨a, _, rfl, DPut.k (k := Sum.inr k) h hl, q⟩
theorem sl_l {lo hi : Option Int} (h : SqL K H a xs) (q : ∀ p, H p = none → Q (.ref p) (upd H p (.lst (cutV xs lo hi)))) : rSlU K (.ref a) lo hi H Q := by
  unfold rSlU
  exact .inl ⟨a, xs, rfl, h, q⟩
theorem len_l (h : SqL K H a xs) (q : Q (.int xs.length) H) : rLenU K [.ref a] H Q := by
  unfold rLenU
  exact .inl ⟨_, _, rfl, .inl ⟨xs, h, rfl⟩, q⟩
theorem len_d (h : H a = some (.dK kvs)) (q : Q (.int kvs.length) H) : rLenU K [.ref a] H Q := by
  unfold rLenU
  exact .inr ⟨a, kvs, rfl, h, q⟩
theorem isi_1 {x : V} {n : String} {t : Value} {c : Bool} (h : TyOf K H x t) (e : PySem.W.kitOne K t (.type n) = some c) (q : Q (.bl c) H) : rIsiU K [x, .ty n] H Q := by
  unfold rIsiU
  exact .inl ⟨x, n, t, c, rfl, h, e, q⟩
theorem isi_t {x : V} {ns : List String} {t : Value} {c : Bool} (hp : H p = some (.tup (ns.map V.ty))) (h : TyOf K H x t) (e : PySem.W.kitAny K t (ns.map Value.type) = some c) (q : Q (.bl c) H) : rIsiU K [x, .ref p] H Q := by
  unfold rIsiU
  exact .inr ⟨x, p, ns, t, c, rfl, hp, h, e, q⟩
theorem list_l (h : SqL K H a xs) (q : ∀ l, H l = none → Q (.ref l) (upd H l (.lst xs))) : rListU K [.ref a] H Q := by
  unfold rListU
  exact ⟨a, xs, rfl, .inl h, q⟩
theorem tup_l (h : SqL K H a xs) (q : ∀ l, H l = none → Q (.ref l) (upd H l (.tup xs))) : rTupleU K [.ref a] H Q := by
  unfold rTupleU
  exact ⟨a, xs, rfl, .inl ⟨h, q⟩⟩
theorem ix_c {z : Str} {i : Int} {c : Nat} (hz : z.length ≤ sizeLine) (e : atI z.cps.toList i = some c) (q : Q (.str ⟨#[c]⟩) H) : rIxU K (.str z) (.int i) H Q := by
  unfold rIxU
  exact .inr (.inr (.inr ⟨z, i, c, rfl, rfl, hz, e, q⟩))
theorem ne_d {x y : V} (d : Dt) (h1 : DRep H d x) (h2 : DRep H d y) (f : d.Fine) (hd : d.deep ≤ 50) (q : Q (.bl false) H) : rNeU x y H Q := by
  unfold rNeU
  exact .inr ⟨d, h1, h2, f, hd, q⟩
end
/-! arguments without a star, seen at once -/
def isStar : Expr → Bool
  | .Starred _ _ => true
  | _ => false
theorem star_cons {e : Expr} {es : List Expr} {env : Env} (h : isStar e = false) : starEach (e :: es) env = (false, eval e env) :: starEach es env := by
  cases e <;> first | rfl | cases h
def noStars (es : List Expr) : Bool := es.all fun e => !isStar e
theorem noStars_cons {e : Expr} {es : List Expr} (h : noStars (e :: es) = true) : isStar e = false ∧ noStars es = true := by
  unfold noStars at h ⊢
  rw [List.all_cons, Bool.and_eq_true, Bool.not_eq_true'] at h
  exact h
theorem star_any {pos : Pos} {env : Env} : ∀ {es : List Expr}, noStars es = true → (backTo pos (starEach es env)).any (·.1) = false
  | [], _ => rfl
  | e :: es, h => by
    obtain ⟨h1, h2⟩ := noStars_cons h
    rw [star_cons h1]
    exact star_any (pos := pos) (env := env) h2
theorem star_all {pos : Pos} {env : Env} : ∀ {es : List Expr}, noStars es = true → (backTo pos (starEach es env)).all (fun x => !x.1) = true
  | [], _ => rfl
  | e :: es, h => by
    obtain ⟨h1, h2⟩ := noStars_cons h
    rw [star_cons h1]
    exact star_all (pos := pos) (env := env) h2
section
variable {X : Cx} {e o : Expr} {es : List Expr} {te to : TE} {t : TA} {id T : String} {r : List V → Hp → VK → Prop} {x : Str} {p pos apos cpos : Pos}
theorem pa_c (ha : PE X e te) (hr : PA X es t) (h : isStar e = false := by rfl) : PA X (e :: es) (tCons te t) := pa_cons ha hr (star_cons h)
theorem pe_cB (hc : CallR X (.builtin id) r) (hg : Gl X x) (hm : X.mg x = none) (hv : bootBuiltins x = some (.builtin id)) (ha : PA X (e :: es) t) (hn : x ≠ "__name__" := by decide) (hdb : (x == ("__debug__" : Str)) = false := by decide)
    (hs : noStars (e :: es) = true := by rfl) : PE X (.Call (.Name x p) (e :: es) [] pos) (tCB r t) := pe_callB hc hg hm hv ha hn hdb (star_cons (noStars_cons hs).1) (star_any (noStars_cons hs).2)
theorem pe_cT (hc : CallR X (.type T) r) (hg : Gl X x) (hm : X.mg x = none) (hv : bootBuiltins x = some (.type T)) (ha : PA X (e :: es) t) (hn : x ≠ "__name__" := by decide) (hdb : (x == ("__debug__" : Str)) = false := by decide)
    (hs : noStars (e :: es) = true := by rfl) : PE X (.Call (.Name x p) (e :: es) [] pos) (tCB r t) := pe_callTy hc hg hm hv ha hn hdb (star_cons (noStars_cons hs).1) (star_any (noStars_cons hs).2)
theorem pe_cM {name : Str} {rm : V → List V → Hp → VK → Prop} (K : PySem.W.Frag) (pa : PlainAttrs T) (slot : Slot T name id) (hty : typeOf (.builtin id) = pure (.type "method_descriptor")) (hm : MtR X id rm) (ho : PE X o to) (ha : PA X (e :: es) t)
    (hbase : attributeBase o name X.env (eval o X.env) = eval o X.env := by rfl) (hfew : (e :: es).length < 30 := by decide) (hline : (apos.endLine == cpos.line) = true := by rfl) (hs : noStars (e :: es) = true := by rfl) (hK : X.K = K := by rfl) :
    PE X (.Call (.Attribute o name apos) (e :: es) [] cpos) (tBM K T rm to t) := by
  subst hK
  refine pe_bm pa slot hty hm ho ha hbase ?_ hline (star_cons (noStars_cons hs).1) (star_any (noStars_cons hs).2)
  rw [star_all hs, Bool.true_and]
  show (true && decide ((e :: es).length + 0 + 0 < 30)) = true
  rw [Bool.true_and]
  exact decide_eq_true hfew
end
/-- a def that can be called by its name -/
def Has (P : Program) (w : World) (K : PySem.W.Frag) (mg : Str → Option Value) (base : Heap) (x : Str) (k : Nat) (ps : List Str) (sp : Sp) : Prop :=
  ∃ f fd, FnOk P w K mg base CX0 k f fd ps sp ∧ Binds K fd ps [] ∧ PySem.W.keepIn K (.ref f) = true ∧ mg x = some (.ref f)
theorem Has.imp {P : Program} {w : World} {K : PySem.W.Frag} {mg : Str → Option Value} {base : Heap} {x : Str} {j k : Nat} {ps : List Str} {sp : Sp} (h : Has P w K mg base x j ps sp) (hk : j ≤ k) : Has P w K mg base x k ps sp := by
  obtain ⟨f, fd, F, b, kp, m⟩ := h
  exact ⟨f, fd, F.mono hk, b, kp, m⟩
theorem pe_callH {X : Cx} {x : Str} {k j : Nat} {ps : List Str} {sp : Sp} {p pos : Pos} {e : Expr} {es : List Expr} {t : TA} (h : Has X.prog X.w X.K X.mg X.base x k ps sp) (hr : Room j X.A) (hkj : k ≤ j) (hg : Gl X x) (ha : PA X (e :: es) t)
    (hdb : (x == ("__debug__" : Str)) = false := by decide) (hs : noStars (e :: es) = true := by rfl) :
    PE X (.Call (.Name x p) (e :: es) [] pos) (tCall sp [] E0 t) := by
  obtain ⟨f, fd, F, b, kp, m⟩ := h
  exact pe_call F (hr.mono hkj) hg m kp b .nil pass0 ha hdb (star_cons (noStars_cons hs).1) (star_any (noStars_cons hs).2)
/-- what is walked: n items, the i-th as y tells -/
structure Walk (J : It) (C : Hp → Prop) (n : Nat) (y : Nat → V → Hp → Hp → Prop) : Prop where
  go : ∀ i H, C H → i < n → J.go i H
  stop : ∀ i H, C H → i = n → J.stop i H
  yld : ∀ i H v H', C H → i < n → J.yld i H v H' → y i v H H'
section
variable {J : It} {C : Hp → Prop} {n : Nat} {y : Nat → V → Hp → Hp → Prop}
theorem for_w {g : TG} {tb : TS} {D : Ends} {σ : L2.St} {H : Hp} (Wk : Walk J C n y) (Pv : Nat → L2.St → Hp → Prop) (h0 : Pv 0 σ H) (hl : ∀ i σ H, i ≤ n → Pv i σ H → C H)
    (hs : ∀ i x σ H H', i < n → Pv i σ H → y i x H H' → g x σ H' fun σ2 H2 => tb { D with nx := Pv (i + 1), ct := Pv (i + 1), bk := D.nx } σ2 H2) (hd : ∀ σ H, Pv n σ H → D.nx σ H) :
    ∃ W : Nat → Nat → L2.St → Hp → Prop, (∃ m, W 0 m σ H) ∧ ∀ i m σ H, W i m σ H →
      (J.stop i H ∧ D.nx σ H) ∨ (J.go i H ∧ ∃ N : L2.St → Hp → Prop, (∀ σ' H', N σ' H' → ∃ m', m' < m ∧ W (i + 1) m' σ' H') ∧ ∀ x H', J.yld i H x H' → g x σ H' fun σ2 H2 => tb { D with nx := N, ct := N, bk := D.nx } σ2 H2) := by
  refine ⟨fun i m σ H => m = n - i ∧ i ≤ n ∧ Pv i σ H, ⟨n, by simp, Nat.zero_le _, h0⟩, ?_⟩
  rintro i m σ H ⟨rfl, hi, p⟩
  have q := hl i σ H hi p
  by_cases hlt : i < n
  · exact .inr ⟨Wk.go i H q hlt, Pv (i + 1), fun σ' H' p' => ⟨n - (i + 1), by omega, rfl, hlt, p'⟩, fun x H' z => hs i x σ H H' hlt p (Wk.yld i H x H' q hlt z)⟩
  · have e : i = n := by omega
    subst e
    exact .inl ⟨Wk.stop i H q rfl, hd σ H p⟩
theorem lc_w {U : TU} {k : Nat} {fr : List (Str × Nat)} {tt : TT} {te : TE} {σ : L2.St} {Kf : List V → Hp → Prop} {H : Hp} (Wk : Walk J C n y) (Pv : Nat → List V → Hp → Prop) (hz : n ≤ sizeLine) (h0 : Pv 0 [] H) (hl : ∀ i ys H, i ≤ n → Pv i ys H → C H ∧ ys.length ≤ i)
    (hs : ∀ i x ys H H', i < n → Pv i ys H → y i x H H' → ∃ vs, U x vs H' ∧ vs.length = k ∧ tt (blkSG (vs.map some) fr σ) H' fun ok H2 => if ok = true then te (blkSG (vs.map some) fr σ) H2 (fun z H3 => Pv (i + 1) (ys ++ [z]) H3) else Pv (i + 1) ys H2)
    (hd : ∀ ys H, Pv n ys H → Kf ys H) : LcRun U k fr tt te σ Kf J H := by
  refine ⟨fun i m ys H => m = n - i ∧ i ≤ n ∧ Pv i ys H, ⟨n, by simp, Nat.zero_le _, h0⟩, ?_⟩
  rintro i m ys H ⟨rfl, hi, p⟩
  obtain ⟨q, hy⟩ := hl i ys H hi p
  by_cases hlt : i < n
  · exact .inr ⟨Wk.go i H q hlt, by omega, fun z H3 => Pv (i + 1) (ys ++ [z]) H3, Pv (i + 1) ys, fun z H2 p' => ⟨n - (i + 1), by omega, rfl, hlt, p'⟩, fun H2 p' => ⟨n - (i + 1), by omega, rfl, hlt, p'⟩, fun x H' z => hs i x ys H H' hlt p (Wk.yld i H x H' q hlt z)⟩
  · have e : i = n := by omega
    subst e
    exact .inl ⟨Wk.stop i H q rfl, by omega, hd ys H p⟩
theorem lc_w0 {U : TU} {k : Nat} {fr : List (Str × Nat)} {te : TE} {σ : L2.St} {Kf : List V → Hp → Prop} {H : Hp} (Wk : Walk J C n y) (Pv : Nat → List V → Hp → Prop) (hz : n ≤ sizeLine) (h0 : Pv 0 [] H) (hl : ∀ i ys H, i ≤ n → Pv i ys H → C H ∧ ys.length ≤ i)
    (hs : ∀ i x ys H H', i < n → Pv i ys H → y i x H H' → ∃ vs, U x vs H' ∧ vs.length = k ∧ te (blkSG (vs.map some) fr σ) H' (fun z H3 => Pv (i + 1) (ys ++ [z]) H3))
    (hd : ∀ ys H, Pv n ys H → Kf ys H) : LcRun U k fr tTrue te σ Kf J H :=
  lc_w Wk Pv hz h0 hl (fun i x ys H H' hi p z => by
    obtain ⟨vs, h1, h2, h3⟩ := hs i x ys H H' hi p z
    refine ⟨vs, h1, h2, ?_⟩
    unfold tTrue
    dsimp only
    rw [if_pos rfl]
    exact h3) hd
end
theorem w_list {K : PySem.W.Frag} {a : Addr} {xs : List V} : Walk (Itl K a) (fun H => SqL K H a xs) xs.length (fun i v H H' => H' = H ∧ xs[i]? = some v) where
  go := fun i H q hi => ⟨xs, xs[i], q, by simp [hi]⟩
  stop := fun i H q hi => ⟨xs, q, by omega⟩
  yld := fun i H v H' q hi z => ⟨z.1, z.2 xs q⟩
theorem w_tup {K : PySem.W.Frag} {a : Addr} {xs : List V} : Walk (Itt K a) (fun H => SqT K H a xs) xs.length (fun i v H H' => H' = H ∧ xs[i]? = some v) where
  go := fun i H q hi => ⟨xs, xs[i], q, by simp [hi]⟩
  stop := fun i H q hi => ⟨xs, q, by omega⟩
  yld := fun i H v H' q hi z => ⟨z.1, z.2 xs q⟩
theorem w_range {lo : Int} {n : Nat} : Walk (Itr lo n) (fun _ => True) n (fun i v H H' => H' = H ∧ v = .int (lo + i)) where
  go := fun i H q hi => hi
  stop := fun i H q hi => by show n ≤ i; omega
  yld := fun i H v H' q hi z => z
end Rg
namespace Rg
open PySem PySem.W PySem.Spec PyProof.Rows L2
section
variable {X : Cx} {elt iter : Expr} {cs : List Expr} {x y z : Str} {px pyy pz pt pos : Pos} {kt : Nat} {scope : Scope} {fr : List (Str × Nat)} {wi : TI} {te : TE} {tt : TT}
theorem pe_c1 (hc : X.calm = true) (hcs : cs = [] ∨ ∃ c, cs = [c]) (hi : PI X (.Name x px) iter wi) (S : LcOkG X [x] fr scope) (hT : ∀ fp C s H, PTs (blkG X [x] fr scope fp C s H) cs tt) (he : ∀ fp C s H, PE (blkG X [x] fr scope fp C s H) elt te)
    (hs : ∀ v, foldedSetIterable iter X.env v = pure v := by intro _; rfl) : PE X (.ListComp elt [⟨.Name x px, iter, cs, 0⟩] scope pos) (tLcG uName 1 fr wi tt te) := pe_lcG hc hcs hi S (gu_name S) hT he hs
variable {i : Nat} {v : Str} {pv' spos : Pos}
theorem ps_c1 (hN : X.N.Nodup) (hiN : X.N[i]? = some v) (hyL : Loc X.env.scope v) (hc : X.calm = true) (hcs : cs = [] ∨ ∃ c, cs = [c]) (hi : PI X (.Name x px) iter wi) (S : LcOkG X [x] fr scope) (hT : ∀ fp C s H, PTs (blkG X [x] fr scope fp C s H) cs tt) (he : ∀ fp C s H, PE (blkG X [x] fr scope fp C s H) elt te)
    (hs : ∀ v, foldedSetIterable iter X.env v = pure v := by intro _; rfl) (hsw : swapsWith (.ListComp elt [⟨.Name x px, iter, cs, 0⟩] scope pos) (some (.Name v pv')) spos.line X.env = pure true := by rfl)
    (hfn : X.fn v = true ∨ X.env.scope.names.lookup v = some .local := by first | exact .inl rfl | exact .inr rfl | assumption) : PS X (.Assign [.Name v pv'] (.ListComp elt [⟨.Name x px, iter, cs, 0⟩] scope pos) spos) (tAsg (tLcG uName 1 fr wi tt te) (gName i)) := ps_lcG hN hiN hyL hc hcs hi S (gu_name S) hT he hs hsw hfn
theorem ps_c2 (hN : X.N.Nodup) (hiN : X.N[i]? = some v) (hyL : Loc X.env.scope v) (hc : X.calm = true) (hcs : cs = [] ∨ ∃ c, cs = [c]) (hi : PI X (.Tuple [.Name x px, .Name y pyy] kt pt) iter wi) (S : LcOkG X [x, y] fr scope) (hT : ∀ fp C s H, PTs (blkG X [x, y] fr scope fp C s H) cs tt) (he : ∀ fp C s H, PE (blkG X [x, y] fr scope fp C s H) elt te)
    (hs : ∀ v, foldedSetIterable iter X.env v = pure v := by intro _; rfl) (hsw : swapsWith (.ListComp elt [⟨.Tuple [.Name x px, .Name y pyy] kt pt, iter, cs, 0⟩] scope pos) (some (.Name v pv')) spos.line X.env = pure true := by rfl)
    (hfn : X.fn v = true ∨ X.env.scope.names.lookup v = some .local := by first | exact .inl rfl | exact .inr rfl | assumption) : PS X (.Assign [.Name v pv'] (.ListComp elt [⟨.Tuple [.Name x px, .Name y pyy] kt pt, iter, cs, 0⟩] scope pos) spos) (tAsg (tLcG (uTup X.K) 2 fr wi tt te) (gName i)) := ps_lcG hN hiN hyL hc hcs hi S (gu_tup2 hc S) hT he hs hsw hfn
end
/-- what is asked of the names of the built-ins -/
structure Blt (mg : Str → Option Value) : Prop where
  len : mg "len" = none
  isi : mg "isinstance" = none
  list : mg "list" = none
  dict : mg "dict" = none
  sorted : mg "sorted" = none
  rev : mg "reversed" = none
  range : mg "range" = none
  int : mg "int" = none
  bool : mg "bool" = none
  str : mg "str" = none
  sum : mg "sum" = none
  zip : mg "zip" = none
  abs : mg "abs" = none
  min : mg "min" = none
  max : mg "max" = none
  all : mg "all" = none
  enum : mg "enumerate" = none
  tuple : mg "tuple" = none
end Rg
namespace Rg
open PySem PySem.W PySem.Spec PyProof.Rows L2
/-- the rest is shown once, from what M says -/
def tCut (t u : TS) : TS := fun D σ H => ∃ M : L2.St → Hp → Prop, t { D with nx := M } σ H ∧ ∀ σ' H', M σ' H' → u D σ' H'
theorem pss_cut {X : Cx} {st : Stmt} {rest : List Stmt} {t u : TS} (h1 : PS X st t) (h2 : PSs X rest u) : PSs X (st :: rest) (tCut t u) := by
  intro pins s σ H D I h
  obtain ⟨M, h, hM⟩ := h
  refine wpAny_execs_cons (thn (h1 pins s σ H { D with nx := M } I h) fun f s1 q => ?_)
  cases f with
  | next =>
    obtain ⟨σ', H', I', q⟩ := q
    exact h2 pins s1 σ' H' D I' (hM σ' H' q)
  | ret v => exact q
  | brk => exact q
  | cont => exact q
end Rg
namespace Rg
open PySem L2
theorem iteEqT {c : Bool} {A B : Prop} (e : c = true) (h : A) : if c = true then A else B := by rw [e]; exact iteT h
theorem iteEqF {c : Bool} {A B : Prop} (e : c = false) (h : B) : if c = true then A else B := by rw [e]; exact iteF h
theorem small {n : Nat} (h : n ≤ 1000) : n ≤ sizeLine := Nat.le_of_lt (small1000 h)
end Rg
namespace Rg
open PySem L2
theorem seq_f {a b : Str} (h : (a == b) = false) : decide (V.str a = V.str b) = false := by rw [dec_str]; exact h
theorem seq_t {a b : Str} (h : (a == b) = true) : decide (V.str a = V.str b) = true := by rw [dec_str]; exact h
end Rg
set_option Elab.async false
set_option linter.all false
set_option maxRecDepth 100000
set_option maxHeartbeats 4000000
/-! enumerate(list); all(list of truths); max(list of numbers) -/
namespace Rg
open PySem PySem.W PySem.Spec PyProof.Rows L2
/-- the items of a list with their numbers -/
def Ite (K : PySem.W.Frag) (a : Addr) : It :=
  ⟨fun i H => ∃ xs x, SqL K H a xs ∧ xs[i]? = some x, fun i H v H' => ∃ T x, v = .ref T ∧ H T = none ∧ H' = upd H T (.tup [.int (i : Nat), x]) ∧ ∀ xs, SqL K H a xs → xs[i]? = some x, fun i H => ∃ xs, SqL K H a xs ∧ xs.length = i⟩
theorem turn_enum {P : Program} {w : World} {K : PySem.W.Frag} {elts : List Expr} {kt : Nat} {pos : Pos} (a e it : Addr) (h1 : e ≠ it) (h2 : a ≠ e) (h3 : a ≠ it) :
    Turn P w K (.Tuple elts kt pos) (Ite K a) [e, it] e (fun i h => (∃ old, IsEnum h e it i old) ∧ h.IsListIter it a i) where
  mem := by simp
  obj := fun i h st c hc => by
    obtain ⟨⟨old, he⟩, ⟨o1, e1, c1, d1⟩⟩ := st
    have z : c = e ∨ c = it := by simpa using hc
    rcases z with rfl | rfl
    · exact ⟨_, he, fun v z => by cases z⟩
    · exact ⟨_, e1, fun v z => by rw [d1] at z; cases z⟩
  keep := fun i h h' st k => by
    obtain ⟨⟨old, he⟩, hi⟩ := st
    exact ⟨⟨old, k e (by simp) _ he⟩, hi.at fun o x => k it (by simp) o x⟩
  item := by
    intro X hP hw hK hc i pins s σ H E I hf st hg
    subst hP hw hK
    obtain ⟨xs, x, hq, hx⟩ := hg
    obtain ⟨its, rv, p, hz⟩ := I.list hq
    obtain ⟨u, hu, ru⟩ := rv.get hx
    have W := WalksT.enumerate (prog := X.prog) (w := X.w) (A := X.A) (I.ok.hd hc) e it a h1 h2 h3 its.toArray
    have li : i < its.length := (List.getElem?_eq_some_iff.mp hu).1
    refine W.item i s _ _ (by rw [List.size_toArray]; exact li) ⟨st.1, st.2, p.isList⟩ fun T vals h1' tk hPt hT hTup hMid hk => ?_
    obtain ⟨t, v1, e1, rfl⟩ := hPt
    have e1' : v1 = u := by
      have z1 : its[i]? = some v1 := by simpa using e1
      exact Option.some.inj (z1.symm.trans hu)
    subst e1'
    refine ⟨.ref T, rfl, W.go elts kt pos i T { s with heap := h1', toks := tk } _ _ hMid fun h2' st2 hk2 => ?_⟩
    have nw : T ∉ [e, it] := W.apart i T _ hMid
    have I1 : Inv X pins σ H { s with heap := h2', toks := tk } := inv_turnedL I (fun c o hb e => hk2 c o hb (hk c o hb e)) hf
    have hTn : H T = none := I.hok.fresh hT
    have fT : FpOk X pins H T := I.fpOk hT hTn
    have hTup2 : h2'.IsTuple T #[.int i t, v1] := hTup.at fun o e => hk2 T o nw e
    have I2 : Inv X pins σ (upd H T (.tup [.int (i : Nat), x])) { s with heap := h2', toks := tk } := inv_track I1 fT (Nat.le_trans I.sz hT) ⟨by show 2 ≤ sizeLine; decide, [.int i t, v1], .cons ⟨t, rfl⟩ (.cons ru .nil), hTup2⟩
    obtain ⟨t1, t2, _⟩ := st2
    refine ⟨.ref T, upd H T (.tup [.int (i : Nat), x]), I2, rfl, ⟨T, x, rfl, hTn, rfl, fun xs' h' => ?_⟩, ⟨t1, t2⟩, fun c hc => ?_⟩
    · rw [I.list_inj h' hq]; exact hx
    · have hne : c ≠ T := fun z => nw (by rw [← z]; exact hc)
      rw [upd_ne hne]
      exact (hf c hc).1
  done := by
    intro X hP hw hK hc i pins s σ H E I hf st hg
    subst hP hw hK
    obtain ⟨xs, hq, hx⟩ := hg
    obtain ⟨its, rv, p, hz⟩ := I.list hq
    have W := WalksT.enumerate (prog := X.prog) (w := X.w) (A := X.A) (I.ok.hd hc) e it a h1 h2 h3 its.toArray
    have hl := rv.length
    have en : its.toArray.size = i := by rw [List.size_toArray, ← hl]; exact hx
    exact W.done s _ _ (by rw [en]; exact ⟨st.1, st.2, p.isList⟩) fun h1 tk hk => ⟨rfl, inv_turnedL I (fun c o hb e => hk c o hb e) hf⟩
  self := fun _ _ _ _ _ st h => by
    obtain ⟨⟨old, he⟩, _⟩ := st
    exact wpAny_pyIter_enum he h
section
variable {X : Cx}
def iEnum (K : PySem.W.Frag) (ta : TA) : TI := fun σ H R => ta σ H fun vs H1 => ∃ a, vs = [.ref a] ∧ (∃ xs, SqL K H1 a xs) ∧ R (Ite K a) H1
theorem pi_enum {elts : List Expr} {kt : Nat} {pt : Pos} {a : Expr} {ta : TA} {p pos : Pos} (hg : Gl X "enumerate") (hm : X.mg "enumerate" = none) (ha : PA X [a] ta) (hs : starEach [a] X.env = [(false, eval a X.env)] := by rfl) :
    PI X (.Tuple elts kt pt) (.Call (.Name "enumerate" p) [a] [] pos) (iEnum X.K ta) := by
  intro pins s σ H R I h
  refine Call_ (ld_blt I hg hm boot_enumerate (PyProof.Rows.callWith_type1 (thn (ha pos pins s σ H _ I h) fun us s1 ⟨vs, H1, I1, r1, q1⟩ => ?_) hs rfl))
  obtain ⟨a, e, ⟨xs, hq⟩, q⟩ := q1
  subst e
  cases r1 with
  | cons r rr =>
    cases rr
    cases r
    obtain ⟨its, rv, p1, hz⟩ := I1.list hq
    have lt1 : a < s1.heap.objs.size := by obtain ⟨o, e, _⟩ := p1.isList; exact Heap.lt_size e
    refine call_enumerate_list p1.isList fun h' hE hI hsz hk => ?_
    refine wpAny_pyIter_enum hE ?_
    have I2 : Inv X pins σ H1 { s1 with heap := h' } := I1.kept (t' := s1.toks) hk
    refine ⟨s1.heap.objs.size + 1, [s1.heap.objs.size + 1, s1.heap.objs.size], _, _, H1, rfl, I2, turn_enum a _ _ (Nat.succ_ne_self _) (Nat.ne_of_lt (Nat.lt_succ_of_lt lt1)) (Nat.ne_of_lt lt1), ⟨⟨_, hE⟩, hI⟩, fun c hc => ?_, q⟩
    have hle : s1.heap.objs.size ≤ c := by
      have e : c = s1.heap.objs.size + 1 ∨ c = s1.heap.objs.size := by simpa using hc
      have : ∀ n : Nat, (c = n + 1 ∨ c = n) → n ≤ c := fun n h => by rcases h with h | h <;> (rw [h]; first | exact Nat.le_add_right _ _ | exact Nat.le_refl _)
      exact this _ e
    exact I1.fpOk hle (I1.hok.fresh hle)
end
theorem w_enum {K : PySem.W.Frag} {a : Addr} {xs : List V} : Walk (Ite K a) (fun H => SqL K H a xs) xs.length (fun i v H H' => ∃ T x, v = .ref T ∧ H T = none ∧ H' = upd H T (.tup [.int (i : Nat), x]) ∧ xs[i]? = some x) where
  go := fun i H q hi => ⟨xs, xs[i], q, by simp [hi]⟩
  stop := fun i H q hi => ⟨xs, q, hi.symm⟩
  yld := fun i H v H' q hi z => by
    obtain ⟨T, x, h1, h2, h3, h4⟩ := z
    exact ⟨T, x, h1, h2, h3, h4 xs q⟩
theorem call_all {X : Cx} (hc : X.calm = true) : CallR X (.builtin "all") (fun xs H Q => ∃ (a : Addr) (bs : List Bool), xs = [.ref a] ∧ H a = some (.lst (bs.map V.bl)) ∧ Q (.bl (bs.all id)) H) := by
  intro pins s σ H xs us Q I r h
  obtain ⟨a, bs, rfl, ha, q⟩ := h
  obtain ⟨u, rfl, ru⟩ := vals1 r
  cases ru
  obtain ⟨_, its, n, rv, e⟩ := I.hok a _ ha
  have hl : s.heap.IsList a its.toArray := ⟨_, e, rfl, n, rfl⟩
  have hb := vals_bl rv
  have hlt : a < s.heap.objs.size := Heap.lt_size e
  refine call_all_walk (wpAny_pyIter_list hl ?_)
  refine ⟨s.heap.objs.size, [s.heap.objs.size, a], [s.heap.objs.size], its.toArray.size, _, _, fun i => (bs[i]?).getD true, rfl, Walks.list (A := X.A.in1) (I.ok.hd hc) _ a (Nat.ne_of_lt hlt) its.toArray,
    ⟨⟨_, Heap.get?_push_size _ rfl, rfl, rfl⟩, hl.push _⟩, fun i v s' Q' E' hP hQ => ?_, fun h' tk hk => ?_⟩
  · have hP' : its[i]? = some v := by simpa using hP
    rw [hb, List.getElem?_map] at hP'
    cases eb : bs[i]? with
    | none => rw [eb] at hP'; cases hP'
    | some b =>
      rw [eb] at hP'
      cases hP'
      simp only [eb, Option.getD_some] at hQ
      exact wpAny_truthy_bool hQ
  · have e2 : ((List.range its.toArray.size).all fun i => (bs[i]?).getD true) = bs.all id := by
      have hn : its.toArray.size = bs.length := by rw [List.size_toArray, hb, List.length_map]
      rw [hn]
      apply Bool.eq_iff_iff.mpr
      rw [List.all_eq_true, List.all_eq_true]
      constructor
      · intro z x hx
        obtain ⟨i, hi, e⟩ := List.getElem_of_mem hx
        have y := z i (List.mem_range.mpr hi)
        rw [List.getElem?_eq_getElem hi] at y
        rw [← e]
        exact y
      · intro z i hi
        have hi' := List.mem_range.mp hi
        rw [List.getElem?_eq_getElem hi']
        exact z _ (List.getElem_mem hi')
    rw [e2]
    exact ⟨.bl (bs.all id), H, I.kept (t' := tk) (LSm.kept_iter hk), rfl, q⟩
theorem call_maxL {X : Cx} (hc : X.calm = true) : CallR X (.builtin "max") (fun xs H Q => ∃ (a : Addr) (ns : List Int), xs = [.ref a] ∧ H a = some (.lst (ns.map V.int)) ∧ ns ≠ [] ∧ ∀ M, M ∈ ns → (∀ x ∈ ns, x ≤ M) → Q (.int M) H) := by
  intro pins s σ H xs us Q I r h
  obtain ⟨a, ns, rfl, ha, hne, q⟩ := h
  obtain ⟨u, rfl, ru⟩ := vals1 r
  cases ru
  obtain ⟨_, its, n, rv, e⟩ := I.hok a _ ha
  have hi := ints_of_vals rv
  obtain ⟨xs, hx⟩ := hi.allInts.items
  have hl : s.heap.IsList a its.toArray := ⟨_, e, rfl, n, rfl⟩
  have hns : ns = xs.toList.map (·.1) := by
    rw [← hi.numsOf, ← nums_intItems, ← hx]
  have hsz : 0 < xs.size := by
    have h3 : 0 < ns.length := List.length_pos_iff.mpr hne
    rw [hns, List.length_map, Array.length_toList] at h3; exact h3
  rw [hx] at hl
  refine max_intList (I.ok.hd hc) hl hsz fun v h' tk hv hk => ?_
  obtain ⟨t, rfl⟩ := intItems_at hv
  obtain ⟨h1, h2⟩ := argBest_gt (numAt xs) (xs.size - 1)
  refine ⟨.int _, H, I.kept (t' := tk) hk, ⟨t, rfl⟩, q _ ?_ fun a ha => ?_⟩
  · rw [hns, numAt_eq]; exact getD_mem (by rw [List.length_map, Array.length_toList]; omega)
  · rw [hns] at ha
    obtain ⟨j, hj, rfl⟩ := mem_getD ha
    rw [List.length_map, Array.length_toList] at hj
    rw [← numAt_eq]; exact h2 j (by omega)
end Rg
set_option Elab.async false
set_option linter.all false
set_option maxRecDepth 100000
set_option maxHeartbeats 4000000
/-! the rules once more, behind structures, so that nothing looks into a promise while a term is put together -/
namespace Rg
open PySem PySem.W PySem.Spec PyProof.Rows L2
structure QE (X : Cx) (e : Expr) (t : TE) : Prop where h : PE X e t
structure QT (X : Cx) (e : Expr) (t : TT) : Prop where h : PT X e t
structure QW (X : Cx) (e : Expr) (t : TT) : Prop where h : PW X e t
structure QA (X : Cx) (es : List Expr) (t : TA) : Prop where h : PA X es t
structure QS (X : Cx) (st : Stmt) (t : TS) : Prop where h : PS X st t
structure QSs (X : Cx) (sts : List Stmt) (t : TS) : Prop where h : PSs X sts t
structure QI (X : Cx) (tg iter : Expr) (wi : TI) : Prop where h : PI X tg iter wi
structure QG (X : Cx) (tg : Expr) (t : TG) : Prop where h : PG X tg t
structure QGs (X : Cx) (tgs : List Expr) (t : TGs) : Prop where h : PGs X tgs t
structure QO (X : Cx) (e : Option Expr) (t : TO) : Prop where h : PO X e t
structure QTs (X : Cx) (cs : List Expr) (t : TT) : Prop where h : PTs X cs t
structure QOp (X : Cx) (f : Value → Value → Sem Value) (r : R2) : Prop where h : OpR X f r
structure QIx (X : Cx) (r : R2) : Prop where h : IxR X r
structure QC (X : Cx) (f : Value) (r : List V → Hp → VK → Prop) : Prop where h : CallR X f r
structure QM (X : Cx) (id : String) (r : V → List V → Hp → VK → Prop) : Prop where h : MtR X id r
section
variable {X : Cx} {a b c e o i value : Expr} {es rest : List Expr} {ta tb tc te to ti tv td ty : TE} {tA tB' tt : TT} {t : TA} {pos pos' p px pyy pz pt tpos apos cpos : Pos} {x y z f name : Str} {K : PySem.W.Frag}
theorem qv (i : Nat) {x : Str} {pos : Pos} (hN : X.N[i]? = some x := by rfl) (hv : Vis X.env.scope x := by first | exact Or.inl rfl | exact Or.inr (Or.inl rfl) | exact Or.inr (Or.inr rfl)) (hd : (x == ("__debug__" : Str)) = false := by decide)
    (hcd : (x == ("__classdict__" : Str)) = false := by decide) : QE X (.Name x pos) (tVar i) := ⟨pe_var hN hv hd hcd⟩
theorem qe_bltn {v : V} {u : Value} (hg : Gl X x) (hm : X.mg x = none) (hv : bootBuiltins x = some u) (r : RelV v u) (hn : x ≠ "__name__" := by decide) (hd : (x == ("__debug__" : Str)) = false := by decide) : QE X (.Name x pos) (tC v) := ⟨pe_bltn hg hm hv r hn hd⟩
theorem qe_int {i : Int} {j} : QE X (.Constant (.int i) j pos) (tC (.int i)) := ⟨pe_int⟩
theorem qe_bl {b : Bool} {j} : QE X (.Constant (.bool b) j pos) (tC (.bl b)) := ⟨pe_bl⟩
theorem qe_non {j} : QE X (.Constant .none j pos) (tC .non) := ⟨pe_non⟩
theorem qe_str {x : Str} {j} : QE X (.Constant (.str x) j pos) (tC (.str x)) := ⟨pe_str⟩
theorem qe_op {op : Operator} {r : R2} (ho : QOp X (binaryOp op) r) (ha : QE X a ta) (hb : QE X b tb) : QE X (.BinOp a op b pos) (tOp r ta tb) := ⟨pe_op ho.h ha.h hb.h⟩
theorem qe_neg (ha : QE X a ta) : QE X (.UnaryOp .USub a pos) (tUn (rU fun i => .int (-i)) ta) := ⟨pe_un un_neg ha.h⟩
theorem qe_not (ha : QE X a ta) : QE X (.UnaryOp .Not a pos) (tNotV ta) := ⟨pe_not ha.h⟩
theorem qe_one {op} (ha : QE X a ta) : QE X (.BoolOp op [a] pos) ta := ⟨pe_one ha.h⟩
theorem qe_and (ha : QE X a ta) (hb : QE X (.BoolOp .And (b :: rest) pos) tb) : QE X (.BoolOp .And (a :: b :: rest) pos) (tAndV ta tb) := ⟨pe_and ha.h hb.h⟩
theorem qe_cmpR {op : CmpOp} {r : R2} (ho : QOp X (compareOp op) r) (ha : QE X a ta) (hb : QE X b tb) (hm : behindInMarks op b = false) : QE X (.Compare a [op] [b] pos) (tOp r ta tb) := ⟨pe_cmpR ho.h ha.h hb.h hm⟩
theorem qt_cmpR {op : CmpOp} {r : R2} (ho : QOp X (compareOp op) r) (ha : QE X a ta) (hb : QE X b tb) (hm : behindInMarks op b = false) : QT X (.Compare a [op] [b] pos) (tTest (tOp r ta tb)) := ⟨pt_cmpR ho.h ha.h hb.h hm⟩
theorem qe_ifExp (hc : QT X c tA) (ha : QE X a ta) (hb : QE X b tb) : QE X (.IfExp c a b pos) (tIf tA ta tb) := ⟨pe_ifExp hc.h ha.h hb.h⟩
theorem qo_none : QO X none tNoPart := ⟨po_none⟩
theorem qo_some (h : QE X e te) : QO X (some e) (tPart te) := ⟨po_some h.h⟩
theorem qe_slice (K : PySem.W.Frag) {lo hi : Option Expr} {tl th : TO} {p2 : Pos} (he : QE X e te) (hl : QO X lo tl) (hu : QO X hi th) (hK : X.K = K := by rfl) : QE X (.Subscript e (.Slice lo hi none p2) pos) (tSl (rSlU K) te tl th) := ⟨pe_slice (uSl K hK) he.h hl.h hu.h⟩
theorem qe_ix (K : PySem.W.Frag) (hu : X.A.units + 1 < cLine) (ha : QE X a ta) (hb : QE X b tb) (hs : PlainIx b) (hK : X.K = K := by rfl) : QE X (.Subscript a b pos) (tOp (rIxU K) ta tb) := ⟨pe_ix (uIx K hu hK) ha.h hb.h hs⟩
theorem qe_tup {x1} (h : QA X es t) : QE X (.Tuple es x1 pos) (tTup t) := ⟨pe_tup h.h⟩
theorem qe_lst (h : QA X es t) : QE X (.List es pos) (tLst t) := ⟨pe_lst h.h⟩
theorem qe_dnewK : QE X (.Dict [] [] pos) tDNewK := ⟨pe_dnewK⟩
theorem qa_nil : QA X [] tNil := ⟨pa_nil⟩
theorem qa_c (ha : QE X e te) (hr : QA X es t) (h : isStar e = false := by rfl) : QA X (e :: es) (tCons te t) := ⟨pa_c ha.h hr.h h⟩
theorem qw_pt {e : Expr} (h : QW X e tA) : QT X e tA := ⟨h.h.pt⟩
theorem qw_and1 (ha : QT X a tA) : QW X (.BoolOp .And [a] pos) tA := ⟨pw_and1 ha.h⟩
theorem qw_or1 (ha : QT X a tA) : QW X (.BoolOp .Or [a] pos) tA := ⟨pw_or1 ha.h⟩
theorem qw_and (ha : QT X a tA) (hb : QW X (.BoolOp .And (b :: rest) pos) tB') : QW X (.BoolOp .And (a :: b :: rest) pos) (tAnd tA tB') := ⟨pw_and ha.h hb.h⟩
theorem qw_or (ha : QT X a tA) (hb : QW X (.BoolOp .Or (b :: rest) pos) tB') : QW X (.BoolOp .Or (a :: b :: rest) pos) (tOr tA tB') := ⟨pw_or ha.h hb.h⟩
theorem qt_not (ha : QT X a tA) : QT X (.UnaryOp .Not a pos) (tNot tA) := ⟨pt_not ha.h⟩
theorem qt_tru (K : PySem.W.Frag) (ha : QE X a ta) (he : ∀ whole, isTrue a X.env whole = (do let v ← whole; standAt a.pos; holding [v] (truthy v))) (hK : X.K = K := by rfl) : QT X a (tTruU K ta) := ⟨uTru K ha.h he hK⟩
theorem qe_cB {id : String} {r : List V → Hp → VK → Prop} (hc : QC X (.builtin id) r) (hg : Gl X x) (hm : X.mg x = none) (hv : bootBuiltins x = some (.builtin id)) (ha : QA X (e :: es) t) (hn : x ≠ "__name__" := by decide) (hdb : (x == ("__debug__" : Str)) = false := by decide)
    (hs : noStars (e :: es) = true := by rfl) : QE X (.Call (.Name x p) (e :: es) [] pos) (tCB r t) := ⟨pe_cB hc.h hg hm hv ha.h hn hdb hs⟩
theorem qe_cT {T : String} {r : List V → Hp → VK → Prop} (hc : QC X (.type T) r) (hg : Gl X x) (hm : X.mg x = none) (hv : bootBuiltins x = some (.type T)) (ha : QA X (e :: es) t) (hn : x ≠ "__name__" := by decide) (hdb : (x == ("__debug__" : Str)) = false := by decide)
    (hs : noStars (e :: es) = true := by rfl) : QE X (.Call (.Name x p) (e :: es) [] pos) (tCB r t) := ⟨pe_cT hc.h hg hm hv ha.h hn hdb hs⟩
theorem qe_cM {T id : String} {rm : V → List V → Hp → VK → Prop} (K : PySem.W.Frag) (pa : PlainAttrs T) (slot : Slot T name id) (hty : typeOf (.builtin id) = pure (.type "method_descriptor")) (hm : QM X id rm) (ho : QE X o to) (ha : QA X (e :: es) t)
    (hbase : attributeBase o name X.env (eval o X.env) = eval o X.env := by rfl) (hfew : (e :: es).length < 30 := by decide) (hline : (apos.endLine == cpos.line) = true := by rfl) (hs : noStars (e :: es) = true := by rfl) (hK : X.K = K := by rfl) :
    QE X (.Call (.Attribute o name apos) (e :: es) [] cpos) (tBM K T rm to t) := ⟨pe_cM K pa slot hty hm.h ho.h ha.h hbase hfew hline hs hK⟩
theorem qe_call {k j : Nat} {ps : List Str} {sp : Sp} (h : Has X.prog X.w X.K X.mg X.base x k ps sp) (hr : Room j X.A) (hkj : k ≤ j) (hg : Gl X x) (ha : QA X (e :: es) t)
    (hdb : (x == ("__debug__" : Str)) = false := by decide) (hs : noStars (e :: es) = true := by rfl) : QE X (.Call (.Name x p) (e :: es) [] pos) (tCall sp [] E0 t) := ⟨pe_callH h hr hkj hg ha.h hdb hs⟩
end
section
variable {X : Cx} {tg a b e iter l : Expr} {ta : TA} {te tl : TE} {p pos : Pos}
theorem qi_range1 (hg : Gl X "range") (hm : X.mg "range" = none) (ha : QA X [a] ta) (hs : isStar a = false := by rfl) : QI X tg (.Call (.Name "range" p) [a] [] pos) (iRng1 ta) := ⟨pi_range1 hg hm ha.h (star_cons hs)⟩
theorem qi_enum (K : PySem.W.Frag) {elts : List Expr} {kt : Nat} {pt : Pos} (hg : Gl X "enumerate") (hm : X.mg "enumerate" = none) (ha : QA X [a] ta) (hs : isStar a = false := by rfl) (hK : X.K = K := by rfl) : QI X (.Tuple elts kt pt) (.Call (.Name "enumerate" p) [a] [] pos) (iEnum K ta) := by
  subst hK
  exact ⟨pi_enum hg hm ha.h (star_cons hs)⟩
theorem qi_list (K : PySem.W.Frag) (hl : QE X l tl) (hK : X.K = K := by rfl) : QI X tg l (iList K tl) := by
  subst hK
  exact ⟨pi_list hl.h⟩
theorem qi_tup (K : PySem.W.Frag) (hl : QE X l tl) (hK : X.K = K := by rfl) : QI X tg l (iTup K tl) := by
  subst hK
  exact ⟨pi_tup hl.h⟩
end
section
variable {X : Cx} {tg a b c e o i iter : Expr} {es : List Expr} {body rest : List Stmt} {st : Stmt} {te to ti tv ta : TE} {tc tt : TT} {t u tb : TS} {g : TG} {gs : TGs} {wi : TI} {x y z f : Str} {pos pos' tpos px pyy pz pt : Pos} {K : PySem.W.Frag}
theorem qg_name {i : Nat} (hN : X.N.Nodup) (hi : X.N[i]? = some x) (hx : Loc X.env.scope x) (hf : X.fn x = true ∨ X.env.scope.names.lookup x = some .local := by first | exact .inl rfl | exact .inr rfl | assumption) : QG X (.Name x pos) (gName i) := ⟨pg_name hN hi hx hf⟩
theorem qgs_nil : QGs X [] gNil := ⟨pgs_nil⟩
theorem qgs_cons (h1 : QG X e g) (h2 : QGs X es gs) (hs : (assignEach (e :: es) X.env).map (·.2) = assign e X.env :: (assignEach es X.env).map (·.2) := by rfl) : QGs X (e :: es) (gCons g gs) := ⟨pgs_cons h1.h h2.h hs⟩
theorem qg_tup (K : PySem.W.Frag) {k n : Nat} (hc : X.calm = true) (h : QGs X es gs) (hn : (assignEach es X.env).length = n := by rfl) (hst : (assignEach es X.env).findIdx? (·.1) = none := by rfl) (hK : X.K = K := by rfl) : QG X (.Tuple es k pos) (gTup K n gs) := by
  subst hK
  exact ⟨pg_tup hc h.h hn hst⟩
theorem qss_nil : QSs X [] tNext := ⟨pss_nil⟩
theorem qss_one (h : QS X st t) : QSs X [st] t := ⟨pss_one h.h⟩
theorem qss_cons (h1 : QS X st t) (h2 : QSs X rest u) : QSs X (st :: rest) (tSeq t u) := ⟨pss_cons h1.h h2.h⟩
theorem qss_cut (h1 : QS X st t) (h2 : QSs X rest u) : QSs X (st :: rest) (tCut t u) := ⟨pss_cut h1.h h2.h⟩
theorem qss_never {sts : List Stmt} : QSs X sts tNever := ⟨pss_never⟩
theorem qs_break : QS X (.Break pos) tBreak := ⟨ps_break⟩
theorem qs_ret (h : QE X e te) : QS X (.Return (some e) pos) (tRet te) := ⟨ps_ret h.h⟩
theorem qs_expr (h : QE X e te) (hs : swapsWith e none pos.line X.env = pure false := by rfl) : QS X (.Expr e pos) (tDrop te) := ⟨ps_expr h.h hs⟩
theorem qs_if {sa sb : List Stmt} (hc : QT X c tc) (ha : QSs X sa t) (hb : QSs X sb u) : QS X (.If c sa sb pos) (tIfS tc t u) := ⟨ps_if hc.h ha.h hb.h⟩
theorem qs_while (hp : PassesOwn (model X.prog X.w) X.A X.env X.xe) (hc : QT X c tc) (hb : QSs X body tb) : QS X (.While c body [] pos) (tWhile tc tb) := ⟨ps_while hp hc.h hb.h⟩
theorem qs_for (hp : PassesOwn (model X.prog X.w) X.A X.env X.xe) (hc : X.calm = true) (hi : QI X tg iter wi) (hg : QG X tg g) (hb : QSs X body tb) (hs : ∀ x, foldedSetIterable iter X.env x = pure x := by intro _; rfl) : QS X (.For tg iter body [] pos) (tFor wi g tb) := ⟨ps_for hp hc hi.h hg.h hb.h hs⟩
theorem qs_set {i : Nat} (hN : X.N.Nodup) (hi : X.N[i]? = some x) (hx : Loc X.env.scope x) (he : QE X e te) (hs : swapsWith e (some (.Name x pos')) pos.line X.env = pure false := by rfl) (hf : X.fn x = true ∨ X.env.scope.names.lookup x = some .local := by first | exact .inl rfl | exact .inr rfl | assumption) :
    QS X (.Assign [.Name x pos'] e pos) (tAsg te (gName i)) := ⟨ps_set hN hi hx he.h hs hf⟩
theorem qs_put (hu : X.A.units + 1 < cLine) (hv : QE X e te) (ho : QE X o to) (hi : QE X i ti) (hs : swapsWithSole [.Subscript o i pos'] e pos.line X.env = pure false := by rfl)
    (ha : ∀ v, assign (.Subscript o i pos') X.env v = (do
      let ov ← holding [v] (eval o X.env)
      let iv ← holding [v, ov] (eval i X.env)
      standAt pos'
      holding [v, ov, iv] (setItem ov iv v)
      release [v, ov, iv] []) := by intro _; rfl) (hw : swappedStores [.Subscript o i pos'] e X.env = pure none := by rfl) : QS X (.Assign [.Subscript o i pos'] e pos) (tAsg te (gSub to ti rSetU)) :=
  ⟨ps_asg hv.h (pg_sub ho.h hi.h (uSet hu) ha) hs hw⟩
theorem qts_nil : QTs X [] tTrue := ⟨pts_nil⟩
theorem qts_one (h : QT X c tt) : QTs X [c] tt := ⟨pts_one h.h⟩
variable {elt : Expr} {cs : List Expr} {kt : Nat} {scope : Scope} {fr : List (Str × Nat)}
theorem qe_c1 (hc : X.calm = true) (hcs : cs = [] ∨ ∃ c, cs = [c]) (hi : QI X (.Name x px) iter wi) (S : LcOkG X [x] fr scope) (hT : ∀ fp C s H, QTs (blkG X [x] fr scope fp C s H) cs tt) (he : ∀ fp C s H, QE (blkG X [x] fr scope fp C s H) elt te)
    (hs : ∀ v, foldedSetIterable iter X.env v = pure v := by intro _; rfl) : QE X (.ListComp elt [⟨.Name x px, iter, cs, 0⟩] scope pos) (tLcG uName 1 fr wi tt te) := ⟨pe_c1 hc hcs hi.h S (fun a b c d => (hT a b c d).h) (fun a b c d => (he a b c d).h) hs⟩
variable {n : Nat} {v : Str} {pv' spos : Pos}
theorem qs_c1 (hN : X.N.Nodup) (hiN : X.N[n]? = some v) (hyL : Loc X.env.scope v) (hc : X.calm = true) (hcs : cs = [] ∨ ∃ c, cs = [c]) (hi : QI X (.Name x px) iter wi) (S : LcOkG X [x] fr scope) (hT : ∀ fp C s H, QTs (blkG X [x] fr scope fp C s H) cs tt) (he : ∀ fp C s H, QE (blkG X [x] fr scope fp C s H) elt te)
    (hs : ∀ v, foldedSetIterable iter X.env v = pure v := by intro _; rfl) (hsw : swapsWith (.ListComp elt [⟨.Name x px, iter, cs, 0⟩] scope pos) (some (.Name v pv')) spos.line X.env = pure true := by rfl)
    (hfn : X.fn v = true ∨ X.env.scope.names.lookup v = some .local := by first | exact .inl rfl | exact .inr rfl | assumption) : QS X (.Assign [.Name v pv'] (.ListComp elt [⟨.Name x px, iter, cs, 0⟩] scope pos) spos) (tAsg (tLcG uName 1 fr wi tt te) (gName n)) := ⟨ps_c1 hN hiN hyL hc hcs hi.h S (fun a b c d => (hT a b c d).h) (fun a b c d => (he a b c d).h) hs hsw hfn⟩
theorem qs_c2 (K : PySem.W.Frag) (hN : X.N.Nodup) (hiN : X.N[n]? = some v) (hyL : Loc X.env.scope v) (hc : X.calm = true) (hcs : cs = [] ∨ ∃ c, cs = [c]) (hi : QI X (.Tuple [.Name x px, .Name y pyy] kt pt) iter wi) (S : LcOkG X [x, y] fr scope) (hT : ∀ fp C s H, QTs (blkG X [x, y] fr scope fp C s H) cs tt) (he : ∀ fp C s H, QE (blkG X [x, y] fr scope fp C s H) elt te)
    (hs : ∀ v, foldedSetIterable iter X.env v = pure v := by intro _; rfl) (hsw : swapsWith (.ListComp elt [⟨.Tuple [.Name x px, .Name y pyy] kt pt, iter, cs, 0⟩] scope pos) (some (.Name v pv')) spos.line X.env = pure true := by rfl)
    (hfn : X.fn v = true ∨ X.env.scope.names.lookup v = some .local := by first | exact .inl rfl | exact .inr rfl | assumption) (hK : X.K = K := by rfl) : QS X (.Assign [.Name v pv'] (.ListComp elt [⟨.Tuple [.Name x px, .Name y pyy] kt pt, iter, cs, 0⟩] scope pos) spos) (tAsg (tLcG (uTup K) 2 fr wi tt te) (gName n)) := by
  subst hK
  exact ⟨ps_c2 hN hiN hyL hc hcs hi.h S (fun a b c d => (hT a b c d).h) (fun a b c d => (he a b c d).h) hs hsw hfn⟩
end
section
variable {X : Cx}
theorem k_add (K : PySem.W.Frag) (hK : X.K = K := by rfl) : QOp X (binaryOp .Add) (rAddU K) := ⟨uAdd K hK⟩
theorem k_sub : QOp X (binaryOp .Sub) (rI0 fun i j => .int (i - j)) := ⟨op_sub⟩
theorem k_mul : QOp X (binaryOp .Mult) (rI CMul fun i j => .int (i * j)) := ⟨op_mul⟩
theorem k_fdiv : QOp X (binaryOp .FloorDiv) (rI CDiv fun i j => .int (i / j)) := ⟨op_fdiv⟩
theorem k_mod : QOp X (binaryOp .Mod) (rI (fun _ j => 0 < j) fun i j => .int (i % j)) := ⟨op_mod⟩
theorem k_pow : QOp X (binaryOp .Pow) (rI CPow fun i j => .int (i ^ j.toNat)) := ⟨op_pow⟩
theorem k_eq : QOp X (compareOp .Eq) rEq := ⟨op_eq⟩
theorem k_ne {k : Nat} (hr : Room k X.A) : QOp X (compareOp .NotEq) rNeU := ⟨uNe hr⟩
theorem k_lt : QOp X (compareOp .Lt) (rI0 fun i j => .bl (decide (i < j))) := ⟨op_lt⟩
theorem k_gt : QOp X (compareOp .Gt) (rI0 fun i j => .bl (decide (j < i))) := ⟨op_gt⟩
theorem k_isN : QOp X (compareOp .Is) (fun x y H Q => y = .non ∧ Q (.bl (decide (x = .non))) H) := ⟨op_isN⟩
theorem k_in (K : PySem.W.Frag) (hu : X.A.units + 1 < cLine) (hK : X.K = K := by rfl) : QOp X (compareOp .In) (rInU K) := ⟨uIn K hu hK⟩
theorem k_notIn (K : PySem.W.Frag) (hu : X.A.units + 1 < cLine) (hK : X.K = K := by rfl) : QOp X (compareOp .NotIn) (rNotInU K) := ⟨uNotIn K hu hK⟩
theorem k_len (K : PySem.W.Frag) (hK : X.K = K := by rfl) : QC X (.builtin "len") (rLenU K) := ⟨uLen K hK⟩
theorem k_isi (K : PySem.W.Frag) (hK : X.K = K := by rfl) : QC X (.builtin "isinstance") (rIsiU K) := ⟨uIsi K hK⟩
theorem k_list (K : PySem.W.Frag) (hK : X.K = K := by rfl) : QC X (.type "list") (rListU K) := ⟨uList K hK⟩
theorem k_tuple (K : PySem.W.Frag) (hK : X.K = K := by rfl) : QC X (.type "tuple") (rTupleU K) := ⟨uTuple K hK⟩
theorem k_all (hc : X.calm = true) : QC X (.builtin "all") (fun xs H Q => ∃ (a : Addr) (bs : List Bool), xs = [.ref a] ∧ H a = some (.lst (bs.map V.bl)) ∧ Q (.bl (bs.all id)) H) := ⟨call_all hc⟩
theorem k_maxL (hc : X.calm = true) : QC X (.builtin "max") (fun xs H Q => ∃ (a : Addr) (ns : List Int), xs = [.ref a] ∧ H a = some (.lst (ns.map V.int)) ∧ ns ≠ [] ∧ ∀ M, M ∈ ns → (∀ x ∈ ns, x ≤ M) → Q (.int M) H) := ⟨call_maxL hc⟩
theorem k_max2 (hc : X.calm = true) : QC X (.builtin "max") (fun xs H Q => ∃ i j, xs = [.int i, .int j] ∧ Q (.int (if j > i then j else i)) H) := ⟨call_max2 hc⟩
theorem k_min2 (hc : X.calm = true) : QC X (.builtin "min") (fun xs H Q => ∃ i j, xs = [.int i, .int j] ∧ Q (.int (if j < i then j else i)) H) := ⟨call_min2 hc⟩
theorem k_append : QM X "list.append" rAppend := ⟨mt_append⟩
end
theorem run_of {X : Cx} {body : List Stmt} {D : Ends} {σ : L2.St} {H : Hp} {t : TS} (h : QSs X body t) (r : t D σ H) : ∃ t, PSs X body t ∧ t D σ H := ⟨t, h.h, r⟩
end Rg
set_option Elab.async false
set_option linter.all false
set_option maxRecDepth 100000
set_option maxHeartbeats 4000000
namespace K19
open PySem L2 Rg
def top (i : Nat) : Stmt := PySem.Challenge.pw_recordgate_k19_how_deep_forms_lean.main.body.getD i (.Pass ⟨0, 0, 0, 0⟩)
abbrev s_leans_on : Stmt := top 1
abbrev s_depths_of : Stmt := top 2
abbrev s_all_in : Stmt := top 3
abbrev s_depth : Stmt := top 5
abbrev s_l_cell_at : Stmt := top 7
abbrev s_l_mixed : Stmt := top 8
abbrev s_l_name_by : Stmt := top 9
abbrev s_l_number_by : Stmt := top 10
abbrev s_l_word_by : Stmt := top 11
abbrev s_l_plain_form : Stmt := top 12
abbrev s_l_row_form : Stmt := top 13
abbrev s_l_record_form : Stmt := top 14
abbrev s_l_leaning_form : Stmt := top 15
abbrev s_l_forms_by : Stmt := top 16
abbrev s_l_alike : Stmt := top 17
abbrev s_l_copied : Stmt := top 18
abbrev s_l_longer : Stmt := top 19
abbrev s_l_leans : Stmt := top 20
abbrev s_l_depths : Stmt := top 21
abbrev s_law : Stmt := top 22
section
variable {P : Program} {w : World} {K : PySem.W.Frag} {mg : Str → Option Value} {base : Heap} {f : Addr} {fd : FuncData}
/-- the names that a form leans on, in a list of its own -/
def spLeans : Sp := fun vs H Q _ => ∃ (F : Fm) (v : V), vs = [v] ∧ DRep H F.dt v ∧ F.Ok ∧ ∀ (r : Addr) (H' : Hp), Same H H' → H' r = some (.lst (F.leans.map V.str)) → Q (.ref r) H'
theorem sc_leans_on : FnScope ["form"] ["form"] (defScope s_leans_on) := ⟨rfl, rfl, rfl, by decide +kernel, rfl, by decide +kernel, by decide +kernel⟩
theorem ok_leans_on (F : Fun K "leans_on" "leans_on" s_leans_on f fd) (B : Blt mg) : FnOk P w K mg base CX0 1 f fd ["form"] spLeans := by
  refine F.ok sc_leans_on (fun vs H Q E h => ?_) (fun cdv A outer s H vs Q E hr h => ?_)
  · obtain ⟨F, v, rfl, _⟩ := h
    rfl
  obtain ⟨Fo, v, rfl, rep, ok, q⟩ := h
  have hu := hu_of hr
  refine run_of (qss_cons (qs_if (qt_cmpR (k_in K hu) (qe_ix K hu (qv 0) qe_int (fun _ _ => rfl)) (qe_tup (qa_c qe_str (qa_c qe_str (qa_c qe_str qa_nil)))) rfl) (qss_one (qs_ret (qe_cT (k_list K) rfl B.list PyProof.Rows.boot_list (qa_c (qe_ix K hu (qv 0) qe_int (fun _ _ => rfl)) qa_nil)))) qss_nil)
    (qss_cons (qs_if (qt_cmpR k_eq (qe_ix K hu (qv 0) qe_int (fun _ _ => rfl)) qe_str rfl) (qss_one (qs_ret (qe_lst (qa_c (qe_ix K hu (qv 0) qe_int (fun _ _ => rfl)) qa_nil)))) qss_nil)
    (qss_cons (qs_if (qt_cmpR k_eq (qe_ix K hu (qv 0) qe_int (fun _ _ => rfl)) qe_str rfl) (qss_one (qs_ret (qe_lst (qa_c (qe_ix K hu (qv 0) qe_int (fun _ _ => rfl)) (qa_c (qe_ix K hu (qv 0) qe_int (fun _ _ => rfl)) qa_nil))))) qss_nil)
    (qss_one (qs_ret (qe_lst qa_nil)))))) ?_
  obtain ⟨a, xs, rfl, ha, hx⟩ := form_at rep
  refine ⟨_, rfl, ix_h ha ⟨(by show 3 ≤ sizeLine; decide), fun p hp => in_t upd_same ⟨_, rfl, ?_⟩⟩⟩
  have sm := same_new hp (.tup [.str "all", .str "some", .str "one"])
  have plain : Fo.leans = [] → (∀ r, upd H p (.tup [.str "all", .str "some", .str "one"]) r = none → Q (.ref r) (upd (upd H p (.tup [.str "all", .str "some", .str "one"])) r (.lst []))) := fun e r hr' =>
    q r _ (sm.trans (same_new hr' _)) (by rw [e]; exact upd_same)
  cases Fo with
  | many k ns =>
    have e : ∀ k : Fin 3, inV (.str (manyS k)) [.str "all", .str "some", .str "one"] = true := by decide +kernel
    obtain ⟨a', b, ea, h2, h3⟩ := many_at rep
    cases ea
    exact iteEqT (e k) ⟨_, rfl, ix_t (sm _ _ h2) rfl (list_l (SqL.of (sm _ _ h3)) fun l hl => q l _ (sm.trans (same_new hl _)) upd_same)⟩
  | nott n =>
    obtain ⟨a', ea, h2⟩ := nott_at rep
    cases ea
    exact iteEqF (by dsimp only [Fm.sort]; decide +kernel) ⟨_, rfl, ix_h (sm _ _ ha) ⟨rfl, _, rfl, iteEqT (seq_t (by dsimp only [Fm.sort]; decide +kernel)) ⟨_, rfl, ix_t (sm _ _ h2) rfl ⟨(by show 1 ≤ sizeLine; decide), fun r hr' => q r _ (sm.trans (same_new hr' _)) upd_same⟩⟩⟩⟩
  | look f' w' a1 b1 =>
    obtain ⟨a', ea, h2⟩ := look_at rep
    cases ea
    exact iteEqF (by dsimp only [Fm.sort]; decide +kernel) ⟨_, rfl, ix_h (sm _ _ ha) ⟨rfl, _, rfl, iteEqF (seq_f (by dsimp only [Fm.sort]; decide +kernel)) ⟨_, rfl, ix_h (sm _ _ ha) ⟨rfl, _, rfl, iteEqT (seq_t (by dsimp only [Fm.sort]; decide +kernel)) ⟨_, rfl, ix_t (sm _ _ h2) rfl ⟨_, rfl, ix_t (sm _ _ h2) rfl ⟨(by show 2 ≤ sizeLine; decide), fun r hr' => q r _ (sm.trans (same_new hr' _)) upd_same⟩⟩⟩⟩⟩⟩⟩
  | any => exact iteEqF (by dsimp only [Fm.sort]; decide +kernel) ⟨_, rfl, ix_h (sm _ _ ha) ⟨rfl, _, rfl, iteEqF (seq_f (by dsimp only [Fm.sort]; decide +kernel)) ⟨_, rfl, ix_h (sm _ _ ha) ⟨rfl, _, rfl, iteEqF (seq_f (by dsimp only [Fm.sort]; decide +kernel)) ⟨Nat.zero_le _, plain rfl⟩⟩⟩⟩⟩
  | num lo hi => exact iteEqF (by dsimp only [Fm.sort]; decide +kernel) ⟨_, rfl, ix_h (sm _ _ ha) ⟨rfl, _, rfl, iteEqF (seq_f (by dsimp only [Fm.sort]; decide +kernel)) ⟨_, rfl, ix_h (sm _ _ ha) ⟨rfl, _, rfl, iteEqF (seq_f (by dsimp only [Fm.sort]; decide +kernel)) ⟨Nat.zero_le _, plain rfl⟩⟩⟩⟩⟩
  | wrd ws => exact iteEqF (by dsimp only [Fm.sort]; decide +kernel) ⟨_, rfl, ix_h (sm _ _ ha) ⟨rfl, _, rfl, iteEqF (seq_f (by dsimp only [Fm.sort]; decide +kernel)) ⟨_, rfl, ix_h (sm _ _ ha) ⟨rfl, _, rfl, iteEqF (seq_f (by dsimp only [Fm.sort]; decide +kernel)) ⟨Nat.zero_le _, plain rfl⟩⟩⟩⟩⟩
  | row ps => exact iteEqF (by dsimp only [Fm.sort]; decide +kernel) ⟨_, rfl, ix_h (sm _ _ ha) ⟨rfl, _, rfl, iteEqF (seq_f (by dsimp only [Fm.sort]; decide +kernel)) ⟨_, rfl, ix_h (sm _ _ ha) ⟨rfl, _, rfl, iteEqF (seq_f (by dsimp only [Fm.sort]; decide +kernel)) ⟨Nat.zero_le _, plain rfl⟩⟩⟩⟩⟩
  | rcd fs op => exact iteEqF (by dsimp only [Fm.sort]; decide +kernel) ⟨_, rfl, ix_h (sm _ _ ha) ⟨rfl, _, rfl, iteEqF (seq_f (by dsimp only [Fm.sort]; decide +kernel)) ⟨_, rfl, ix_h (sm _ _ ha) ⟨rfl, _, rfl, iteEqF (seq_f (by dsimp only [Fm.sort]; decide +kernel)) ⟨Nat.zero_le _, plain rfl⟩⟩⟩⟩⟩
/-- whether all these names are keys -/
def spAllIn : Sp := fun vs H Q _ => ∃ (a d : Addr) (ns : List Str) (kvs : List (Key × V)), vs = [.ref a, .ref d] ∧ H a = some (.lst (ns.map V.str)) ∧ ns.length ≤ 1000 ∧ H d = some (.dK kvs) ∧ ∀ H', Same H H' → Q (.bl (ns.all fun n => (valV kvs (Sum.inr n)).isSome)) H'
theorem sc_all_in : FnScope ["names", "known"] ["names", "known"] (defScope s_all_in) := ⟨rfl, rfl, rfl, by decide +kernel, rfl, by decide +kernel, by decide +kernel⟩
theorem ok_all_in (F : Fun K "all_in" "all_in" s_all_in f fd) (B : Blt mg) : FnOk P w K mg base CX0 1 f fd ["names", "known"] spAllIn := by
  refine F.ok sc_all_in (fun vs H Q E h => ?_) (fun cdv A outer s H vs Q E hr h => ?_)
  · obtain ⟨a, d, ns, kvs, rfl, _⟩ := h
    rfl
  obtain ⟨a, d, ns, kvs, rfl, ha, hn, hd, q⟩ := h
  have hu := hu_of hr
  refine run_of (qss_one (qs_ret (qe_cB (k_all rfl) rfl B.all PyProof.Rows.boot_all (qa_c (qe_c1 rfl (.inl rfl) (qi_list K (qv 0)) (LcStG.ok (sc := defScope s_all_in) (N := ["names", "known"]) (fr := [("known", 1)]) ⟨by decide +kernel, rfl, by decide +kernel, by decide +kernel, by decide +kernel, by decide +kernel, by decide +kernel⟩ rfl rfl) (fun _ _ _ _ => qts_nil) (fun _ _ _ _ => (qe_cmpR (k_in K hu) (qv 0) (qv 1) rfl))) qa_nil)))) ?_
  refine ⟨_, rfl, a, rfl, ⟨_, SqL.of ha⟩, lc_w0 (w_list (xs := ns.map V.str)) (fun i ys H' => H' = H ∧ ys = (ns.take i).map fun n => V.bl (valV kvs (Sum.inr n)).isSome) (by rw [List.length_map]; exact small hn) ⟨rfl, rfl⟩ (fun i ys H' hi p => ?_) (fun i x ys H1 H2 hi p y => ?_) (fun ys H' p r hr' => ?_)⟩
  · obtain ⟨rfl, rfl⟩ := p
    exact ⟨SqL.of ha, by rw [List.length_map, List.length_take]; omega⟩
  · obtain ⟨rfl, rfl⟩ := p
    obtain ⟨rfl, hx⟩ := y
    rw [List.getElem?_map] at hx
    cases en : ns[i]? with
    | none => rw [en] at hx; cases hx
    | some n =>
      rw [en] at hx
      cases hx
      refine ⟨[.str n], rfl, rfl, _, rfl, _, rfl, in_d hd ⟨rfl, ?_⟩⟩
      rw [List.take_succ, en, List.map_append]
      rfl
  · obtain ⟨rfl, rfl⟩ := p
    rw [List.length_map, List.take_of_length_le (Nat.le_refl _)]
    refine ⟨r, ns.map fun n => (valV kvs (Sum.inr n)).isSome, rfl, by rw [upd_same, List.map_map]; rfl, ?_⟩
    rw [List.all_map]
    exact q _ (same_new hr' _)
theorem depKvs_get {fs : List (Str × Fm)} {rk : Str → Nat} (h : Forms fs rk) {n : Str} (hn : n ∈ fs.map (·.1)) (d : Nat) : valV (depKvs fs rk d) (Sum.inr n) = if depOf fs rk n < d then some (.int (depOf fs rk n : Nat)) else none := by
  unfold depKvs
  by_cases hd : depOf fs rk n < d
  · rw [if_pos hd]
    exact valV_map_str (fun k : Nat => V.int (k : Nat)) _ (depL_nodup h.nd d) (p := (n, depOf fs rk n)) (mem_depL.mpr ⟨hn, rfl, hd⟩)
  · rw [if_neg hd]
    exact valV_map_none (fun k : Nat => V.int (k : Nat)) fun z => hd (depL_keys.mp z).2
/-- the depths of all forms, those of lesser depth first -/
def spDepths : Sp := fun vs H Q _ => ∃ (fs : List (Str × Fm)) (rk : Str → Nat) (v : V), vs = [v] ∧ DRep H (formsD fs) v ∧ Forms fs rk ∧ ∀ (d : Addr) (H' : Hp), Same H H' → H d = none → H' d = some (.dK (depKvs fs rk fs.length)) → Q (.ref d) H'
theorem sc_depths_of : FnScope ["forms", "depths", "depth", "ripe", "name"] ["forms"] (defScope s_depths_of) := ⟨rfl, rfl, rfl, by decide +kernel, rfl, by decide +kernel, by decide +kernel⟩
theorem ok_depths_of (F : Fun K "depths_of" "depths_of" s_depths_of f fd) (B : Blt mg) (h_leans_on : Has P w K mg base "leans_on" 1 ["form"] spLeans) (h_all_in : Has P w K mg base "all_in" 1 ["names", "known"] spAllIn) : FnOk P w K mg base CX0 2 f fd ["forms"] spDepths := by
  refine F.ok sc_depths_of (fun vs H Q E h => ?_) (fun cdv A outer s H vs Q E hr h => ?_)
  · obtain ⟨fs, rk, v, rfl, _⟩ := h
    rfl
  obtain ⟨fs, rk, v, rfl, rep, fo, q⟩ := h
  have hu := hu_of hr
  have nd := sc_depths_of.nd
  refine run_of (qss_cons (qs_set (i := 1) nd rfl (Or.inr rfl) qe_dnewK)
    (qss_cons (qs_for PassesOwn.never rfl (qi_range1 rfl B.range (qa_c (qe_cB (k_len K) rfl B.len PySem.boot_len (qa_c (qv 0) qa_nil)) qa_nil)) (qg_name (i := 2) nd rfl (Or.inl rfl)) (qss_cons (qs_c2 K (n := 3) nd rfl (Or.inl rfl) rfl (.inr ⟨_, rfl⟩) (qi_list K (qv 0)) (LcStG.ok (sc := defScope s_depths_of) (N := ["forms", "depths", "depth", "ripe", "name"]) (fr := [("depths", 1)]) ⟨by decide +kernel, rfl, by decide +kernel, by decide +kernel, by decide +kernel, by decide +kernel, by decide +kernel⟩ rfl rfl) (fun _ _ _ _ => (qts_one (qw_pt (qw_and (qt_cmpR (k_notIn K hu) (qv 0) (qv 2) rfl) (qw_and1 (qt_tru K (qe_call h_all_in hr (by decide) rfl (qa_c (qe_call h_leans_on hr (by decide) rfl (qa_c (qv 1) qa_nil)) (qa_c (qv 2) qa_nil))) (fun _ => rfl))))))) (fun _ _ _ _ => (qv 0)))
    (qss_cons (qs_for PassesOwn.never rfl (qi_list K (qv 3)) (qg_name (i := 4) nd rfl (Or.inl rfl)) (qss_one (qs_put hu (qv 2) (qv 1) (qv 4))))
    (qss_one (qs_if (qt_cmpR k_eq (qe_cB (k_len K) rfl B.len PySem.boot_len (qa_c (qv 1) qa_nil)) (qe_cB (k_len K) rfl B.len PySem.boot_len (qa_c (qv 0) qa_nil)) rfl) (qss_one (qs_break)) qss_nil)))))
    (qss_one (qs_ret (qv 1))))) ?_
  obtain ⟨fa, xs, rfl, hfa, hxs⟩ := forms_at rep
  have hlen : xs.length = fs.length := by rw [hxs.len, List.length_map]
  have few := fo.few
  refine fun d hd => ?_
  have sm0 : Same H (upd H d (.dK [])) := same_new hd _
  refine ⟨_, rfl, len_l (SqL.of (sm0 _ _ hfa)) ⟨_, rfl, by omega, by omega, for_w w_range (fun i σ H' => ∃ x y z : Option V, σ = [some (.ref fa), some (.ref d), x, y, z] ∧ Same H H' ∧ H' d = some (.dK (depKvs fs rk i))) ⟨_, _, _, rfl, sm0, upd_same⟩ (fun _ _ _ _ _ => trivial) (fun i x σ H1 H2 hi p y => ?_) (fun σ H' p => ?_)⟩⟩
  · obtain ⟨x1, y1, z1, rfl, sm, hdd⟩ := p
    obtain ⟨rfl, rfl⟩ := y
    have hi' : i < fs.length := by rw [← hlen]; exact_mod_cast hi
    refine ⟨_, rfl, fa, rfl, ⟨_, SqL.of (sm _ _ hfa)⟩, lc_w (w_list (xs := xs)) (fun j ys H' => Same H2 H' ∧ ys = (((fs.map (·.1)).take j).filter fun n => decide (depOf fs rk n = i)).map V.str) (small (by omega)) ⟨Same.refl _, rfl⟩ (fun j ys H' hj p => ?_) (fun j x ys H3 H4 hj p y => ?_) (fun ys H' p r hr' => ?_)⟩
    · obtain ⟨sm2, rfl⟩ := p
      refine ⟨SqL.of (sm2 _ _ (sm _ _ hfa)), ?_⟩
      rw [List.length_map]
      exact Nat.le_trans (List.length_filter_le _ _) (by rw [List.length_take]; omega)
    · obtain ⟨sm2, rfl⟩ := p
      obtain ⟨rfl, hx⟩ := y
      obtain ⟨n, Fo, ta, u, hf, rfl, hta, hu'⟩ := forms_get hxs hx
      have smA := sm.trans sm2
      have hmem := List.mem_of_getElem? hf
      have hn : n ∈ fs.map (·.1) := List.mem_map.mpr ⟨_, hmem, rfl⟩
      have hnj : (fs.map (·.1))[j]? = some n := by rw [List.getElem?_map, hf]; rfl
      refine ⟨[.str n, u], ⟨ta, rfl, SqT.of (smA _ _ hta)⟩, rfl, ?_⟩
      have hlns := fo.leansOf hmem
      have hget := depKvs_get fo hn i
      refine ⟨_, rfl, _, rfl, notin_d (sm2 _ _ hdd) ⟨_, rfl, ?_⟩⟩
      rw [hget]
      by_cases hlt : depOf fs rk n < i
      · rw [if_pos hlt]
        refine iteF (iteF ⟨sm2, ?_⟩)
        rw [List.take_succ, hnj, List.filter_append, List.map_append]
        rw [show ((some n).toList.filter fun n => decide (depOf fs rk n = i)) = [] from by
          show [n].filter _ = []
          rw [List.filter_cons_of_neg (by simp; omega)]; rfl]
        simp
      · rw [if_neg hlt]
        refine iteT ⟨_, rfl, Fo, u, rfl, hu'.mono smA, fo.ok _ hmem, fun r H5 sm5 hr5 => ⟨_, rfl, r, d, Fo.leans, _, rfl, hr5, Nat.le_trans (Fm.leans_len (fo.ok _ hmem)) (by decide), sm5 _ _ (sm2 _ _ hdd), fun H6 sm6 => ⟨_, rfl, ?_⟩⟩⟩
        have hall : (Fo.leans.all fun m => (valV (depKvs fs rk i) (Sum.inr m)).isSome) = decide (depOf fs rk n = i) := by
          apply Bool.eq_iff_iff.mpr
          rw [List.all_eq_true, decide_eq_true_iff]
          constructor
          · intro z
            have : depOf fs rk n ≤ i := dep_le fo.leans hn fun m hm => by
              rw [hlns] at hm
              have y := z m hm
              rw [depKvs_get fo (fo.ln _ hmem m hm).1] at y
              by_cases q : depOf fs rk m < i
              · exact q
              · rw [if_neg q] at y; cases y
            omega
          · intro z m hm
            have y := dep_lt fo.leans hn (m := m) (by rw [hlns]; exact hm)
            rw [depKvs_get fo (fo.ln _ hmem m hm).1, if_pos (show depOf fs rk m < i from by rw [← z]; exact y)]
            rfl
        rw [hall]
        have sm7 := (sm2.trans sm5).trans sm6
        rw [List.take_succ, hnj, List.filter_append, List.map_append]
        by_cases he : depOf fs rk n = i
        · refine iteEqT (decide_eq_true he) ⟨_, rfl, sm7, ?_⟩
          rw [show ((some n).toList.filter fun n => decide (depOf fs rk n = i)) = [n] from by
            show [n].filter _ = [n]
            simp [he]]
          rfl
        · refine iteEqF (decide_eq_false he) ⟨sm7, ?_⟩
          rw [show ((some n).toList.filter fun n => decide (depOf fs rk n = i)) = [] from by
            show [n].filter _ = []
            simp [he]]
          simp
    · obtain ⟨sm2, rfl⟩ := p
      rw [hlen, List.take_of_length_le (by rw [List.length_map]; exact Nat.le_refl _)]
      generalize hrp : ((fs.map (·.1)).filter fun n => decide (depOf fs rk n = i)) = rp
      have hrl : rp.length ≤ fs.length := by rw [← hrp, ← List.length_map (as := fs) (·.1)]; exact List.length_filter_le _ _
      have sm3 : Same H' (upd H' r (.lst (rp.map V.str))) := same_new hr' _
      have hne : r ≠ d := fun e => by rw [e] at hr'; rw [sm2 _ _ hdd] at hr'; cases hr'
      have hd3 : upd H' r (.lst (rp.map V.str)) d = some (.dK (depKvs fs rk i)) := sm3 _ _ (sm2 _ _ hdd)
      have hmem : ∀ n ∈ rp, n ∈ fs.map (·.1) ∧ depOf fs rk n = i := fun n hn => by
        rw [← hrp] at hn
        obtain ⟨h1, h2⟩ := List.mem_filter.mp hn
        exact ⟨h1, of_decide_eq_true h2⟩
      have hnd : rp.Nodup := by rw [← hrp]; exact fo.nd.filter _
      have hkl : (depKvs fs rk i).length ≤ fs.length := by
        unfold depKvs
        rw [List.length_map]
        have z := depL_len (dp := depOf fs rk) fo.nd i
        rw [List.length_map] at z
        exact z
      refine ⟨_, rfl, r, rfl, ⟨_, SqL.of upd_same⟩, for_w (w_list (xs := rp.map V.str)) (fun j σ H4 => ∃ z : Option V, σ = [some (.ref fa), some (.ref d), some (.int (0 + (i : Int))), some (.ref r), z] ∧ Same H H4 ∧ H4 r = some (.lst (rp.map V.str)) ∧ H4 d = some (.dK (depKvs fs rk i ++ (rp.take j).map fun n => (Sum.inr n, V.int (i : Nat))))) ⟨z1, rfl, (sm.trans sm2).trans sm3, upd_same, by rw [hd3]; simp⟩ (fun j σ H4 hj p => ?_) (fun j x σ H4 H5 hj p y => ?_) (fun σ H4 p => ?_)⟩
      · obtain ⟨z, _, _, h3, _⟩ := p
        exact SqL.of h3
      · obtain ⟨z, rfl, s4, hr4, hd4⟩ := p
        obtain ⟨rfl, hx⟩ := y
        rw [List.getElem?_map] at hx
        cases en : rp[j]? with
        | none => rw [en] at hx; cases hx
        | some n =>
          rw [en] at hx
          cases hx
          have hjl : j < rp.length := (List.getElem?_eq_some_iff.mp en).1
          have hnone : valV (depKvs fs rk i ++ (rp.take j).map fun n => ((Sum.inr n : Key), V.int (i : Nat))) (Sum.inr n) = none := by
            have e : (depKvs fs rk i ++ (rp.take j).map fun n => ((Sum.inr n : Key), V.int (i : Nat))) = ((depL (fs.map (·.1)) (depOf fs rk) i ++ (rp.take j).map fun n => (n, i)).map fun p => ((Sum.inr p.1 : Key), V.int (p.2 : Nat))) := by
              unfold depKvs
              rw [List.map_append, List.map_map]
              rfl
            rw [e]
            refine valV_map_none (fun k : Nat => V.int (k : Nat)) fun z => ?_
            rw [List.map_append, List.mem_append] at z
            rcases z with z | z
            · have := (depL_keys.mp z).2
              have := (hmem n (List.mem_of_getElem? en)).2
              omega
            · have z' : n ∈ rp.take j := by
                obtain ⟨p, hp, e⟩ := List.mem_map.mp z
                obtain ⟨n', hn', rfl⟩ := List.mem_map.mp hp
                cases e
                exact hn'
              obtain ⟨k, hk, e2⟩ := List.getElem_of_mem z'
              rw [List.length_take] at hk
              rw [List.getElem_take] at e2
              exact (List.pairwise_iff_getElem.mp hnd) k j (by omega) hjl (by omega) (e2.trans (List.getElem?_eq_some_iff.mp en).2.symm)
          refine ⟨_, rfl, _, rfl, _, rfl, put_s hd4 (small1000 (by rw [List.length_append, List.length_map, List.length_take]; omega)) ⟨some (.str n), rfl, ?_, ?_, ?_⟩⟩
          · exact fun b o hb => by
              rw [upd_ne (fun e => by rw [e] at hb; rw [hd] at hb; cases hb)]
              exact s4 b o hb
          · rw [upd_ne hne]
            exact hr4
          · rw [upd_same, putK_new _ hnone, List.take_succ, en, List.map_append, ← List.append_assoc]
            simp
      · obtain ⟨z, rfl, s4, hr4, hd4⟩ := p
        have hd5 : H4 d = some (.dK (depKvs fs rk (i + 1))) := by
          rw [hd4, List.length_map, List.take_of_length_le (Nat.le_refl _)]
          unfold depKvs
          rw [depL_succ, List.map_append, List.map_map, hrp]
          rfl
        refine ⟨_, rfl, len_d hd5 ⟨_, rfl, len_l (SqL.of (s4 _ _ hfa)) ⟨rfl, _, rfl, ?_⟩⟩⟩
        by_cases he : (depKvs fs rk (i + 1)).length = fs.length
        · refine iteEqT (decide_eq_true (by rw [he, hlen])) ⟨_, rfl, ?_⟩
          have full := depL_full (dp := depOf fs rk) fo.nd (d := i + 1) (by
            unfold depKvs at he
            rw [List.length_map] at he
            rw [he, List.length_map])
          have e2 : depKvs fs rk fs.length = depKvs fs rk (i + 1) := by
            unfold depKvs
            rw [depL_stop full (by omega)]
          exact q d H4 s4 hd (by rw [e2]; exact hd5)
        · exact iteEqF (decide_eq_false (fun z => he (by injection z with z; rw [hlen] at z; exact_mod_cast z))) ⟨_, _, _, rfl, s4, hd5⟩
  · obtain ⟨x1, y1, z1, rfl, sm, hdd⟩ := p
    refine ⟨_, rfl, q d H' sm hd ?_⟩
    rw [hdd, show ((xs.length : Int)).toNat = fs.length from by omega]
end
end K19
set_option Elab.async false
set_option linter.all false
set_option maxRecDepth 100000
set_option maxHeartbeats 4000000
/-! isinstance of data -/
namespace Rg
open PySem PySem.Spec PyProof.Rows L2
def Dt.ty : Dt → String
  | .int _ => "int"
  | .str _ => "str"
  | .bl _ => "bool"
  | .non => "NoneType"
  | .lst _ => "list"
  | .tup _ => "tuple"
  | .dic _ _ => "dict"
theorem DRep.ty {K : PySem.W.Frag} {H : Hp} : ∀ {d : Dt} {v : V}, DRep H d v → TyOf K H v (.type d.ty)
  | .int i, v, h => by rw [(h : v = .int i)]; exact .int i
  | .str x, v, h => by rw [(h : v = .str x)]; exact .str x
  | .bl b, v, h => by rw [(h : v = .bl b)]; exact .bl b
  | .non, v, h => by rw [(h : v = .non)]; exact .non
  | .lst l, v, h => by
    obtain ⟨a, xs, rfl, h2, _⟩ := h.lst_of
    exact .lst h2
  | .tup l, v, h => by
    obtain ⟨a, xs, rfl, h2, _⟩ := h.tup_of
    exact .tup h2
  | .dic ks l, v, h => by
    obtain ⟨a, kvs, rfl, h2, _⟩ := (h : ∃ a kvs, v = .ref a ∧ H a = some (.dK kvs) ∧ kvs.map (·.1) = ks.map Sum.inr ∧ DReps H l (kvs.map (·.2)))
    exact .dK h2
section
variable (K : PySem.W.Frag)
theorem kq_int_int : PySem.W.kitOne K (.type "int") (.type "int") = some true := by kernel_rfl
theorem kq_int_str : PySem.W.kitOne K (.type "int") (.type "str") = some false := by kernel_rfl
theorem kq_int_bool : PySem.W.kitOne K (.type "int") (.type "bool") = some false := by kernel_rfl
theorem kq_int_list : PySem.W.kitOne K (.type "int") (.type "list") = some false := by kernel_rfl
theorem kq_int_dict : PySem.W.kitOne K (.type "int") (.type "dict") = some false := by kernel_rfl
theorem kq_str_list : PySem.W.kitOne K (.type "str") (.type "list") = some false := by kernel_rfl
theorem kq_bool_list : PySem.W.kitOne K (.type "bool") (.type "list") = some false := by kernel_rfl
theorem kq_NoneType_list : PySem.W.kitOne K (.type "NoneType") (.type "list") = some false := by kernel_rfl
theorem kq_list_list : PySem.W.kitOne K (.type "list") (.type "list") = some true := by kernel_rfl
theorem kq_tuple_list : PySem.W.kitOne K (.type "tuple") (.type "list") = some false := by kernel_rfl
theorem kq_dict_list : PySem.W.kitOne K (.type "dict") (.type "list") = some false := by kernel_rfl
def Dt.is_int : Dt → Bool
  | .int _ => true
  | .bl _ => true
  | _ => false
def Dt.is_str : Dt → Bool
  | .str _ => true
  | _ => false
def Dt.is_bool : Dt → Bool
  | .bl _ => true
  | _ => false
def Dt.is_list : Dt → Bool
  | .lst _ => true
  | _ => false
theorem kit_listD : ∀ d : Dt, PySem.W.kitOne K (.type d.ty) (.type "list") = some d.is_list
  | .int _ => kq_int_list K
  | .str _ => kq_str_list K
  | .bl _ => kq_bool_list K
  | .non => kq_NoneType_list K
  | .lst _ => kq_list_list K
  | .tup _ => kq_tuple_list K
  | .dic _ _ => kq_dict_list K
def Dt.is_dict : Dt → Bool
  | .dic _ _ => true
  | _ => false
def Dt.is_tuple : Dt → Bool
  | .tup _ => true
  | _ => false
theorem kq_int_lt : PySem.W.kitAny K (.type "int") ((["list", "tuple"] : List String).map Value.type) = some false := by kernel_rfl
end
end Rg
set_option Elab.async false
set_option linter.all false
set_option maxRecDepth 100000
set_option maxHeartbeats 4000000
namespace K19
open PySem L2 Rg
section
variable {P : Program} {w : World} {K : PySem.W.Frag} {mg : Str → Option Value} {base : Heap} {f : Addr} {fd : FuncData}
/-- a cell of the script, 0 behind its end -/
def spCell (K : PySem.W.Frag) : Sp := fun vs H Q _ => ∃ (a : Addr) (ns : List Int) (k : Int), vs = [.ref a, .int k] ∧ 0 ≤ k ∧ SqL K H a (ns.map V.int) ∧ ∀ i : Int, Q (.int i) H
theorem sc_l_cell_at : FnScope ["_law_script", "_law_k"] ["_law_script", "_law_k"] (defScope s_l_cell_at) := ⟨rfl, rfl, rfl, by decide +kernel, rfl, by decide +kernel, by decide +kernel⟩
theorem ok_l_cell_at (F : Fun K "_law_cell_at" "_law_cell_at" s_l_cell_at f fd) (B : Blt mg) : FnOk P w K mg base CX0 1 f fd ["_law_script", "_law_k"] (spCell K) := by
  refine F.ok sc_l_cell_at (fun vs H Q E h => ?_) (fun cdv A outer s H vs Q E hr h => ?_)
  · obtain ⟨a, ns, k, rfl, _⟩ := h
    rfl
  obtain ⟨a, ns, k, rfl, hk, hS, q⟩ := h
  have hu := hu_of hr
  refine run_of (qss_cons (qs_if (qt_cmpR k_lt (qv 1) (qe_cB (k_len K) rfl B.len PySem.boot_len (qa_c (qv 0) qa_nil)) rfl) (qss_one (qs_ret (qe_ix K hu (qv 0) (qv 1) (fun _ _ => rfl)))) qss_nil)
    (qss_one (qs_ret qe_int))) ?_
  refine ⟨_, rfl, _, rfl, len_l hS ⟨_, _, rfl, rfl, _, rfl, ite2 (fun h => ?_) (fun h => q 0)⟩⟩
  have h1 : k < ((ns.map V.int).length : Int) := of_decide_eq_true h
  obtain ⟨v, e, m⟩ := atI_mem hk h1
  obtain ⟨i, _, rfl⟩ := List.mem_map.mp m
  exact ⟨_, rfl, _, rfl, ix_l hS e (q i)⟩
def spMixed : Sp := fun vs H Q _ => ∃ n k : Int, vs = [.int n, .int k] ∧ 0 ≤ k ∧ k ≤ 1000 ∧ ∀ m : Int, 0 ≤ m → m < 998244353 → Q (.int m) H
theorem sc_l_mixed : FnScope ["_law_number", "_law_k", "_law_once"] ["_law_number", "_law_k"] (defScope s_l_mixed) := ⟨rfl, rfl, rfl, by decide +kernel, rfl, by decide +kernel, by decide +kernel⟩
theorem ok_l_mixed (F : Fun K "_law_mixed" "_law_mixed" s_l_mixed f fd) : FnOk P w K mg base CX0 1 f fd ["_law_number", "_law_k"] spMixed := by
  refine F.ok sc_l_mixed (fun vs H Q E h => ?_) (fun cdv A outer s H vs Q E hr h => ?_)
  · obtain ⟨n, k, rfl, _⟩ := h
    rfl
  obtain ⟨n, k, rfl, hk0, hk1, q⟩ := h
  have nd := sc_l_mixed.nd
  refine run_of (qss_cons (qs_set (i := 2) nd rfl (Or.inl rfl) (qe_op k_mod (qe_op k_mul (qe_op (k_add K) (qe_op (k_add K) (qe_op k_mod (qv 0) qe_int) (qe_op k_mul qe_int (qv 1))) qe_int) qe_int) qe_int))
    (qss_one (qs_ret (qe_op k_mod (qe_op k_mul (qv 2) (qe_op (k_add K) (qe_op (k_add K) (qe_op k_mod (qv 2) qe_int) (qv 1)) qe_int)) qe_int)))) ?_
  refine ⟨_, rfl, _, _, rfl, rfl, (by show (0 : Int) < 1000000007; decide), _, rfl, _, _, rfl, rfl, .inl ⟨by decide, by decide⟩, add_i (add_i ⟨_, _, rfl, rfl, .inr ⟨by decide, by decide⟩, _, _, rfl, rfl, (by show (0 : Int) < 2147483647; decide), ?_⟩)⟩
  generalize (n % 1000000007 + 7 * k + 1) * 48271 = z
  refine ⟨_, rfl, _, rfl, _, _, rfl, rfl, (by show (0 : Int) < 1009; decide), _, rfl, add_i (add_i ⟨_, _, rfl, rfl, .inl ⟨by omega, by omega⟩, _, _, rfl, rfl, (by show (0 : Int) < 998244353; decide), ?_⟩)⟩
  generalize z % 2147483647 * (z % 2147483647 % 1009 + k + 3) = y
  exact q _ (by omega) (by omega)
/-- an item of a list that was just made -/
theorem pick {H : Hp} {p : Addr} {xs : List V} {j : Int} {Q : VK} (h0 : 0 ≤ j) (h1 : j < (xs.length : Int)) (q : ∀ v, atI xs j = some v → v ∈ xs → Q v (upd H p (.lst xs))) : rIxU K (.ref p) (.int j) (upd H p (.lst xs)) Q := by
  obtain ⟨v, e, m⟩ := atI_mem h0 h1
  exact ix_l (SqL.of upd_same) e (q v e m)
def spNumber : Sp := fun vs H Q _ => ∃ n : Int, vs = [.int n] ∧ 0 ≤ n ∧ n < 998244353 ∧ ∀ (i : Int) (H' : Hp), Same H H' → Q (.int i) H'
theorem sc_l_number_by : FnScope ["_law_number"] ["_law_number"] (defScope s_l_number_by) := ⟨rfl, rfl, rfl, by decide +kernel, rfl, by decide +kernel, by decide +kernel⟩
theorem ok_l_number_by (F : Fun K "_law_number_by" "_law_number_by" s_l_number_by f fd) : FnOk P w K mg base CX0 1 f fd ["_law_number"] spNumber := by
  refine F.ok sc_l_number_by (fun vs H Q E h => ?_) (fun cdv A outer s H vs Q E hr h => ?_)
  · obtain ⟨n, rfl, _⟩ := h
    rfl
  obtain ⟨n, rfl, h0, h1, q⟩ := h
  have hu := hu_of hr
  refine run_of (qss_one (qs_ret (qe_ix K hu (qe_lst (qa_c (qe_op k_sub (qe_op k_mod (qe_op k_fdiv (qv 0) qe_int) qe_int) qe_int) (qa_c (qe_op k_mod (qe_op k_fdiv (qv 0) qe_int) qe_int) (qa_c (qe_op k_mod (qe_op k_mul (qv 0) (qe_op k_pow qe_int qe_int)) (qe_op k_pow qe_int qe_int)) (qa_c (qe_op k_sub qe_int (qe_op k_mul (qv 0) (qe_op k_pow qe_int qe_int))) qa_nil))))) (qe_op k_fdiv (qe_op k_mod (qv 0) qe_int) qe_int) (fun _ _ => rfl)))) ?_
  refine ⟨_, rfl, _, _, rfl, rfl, ⟨by decide, by decide⟩, _, _, rfl, rfl, (by show (0 : Int) < 9; decide), _, _, rfl, rfl, ?_⟩
  refine ⟨_, rfl, _, _, rfl, rfl, ⟨by decide, by decide⟩, _, _, rfl, rfl, (by show (0 : Int) < 3; decide), ?_⟩
  refine ⟨_, rfl, _, _, rfl, rfl, ⟨by decide, by decide, by decide⟩, _, _, rfl, rfl, .inl ⟨by omega, by omega⟩, _, _, rfl, rfl, ⟨by decide, by decide, by decide⟩, _, _, rfl, rfl, (by show (0 : Int) < 10 ^ 59; decide), ?_⟩
  refine ⟨_, rfl, _, _, rfl, rfl, ⟨by decide, by decide, by decide⟩, _, _, rfl, rfl, .inl ⟨by omega, by omega⟩, _, _, rfl, rfl, ?_⟩
  refine ⟨(by show 4 ≤ sizeLine; decide), fun p hp => ?_⟩
  refine ⟨_, rfl, _, _, rfl, rfl, (by show (0 : Int) < 8; decide), _, _, rfl, rfl, ⟨by decide, by decide⟩, ?_⟩
  refine pick (by omega) (by show _ < (4 : Int); omega) fun v _ hm => ?_
  have hv : ∃ i, v = V.int i := by
    rcases List.mem_cons.mp hm with rfl | hm
    · exact ⟨_, rfl⟩
    · rcases List.mem_cons.mp hm with rfl | hm
      · exact ⟨_, rfl⟩
      · rcases List.mem_cons.mp hm with rfl | hm
        · exact ⟨_, rfl⟩
        · rw [List.mem_singleton.mp hm]
          exact ⟨_, rfl⟩
  obtain ⟨i, rfl⟩ := hv
  exact q i _ (same_new hp _)
/-- the five words -/
def word5 (n : Int) : Str := (["a", "b", "c", "ab", "ba"] : List Str).getD (n % 5).toNat "a"
theorem word5_at (n : Int) : atI ((["a", "b", "c", "ab", "ba"] : List Str).map V.str) (n % 5) = some (.str (word5 n)) := by
  have h : n % 5 = ((n % 5).toNat : Int) := by omega
  have hl : (n % 5).toNat < (["a", "b", "c", "ab", "ba"] : List Str).length := by show _ < 5; omega
  rw [h]
  refine atI_nat ?_
  rw [List.getElem?_map]
  unfold word5
  rw [List.getD_eq_getElem?_getD, List.getElem?_eq_getElem hl]
  rfl
theorem word5_inj {a b : Int} (h : word5 a = word5 b) : a % 5 = b % 5 := by
  have key : ∀ i j : Fin 5, (["a", "b", "c", "ab", "ba"] : List Str).getD i.1 "a" = (["a", "b", "c", "ab", "ba"] : List Str).getD j.1 "a" → i = j := by decide +kernel
  have ha : (a % 5).toNat < 5 := by omega
  have hb : (b % 5).toNat < 5 := by omega
  have z := key ⟨_, ha⟩ ⟨_, hb⟩ h
  have z' : (a % 5).toNat = (b % 5).toNat := congrArg Fin.val z
  omega
def spWord : Sp := fun vs H Q _ => ∃ n : Int, vs = [.int n] ∧ ∀ H' : Hp, Same H H' → Q (.str (word5 n)) H'
theorem sc_l_word_by : FnScope ["_law_number"] ["_law_number"] (defScope s_l_word_by) := ⟨rfl, rfl, rfl, by decide +kernel, rfl, by decide +kernel, by decide +kernel⟩
theorem ok_l_word_by (F : Fun K "_law_word_by" "_law_word_by" s_l_word_by f fd) : FnOk P w K mg base CX0 1 f fd ["_law_number"] spWord := by
  refine F.ok sc_l_word_by (fun vs H Q E h => ?_) (fun cdv A outer s H vs Q E hr h => ?_)
  · obtain ⟨n, rfl, _⟩ := h
    rfl
  obtain ⟨n, rfl, q⟩ := h
  have hu := hu_of hr
  refine run_of (qss_one (qs_ret (qe_ix K hu (qe_lst (qa_c qe_str (qa_c qe_str (qa_c qe_str (qa_c qe_str (qa_c qe_str qa_nil)))))) (qe_op k_mod (qv 0) qe_int) (fun _ _ => rfl)))) ?_
  refine ⟨(by show 5 ≤ sizeLine; decide), fun p hp => ?_⟩
  exact ⟨_, rfl, _, _, rfl, rfl, (by show (0 : Int) < 5; decide), ix_l (SqL.of upd_same) (word5_at n) (q _ (same_new hp _))⟩
/-- any, numbers, words -/
def FmPlain : Fm → Prop
  | .any => True
  | .num _ _ => True
  | .wrd ws => ws.length ≤ 5
  | _ => False
theorem optV {v : V} {i : Int} (h : v ∈ [V.non, V.int i]) : ∃ o, ∀ H : Hp, DRep H (optD o) v := by
  rcases List.mem_cons.mp h with rfl | h
  · exact ⟨none, fun _ => rfl⟩
  · rw [List.mem_singleton.mp h]
    exact ⟨some i, fun _ => rfl⟩
def spPlain : Sp := fun vs H Q _ => ∃ n : Int, vs = [.int n] ∧ 0 ≤ n ∧ ∀ (F : Fm) (v : V) (H' : Hp), Same H H' → FmPlain F → DRep (newOf H H') F.dt v → Q v H'
theorem sc_l_plain_form : FnScope ["_law_number", "_law_low"] ["_law_number"] (defScope s_l_plain_form) := ⟨rfl, rfl, rfl, by decide +kernel, rfl, by decide +kernel, by decide +kernel⟩
theorem ok_l_plain_form (F : Fun K "_law_plain_form" "_law_plain_form" s_l_plain_form f fd) (h_l_number_by : Has P w K mg base "_law_number_by" 1 ["_law_number"] spNumber) (h_l_mixed : Has P w K mg base "_law_mixed" 1 ["_law_number", "_law_k"] spMixed) :
    FnOk P w K mg base CX0 2 f fd ["_law_number"] spPlain := by
  refine F.ok sc_l_plain_form (fun vs H Q E h => ?_) (fun cdv A outer s H vs Q E hr h => ?_)
  · obtain ⟨n, rfl, _⟩ := h
    rfl
  obtain ⟨n, rfl, h0, q⟩ := h
  have hu := hu_of hr
  have nd := sc_l_plain_form.nd
  refine run_of (qss_cons (qs_set (i := 1) nd rfl (Or.inl rfl) (qe_call h_l_number_by hr (by decide) rfl (qa_c (qe_call h_l_mixed hr (by decide) rfl (qa_c (qv 0) (qa_c qe_int qa_nil))) qa_nil)))
    (qss_cons (qs_if (qt_cmpR k_eq (qe_op k_mod (qv 0) qe_int) qe_int rfl) (qss_one (qs_ret (qe_tup (qa_c qe_str (qa_c (qe_ix K hu (qe_lst (qa_c qe_non (qa_c (qv 1) qa_nil))) (qe_op k_mod (qe_op k_fdiv (qv 0) qe_int) qe_int) (fun _ _ => rfl)) (qa_c (qe_ix K hu (qe_lst (qa_c qe_non (qa_c (qe_op (k_add K) (qv 1) (qe_op k_mod (qe_op k_fdiv (qv 0) qe_int) qe_int)) qa_nil))) (qe_op k_mod (qe_op k_fdiv (qv 0) qe_int) qe_int) (fun _ _ => rfl)) qa_nil)))))) qss_nil)
    (qss_cons (qs_if (qt_cmpR k_eq (qe_op k_mod (qv 0) qe_int) qe_int rfl) (qss_one (qs_ret (qe_tup (qa_c qe_str (qa_c (qv 1) (qa_c (qe_op (k_add K) (qv 1) (qe_op k_mod (qe_op k_fdiv (qv 0) qe_int) qe_int)) qa_nil)))))) qss_nil)
    (qss_cons (qs_if (qt_cmpR k_eq (qe_op k_mod (qv 0) qe_int) qe_int rfl) (qss_one (qs_ret (qe_tup (qa_c qe_str (qa_c (qe_slice K (qe_lst (qa_c qe_str (qa_c qe_str (qa_c qe_str (qa_c qe_str (qa_c qe_str qa_nil)))))) (qo_some (qe_op k_mod (qe_op k_fdiv (qv 0) qe_int) qe_int)) (qo_some (qe_op k_mod (qe_op k_fdiv (qv 0) qe_int) qe_int))) qa_nil))))) qss_nil)
    (qss_one (qs_ret (qe_tup (qa_c qe_str qa_nil)))))))) ?_
  refine ⟨_, rfl, n, 1, rfl, by decide, by decide, fun m m0 m1 => ⟨m, rfl, m0, m1, fun i H1 sm1 => ?_⟩⟩
  refine ⟨_, rfl, _, _, rfl, rfl, (by show (0 : Int) < 4; decide), rfl, _, rfl, ite2 (fun _ => ?_) (fun _ => ?_)⟩
  · refine ⟨_, rfl, ⟨(by show 2 ≤ sizeLine; decide), fun p hp => ⟨_, rfl, _, _, rfl, rfl, ⟨by decide, by decide⟩, _, _, rfl, rfl, (by show (0 : Int) < 2; decide), pick (by omega) (by show _ < (2 : Int); omega) fun v _ hv => ?_⟩⟩⟩
    refine ⟨_, rfl, _, rfl, _, _, rfl, rfl, ⟨by decide, by decide⟩, _, _, rfl, rfl, (by show (0 : Int) < 5; decide), add_i ⟨(by show 2 ≤ sizeLine; decide), fun p2 hp2 => ⟨_, rfl, _, _, rfl, rfl, ⟨by decide, by decide⟩, _, _, rfl, rfl, (by show (0 : Int) < 2; decide), pick (by omega) (by show _ < (2 : Int); omega) fun v2 _ hv2 => ⟨(by show 3 ≤ sizeLine; decide), fun t ht => ?_⟩⟩⟩⟩
    have sm2 := (sm1.trans (same_new hp _)).trans ((same_new hp2 _).trans (same_new ht (.tup [.str "number", v, v2])))
    have hn : H t = none := dom_none (Dom.of (sm1.trans ((same_new hp _).trans (same_new hp2 _)))) ht
    obtain ⟨o1, r1⟩ := optV hv
    obtain ⟨o2, r2⟩ := optV hv2
    exact q (.num o1 o2) _ _ sm2 trivial ⟨t, _, rfl, new_at hn, _, _, rfl, rfl, _, _, rfl, r1 _, _, _, rfl, r2 _, rfl⟩
  refine ⟨_, rfl, _, _, rfl, rfl, (by show (0 : Int) < 4; decide), rfl, _, rfl, ite2 (fun _ => ?_) (fun _ => ?_)⟩
  · refine ⟨_, rfl, _, rfl, _, rfl, _, _, rfl, rfl, ⟨by decide, by decide⟩, _, _, rfl, rfl, (by show (0 : Int) < 3; decide), add_i ⟨(by show 3 ≤ sizeLine; decide), fun t ht => ?_⟩⟩
    exact q (.num (some _) (some _)) _ _ (sm1.trans (same_new ht _)) trivial ⟨t, _, rfl, new_at (dom_none (Dom.of sm1) ht), _, _, rfl, rfl, _, _, rfl, rfl, _, _, rfl, rfl, rfl⟩
  refine ⟨_, rfl, _, _, rfl, rfl, (by show (0 : Int) < 4; decide), rfl, _, rfl, ite2 (fun _ => ?_) (fun _ => ?_)⟩
  · refine ⟨(by show 5 ≤ sizeLine; decide), fun p hp => ⟨_, rfl, _, _, rfl, rfl, ⟨by decide, by decide⟩, _, _, rfl, rfl, (by show (0 : Int) < 6; decide), _, rfl, _, rfl, _, _, rfl, rfl, ⟨by decide, by decide⟩, _, _, rfl, rfl, (by show (0 : Int) < 6; decide), _, rfl, sl_l (SqL.of upd_same) fun p2 hp2 => ⟨(by show 2 ≤ sizeLine; decide), fun t ht => ?_⟩⟩⟩
    obtain ⟨ws, ew, hw, _⟩ := cutV_strs ["a", "b", "c", "ab", "ba"] (some (n / 4 % 6)) (some (n / 24 % 6))
    have sm2 := (sm1.trans (same_new hp _)).trans ((same_new hp2 _).trans (same_new ht (.tup [.str "word", .ref p2])))
    have hn2 : H p2 = none := dom_none (Dom.of (sm1.trans (same_new hp _))) hp2
    have hn : H t = none := dom_none (Dom.of (sm1.trans ((same_new hp _).trans (same_new hp2 _)))) ht
    refine q (.wrd ws) _ _ sm2 hw ⟨t, _, rfl, new_at hn, _, _, rfl, rfl, _, _, rfl, ⟨p2, _, rfl, newOf_at hn2 ?_, DReps.strs ws⟩, rfl⟩
    rw [upd_ne (fun e => by rw [← e, upd_same] at ht; cases ht), upd_same]
    exact congrArg (fun z => some (HO.lst z)) ew
  refine ⟨(by show 1 ≤ sizeLine; decide), fun t ht => ?_⟩
  exact q .any _ _ (sm1.trans (same_new ht _)) trivial ⟨t, _, rfl, new_at (dom_none (Dom.of sm1) ht), _, _, rfl, rfl, rfl⟩
/-- the bounds of a part -/
def PartOk (p : Str × Nat × Option Nat) : Prop := p.2.1 ≤ 4 ∧ ∀ m, p.2.2 = some m → p.2.1 ≤ m ∧ 1 ≤ m ∧ m ≤ 4
def spRow : Sp := fun vs H Q _ => ∃ (n : Int) (a : Addr) (ns : List Str), vs = [.int n, .ref a] ∧ 0 ≤ n ∧ H a = some (.lst (ns.map V.str)) ∧ ns ≠ [] ∧ ns.length ≤ 100 ∧
  ∀ (ps : List (Str × Nat × Option Nat)) (v : V) (H' : Hp), Same H H' → ps.length ≤ 3 → (∀ p ∈ ps, p.1 ∈ ns ∧ PartOk p) → DRep (newOf H H') (Fm.row ps).dt v → Q v H'
/-- one of the names -/
theorem name_at {H : Hp} {a : Addr} {ns : List Str} {j : Int} {Q : VK} (h : H a = some (.lst (ns.map V.str))) (h0 : 0 ≤ j) (h1 : j < (ns.length : Int)) (q : ∀ n ∈ ns, Q (.str n) H) : rIxU K (.ref a) (.int j) H Q := by
  obtain ⟨v, e, m⟩ := atI_mem (xs := ns.map V.str) h0 (by rw [List.length_map]; exact h1)
  obtain ⟨n, hn, rfl⟩ := List.mem_map.mp m
  exact ix_l (SqL.of h) e (q n hn)
theorem sc_l_row_form : FnScope ["_law_number", "_law_names", "_law_parts", "_law_k", "_law_rest", "_law_low", "_law_most"] ["_law_number", "_law_names"] (defScope s_l_row_form) := ⟨rfl, rfl, rfl, by decide +kernel, rfl, by decide +kernel, by decide +kernel⟩
theorem ok_l_row_form (F : Fun K "_law_row_form" "_law_row_form" s_l_row_form f fd) (B : Blt mg) (h_l_mixed : Has P w K mg base "_law_mixed" 1 ["_law_number", "_law_k"] spMixed) : FnOk P w K mg base CX0 2 f fd ["_law_number", "_law_names"] spRow := by
  refine F.ok sc_l_row_form (fun vs H Q E h => ?_) (fun cdv A outer s H vs Q E hr h => ?_)
  · obtain ⟨n, a, ns, rfl, _⟩ := h
    rfl
  obtain ⟨n, a, ns, rfl, h0, hns, hne, hnl, q⟩ := h
  have hpos : 0 < ns.length := List.length_pos_iff.mpr hne
  have hu := hu_of hr
  have nd := sc_l_row_form.nd
  refine run_of (qss_cons (qs_set (i := 2) nd rfl (Or.inl rfl) (qe_lst qa_nil))
    (qss_cons (qs_for PassesOwn.never rfl (qi_range1 rfl B.range (qa_c (qe_ix K hu (qe_lst (qa_c qe_int (qa_c qe_int (qa_c qe_int (qa_c qe_int (qa_c qe_int (qa_c qe_int qa_nil))))))) (qe_op k_mod (qv 0) qe_int) (fun _ _ => rfl)) qa_nil)) (qg_name (i := 3) nd rfl (Or.inl rfl)) (qss_cons (qs_set (i := 4) nd rfl (Or.inl rfl) (qe_call h_l_mixed hr (by decide) rfl (qa_c (qv 0) (qa_c (qe_op (k_add K) qe_int (qv 3)) qa_nil))))
    (qss_cons (qs_set (i := 5) nd rfl (Or.inl rfl) (qe_op k_mod (qv 4) qe_int))
    (qss_cons (qs_set (i := 6) nd rfl (Or.inl rfl) (qe_ix K hu (qe_lst (qa_c qe_non (qa_c (qe_cB (k_max2 rfl) rfl B.max PyProof.Rows.boot_max (qa_c qe_int (qa_c (qv 5) qa_nil))) (qa_c (qe_op (k_add K) (qv 5) qe_int) qa_nil)))) (qe_op k_mod (qe_op k_fdiv (qv 4) qe_int) qe_int) (fun _ _ => rfl)))
    (qss_one (qs_expr (qe_cM K PySem.F.plainAttrs_list PySem.F.slot_list_append PySem.F.type_list_append k_append (qv 2) (qa_c (qe_tup (qa_c (qe_ix K hu (qv 1) (qe_op k_mod (qe_op k_fdiv (qv 4) qe_int) (qe_cB (k_len K) rfl B.len PySem.boot_len (qa_c (qv 1) qa_nil))) (fun _ _ => rfl)) (qa_c (qv 5) (qa_c (qv 6) qa_nil)))) qa_nil))))))))
    (qss_one (qs_ret (qe_tup (qa_c qe_str (qa_c (qv 2) qa_nil))))))) ?_
  refine ⟨Nat.zero_le _, fun l hl => ⟨(by show 6 ≤ sizeLine; decide), fun p hp => ⟨_, rfl, _, _, rfl, rfl, (by show (0 : Int) < 6; decide), pick (by omega) (by show _ < (6 : Int); omega) fun v _ hv => ?_⟩⟩⟩
  have hc : ∃ c : Nat, v = .int c ∧ c ≤ 3 := by
    have : v ∈ ([1, 1, 2, 2, 3, 0] : List Nat).map fun c : Nat => V.int (c : Nat) := hv
    obtain ⟨c, h1, rfl⟩ := List.mem_map.mp this
    have all3 : ∀ c ∈ ([1, 1, 2, 2, 3, 0] : List Nat), c ≤ 3 := by decide
    exact ⟨c, rfl, all3 c h1⟩
  obtain ⟨c, rfl, hc⟩ := hc
  have sm0 : Same H (upd (upd H l (.lst [])) p (.lst [.int 1, .int 1, .int 2, .int 2, .int 3, .int 0])) := (same_new hl _).trans (same_new hp _)
  have hlp : l ≠ p := fun e => by rw [← e, upd_same] at hp; cases hp
  have hGl : (upd H l (.lst [])) l ≠ none := by rw [upd_same]; simp
  refine ⟨_, rfl, by omega, by omega, for_w w_range (fun i σ H' => ∃ (x y z u : Option V) (ps : List (Str × Nat × Option Nat)) (zs : List V), σ = [some (.int n), some (.ref a), some (.ref l), x, y, z, u] ∧ Same H H' ∧ H' l = some (.lst zs) ∧ DReps (newOf (upd H l (.lst [])) H') (ps.map partD) zs ∧ ps.length = i ∧ ∀ p ∈ ps, p.1 ∈ ns ∧ PartOk p)
    ⟨_, _, _, _, [], [], rfl, sm0, by rw [upd_ne hlp, upd_same], rfl, rfl, fun p hp => absurd hp (by simp)⟩ (fun _ _ _ _ _ => trivial) (fun i x σ H1 H2 hi pv y => ?_) (fun σ H' pv => ?_)⟩
  · obtain ⟨x1, y1, z1, u1, ps, zs, rfl, sm, hll, rep, hpl, hps⟩ := pv
    obtain ⟨rfl, rfl⟩ := y
    have hi' : i < 3 := by omega
    refine ⟨_, rfl, _, rfl, add_i ⟨n, _, rfl, by omega, by omega, fun m m0 m1 => ?_⟩⟩
    refine ⟨_, rfl, _, _, rfl, rfl, (by show (0 : Int) < 3; decide), ?_⟩
    refine ⟨_, rfl, _, _, rfl, _, rfl, add_i ⟨(by show 3 ≤ sizeLine; decide), fun p2 hp2 => ⟨_, rfl, _, _, rfl, rfl, ⟨by decide, by decide⟩, _, _, rfl, rfl, (by show (0 : Int) < 3; decide), pick (by omega) (by show _ < (3 : Int); omega) fun v2 _ hv2 => ?_⟩⟩⟩
    have hmost : ∃ o : Option Nat, (∀ H : Hp, DRep H (optN o) v2) ∧ PartOk ("", (m % 3).toNat, o) := by
      rcases List.mem_cons.mp hv2 with rfl | hv2
      · exact ⟨none, fun _ => rfl, by show (m % 3).toNat ≤ 4; omega, fun k e => by cases e⟩
      · rcases List.mem_cons.mp hv2 with rfl | hv2
        · refine ⟨some (if m % 3 > 1 then m % 3 else 1).toNat, fun _ => ?_, by show (m % 3).toNat ≤ 4; omega, fun k e => ?_⟩
          · show V.int _ = V.int _
            congr 1
            split <;> omega
          · cases e
            show (m % 3).toNat ≤ _ ∧ 1 ≤ _ ∧ _ ≤ 4
            split <;> omega
        · rw [List.mem_singleton.mp hv2]
          refine ⟨some (m % 3 + 1).toNat, fun _ => ?_, by show (m % 3).toNat ≤ 4; omega, fun k e => ?_⟩
          · show V.int _ = V.int _
            congr 1
            omega
          · cases e
            show (m % 3).toNat ≤ _ ∧ 1 ≤ _ ∧ _ ≤ 4
            omega
    obtain ⟨o, ho, hok⟩ := hmost
    have sm2 := same_new hp2 (.lst [V.non, V.int (if m % 3 > 1 then m % 3 else 1), V.int (m % 3 + 1)])
    have smA := sm.trans sm2
    have hlen : (ns.map V.str).length = ns.length := List.length_map _
    refine ⟨_, rfl, .inl ⟨rfl, _, SqL.of (sm2 _ _ hll)⟩, _, rfl, _, rfl, _, _, rfl, rfl, ⟨by decide, by decide⟩, _, rfl, len_l (SqL.of (smA _ _ hns)) ⟨_, _, rfl, rfl, (by show (0 : Int) < ((ns.map V.str).length : Int); omega), ?_⟩⟩
    have hlb := Int.emod_nonneg (m / 9) (show ((ns.map V.str).length : Int) ≠ 0 by omega)
    have hub := Int.emod_lt_of_pos (m / 9) (show (0 : Int) < ((ns.map V.str).length : Int) by omega)
    refine name_at (smA _ _ hns) hlb (by omega) fun nm hnm => ⟨_, rfl, _, rfl, (by show 3 ≤ sizeLine; decide), fun t ht => ?_⟩
    have sm3 := same_new ht (.tup [.str nm, .int (m % 3), v2])
    have hGt : (upd H l (.lst [])) t = none := by
      have htl : t ≠ l := fun e => by rw [e, sm2 _ _ hll] at ht; cases ht
      rw [upd_ne htl]
      exact dom_none (Dom.of smA) ht
    refine ⟨l, _, _, rfl, rfl, sm3 _ _ (sm2 _ _ hll), small1000 (by rw [rep.len, List.length_map]; omega), ?_⟩
    refine ⟨_, _, _, _, ps ++ [(nm, (m % 3).toNat, o)], _, rfl, ?_, upd_same, ?_, by rw [List.length_append, hpl]; rfl, ?_⟩
    · exact fun b ob hb => by
        rw [upd_ne (fun e => by rw [e, hl] at hb; cases hb)]
        exact sm3 _ _ (smA _ _ hb)
    · rw [new_upd hGl, List.map_append]
      refine DReps.snoc (rep.mono (new_r (sm2.trans sm3))) ⟨t, _, rfl, new_at hGt, _, _, rfl, rfl, _, _, rfl, ?_, _, _, rfl, ho _, rfl⟩
      show V.int (m % 3) = V.int ((m % 3).toNat : Nat)
      congr 1
      omega
    · intro p hp
      rcases List.mem_append.mp hp with hp | hp
      · exact hps p hp
      · rw [List.mem_singleton.mp hp]
        exact ⟨hnm, hok⟩
  · obtain ⟨x1, y1, z1, u1, ps, zs, rfl, sm, hll, rep, hpl, hps⟩ := pv
    refine ⟨_, rfl, (by show 2 ≤ sizeLine; decide), fun t ht => ?_⟩
    have sm3 := same_new ht (.tup [.str "row", .ref l])
    have hn : H t = none := dom_none (Dom.of sm) ht
    refine q ps _ _ (sm.trans sm3) (by omega) hps ⟨t, _, rfl, new_at hn, _, _, rfl, rfl, _, _, rfl, ⟨l, zs, rfl, newOf_at hl (sm3 _ _ hll), ?_⟩, rfl⟩
    exact (rep.mono (new_l (Dom.of (same_new hl _)))).mono (new_r sm3)
end
end K19
set_option Elab.async false
set_option linter.all false
set_option maxRecDepth 100000
set_option maxHeartbeats 4000000
namespace K19
open PySem L2 Rg
section
variable {P : Program} {w : World} {K : PySem.W.Frag} {mg : Str → Option Value} {base : Heap} {f : Addr} {fd : FuncData}
def spRecord : Sp := fun vs H Q _ => ∃ (n : Int) (a : Addr) (ns : List Str), vs = [.int n, .ref a] ∧ 0 ≤ n ∧ H a = some (.lst (ns.map V.str)) ∧ ns ≠ [] ∧ ns.length ≤ 100 ∧
  ∀ (fs : List (Str × Bool × Str)) (op : Bool) (v : V) (H' : Hp), Same H H' → fs.length ≤ 3 → (fs.map (·.1)).Nodup → (∀ p ∈ fs, p.2.2 ∈ ns) → DRep (newOf H H') (Fm.rcd fs op).dt v → Q v H'
theorem sc_l_record_form : FnScope ["_law_number", "_law_names", "_law_fields", "_law_k", "_law_rest"] ["_law_number", "_law_names"] (defScope s_l_record_form) := ⟨rfl, rfl, rfl, by decide +kernel, rfl, by decide +kernel, by decide +kernel⟩
theorem ok_l_record_form (F : Fun K "_law_record_form" "_law_record_form" s_l_record_form f fd) (B : Blt mg) (h_l_mixed : Has P w K mg base "_law_mixed" 1 ["_law_number", "_law_k"] spMixed) (h_l_word_by : Has P w K mg base "_law_word_by" 1 ["_law_number"] spWord) : FnOk P w K mg base CX0 2 f fd ["_law_number", "_law_names"] spRecord := by
  refine F.ok sc_l_record_form (fun vs H Q E h => ?_) (fun cdv A outer s H vs Q E hr h => ?_)
  · obtain ⟨n, a, ns, rfl, _⟩ := h
    rfl
  obtain ⟨n, a, ns, rfl, h0, hns, hne, hnl, q⟩ := h
  have hpos : 0 < ns.length := List.length_pos_iff.mpr hne
  have hu := hu_of hr
  have nd := sc_l_record_form.nd
  refine run_of (qss_cons (qs_set (i := 2) nd rfl (Or.inl rfl) (qe_lst qa_nil))
    (qss_cons (qs_for PassesOwn.never rfl (qi_range1 rfl B.range (qa_c (qe_op k_mod (qv 0) qe_int) qa_nil)) (qg_name (i := 3) nd rfl (Or.inl rfl)) (qss_cons (qs_set (i := 4) nd rfl (Or.inl rfl) (qe_call h_l_mixed hr (by decide) rfl (qa_c (qv 0) (qa_c (qe_op (k_add K) qe_int (qv 3)) qa_nil))))
    (qss_one (qs_expr (qe_cM K PySem.F.plainAttrs_list PySem.F.slot_list_append PySem.F.type_list_append k_append (qv 2) (qa_c (qe_tup (qa_c (qe_call h_l_word_by hr (by decide) rfl (qa_c (qe_op (k_add K) (qe_op k_fdiv (qv 0) qe_int) (qv 3)) qa_nil)) (qa_c (qe_cmpR k_eq (qe_op k_mod (qv 4) qe_int) qe_int rfl) (qa_c (qe_ix K hu (qv 1) (qe_op k_mod (qe_op k_fdiv (qv 4) qe_int) (qe_cB (k_len K) rfl B.len PySem.boot_len (qa_c (qv 1) qa_nil))) (fun _ _ => rfl)) qa_nil)))) qa_nil))))))
    (qss_one (qs_ret (qe_tup (qa_c qe_str (qa_c (qv 2) (qa_c (qe_cmpR k_eq (qe_op k_mod (qe_op k_fdiv (qv 0) qe_int) qe_int) qe_int rfl) qa_nil)))))))) ?_
  have hGl : ∀ l, (upd H l (.lst [])) l ≠ none := fun l => by rw [upd_same]; simp
  refine ⟨Nat.zero_le _, fun l hl => ⟨_, rfl, _, _, rfl, rfl, (by show (0 : Int) < 4; decide), _, rfl, by omega, by omega, for_w w_range (fun i σ H' => ∃ (x y : Option V) (fs : List (Str × Bool × Str)) (zs : List V), σ = [some (.int n), some (.ref a), some (.ref l), x, y] ∧ Same H H' ∧ H' l = some (.lst zs) ∧ DReps (newOf (upd H l (.lst [])) H') (fs.map fieldD) zs ∧ fs.map (·.1) = (List.range i).map (fun k : Nat => word5 (n / 4 + (k : Int))) ∧ ∀ p ∈ fs, p.2.2 ∈ ns)
    ⟨_, _, [], [], rfl, same_new hl _, upd_same, rfl, rfl, fun p hp => absurd hp (by simp)⟩ (fun _ _ _ _ _ => trivial) (fun i x σ H1 H2 hi pv y => ?_) (fun σ H' pv => ?_)⟩⟩
  · obtain ⟨x1, y1, fs, zs, rfl, sm, hll, rep, hkeys, hps⟩ := pv
    obtain ⟨rfl, rfl⟩ := y
    have hi' : i < 4 := by omega
    refine ⟨_, rfl, _, rfl, add_i ⟨n, _, rfl, by omega, by omega, fun m m0 m1 => ?_⟩⟩
    have hlen : (ns.map V.str).length = ns.length := List.length_map _
    refine ⟨_, rfl, .inl ⟨rfl, _, SqL.of hll⟩, _, rfl, _, _, rfl, rfl, ⟨by decide, by decide⟩, _, rfl, add_i ⟨_, rfl, fun H3 sm3 => ⟨_, rfl, _, _, rfl, rfl, (by show (0 : Int) < 2; decide), rfl, _, rfl, _, rfl, _, _, rfl, rfl, ⟨by decide, by decide⟩, _, rfl, len_l (SqL.of (sm3 _ _ (sm _ _ hns))) ⟨_, _, rfl, rfl, (by show (0 : Int) < ((ns.map V.str).length : Int); omega), ?_⟩⟩⟩⟩
    have hlb := Int.emod_nonneg (m / 2) (show ((ns.map V.str).length : Int) ≠ 0 by omega)
    have hub := Int.emod_lt_of_pos (m / 2) (show (0 : Int) < ((ns.map V.str).length : Int) by omega)
    refine name_at (sm3 _ _ (sm _ _ hns)) hlb (by omega) fun nm hnm => ⟨(by show 3 ≤ sizeLine; decide), fun t ht => ?_⟩
    have sm4 := same_new ht (.tup [.str (word5 (n / 4 + (0 + (i : Int)))), .bl (decide (V.int (m % 2) = V.int 1)), .str nm])
    have hGt : (upd H l (.lst [])) t = none := by
      have htl : t ≠ l := fun e => by rw [e, sm3 _ _ hll] at ht; cases ht
      rw [upd_ne htl]
      exact dom_none (Dom.of (sm.trans sm3)) ht
    have hfl : fs.length = i := by
      have := congrArg List.length hkeys
      rw [List.length_map, List.length_map, List.length_range] at this
      exact this
    refine ⟨l, _, _, rfl, rfl, sm4 _ _ (sm3 _ _ hll), small1000 (by rw [rep.len, List.length_map]; omega), ?_⟩
    refine ⟨_, _, fs ++ [(word5 (n / 4 + (i : Int)), decide (V.int (m % 2) = V.int 1), nm)], _, rfl, ?_, upd_same, ?_, ?_, ?_⟩
    · exact fun b ob hb => by
        rw [upd_ne (fun e => by rw [e, hl] at hb; cases hb)]
        exact sm4 _ _ (sm3 _ _ (sm _ _ hb))
    · rw [new_upd (hGl l), List.map_append]
      refine DReps.snoc (rep.mono (new_r (sm3.trans sm4))) ⟨t, _, rfl, new_at hGt, _, _, rfl, ?_, _, _, rfl, rfl, _, _, rfl, rfl, rfl⟩
      show V.str _ = V.str _
      rw [Int.zero_add]
    · rw [List.map_append, hkeys, List.range_succ, List.map_append]
      rfl
    · intro p hp
      rcases List.mem_append.mp hp with hp | hp
      · exact hps p hp
      · rw [List.mem_singleton.mp hp]
        exact hnm
  · obtain ⟨x1, y1, fs, zs, rfl, sm, hll, rep, hkeys, hps⟩ := pv
    refine ⟨_, rfl, _, rfl, _, _, rfl, rfl, ⟨by decide, by decide⟩, _, _, rfl, rfl, (by show (0 : Int) < 2; decide), rfl, (by show 3 ≤ sizeLine; decide), fun t ht => ?_⟩
    have sm3 := same_new ht (.tup [.str "record", .ref l, .bl (decide (V.int (n / 20 % 2) = V.int 1))])
    have hn : H t = none := dom_none (Dom.of sm) ht
    have hc4 : (n % 4).toNat ≤ 3 := by omega
    have hfl : fs.length = (n % 4).toNat := by
      have := congrArg List.length hkeys
      rw [List.length_map, List.length_map, List.length_range] at this
      exact this
    refine q fs _ _ _ (sm.trans sm3) (by omega) ?_ hps ⟨t, _, rfl, new_at hn, _, _, rfl, rfl, _, _, rfl, ⟨l, zs, rfl, newOf_at hl (sm3 _ _ hll), ?_⟩, _, _, rfl, rfl, rfl⟩
    · rw [hkeys]
      refine List.nodup_iff_pairwise_ne.mpr (List.pairwise_map.mpr (List.Pairwise.imp_of_mem (fun {i j} hi hj hne e => ?_) (List.nodup_iff_pairwise_ne.mp List.nodup_range)))
      have hi := List.mem_range.mp hi
      have hj := List.mem_range.mp hj
      have := word5_inj e
      omega
    · exact (rep.mono (new_l (Dom.of (same_new hl _)))).mono (new_r sm3)
/-- what leans on some of these -/
def Leaning (ns : List Str) : Fm → Prop
  | .many _ us => us ≠ [] ∧ us.length ≤ 3 ∧ ∀ u ∈ us, u ∈ ns
  | .nott n => n ∈ ns
  | .look _ _ a b => a ∈ ns ∧ b ∈ ns
  | _ => False
theorem Leaning.ok {ns : List Str} {F : Fm} (h : Leaning ns F) : F.Ok ∧ ∀ m ∈ F.leans, m ∈ ns := by
  cases F with
  | many k us => exact ⟨Nat.le_trans h.2.1 (by decide), h.2.2⟩
  | nott n => exact ⟨trivial, fun m hm => by rw [List.mem_singleton.mp hm]; exact h⟩
  | look f w a b =>
    refine ⟨trivial, fun m hm => ?_⟩
    rcases List.mem_cons.mp hm with rfl | hm
    · exact h.1
    · rw [List.mem_singleton.mp hm]; exact h.2
  | any => exact h.elim
  | num lo hi => exact h.elim
  | wrd ws => exact h.elim
  | row ps => exact h.elim
  | rcd fs op => exact h.elim
def spLeaning : Sp := fun vs H Q _ => ∃ (n : Int) (a : Addr) (ns : List Str), vs = [.int n, .ref a] ∧ 0 ≤ n ∧ H a = some (.lst (ns.map V.str)) ∧ ns ≠ [] ∧ ns.length ≤ 100 ∧
  ∀ (F : Fm) (v : V) (H' : Hp), Same H H' → Leaning ns F → DRep (newOf H H') F.dt v → Q v H'
theorem sc_l_leaning_form : FnScope ["_law_number", "_law_ahead", "_law_some"] ["_law_number", "_law_ahead"] (defScope s_l_leaning_form) := ⟨rfl, rfl, rfl, by decide +kernel, rfl, by decide +kernel, by decide +kernel⟩
theorem ok_l_leaning_form (F : Fun K "_law_leaning_form" "_law_leaning_form" s_l_leaning_form f fd) (B : Blt mg) (h_l_mixed : Has P w K mg base "_law_mixed" 1 ["_law_number", "_law_k"] spMixed) (h_l_word_by : Has P w K mg base "_law_word_by" 1 ["_law_number"] spWord) : FnOk P w K mg base CX0 2 f fd ["_law_number", "_law_ahead"] spLeaning := by
  refine F.ok sc_l_leaning_form (fun vs H Q E h => ?_) (fun cdv A outer s H vs Q E hr h => ?_)
  · obtain ⟨n, a, ns, rfl, _⟩ := h
    rfl
  obtain ⟨n, a, ns, rfl, h0, hns, hne, hnl, q⟩ := h
  have hpos : 0 < ns.length := List.length_pos_iff.mpr hne
  have hu := hu_of hr
  have nd := sc_l_leaning_form.nd
  refine run_of (qss_cons (qs_c1 (n := 2) nd rfl (Or.inl rfl) rfl (.inl rfl) (qi_range1 rfl B.range (qa_c (qe_op (k_add K) qe_int (qe_op k_mod (qe_op k_fdiv (qv 0) qe_int) qe_int)) qa_nil)) (LcStG.ok (sc := defScope s_l_leaning_form) (N := ["_law_number", "_law_ahead", "_law_some"]) (fr := [("_law_ahead", 1), ("_law_number", 0)]) ⟨by decide +kernel, rfl, by decide +kernel, by decide +kernel, by decide +kernel, by decide +kernel, by decide +kernel⟩ rfl rfl) (fun _ _ _ _ => qts_nil) (fun _ _ _ _ => (qe_ix K hu (qv 1) (qe_op k_mod (qe_call h_l_mixed hr (by decide) rfl (qa_c (qv 2) (qa_c (qe_op (k_add K) qe_int (qv 0)) qa_nil))) (qe_cB (k_len K) rfl B.len PySem.boot_len (qa_c (qv 1) qa_nil))) (fun _ _ => rfl))))
    (qss_cons (qs_if (qt_cmpR k_lt (qe_op k_mod (qv 0) qe_int) qe_int rfl) (qss_one (qs_ret (qe_tup (qa_c (qe_ix K hu (qe_lst (qa_c qe_str (qa_c qe_str (qa_c qe_str qa_nil)))) (qe_op k_mod (qv 0) qe_int) (fun _ _ => rfl)) (qa_c (qv 2) qa_nil))))) qss_nil)
    (qss_cons (qs_if (qt_cmpR k_eq (qe_op k_mod (qv 0) qe_int) qe_int rfl) (qss_one (qs_ret (qe_tup (qa_c qe_str (qa_c (qe_ix K hu (qv 2) qe_int (fun _ _ => rfl)) qa_nil))))) qss_nil)
    (qss_one (qs_ret (qe_tup (qa_c qe_str (qa_c (qe_call h_l_word_by hr (by decide) rfl (qa_c (qe_op k_fdiv (qv 0) qe_int) qa_nil)) (qa_c (qe_call h_l_word_by hr (by decide) rfl (qa_c (qe_op k_fdiv (qv 0) qe_int) qa_nil)) (qa_c (qe_ix K hu (qv 2) qe_int (fun _ _ => rfl)) (qa_c (qe_ix K hu (qv 2) (qe_op k_sub (qe_cB (k_len K) rfl B.len PySem.boot_len (qa_c (qv 2) qa_nil)) qe_int) (fun _ _ => rfl)) qa_nil))))))))))) ?_
  have hlen : (ns.map V.str).length = ns.length := List.length_map _
  refine ⟨_, rfl, _, _, rfl, rfl, ⟨by decide, by decide⟩, _, _, rfl, rfl, (by show (0 : Int) < 3; decide), add_i ⟨_, rfl, by omega, by omega, lc_w0 w_range (fun i ys H' => H' = H ∧ ∃ us : List Str, ys = us.map V.str ∧ us.length = i ∧ ∀ u ∈ us, u ∈ ns) (small (by omega)) ⟨rfl, [], rfl, rfl, fun u hu => absurd hu (by simp)⟩ (fun i ys H' hi p => ?_) (fun i x ys H1 H2 hi p y => ?_) (fun ys H' p l hl => ?_)⟩⟩
  · obtain ⟨rfl, us, rfl, hl, _⟩ := p
    exact ⟨trivial, by rw [List.length_map, hl]; exact Nat.le_refl _⟩
  · obtain ⟨rfl, us, rfl, hl, hus⟩ := p
    obtain ⟨rfl, rfl⟩ := y
    refine ⟨[_], rfl, rfl, _, rfl, _, rfl, _, rfl, add_i ⟨n, _, rfl, by omega, by omega, fun m m0 m1 => ⟨_, rfl, len_l (SqL.of hns) ⟨_, _, rfl, rfl, (by show (0 : Int) < ((ns.map V.str).length : Int); omega), ?_⟩⟩⟩⟩
    have hlb := Int.emod_nonneg m (show ((ns.map V.str).length : Int) ≠ 0 by omega)
    have hub := Int.emod_lt_of_pos m (show (0 : Int) < ((ns.map V.str).length : Int) by omega)
    refine name_at hns hlb (by omega) fun nm hnm => ⟨rfl, us ++ [nm], by rw [List.map_append]; rfl, by rw [List.length_append, hl]; rfl, fun u hu => ?_⟩
    rcases List.mem_append.mp hu with hu | hu
    · exact hus u hu
    · rw [List.mem_singleton.mp hu]; exact hnm
  · obtain ⟨rfl, us, rfl, hul, hus⟩ := p
    have hul1 : 1 ≤ us.length ∧ us.length ≤ 3 := by omega
    have sm1 := same_new hl (.lst (us.map V.str))
    have hune : us ≠ [] := fun e => by rw [e] at hul1; exact absurd hul1.1 (by decide)
    have hulm : (us.map V.str).length = us.length := List.length_map _
    refine ⟨_, rfl, _, _, rfl, rfl, (by show (0 : Int) < 5; decide), _, _, rfl, rfl, _, rfl, ite2 (fun h => ?_) (fun h => ?_)⟩
    · have h3 : n % 5 < 3 := of_decide_eq_true h
      refine ⟨(by show 3 ≤ sizeLine; decide), fun p hp => ⟨_, rfl, _, _, rfl, rfl, (by show (0 : Int) < 5; decide), pick (by omega) (by show _ < (3 : Int); omega) fun v _ hv => ⟨_, rfl, (by show 2 ≤ sizeLine; decide), fun t ht => ?_⟩⟩⟩
      have hk : ∃ k : Fin 3, v = .str (manyS k) := by
        rcases List.mem_cons.mp hv with rfl | hv
        · exact ⟨0, rfl⟩
        · rcases List.mem_cons.mp hv with rfl | hv
          · exact ⟨1, rfl⟩
          · rw [List.mem_singleton.mp hv]; exact ⟨2, rfl⟩
      obtain ⟨k, rfl⟩ := hk
      have sm2 := (same_new hp (.lst [.str "all", .str "some", .str "one"])).trans (same_new ht (.tup [.str (manyS k), .ref l]))
      have hn : H' t = none := dom_none (Dom.of (sm1.trans (same_new hp _))) ht
      exact q (.many k us) _ _ (sm1.trans sm2) ⟨hune, hul1.2, hus⟩ ⟨t, _, rfl, new_at hn, _, _, rfl, rfl, _, _, rfl, ⟨l, _, rfl, newOf_at hl (sm2 _ _ upd_same), DReps.strs us⟩, rfl⟩
    refine ⟨_, rfl, _, _, rfl, rfl, (by show (0 : Int) < 5; decide), rfl, _, rfl, ite2 (fun h => ?_) (fun h => ?_)⟩
    · refine ⟨_, rfl, name_at upd_same (by decide) (by omega) fun nm hnm => ⟨(by show 2 ≤ sizeLine; decide), fun t ht => ?_⟩⟩
      have hn : H' t = none := dom_none (Dom.of sm1) ht
      exact q (.nott nm) _ _ (sm1.trans (same_new ht _)) (hus nm hnm) ⟨t, _, rfl, new_at hn, _, _, rfl, rfl, _, _, rfl, rfl, rfl⟩
    refine ⟨_, rfl, _, _, rfl, rfl, ⟨by decide, by decide⟩, _, rfl, fun H3 sm3 => ⟨_, rfl, _, _, rfl, rfl, ⟨by decide, by decide⟩, _, rfl, fun H4 sm4 => ?_⟩⟩
    have hl4 : H4 l = some (.lst (us.map V.str)) := sm4 _ _ (sm3 _ _ upd_same)
    refine ⟨_, rfl, name_at hl4 (by decide) (by omega) fun n1 hn1 => ⟨_, rfl, _, rfl, len_l (SqL.of hl4) ⟨_, _, rfl, rfl, name_at hl4 (by omega) (by omega) fun n2 hn2 => ⟨(by show 5 ≤ sizeLine; decide), fun t ht => ?_⟩⟩⟩⟩
    have smA := (sm1.trans sm3).trans sm4
    have hn : H' t = none := dom_none (Dom.of smA) ht
    exact q (.look _ _ n1 n2) _ _ (smA.trans (same_new ht _)) ⟨hus _ hn1, hus _ hn2⟩ ⟨t, _, rfl, new_at hn, _, _, rfl, rfl, _, _, rfl, rfl, _, _, rfl, rfl, _, _, rfl, rfl, _, _, rfl, rfl, rfl⟩
end
end K19
set_option Elab.async false
set_option linter.all false
set_option maxRecDepth 100000
set_option maxHeartbeats 4000000
namespace K19
open PySem L2 Rg
section
variable {P : Program} {w : World} {K : PySem.W.Frag} {mg : Str → Option Value} {base : Heap} {f : Addr} {fd : FuncData}
/-- the eight names -/
def name8 (n : Int) : Str := (["a", "b", "c", "ab", "ba", "d", "bb", "zzzzzzzz"] : List Str).getD (n % 8).toNat "a"
theorem name8_at (n : Int) : atI ((["a", "b", "c", "ab", "ba", "d", "bb", "zzzzzzzz"] : List Str).map V.str) (n % 8) = some (.str (name8 n)) := by
  have h : n % 8 = ((n % 8).toNat : Int) := by omega
  have hl : (n % 8).toNat < (["a", "b", "c", "ab", "ba", "d", "bb", "zzzzzzzz"] : List Str).length := by show _ < 8; omega
  rw [h]
  refine atI_nat ?_
  rw [List.getElem?_map]
  unfold name8
  rw [List.getD_eq_getElem?_getD, List.getElem?_eq_getElem hl]
  rfl
theorem name8_mem (n : Int) : name8 n ∈ (["a", "b", "c", "ab", "ba", "d", "bb", "zzzzzzzz"] : List Str) := by
  unfold name8
  have hl : (n % 8).toNat < (["a", "b", "c", "ab", "ba", "d", "bb", "zzzzzzzz"] : List Str).length := by show _ < 8; omega
  rw [List.getD_eq_getElem?_getD, List.getElem?_eq_getElem hl]
  exact List.getElem_mem hl
theorem name8_inj {a b : Int} (h : name8 a = name8 b) : a % 8 = b % 8 := by
  have key : ∀ i j : Fin 8, (["a", "b", "c", "ab", "ba", "d", "bb", "zzzzzzzz"] : List Str).getD i.1 "a" = (["a", "b", "c", "ab", "ba", "d", "bb", "zzzzzzzz"] : List Str).getD j.1 "a" → i = j := by decide +kernel
  have ha : (a % 8).toNat < 8 := by omega
  have hb : (b % 8).toNat < 8 := by omega
  have z := key ⟨_, ha⟩ ⟨_, hb⟩ h
  have z' : (a % 8).toNat = (b % 8).toNat := congrArg Fin.val z
  omega
def spName : Sp := fun vs H Q _ => ∃ n k : Int, vs = [.int n, .int k] ∧ ∀ H' : Hp, Same H H' → Q (.str (name8 (n + k))) H'
theorem sc_l_name_by : FnScope ["_law_cell", "_law_k"] ["_law_cell", "_law_k"] (defScope s_l_name_by) := ⟨rfl, rfl, rfl, by decide +kernel, rfl, by decide +kernel, by decide +kernel⟩
theorem ok_l_name_by (F : Fun K "_law_name_by" "_law_name_by" s_l_name_by f fd) : FnOk P w K mg base CX0 1 f fd ["_law_cell", "_law_k"] spName := by
  refine F.ok sc_l_name_by (fun vs H Q E h => ?_) (fun cdv A outer s H vs Q E hr h => ?_)
  · obtain ⟨n, k, rfl, _⟩ := h
    rfl
  obtain ⟨n, k, rfl, q⟩ := h
  have hu := hu_of hr
  refine run_of (qss_one (qs_ret (qe_ix K hu (qe_lst (qa_c qe_str (qa_c qe_str (qa_c qe_str (qa_c qe_str (qa_c qe_str (qa_c qe_str (qa_c qe_str (qa_c qe_str qa_nil))))))))) (qe_op k_mod (qe_op (k_add K) (qv 0) (qv 1)) qe_int) (fun _ _ => rfl)))) ?_
  refine ⟨(by show 8 ≤ sizeLine; decide), fun p hp => ?_⟩
  exact ⟨_, rfl, _, rfl, add_i ⟨_, _, rfl, rfl, (by show (0 : Int) < 8; decide), ix_l (SqL.of upd_same) (name8_at _) (q _ (same_new hp _))⟩⟩
/-- the names in order -/
def names8 (s : Int) (c : Nat) : List Str := (List.range c).map fun k : Nat => name8 (s + (k : Int))
theorem names8_nodup (s : Int) {c : Nat} (h : c ≤ 8) : (names8 s c).Nodup := by
  refine List.nodup_iff_pairwise_ne.mpr (List.pairwise_map.mpr (List.Pairwise.imp_of_mem (fun {i j} hi hj hne e => ?_) (List.nodup_iff_pairwise_ne.mp List.nodup_range)))
  have hi := List.mem_range.mp hi
  have hj := List.mem_range.mp hj
  have := name8_inj e
  omega
theorem names8_take (s : Int) {i c : Nat} (h : i ≤ c) : (names8 s c).take i = names8 s i := by
  unfold names8
  rw [← List.map_take, List.take_range, Nat.min_eq_left h]
theorem names8_succ (s : Int) (i : Nat) : names8 s (i + 1) = names8 s i ++ [name8 (s + (i : Int))] := by
  unfold names8
  rw [List.range_succ, List.map_append]
  rfl
theorem names8_len (s : Int) (c : Nat) : (names8 s c).length = c := by unfold names8; rw [List.length_map, List.length_range]
theorem cut_nat (xs : List V) (i : Nat) : cutV xs none (some (i : Int)) = xs.take i := by
  unfold cutV
  rw [HT.sIx_none, HT.sIx_nat, List.drop_zero, Nat.sub_zero]
  rcases Nat.le_total i xs.length with h | h
  · rw [Nat.min_eq_left h]
  · rw [Nat.min_eq_right h, List.take_of_length_le (Nat.le_refl _), List.take_of_length_le h]
theorem cut_from (xs : List V) (i : Nat) : cutV xs (some (i : Int)) none = xs.drop i := by
  unfold cutV
  rw [HT.sIx_none, HT.sIx_nat]
  rcases Nat.le_total i xs.length with h | h
  · rw [Nat.min_eq_left h, List.take_of_length_le (by rw [List.length_drop]; exact Nat.le_refl _)]
  · rw [Nat.min_eq_right h, Nat.sub_self, List.take_zero, List.drop_of_length_le h]
theorem plain_ok {F : Fm} (h : FmPlain F) : F.Ok ∧ F.leans = [] := by
  cases F with
  | any => exact ⟨trivial, rfl⟩
  | num lo hi => exact ⟨trivial, rfl⟩
  | wrd ws => exact ⟨Nat.le_trans (show ws.length ≤ 5 from h) (by decide), rfl⟩
  | row ps => exact h.elim
  | rcd fs op => exact h.elim
  | many k ns => exact h.elim
  | nott n => exact h.elim
  | look f w a b => exact h.elim
def spFormsBy (K : PySem.W.Frag) : Sp := fun vs H Q _ => ∃ (a : Addr) (ns : List Int) (c : Nat) (sh : Int), vs = [.ref a, .int c, .int sh] ∧ SqL K H a (ns.map V.int) ∧ 2 ≤ c ∧ c ≤ 6 ∧ 0 ≤ sh ∧
  ∀ (fs : List (Str × Fm)) (rk : Str → Nat) (v : V) (H' : Hp), Same H H' → Forms fs rk → fs.length = c → (∀ n ∈ fs.map (·.1), n ∈ (["a", "b", "c", "ab", "ba", "d", "bb", "zzzzzzzz"] : List Str)) → DRep (newOf H H') (formsD fs) v → Q v H'
theorem sc_l_forms_by : FnScope ["_law_cells", "_law_count", "_law_shift", "_law_names", "_law_forms", "_law_k", "_law_number", "_law_form", "_law_at"] ["_law_cells", "_law_count", "_law_shift"] (defScope s_l_forms_by) := ⟨rfl, rfl, rfl, by decide +kernel, rfl, by decide +kernel, by decide +kernel⟩
theorem ok_l_forms_by (F : Fun K "_law_forms_by" "_law_forms_by" s_l_forms_by f fd) (B : Blt mg) (h_l_mixed : Has P w K mg base "_law_mixed" 1 ["_law_number", "_law_k"] spMixed) (h_l_cell_at : Has P w K mg base "_law_cell_at" 1 ["_law_script", "_law_k"] (spCell K)) (h_l_name_by : Has P w K mg base "_law_name_by" 1 ["_law_cell", "_law_k"] spName)
    (h_l_plain_form : Has P w K mg base "_law_plain_form" 2 ["_law_number"] spPlain) (h_l_row_form : Has P w K mg base "_law_row_form" 2 ["_law_number", "_law_names"] spRow) (h_l_record_form : Has P w K mg base "_law_record_form" 2 ["_law_number", "_law_names"] spRecord) (h_l_leaning_form : Has P w K mg base "_law_leaning_form" 2 ["_law_number", "_law_ahead"] spLeaning) :
    FnOk P w K mg base CX0 3 f fd ["_law_cells", "_law_count", "_law_shift"] (spFormsBy K) := by
  refine F.ok sc_l_forms_by (fun vs H Q E h => ?_) (fun cdv A outer s H vs Q E hr h => ?_)
  · obtain ⟨a, ns, c, sh, rfl, _⟩ := h
    rfl
  obtain ⟨a, ns, c, sh, rfl, hS, c2, c6, hsh, q⟩ := h
  have hu := hu_of hr
  have nd := sc_l_forms_by.nd
  refine run_of (qss_cons (qs_c1 (n := 3) nd rfl (Or.inl rfl) rfl (.inl rfl) (qi_range1 rfl B.range (qa_c (qv 1) qa_nil)) (LcStG.ok (sc := defScope s_l_forms_by) (N := ["_law_cells", "_law_count", "_law_shift", "_law_names", "_law_forms", "_law_k", "_law_number", "_law_form", "_law_at"]) (fr := [("_law_shift", 2)]) ⟨by decide +kernel, rfl, by decide +kernel, by decide +kernel, by decide +kernel, by decide +kernel, by decide +kernel⟩ rfl rfl) (fun _ _ _ _ => qts_nil) (fun _ _ _ _ => (qe_call h_l_name_by hr (by decide) rfl (qa_c (qv 1) (qa_c (qv 0) qa_nil)))))
    (qss_cons (qs_set (i := 4) nd rfl (Or.inl rfl) (qe_lst qa_nil))
    (qss_cons (qs_for PassesOwn.never rfl (qi_range1 rfl B.range (qa_c (qv 1) qa_nil)) (qg_name (i := 5) nd rfl (Or.inl rfl)) (qss_cons (qs_set (i := 6) nd rfl (Or.inl rfl) (qe_call h_l_mixed hr (by decide) rfl (qa_c (qe_call h_l_cell_at hr (by decide) rfl (qa_c (qv 0) (qa_c (qv 5) qa_nil))) (qa_c (qv 5) qa_nil))))
    (qss_cons (qs_set (i := 7) nd rfl (Or.inl rfl) (qe_call h_l_plain_form hr (by decide) rfl (qa_c (qe_op k_fdiv (qv 6) qe_int) qa_nil)))
    (qss_cut (qs_if (qt_cmpR k_lt (qe_op k_mod (qv 6) qe_int) qe_int rfl) (qss_one (qs_set (i := 7) nd rfl (Or.inl rfl) (qe_call h_l_row_form hr (by decide) rfl (qa_c (qe_op k_fdiv (qv 6) qe_int) (qa_c (qv 3) qa_nil))))) (qss_one (qs_if (qt_cmpR k_lt (qe_op k_mod (qv 6) qe_int) qe_int rfl) (qss_one (qs_set (i := 7) nd rfl (Or.inl rfl) (qe_call h_l_record_form hr (by decide) rfl (qa_c (qe_op k_fdiv (qv 6) qe_int) (qa_c (qv 3) qa_nil))))) (qss_one (qs_if (qw_pt (qw_and (qt_cmpR k_lt (qe_op k_mod (qv 6) qe_int) qe_int rfl) (qw_and1 (qt_cmpR k_gt (qv 5) qe_int rfl)))) (qss_one (qs_set (i := 7) nd rfl (Or.inl rfl) (qe_call h_l_leaning_form hr (by decide) rfl (qa_c (qe_op k_fdiv (qv 6) qe_int) (qa_c (qe_slice K (qv 3) qo_none (qo_some (qv 5))) qa_nil))))) qss_nil)))))
    (qss_one (qs_expr (qe_cM K PySem.F.plainAttrs_list PySem.F.slot_list_append PySem.F.type_list_append k_append (qv 4) (qa_c (qe_tup (qa_c (qe_ix K hu (qv 3) (qv 5) (fun _ _ => rfl)) (qa_c (qv 7) qa_nil))) qa_nil))))))))
    (qss_cons (qs_set (i := 8) nd rfl (Or.inl rfl) (qe_op k_mod (qe_op k_fdiv (qv 2) qe_int) (qv 1)))
    (qss_one (qs_ret (qe_op (k_add K) (qe_slice K (qv 4) (qo_some (qv 8)) qo_none) (qe_slice K (qv 4) qo_none (qo_some (qv 8)))))))))) ?_
  refine ⟨_, rfl, _, rfl, by omega, by omega, lc_w0 w_range (fun i ys H' => Same H H' ∧ ys = (names8 sh i).map V.str) (small (by omega)) ⟨Same.refl _, rfl⟩ (fun i ys H' hi p => ?_) (fun i x ys H1 H2 hi p y => ?_) (fun ys H' p ln hln => ?_)⟩
  · obtain ⟨sm, rfl⟩ := p
    exact ⟨trivial, by rw [List.length_map, names8_len]; exact Nat.le_refl _⟩
  · obtain ⟨sm, rfl⟩ := p
    obtain ⟨rfl, rfl⟩ := y
    refine ⟨[_], rfl, rfl, _, rfl, _, rfl, sh, _, rfl, fun H3 sm3 => ⟨sm.trans sm3, ?_⟩⟩
    rw [names8_succ, List.map_append, Int.zero_add]
    rfl
  obtain ⟨sm, rfl⟩ := p
  rw [show ((c : Int)).toNat = c from by omega]
  have sm1 := sm.trans (same_new hln (.lst ((names8 sh c).map V.str)))
  refine ⟨Nat.zero_le _, fun lf hlf => ?_⟩
  have sm2 := sm1.trans (same_new hlf (.lst []))
  have hlnf : ln ≠ lf := fun e => by rw [← e, upd_same] at hlf; cases hlf
  have hHln : H ln = none := dom_none (Dom.of sm) hln
  have hHlf : H lf = none := dom_none (Dom.of sm1) hlf
  have hG : (upd H lf (.lst [])) lf ≠ none := by rw [upd_same]; simp
  refine ⟨_, rfl, _, rfl, by omega, by omega, for_w w_range (fun i σ H3 => ∃ (x y z u : Option V) (fs : List (Str × Fm)) (rk : Str → Nat) (zs : List V), σ = [some (.ref a), some (.int c), some (.int sh), some (.ref ln), some (.ref lf), x, y, z, u] ∧ Same H H3 ∧ H3 ln = some (.lst ((names8 sh c).map V.str)) ∧ H3 lf = some (.lst zs) ∧ DReps (newOf (upd H lf (.lst [])) H3) (fs.map pairD) zs ∧ Forms fs rk ∧ fs.map (·.1) = names8 sh i)
    ⟨_, _, _, _, [], fun _ => 0, [], rfl, sm2, by rw [upd_ne hlnf, upd_same], upd_same, rfl, Forms.nil _, rfl⟩ (fun _ _ _ _ _ => trivial) (fun i x σ H3 H4 hi pv y => ?_) (fun σ H3 pv => ?_)⟩
  · obtain ⟨x1, y1, z1, u1, fs, rk, zs, rfl, s3, hn3, hf3, rep, fo, hfn⟩ := pv
    obtain ⟨rfl, rfl⟩ := y
    have hi' : i < c := by omega
    have hfl : fs.length = i := by rw [← List.length_map (as := fs) (·.1), hfn, names8_len]
    refine ⟨_, rfl, _, rfl, a, ns, _, rfl, by omega, s3.seq hS, fun ce => ⟨_, rfl, ce, _, rfl, by omega, by omega, fun m m0 m1 => ?_⟩⟩
    refine ⟨_, rfl, _, _, rfl, rfl, ⟨by decide, by decide⟩, _, rfl, by omega, fun F0 v0 H5 sm5 pl0 rep0 => ?_⟩
    have smA := s3.trans sm5
    have hne : names8 sh c ≠ [] := fun e => by
      have := congrArg List.length e
      rw [names8_len] at this
      exact absurd this (by show ¬ c = 0; omega)
    have hcl : (names8 sh c).length ≤ 100 := by rw [names8_len]; omega
    -- what the form is, once made
    refine ⟨fun σ6 H6 => ∃ (F6 : Fm) (v6 : V), σ6 = [some (.ref a), some (.int c), some (.int sh), some (.ref ln), some (.ref lf), some (.int (0 + (i : Int))), some (.int m), some v6, u1] ∧ Same H4 H6 ∧ DRep (newOf H4 H6) F6.dt v6 ∧ F6.Ok ∧ ∀ n ∈ F6.leans, n ∈ names8 sh i, ?_, ?_⟩
    · refine ⟨_, rfl, _, _, rfl, rfl, (by show (0 : Int) < 8; decide), _, _, rfl, rfl, _, rfl, ite2 (fun _ => ?_) (fun _ => ?_)⟩
      · refine ⟨_, rfl, _, _, rfl, rfl, ⟨by decide, by decide⟩, _, rfl, _, ln, names8 sh c, rfl, by omega, sm5 _ _ hn3, hne, hcl, fun ps v6 H6 sm6 hpl hps rep6 => ?_⟩
        exact ⟨.row ps, v6, rfl, sm5.trans sm6, rep6.mono (new_l (Dom.of sm5)), Nat.le_trans hpl (by decide), fun n hn => absurd hn (by simp [Fm.leans])⟩
      refine ⟨_, rfl, _, _, rfl, rfl, (by show (0 : Int) < 8; decide), _, _, rfl, rfl, _, rfl, ite2 (fun _ => ?_) (fun _ => ?_)⟩
      · refine ⟨_, rfl, _, _, rfl, rfl, ⟨by decide, by decide⟩, _, rfl, _, ln, names8 sh c, rfl, by omega, sm5 _ _ hn3, hne, hcl, fun ps op v6 H6 sm6 hpl _ hps rep6 => ?_⟩
        exact ⟨.rcd ps op, v6, rfl, sm5.trans sm6, rep6.mono (new_l (Dom.of sm5)), Nat.le_trans hpl (by decide), fun n hn => absurd hn (by simp [Fm.leans])⟩
      have keep : ∃ (F6 : Fm) (v6 : V), [some (V.ref a), some (.int c), some (.int sh), some (.ref ln), some (.ref lf), some (.int (0 + (i : Int))), some (.int m), some v0, u1] = [some (V.ref a), some (.int c), some (.int sh), some (.ref ln), some (.ref lf), some (.int (0 + (i : Int))), some (.int m), some v6, u1] ∧ Same H4 H5 ∧ DRep (newOf H4 H5) F6.dt v6 ∧ F6.Ok ∧ ∀ n ∈ F6.leans, n ∈ names8 sh i :=
        ⟨F0, v0, rfl, sm5, rep0, (plain_ok pl0).1, fun n hn => by rw [(plain_ok pl0).2] at hn; cases hn⟩
      refine ⟨_, rfl, _, _, rfl, rfl, (by show (0 : Int) < 8; decide), _, _, rfl, rfl, _, rfl, ite2 (fun _ => ?_) (fun _ => iteF keep)⟩
      refine ⟨_, rfl, _, _, rfl, rfl, _, rfl, ite2 (fun hk => ?_) (fun _ => keep)⟩
      have hi0 : 0 < i := by
        have := of_decide_eq_true hk
        omega
      refine ⟨_, rfl, _, _, rfl, rfl, ⟨by decide, by decide⟩, _, rfl, _, rfl, _, rfl, sl_l (SqL.of (sm5 _ _ hn3)) fun p hp => ?_⟩
      rw [Int.zero_add, cut_nat, ← List.map_take, names8_take sh (Nat.le_of_lt hi')]
      have sm6 := same_new hp (.lst ((names8 sh i).map V.str))
      refine ⟨_, p, names8 sh i, rfl, by omega, upd_same, fun e => ?_, by rw [names8_len]; omega, fun F6 v6 H6 sm7 lea rep6 => ?_⟩
      · have := congrArg List.length e
        rw [names8_len] at this
        exact absurd this (by show ¬ i = 0; omega)
      · exact ⟨F6, v6, rfl, (sm5.trans sm6).trans sm7, rep6.mono (new_l (Dom.of (sm5.trans sm6))), lea.ok.1, lea.ok.2⟩
    · rintro σ6 H6 ⟨F6, v6, rfl, sm6, rep6, ok6, ln6⟩
      have hn6 := sm6 _ _ hn3
      have hf6 := sm6 _ _ hf3
      refine ⟨_, rfl, .inl ⟨rfl, _, SqL.of hf6⟩, _, rfl, _, rfl, ?_⟩
      have hat : atI ((names8 sh c).map V.str) (0 + (i : Int)) = some (.str (name8 (sh + (i : Int)))) := by
        rw [Int.zero_add]
        refine atI_nat ?_
        rw [List.getElem?_map]
        unfold names8
        rw [List.getElem?_map, List.getElem?_range hi']
        rfl
      refine ix_l (SqL.of hn6) hat ⟨_, rfl, (by show 2 ≤ sizeLine; decide), fun t ht => ?_⟩
      have sm7 := same_new ht (.tup [.str (name8 (sh + (i : Int))), v6])
      have hGt : (upd H lf (.lst [])) t = none := by
        have htl : t ≠ lf := fun e => by rw [e, hf6] at ht; cases ht
        rw [upd_ne htl]
        exact dom_none (Dom.of (s3.trans sm6)) ht
      refine ⟨lf, _, _, rfl, rfl, sm7 _ _ hf6, small1000 (by rw [rep.len, List.length_map]; omega), ?_⟩
      have hnew : ¬ name8 (sh + (i : Int)) ∈ fs.map (·.1) := by
        rw [hfn]
        have z := names8_nodup sh (c := i + 1) (by omega)
        rw [names8_succ] at z
        exact fun m => (List.nodup_append.mp z).2.2 _ m _ (List.mem_singleton.mpr rfl) rfl
      obtain ⟨rk', fo'⟩ := fo.snoc hnew (fun m hm => by rw [hfn]; exact ln6 m hm) ok6 (by omega)
      refine ⟨_, _, _, _, fs ++ [(name8 (sh + (i : Int)), F6)], rk', _, rfl, ?_, ?_, upd_same, ?_, fo', ?_⟩
      · exact fun b ob hb => by
          rw [upd_ne (fun e => by rw [e, hHlf] at hb; cases hb)]
          exact sm7 _ _ (sm6 _ _ (s3 _ _ hb))
      · rw [upd_ne hlnf]
        exact sm7 _ _ hn6
      · rw [new_upd hG, List.map_append]
        have hDG : Dom (upd H lf (.lst [])) H4 := fun b hb => by
          by_cases e : b = lf
          · rw [e, hf3]; simp
          · rw [upd_ne e] at hb
            exact Dom.of s3 b hb
        exact DReps.snoc (rep.mono (new_r (sm6.trans sm7))) ⟨t, _, rfl, new_at hGt, _, _, rfl, rfl, _, _, rfl, (rep6.mono (new_l hDG)).mono (new_r sm7), rfl⟩
      · rw [List.map_append, hfn, names8_succ]
        rfl
  · obtain ⟨x1, y1, z1, u1, fs, rk, zs, rfl, s3, hn3, hf3, rep, fo, hfn⟩ := pv
    rw [show ((c : Int)).toNat = c from by omega] at hfn
    have hfl : fs.length = c := by rw [← List.length_map (as := fs) (·.1), hfn, names8_len]
    have hzl : zs.length = c := by rw [rep.len, List.length_map, hfl]
    refine ⟨_, rfl, _, _, rfl, rfl, ⟨by decide, by decide⟩, _, rfl, _, _, rfl, rfl, (by show (0 : Int) < (c : Int); omega), ?_⟩
    have hat : sh / 8 % (c : Int) = ((sh / 8 % (c : Int)).toNat : Int) := by
      have := Int.emod_nonneg (sh / 8) (show (c : Int) ≠ 0 by omega)
      omega
    generalize hk : (sh / 8 % (c : Int)).toNat = k at hat
    dsimp only
    rw [hat]
    refine ⟨_, rfl, _, rfl, _, rfl, sl_l (SqL.of hf3) fun p1 hp1 => ?_⟩
    rw [cut_from]
    have sm4 := same_new hp1 (.lst (zs.drop k))
    refine ⟨_, rfl, _, rfl, _, rfl, sl_l (SqL.of (sm4 _ _ hf3)) fun p2 hp2 => ?_⟩
    rw [cut_nat]
    have sm5 := same_new hp2 (.lst (zs.take k))
    refine add_l (sm5 _ _ upd_same) upd_same (small (by rw [List.length_drop, List.length_take]; omega)) fun p hp => ?_
    have sm6 := same_new hp (.lst (zs.drop k ++ zs.take k))
    have smA := ((s3.trans sm4).trans sm5).trans sm6
    have hHp : H p = none := dom_none (Dom.of ((s3.trans sm4).trans sm5)) hp
    refine q (fs.drop k ++ fs.take k) rk _ _ smA (fo.perm (rot_perm fs k)) ?_ ?_ ⟨p, _, rfl, new_at hHp, ?_⟩
    · rw [(rot_perm fs k).length_eq]; exact hfl
    · intro n hn
      have hn' := ((rot_perm fs k).map (·.1)).mem_iff.mp hn
      rw [hfn] at hn'
      obtain ⟨j, _, rfl⟩ := List.mem_map.mp hn'
      exact name8_mem _
    · have rep2 := (rep.mono (new_l (Dom.of (same_new hHlf (.lst []))))).mono (new_r ((sm4.trans sm5).trans sm6))
      rw [List.map_append, List.map_drop, List.map_take]
      exact DReps.app (rep2.take k) (rep2.drop k)
end
end K19
set_option Elab.async false
set_option linter.all false
set_option maxRecDepth 100000
set_option maxHeartbeats 4000000
namespace K19
open PySem L2 Rg
section
variable {P : Program} {w : World} {K : PySem.W.Frag} {mg : Str → Option Value} {base : Heap} {f : Addr} {fd : FuncData}
/-- forms once more, with lists of their own -/
def spLCopied : Sp := fun vs H Q _ => ∃ (fs : List (Str × Fm)) (v : V), vs = [v] ∧ DRep H (formsD fs) v ∧ fs.length ≤ 60 ∧ ∀ (v' : V) (H' : Hp), Same H H' → DRep H' (formsD fs) v' → Q v' H'
theorem args_few (F : Fm) : (Dt.str F.sort :: F.args).length ≤ 5 := by cases F <;> (simp only [Fm.args, List.length_cons, List.length_nil]; decide)
theorem sc_l_copied : FnScope ["_law_forms", "_law_made", "_law_name", "_law_form"] ["_law_forms"] (defScope s_l_copied) := ⟨rfl, rfl, rfl, by decide +kernel, rfl, by decide +kernel, by decide +kernel⟩
theorem ok_l_copied (F : Fun K "_law_copied" "_law_copied" s_l_copied f fd) (B : Blt mg) : FnOk P w K mg base CX0 1 f fd ["_law_forms"] spLCopied := by
  refine F.ok sc_l_copied (fun vs H Q E h => ?_) (fun cdv A outer s H vs Q E hr h => ?_)
  · obtain ⟨fs, v, rfl, _⟩ := h
    rfl
  obtain ⟨fs, v, rfl, rep, few, q⟩ := h
  have hu := hu_of hr
  have nd := sc_l_copied.nd
  refine run_of (qss_cons (qs_set (i := 1) nd rfl (Or.inl rfl) (qe_lst qa_nil))
    (qss_cons (qs_for PassesOwn.never rfl (qi_list K (qv 0)) (qg_tup K rfl (qgs_cons (qg_name (i := 2) nd rfl (Or.inl rfl)) (qgs_cons (qg_name (i := 3) nd rfl (Or.inl rfl)) qgs_nil))) (qss_one (qs_expr (qe_cM K PySem.F.plainAttrs_list PySem.F.slot_list_append PySem.F.type_list_append k_append (qv 1) (qa_c (qe_tup (qa_c (qv 2) (qa_c (qe_cT (k_tuple K) rfl B.tuple PyProof.Rows.boot_tuple (qa_c (qe_c1 rfl (.inl rfl) (qi_tup K (qv 3)) (LcStG.ok (sc := defScope s_l_copied) (N := ["_law_forms", "_law_made", "_law_name", "_law_form"]) (fr := []) ⟨by decide +kernel, rfl, by decide +kernel, by decide +kernel, by decide +kernel, by decide +kernel, by decide +kernel⟩ rfl rfl) (fun _ _ _ _ => qts_nil) (fun _ _ _ _ => (qe_ifExp (qt_tru K (qe_cB (k_isi K) rfl B.isi PyProof.Rows.boot_isinstance (qa_c (qv 0) (qa_c (qe_bltn (v := .ty "list") rfl B.list PyProof.Rows.boot_list rfl) qa_nil))) (fun _ => rfl)) (qe_cT (k_list K) rfl B.list PyProof.Rows.boot_list (qa_c (qv 0) qa_nil)) (qv 0)))) qa_nil)) qa_nil))) qa_nil)))))
    (qss_one (qs_ret (qv 1))))) ?_
  obtain ⟨fa, xs, rfl, hfa, hxs⟩ := forms_at rep
  have hlen : xs.length = fs.length := by rw [hxs.len, List.length_map]
  refine ⟨Nat.zero_le _, fun l hl => ⟨_, rfl, fa, rfl, ⟨_, SqL.of (same_new hl _ _ _ hfa)⟩, for_w (w_list (xs := xs)) (fun i σ H' => ∃ (x y : Option V) (zs : List V), σ = [some (.ref fa), some (.ref l), x, y] ∧ Same H H' ∧ H' l = some (.lst zs) ∧ DReps (newOf (upd (fun _ => none) l (.lst [])) H') ((fs.take i).map pairD) zs)
    ⟨_, _, [], rfl, same_new hl _, upd_same, rfl⟩ (fun i σ H' hi p => ?_) (fun i x σ H1 H2 hi p y => ?_) (fun σ H' p => ?_)⟩⟩
  · obtain ⟨_, _, _, _, sm, _⟩ := p
    exact SqL.of (sm _ _ hfa)
  · obtain ⟨x1, y1, zs, rfl, sm, hll, rep1⟩ := p
    obtain ⟨rfl, hx⟩ := y
    obtain ⟨n, Fo, ta, u, hf, rfl, hta, hu'⟩ := forms_get hxs hx
    have hG : (upd (fun _ => none) l (.lst [])) l ≠ none := by rw [upd_same]; simp
    have hnl : ∀ {b : Addr} {o : HO}, H b = some o → b ≠ l := fun {b o} hb e => by rw [e, hl] at hb; cases hb
    refine ⟨ta, _, rfl, SqT.of (sm _ _ hta), rfl, _, _, rfl, _, _, rfl, rfl, ?_⟩
    obtain ⟨fb, ys, rfl, hfb, hys⟩ := (hu' : DRep H (.tup (.str Fo.sort :: Fo.args)) u).tup_of
    have few5 := args_few Fo
    have hyl := hys.len
    -- the made tuple's items stand apart from l
    refine ⟨_, rfl, .inl ⟨rfl, _, SqL.of hll⟩, _, rfl, _, rfl, fb, rfl, ⟨_, SqT.of (sm _ _ hfb)⟩, lc_w0 (w_tup (xs := ys)) (fun j us H3 => Same H2 H3 ∧ us.length = j ∧ DReps (newOf (upd (fun _ => none) l (.lst [])) H3) ((Dt.str Fo.sort :: Fo.args).take j) us) (small (by omega)) ⟨Same.refl _, rfl, rfl⟩ (fun j us H3 hj p => ?_) (fun j z us H3 H4 hj p y => ?_) (fun us H3 p r hr' => ?_)⟩
    · exact ⟨SqT.of (p.1 _ _ (sm _ _ hfb)), Nat.le_of_eq p.2.1⟩
    · obtain ⟨sm3, hul, rep3⟩ := p
      obtain ⟨rfl, hz⟩ := y
      obtain ⟨d, hd, hdr⟩ := hys.get j hz
      have hdr' := (hdr.mono sm).mono sm3
      refine ⟨[z], rfl, rfl, _, rfl, isi_1 hdr'.ty (kit_listD _ d) ⟨_, rfl, ?_⟩⟩
      have fin : ∀ (z' : V) (H5 : Hp), Same H4 H5 → DRep (newOf (upd (fun _ => none) l (.lst [])) H5) d z' → Same H2 H5 ∧ (us ++ [z']).length = j + 1 ∧ DReps (newOf (upd (fun _ => none) l (.lst [])) H5) ((Dt.str Fo.sort :: Fo.args).take (j + 1)) (us ++ [z']) := fun z' H5 sm5 r5 => by
        refine ⟨sm3.trans sm5, by rw [List.length_append, hul]; rfl, ?_⟩
        rw [List.take_succ, hd]
        exact DReps.snoc (rep3.mono (new_r sm5)) r5
      have stay : ∀ {e : Dt} {y : V}, DRep H e y → DRep (newOf (upd (fun _ => none) l (.lst [])) H4) e y := fun {e y} he =>
        he.mono fun b o hb => newOf_at (by rw [upd_ne (hnl hb)]) (sm3 _ _ (sm _ _ hb))
      cases hL : d.is_list with
      | false => exact iteF ⟨_, rfl, fin z _ (Same.refl _) (stay hdr)⟩
      | true =>
        cases d with
        | lst ds =>
          obtain ⟨b, ws, rfl, hb, hws⟩ := hdr.lst_of
          refine iteT ⟨_, rfl, list_l (SqL.of (sm3 _ _ (sm _ _ hb))) fun c hc => fin _ _ (same_new hc _) ⟨c, ws, rfl, new_at ?_, ?_⟩⟩
          · rw [upd_ne (fun e => by rw [e, sm3 _ _ hll] at hc; cases hc)]
          · exact (hws.mono fun b o hb => newOf_at (by rw [upd_ne (hnl hb)]) (sm3 _ _ (sm _ _ hb))).mono (new_r (same_new hc _))
        | int i => cases hL
        | str x => cases hL
        | bl b => cases hL
        | non => cases hL
        | tup ds => cases hL
        | dic ks ds => cases hL
    · obtain ⟨sm3, hul, rep3⟩ := p
      rw [List.take_of_length_le (by omega)] at rep3
      refine tup_l (SqL.of upd_same) fun c hc => ⟨(by show 2 ≤ sizeLine; decide), fun t ht => ?_⟩
      have sm4 := (same_new hr' (.lst us)).trans (same_new hc (.tup us))
      have sm5 := same_new ht (.tup [.str n, .ref c])
      have smA := sm3.trans (sm4.trans sm5)
      have hlA : ∀ {b : Addr} {H5 : Hp}, Same H2 H5 → H5 b = none → (upd (fun _ => none) l (.lst []) : Hp) b = none := fun {b H5} e hb => by rw [upd_ne (fun z => by rw [z, e _ _ hll] at hb; cases hb)]
      refine ⟨l, _, _, rfl, rfl, smA _ _ hll, small1000 (by rw [rep1.len, List.length_map, List.length_take]; omega), ?_⟩
      refine ⟨_, _, _, rfl, ?_, upd_same, ?_⟩
      · exact fun b ob hb => by
          rw [upd_ne (hnl hb)]
          exact smA _ _ (sm _ _ hb)
      · rw [new_upd hG, List.take_succ, hf, List.map_append]
        refine DReps.snoc (rep1.mono (new_r smA)) ⟨t, _, rfl, new_at (hlA (sm3.trans sm4) ht), _, _, rfl, rfl, _, _, rfl, ⟨c, us, rfl, ?_, rep3.mono (new_r (sm4.trans sm5))⟩, rfl⟩
        exact newOf_at (hlA (sm3.trans (same_new hr' _)) hc) (sm5 _ _ upd_same)
  · obtain ⟨x1, y1, zs, rfl, sm, hll, rep1⟩ := p
    rw [hlen, List.take_of_length_le (Nat.le_refl _)] at rep1
    exact ⟨_, rfl, q _ _ sm ⟨l, zs, rfl, hll, rep1.mono newOf_sub⟩⟩
theorem sc_l_leans : FnScope ["_law_form"] ["_law_form"] (defScope s_l_leans) := ⟨rfl, rfl, rfl, by decide +kernel, rfl, by decide +kernel, by decide +kernel⟩
theorem ok_l_leans (F : Fun K "_law_leans" "_law_leans" s_l_leans f fd) (B : Blt mg) : FnOk P w K mg base CX0 1 f fd ["_law_form"] spLeans := by
  refine F.ok sc_l_leans (fun vs H Q E h => ?_) (fun cdv A outer s H vs Q E hr h => ?_)
  · obtain ⟨F, v, rfl, _⟩ := h
    rfl
  obtain ⟨Fo, v, rfl, rep, ok, q⟩ := h
  have hu := hu_of hr
  refine run_of (qss_cons (qs_if (qt_cmpR (k_in K hu) (qe_ix K hu (qv 0) qe_int (fun _ _ => rfl)) (qe_tup (qa_c qe_str (qa_c qe_str (qa_c qe_str qa_nil)))) rfl) (qss_one (qs_ret (qe_cT (k_list K) rfl B.list PyProof.Rows.boot_list (qa_c (qe_ix K hu (qv 0) qe_int (fun _ _ => rfl)) qa_nil)))) qss_nil)
    (qss_cons (qs_if (qt_cmpR k_eq (qe_ix K hu (qv 0) qe_int (fun _ _ => rfl)) qe_str rfl) (qss_one (qs_ret (qe_lst (qa_c (qe_ix K hu (qv 0) qe_int (fun _ _ => rfl)) qa_nil)))) qss_nil)
    (qss_cons (qs_if (qt_cmpR k_eq (qe_ix K hu (qv 0) qe_int (fun _ _ => rfl)) qe_str rfl) (qss_one (qs_ret (qe_lst (qa_c (qe_ix K hu (qv 0) qe_int (fun _ _ => rfl)) (qa_c (qe_ix K hu (qv 0) qe_int (fun _ _ => rfl)) qa_nil))))) qss_nil)
    (qss_one (qs_ret (qe_lst qa_nil)))))) ?_
  obtain ⟨a, xs, rfl, ha, hx⟩ := form_at rep
  refine ⟨_, rfl, ix_h ha ⟨(by show 3 ≤ sizeLine; decide), fun p hp => in_t upd_same ⟨_, rfl, ?_⟩⟩⟩
  have sm := same_new hp (.tup [.str "all", .str "some", .str "one"])
  have plain : Fo.leans = [] → (∀ r, upd H p (.tup [.str "all", .str "some", .str "one"]) r = none → Q (.ref r) (upd (upd H p (.tup [.str "all", .str "some", .str "one"])) r (.lst []))) := fun e r hr' =>
    q r _ (sm.trans (same_new hr' _)) (by rw [e]; exact upd_same)
  cases Fo with
  | many k ns =>
    have e : ∀ k : Fin 3, inV (.str (manyS k)) [.str "all", .str "some", .str "one"] = true := by decide +kernel
    obtain ⟨a', b, ea, h2, h3⟩ := many_at rep
    cases ea
    exact iteEqT (e k) ⟨_, rfl, ix_t (sm _ _ h2) rfl (list_l (SqL.of (sm _ _ h3)) fun l hl => q l _ (sm.trans (same_new hl _)) upd_same)⟩
  | nott n =>
    obtain ⟨a', ea, h2⟩ := nott_at rep
    cases ea
    exact iteEqF (by dsimp only [Fm.sort]; decide +kernel) ⟨_, rfl, ix_h (sm _ _ ha) ⟨rfl, _, rfl, iteEqT (seq_t (by dsimp only [Fm.sort]; decide +kernel)) ⟨_, rfl, ix_t (sm _ _ h2) rfl ⟨(by show 1 ≤ sizeLine; decide), fun r hr' => q r _ (sm.trans (same_new hr' _)) upd_same⟩⟩⟩⟩
  | look f' w' a1 b1 =>
    obtain ⟨a', ea, h2⟩ := look_at rep
    cases ea
    exact iteEqF (by dsimp only [Fm.sort]; decide +kernel) ⟨_, rfl, ix_h (sm _ _ ha) ⟨rfl, _, rfl, iteEqF (seq_f (by dsimp only [Fm.sort]; decide +kernel)) ⟨_, rfl, ix_h (sm _ _ ha) ⟨rfl, _, rfl, iteEqT (seq_t (by dsimp only [Fm.sort]; decide +kernel)) ⟨_, rfl, ix_t (sm _ _ h2) rfl ⟨_, rfl, ix_t (sm _ _ h2) rfl ⟨(by show 2 ≤ sizeLine; decide), fun r hr' => q r _ (sm.trans (same_new hr' _)) upd_same⟩⟩⟩⟩⟩⟩⟩
  | any => exact iteEqF (by dsimp only [Fm.sort]; decide +kernel) ⟨_, rfl, ix_h (sm _ _ ha) ⟨rfl, _, rfl, iteEqF (seq_f (by dsimp only [Fm.sort]; decide +kernel)) ⟨_, rfl, ix_h (sm _ _ ha) ⟨rfl, _, rfl, iteEqF (seq_f (by dsimp only [Fm.sort]; decide +kernel)) ⟨Nat.zero_le _, plain rfl⟩⟩⟩⟩⟩
  | num lo hi => exact iteEqF (by dsimp only [Fm.sort]; decide +kernel) ⟨_, rfl, ix_h (sm _ _ ha) ⟨rfl, _, rfl, iteEqF (seq_f (by dsimp only [Fm.sort]; decide +kernel)) ⟨_, rfl, ix_h (sm _ _ ha) ⟨rfl, _, rfl, iteEqF (seq_f (by dsimp only [Fm.sort]; decide +kernel)) ⟨Nat.zero_le _, plain rfl⟩⟩⟩⟩⟩
  | wrd ws => exact iteEqF (by dsimp only [Fm.sort]; decide +kernel) ⟨_, rfl, ix_h (sm _ _ ha) ⟨rfl, _, rfl, iteEqF (seq_f (by dsimp only [Fm.sort]; decide +kernel)) ⟨_, rfl, ix_h (sm _ _ ha) ⟨rfl, _, rfl, iteEqF (seq_f (by dsimp only [Fm.sort]; decide +kernel)) ⟨Nat.zero_le _, plain rfl⟩⟩⟩⟩⟩
  | row ps => exact iteEqF (by dsimp only [Fm.sort]; decide +kernel) ⟨_, rfl, ix_h (sm _ _ ha) ⟨rfl, _, rfl, iteEqF (seq_f (by dsimp only [Fm.sort]; decide +kernel)) ⟨_, rfl, ix_h (sm _ _ ha) ⟨rfl, _, rfl, iteEqF (seq_f (by dsimp only [Fm.sort]; decide +kernel)) ⟨Nat.zero_le _, plain rfl⟩⟩⟩⟩⟩
  | rcd fs op => exact iteEqF (by dsimp only [Fm.sort]; decide +kernel) ⟨_, rfl, ix_h (sm _ _ ha) ⟨rfl, _, rfl, iteEqF (seq_f (by dsimp only [Fm.sort]; decide +kernel)) ⟨_, rfl, ix_h (sm _ _ ha) ⟨rfl, _, rfl, iteEqF (seq_f (by dsimp only [Fm.sort]; decide +kernel)) ⟨Nat.zero_le _, plain rfl⟩⟩⟩⟩⟩
end
end K19
set_option Elab.async false
set_option linter.all false
set_option maxRecDepth 100000
set_option maxHeartbeats 4000000
namespace K19
open PySem L2 Rg
section
variable {P : Program} {w : World} {K : PySem.W.Frag} {mg : Str → Option Value} {base : Heap} {f : Addr} {fd : FuncData}
def xname (j : Nat) : Str := ("x" : Str) ++ (⟨#[97 + j]⟩ : Str)
theorem xname_new : ∀ j : Fin 26, ¬ xname j.1 ∈ (["a", "b", "c", "ab", "ba", "d", "bb", "zzzzzzzz"] : List Str) := by decide +kernel
theorem xname_inj : ∀ i j : Fin 26, xname i.1 = xname j.1 → i = j := by decide +kernel
theorem alph_at : ∀ j : Fin 26, (("abcdefghijklmnopqrstuvwxyz" : Str).cps.toList)[j.1]? = some (97 + j.1) := by decide +kernel
def spLonger (K : PySem.W.Frag) : Sp := fun vs H Q _ => ∃ (fs : List (Str × Fm)) (rk : Str → Nat) (v : V) (a : Addr) (ns : List Int), vs = [v, .ref a] ∧ DRep H (formsD fs) v ∧ Forms fs rk ∧ fs ≠ [] ∧ fs.length ≤ 6 ∧ (∀ n ∈ fs.map (·.1), n ∈ (["a", "b", "c", "ab", "ba", "d", "bb", "zzzzzzzz"] : List Str)) ∧ SqL K H a (ns.map V.int) ∧ ns.length ≤ 18 ∧
  ∀ (gs : List (Str × Fm)) (rk' : Str → Nat) (v' : V) (H' : Hp), Same H H' → Forms gs rk' → gs ≠ [] → DRep H' (formsD gs) v' → Q v' H'
theorem sc_l_longer : FnScope ["_law_forms", "_law_cells", "_law_names", "_law_made", "_law_k", "_law_cell", "_law_number", "_law_one", "_law_other", "_law_form"] ["_law_forms", "_law_cells"] (defScope s_l_longer) := ⟨rfl, rfl, rfl, by decide +kernel, rfl, by decide +kernel, by decide +kernel⟩
theorem ok_l_longer (F : Fun K "_law_longer" "_law_longer" s_l_longer f fd) (B : Blt mg) (h_l_mixed : Has P w K mg base "_law_mixed" 1 ["_law_number", "_law_k"] spMixed) : FnOk P w K mg base CX0 2 f fd ["_law_forms", "_law_cells"] (spLonger K) := by
  refine F.ok sc_l_longer (fun vs H Q E h => ?_) (fun cdv A outer s H vs Q E hr h => ?_)
  · obtain ⟨fs, rk, v, a, ns, rfl, _⟩ := h
    rfl
  obtain ⟨fs, rk, v, a, ns, rfl, rep, fo, hne, hfl, h8, hS, hnl, q⟩ := h
  have hu := hu_of hr
  have nd := sc_l_longer.nd
  refine run_of (qss_cons (qs_c2 K (n := 2) nd rfl (Or.inl rfl) rfl (.inl rfl) (qi_list K (qv 0)) (LcStG.ok (sc := defScope s_l_longer) (N := ["_law_forms", "_law_cells", "_law_names", "_law_made", "_law_k", "_law_cell", "_law_number", "_law_one", "_law_other", "_law_form"]) (fr := []) ⟨by decide +kernel, rfl, by decide +kernel, by decide +kernel, by decide +kernel, by decide +kernel, by decide +kernel⟩ rfl rfl) (fun _ _ _ _ => qts_nil) (fun _ _ _ _ => (qv 0)))
    (qss_cons (qs_set (i := 3) nd rfl (Or.inl rfl) (qe_cT (k_list K) rfl B.list PyProof.Rows.boot_list (qa_c (qv 0) qa_nil)))
    (qss_cons (qs_for PassesOwn.never rfl (qi_enum K rfl B.enum (qa_c (qv 1) qa_nil)) (qg_tup K rfl (qgs_cons (qg_name (i := 4) nd rfl (Or.inl rfl)) (qgs_cons (qg_name (i := 5) nd rfl (Or.inl rfl)) qgs_nil))) (qss_cons (qs_set (i := 6) nd rfl (Or.inl rfl) (qe_call h_l_mixed hr (by decide) rfl (qa_c (qv 5) (qa_c (qe_op (k_add K) qe_int (qv 4)) qa_nil))))
    (qss_cons (qs_set (i := 7) nd rfl (Or.inl rfl) (qe_ix K hu (qv 2) (qe_op k_sub (qe_op k_sub (qe_cB (k_len K) rfl B.len PySem.boot_len (qa_c (qv 2) qa_nil)) qe_int) (qe_op k_mod (qv 6) (qe_cB (k_min2 rfl) rfl B.min PyProof.Rows.boot_min (qa_c qe_int (qa_c (qe_cB (k_len K) rfl B.len PySem.boot_len (qa_c (qv 2) qa_nil)) qa_nil))))) (fun _ _ => rfl)))
    (qss_cons (qs_set (i := 8) nd rfl (Or.inl rfl) (qe_ix K hu (qv 2) (qe_op k_mod (qe_op k_fdiv (qv 6) qe_int) (qe_cB (k_len K) rfl B.len PySem.boot_len (qa_c (qv 2) qa_nil))) (fun _ _ => rfl)))
    (qss_cons (qs_set (i := 9) nd rfl (Or.inl rfl) (qe_ix K hu (qe_lst (qa_c (qe_tup (qa_c qe_str (qa_c (qv 7) qa_nil))) (qa_c (qe_tup (qa_c qe_str (qa_c (qe_lst (qa_c (qv 8) (qa_c (qv 7) qa_nil))) qa_nil))) (qa_c (qe_tup (qa_c qe_str (qa_c qe_str (qa_c qe_str (qa_c (qv 7) (qa_c (qv 8) qa_nil)))))) (qa_c (qe_tup (qa_c qe_str (qa_c (qe_lst (qa_c (qv 7) qa_nil)) qa_nil))) (qa_c (qe_tup (qa_c qe_str qa_nil)) (qa_c (qe_tup (qa_c qe_str (qa_c (qe_lst (qa_c (qe_tup (qa_c (qv 7) (qa_c qe_int (qa_c qe_non qa_nil)))) qa_nil)) qa_nil))) qa_nil))))))) (qe_op k_mod (qe_op k_fdiv (qv 6) qe_int) qe_int) (fun _ _ => rfl)))
    (qss_cons (qs_expr (qe_cM K PySem.F.plainAttrs_list PySem.F.slot_list_append PySem.F.type_list_append k_append (qv 2) (qa_c (qe_op (k_add K) qe_str (qe_ix K hu qe_str (qv 4) (fun _ _ => rfl))) qa_nil)))
    (qss_one (qs_expr (qe_cM K PySem.F.plainAttrs_list PySem.F.slot_list_append PySem.F.type_list_append k_append (qv 3) (qa_c (qe_tup (qa_c (qe_ix K hu (qv 2) (qe_neg qe_int) (fun _ _ => rfl)) (qa_c (qv 9) qa_nil))) qa_nil))))))))))
    (qss_one (qs_ret (qv 3)))))) ?_
  obtain ⟨fa, xs, rfl, hfa, hxs⟩ := forms_at rep
  have hlen : xs.length = fs.length := by rw [hxs.len, List.length_map]
  have hpos : 0 < fs.length := List.length_pos_iff.mpr hne
  refine ⟨_, rfl, fa, rfl, ⟨_, SqL.of hfa⟩, lc_w0 (w_list (xs := xs)) (fun j ys H' => H = H' ∧ ys = ((fs.map (·.1)).take j).map V.str) (small (by omega)) ⟨rfl, rfl⟩ (fun j ys H' hj p => ?_) (fun j x ys H3 H4 hj p y => ?_) (fun ys H' p l1 hl1 => ?_)⟩
  · obtain ⟨rfl, rfl⟩ := p
    exact ⟨SqL.of hfa, by rw [List.length_map, List.length_take]; omega⟩
  · obtain ⟨rfl, rfl⟩ := p
    obtain ⟨rfl, hx⟩ := y
    obtain ⟨n, Fo, ta, u, hf, rfl, hta, hu'⟩ := forms_get hxs hx
    refine ⟨[.str n, u], ⟨ta, rfl, SqT.of hta⟩, rfl, _, rfl, rfl, ?_⟩
    rw [List.take_succ, List.getElem?_map, hf, List.map_append]
    rfl
  obtain ⟨rfl, rfl⟩ := p
  rw [hlen, List.take_of_length_le (by rw [List.length_map]; exact Nat.le_refl _)]
  have sm1 := same_new hl1 (.lst ((fs.map (·.1)).map V.str))
  refine ⟨_, rfl, list_l (SqL.of (sm1 _ _ hfa)) fun l2 hl2 => ?_⟩
  have sm2 := sm1.trans (same_new hl2 (.lst xs))
  have hH2 : H l2 = none := dom_none (Dom.of sm1) hl2
  have h12 : l1 ≠ l2 := fun e => by rw [← e, upd_same] at hl2; cases hl2
  obtain ⟨G, hGd⟩ : ∃ G : Hp, G = upd (upd (fun _ => none) l1 (.lst [])) l2 (.lst []) := ⟨_, rfl⟩
  have hG1 : G l1 ≠ none := by rw [hGd, upd_ne h12, upd_same]; simp
  have hG2 : G l2 ≠ none := by rw [hGd, upd_same]; simp
  have hGn : ∀ {b : Addr}, b ≠ l1 → b ≠ l2 → G b = none := fun {b} e1 e2 => by rw [hGd, upd_ne e2, upd_ne e1]
  refine ⟨_, rfl, a, rfl, ⟨_, sm2.seq hS⟩, for_w (w_enum (xs := ns.map V.int)) (fun i σ H3 => ∃ (x1 x2 x3 x4 x5 x6 : Option V) (gs : List (Str × Fm)) (rk' : Str → Nat) (zs : List V), σ = [some (.ref fa), some (.ref a), some (.ref l1), some (.ref l2), x1, x2, x3, x4, x5, x6] ∧ Same H H3 ∧ H3 l1 = some (.lst ((gs.map (·.1)).map V.str)) ∧ H3 l2 = some (.lst zs) ∧ DReps (newOf G H3) (gs.map pairD) zs ∧ Forms gs rk' ∧ gs.length = fs.length + i ∧ ∀ n ∈ gs.map (·.1), n ∈ (["a", "b", "c", "ab", "ba", "d", "bb", "zzzzzzzz"] : List Str) ∨ ∃ j, j < i ∧ n = xname j)
    ⟨_, _, _, _, _, _, fs, rk, xs, rfl, sm2, by rw [upd_ne h12, upd_same], upd_same, ?_, fo, rfl, fun n hn => .inl (h8 n hn)⟩ (fun i σ H3 hi p => ?_) (fun i x σ H3 H4 hi p y => ?_) (fun σ H3 p => ?_)⟩
  · refine hxs.mono fun b o hb => newOf_at (hGn (fun e => ?_) (fun e => ?_)) (sm2 _ _ hb)
    · rw [e, hl1] at hb; cases hb
    · rw [e, hH2] at hb; cases hb
  · obtain ⟨_, _, _, _, _, _, _, _, _, _, sm, _⟩ := p
    exact sm.seq hS
  · obtain ⟨x1, x2, x3, x4, x5, x6, gs, rk', zs, rfl, sm, hn3, hf3, rep3, fo3, hgl, hnm⟩ := p
    obtain ⟨T, cv, rfl, hT, rfl, hx⟩ := y
    rw [List.getElem?_map] at hx
    cases ec : ns[i]? with
    | none => rw [ec] at hx; cases hx
    | some ce =>
    rw [ec] at hx
    cases hx
    have hi18 : i < 18 := by
      have := (List.getElem?_eq_some_iff.mp ec).1
      omega
    have smT := same_new hT (.tup [.int (i : Nat), .int ce])
    have smA := sm.trans smT
    have hn4 := smT _ _ hn3
    have hf4 := smT _ _ hf3
    have hnl2 : ((gs.map (·.1)).map V.str).length = gs.length := by rw [List.length_map, List.length_map]
    have hnl1 : (gs.map (·.1)).length = gs.length := List.length_map _
    refine ⟨T, _, rfl, SqT.of upd_same, rfl, _, _, rfl, _, _, rfl, rfl, ?_⟩
    refine ⟨_, rfl, _, rfl, add_i ⟨ce, _, rfl, by omega, by omega, fun m m0 m1 => ?_⟩⟩
    have hmin : (0 : Int) < (if (((gs.map (·.1)).map V.str).length : Int) < 3 then (((gs.map (·.1)).map V.str).length : Int) else 3) ∧ (if (((gs.map (·.1)).map V.str).length : Int) < 3 then (((gs.map (·.1)).map V.str).length : Int) else 3) ≤ (((gs.map (·.1)).map V.str).length : Int) := by split <;> omega
    refine ⟨_, rfl, _, rfl, len_l (SqL.of hn4) ⟨_, _, rfl, rfl, _, rfl, _, rfl, len_l (SqL.of hn4) ⟨_, _, rfl, ⟨_, _, rfl, rfl, hmin.1, ⟨_, _, rfl, rfl, ?_⟩⟩⟩⟩⟩
    have hb1 := Int.emod_nonneg m (show (if (((gs.map (·.1)).map V.str).length : Int) < 3 then (((gs.map (·.1)).map V.str).length : Int) else 3) ≠ 0 by omega)
    have hb2 := Int.emod_lt_of_pos m hmin.1
    refine name_at hn4 (by omega) (by omega) fun o1 ho1 => ?_
    refine ⟨_, rfl, _, rfl, _, _, rfl, rfl, ⟨by decide, by decide⟩, _, rfl, len_l (SqL.of hn4) ⟨_, _, rfl, rfl, (by show (0 : Int) < (((gs.map (·.1)).map V.str).length : Int); omega), ?_⟩⟩
    have hb3 := Int.emod_nonneg (m / 3) (show (((gs.map (·.1)).map V.str).length : Int) ≠ 0 by omega)
    have hb4 := Int.emod_lt_of_pos (m / 3) (show (0 : Int) < (((gs.map (·.1)).map V.str).length : Int) by omega)
    refine name_at hn4 hb3 (by omega) fun o2 ho2 => ?_
    -- the six forms
    refine ⟨_, rfl, (by show 2 ≤ sizeLine; decide), fun t1 ht1 => ⟨_, rfl, _, rfl, (by show 2 ≤ sizeLine; decide), fun b2 hb2' => ⟨(by show 2 ≤ sizeLine; decide), fun t2 ht2 => ⟨_, rfl, _, rfl, (by show 5 ≤ sizeLine; decide), fun t3 ht3 => ⟨_, rfl, (by show 1 ≤ sizeLine; decide), fun b4 hb4' => ⟨(by show 2 ≤ sizeLine; decide), fun t4 ht4 => ⟨(by show 1 ≤ sizeLine; decide), fun t5 ht5 => ⟨_, rfl, (by show 3 ≤ sizeLine; decide), fun u6 hu6 => ⟨(by show 1 ≤ sizeLine; decide), fun b6 hb6 => ⟨(by show 2 ≤ sizeLine; decide), fun t6 ht6 => ⟨(by show 6 ≤ sizeLine; decide), fun p hp => ?_⟩⟩⟩⟩⟩⟩⟩⟩⟩⟩⟩
    have a1 := same_new ht1 (.tup [.str "not", .str o1])
    have a2 := same_new hb2' (.lst [.str o2, .str o1])
    have a3 := same_new ht2 (.tup [.str "all", .ref b2])
    have a4 := same_new ht3 (.tup [.str "look", .str "a", .str "b", .str o1, .str o2])
    have a5 := same_new hb4' (.lst [.str o1])
    have a6 := same_new ht4 (.tup [.str "some", .ref b4])
    have a7 := same_new ht5 (.tup [.str "any"])
    have a8 := same_new hu6 (.tup [.str o1, .int 0, .non])
    have a9 := same_new hb6 (.lst [.ref u6])
    have a10 := same_new ht6 (.tup [.str "row", .ref b6])
    have a11 := same_new hp (.lst [.ref t1, .ref t2, .ref t3, .ref t4, .ref t5, .ref t6])
    have d10 := a10.trans a11
    have d9 := a9.trans d10
    have d8 := a8.trans d9
    have d7 := a7.trans d8
    have d6 := a6.trans d7
    have d5 := a5.trans d6
    have d4 := a4.trans d5
    have d3 := a3.trans d4
    have d2 := a2.trans d3
    have d1 := a1.trans d2
    have nG : ∀ {b : Addr} {H5 : Hp}, Same (upd H3 T (.tup [.int (i : Nat), .int ce])) H5 → H5 b = none → G b = none := fun {b H5} e hb => hGn (fun z => by rw [z, e _ _ hn4] at hb; cases hb) (fun z => by rw [z, e _ _ hf4] at hb; cases hb)
    have s1 := a1
    have s2 := s1.trans a2
    have s3 := s2.trans a3
    have s4 := s3.trans a4
    have s5 := s4.trans a5
    have s6 := s5.trans a6
    have s7 := s6.trans a7
    have s8 := s7.trans a8
    have s9 := s8.trans a9
    refine ⟨_, rfl, _, _, rfl, rfl, ⟨by decide, by decide⟩, _, _, rfl, rfl, (by show (0 : Int) < 6; decide), pick (by omega) (by show _ < (6 : Int); omega) fun v6 _ hv6 => ?_⟩
    obtain ⟨HF, hHF⟩ : ∃ HF : Hp, HF = upd (upd (upd (upd (upd (upd (upd (upd (upd (upd (upd (upd H3 T (.tup [.int (i : Nat), .int ce])) t1 (.tup [.str "not", .str o1])) b2 (.lst [.str o2, .str o1])) t2 (.tup [.str "all", .ref b2])) t3 (.tup [.str "look", .str "a", .str "b", .str o1, .str o2])) b4 (.lst [.str o1])) t4 (.tup [.str "some", .ref b4])) t5 (.tup [.str "any"])) u6 (.tup [.str o1, .int 0, .non])) b6 (.lst [.ref u6])) t6 (.tup [.str "row", .ref b6])) p (.lst [.ref t1, .ref t2, .ref t3, .ref t4, .ref t5, .ref t6]) := ⟨_, rfl⟩
    rw [← hHF] at d10 d9 d8 d7 d6 d5 d4 d3 d2 d1 a11 ⊢
    have hform : ∃ F6 : Fm, DRep (newOf G HF) F6.dt v6 ∧ F6.Ok ∧ ∀ n ∈ F6.leans, n ∈ gs.map (·.1) := by
      rcases List.mem_cons.mp hv6 with rfl | hv6
      · exact ⟨.nott o1, ⟨t1, _, rfl, newOf_at (nG (Same.refl _) ht1) (d2 _ _ upd_same), _, _, rfl, rfl, _, _, rfl, rfl, rfl⟩, trivial, fun n hn => by rw [List.mem_singleton.mp hn]; exact ho1⟩
      rcases List.mem_cons.mp hv6 with rfl | hv6
      · refine ⟨.many 0 [o2, o1], ⟨t2, _, rfl, newOf_at (nG s2 ht2) (d4 _ _ upd_same), _, _, rfl, rfl, _, _, rfl, ⟨b2, _, rfl, newOf_at (nG s1 hb2') (d3 _ _ upd_same), _, _, rfl, rfl, _, _, rfl, rfl, rfl⟩, rfl⟩, (by show 2 ≤ 100; decide), fun n hn => ?_⟩
        rcases List.mem_cons.mp hn with rfl | hn
        · exact ho2
        · rw [List.mem_singleton.mp hn]; exact ho1
      rcases List.mem_cons.mp hv6 with rfl | hv6
      · refine ⟨.look "a" "b" o1 o2, ⟨t3, _, rfl, newOf_at (nG s3 ht3) (d5 _ _ upd_same), _, _, rfl, rfl, _, _, rfl, rfl, _, _, rfl, rfl, _, _, rfl, rfl, _, _, rfl, rfl, rfl⟩, trivial, fun n hn => ?_⟩
        rcases List.mem_cons.mp hn with rfl | hn
        · exact ho1
        · rw [List.mem_singleton.mp hn]; exact ho2
      rcases List.mem_cons.mp hv6 with rfl | hv6
      · exact ⟨.many 1 [o1], ⟨t4, _, rfl, newOf_at (nG s5 ht4) (d7 _ _ upd_same), _, _, rfl, rfl, _, _, rfl, ⟨b4, _, rfl, newOf_at (nG s4 hb4') (d6 _ _ upd_same), _, _, rfl, rfl, rfl⟩, rfl⟩, (by show 1 ≤ 100; decide), fun n hn => by rw [List.mem_singleton.mp hn]; exact ho1⟩
      rcases List.mem_cons.mp hv6 with rfl | hv6
      · exact ⟨.any, ⟨t5, _, rfl, newOf_at (nG s6 ht5) (d8 _ _ upd_same), _, _, rfl, rfl, rfl⟩, trivial, fun n hn => absurd hn (by simp [Fm.leans])⟩
      · rw [List.mem_singleton.mp hv6]
        refine ⟨.row [(o1, 0, none)], ⟨t6, _, rfl, newOf_at (nG s9 ht6) (a11 _ _ upd_same), _, _, rfl, rfl, _, _, rfl, ⟨b6, _, rfl, newOf_at (nG s8 hb6) (d10 _ _ upd_same), _, _, rfl, ⟨u6, _, rfl, newOf_at (nG s7 hu6) (d9 _ _ upd_same), _, _, rfl, rfl, _, _, rfl, rfl, _, _, rfl, rfl, rfl⟩, rfl⟩, rfl⟩, (by show 1 ≤ 100; decide), fun n hn => absurd hn (by simp [Fm.leans])⟩
    obtain ⟨F6, rep6, ok6, ln6⟩ := hform
    have hn6 := d1 _ _ hn4
    have hf6 := d1 _ _ hf4
    have hlet : atI (("abcdefghijklmnopqrstuvwxyz" : Str).cps.toList) ((i : Nat) : Int) = some (97 + i) := atI_nat (alph_at ⟨i, by omega⟩)
    refine ⟨_, rfl, .inl ⟨rfl, _, SqL.of hn6⟩, _, rfl, ix_c (by decide +kernel) hlet (add_s (by show (2 : Nat) ≤ sizeLine; decide) ⟨l1, _, _, rfl, rfl, hn6, small1000 (by omega), ?_⟩)⟩
    have e1 : upd HF l1 (.lst ((gs.map (·.1)).map V.str ++ [.str (xname i)])) l1 = some (.lst ((gs.map (·.1) ++ [xname i]).map V.str)) := by rw [upd_same, List.map_append]; rfl
    have e2 : upd HF l1 (.lst ((gs.map (·.1)).map V.str ++ [.str (xname i)])) l2 = some (.lst zs) := by rw [upd_ne (Ne.symm h12)]; exact hf6
    refine ⟨_, rfl, .inl ⟨rfl, _, SqL.of e2⟩, _, rfl, _, rfl, ix_l (SqL.of e1) (by rw [List.map_append]; exact atI_last _ _) ⟨_, rfl, (by show 2 ≤ sizeLine; decide), fun t ht => ?_⟩⟩
    have sm9 := same_new ht (.tup [.str (xname i), v6])
    have htn : HF t = none ∧ t ≠ l1 := by
      have hne1 : t ≠ l1 := fun z => by rw [z] at ht; exact absurd (e1.symm.trans ht) (by simp)
      rw [upd_ne hne1] at ht
      exact ⟨ht, hne1⟩
    have hGt : G t = none := hGn htn.2 fun z => by rw [z, hf6] at htn; cases htn.1
    refine ⟨l2, _, _, rfl, rfl, sm9 _ _ e2, small1000 (by rw [rep3.len, List.length_map]; omega), ?_⟩
    have hnew : ¬ xname i ∈ gs.map (·.1) := fun hz => by
      rcases hnm _ hz with z | ⟨j, hj, z⟩
      · exact xname_new ⟨i, by omega⟩ z
      · have := congrArg Fin.val (xname_inj ⟨i, by omega⟩ ⟨j, by omega⟩ z)
        have h' : i = j := this
        omega
    obtain ⟨rk2, fo2⟩ := fo3.snoc hnew ln6 ok6 (by omega)
    refine ⟨_, _, _, _, _, _, gs ++ [(xname i, F6)], rk2, _, rfl, ?_, ?_, upd_same, ?_, fo2, by rw [List.length_append, hgl]; rfl, ?_⟩
    · exact fun b ob hb => by
        have n1 : b ≠ l1 := fun z => by rw [z, hl1] at hb; cases hb
        have n2 : b ≠ l2 := fun z => by rw [z, hH2] at hb; cases hb
        rw [upd_ne n2]
        refine sm9 _ _ ?_
        rw [upd_ne n1]
        exact d1 _ _ (smA _ _ hb)
    · rw [upd_ne h12]
      have z := sm9 _ _ e1
      have e3 : (gs ++ [(xname i, F6)]).map (·.1) = gs.map (·.1) ++ [xname i] := by rw [List.map_append]; rfl
      rw [e3]
      exact z
    · rw [new_upd hG2, List.map_append]
      have hsub : Same (newOf G HF) (newOf G (upd (upd HF l1 (.lst ((gs.map (·.1)).map V.str ++ [.str (xname i)]))) t (.tup [.str (xname i), v6]))) := fun b o hb => by
        obtain ⟨g1, g2⟩ := newOf_some hb
        refine newOf_at g1 (sm9 _ _ ?_)
        rw [upd_ne (fun z => by rw [z] at g1; exact hG1 g1)]
        exact g2
      exact DReps.snoc ((rep3.mono (new_r (smT.trans d1))).mono hsub) ⟨t, _, rfl, new_at hGt, _, _, rfl, rfl, _, _, rfl, rep6.mono hsub, rfl⟩
    · intro n hn
      rw [List.map_append] at hn
      rcases List.mem_append.mp hn with hn | hn
      · rcases hnm n hn with z | ⟨j, hj, z⟩
        · exact .inl z
        · exact .inr ⟨j, by omega, z⟩
      · exact .inr ⟨i, Nat.lt_succ_self _, List.mem_singleton.mp hn⟩
  · obtain ⟨x1, x2, x3, x4, x5, x6, gs, rk', zs, rfl, sm, hn3, hf3, rep3, fo3, hgl, hnm⟩ := p
    refine ⟨_, rfl, q gs rk' _ _ sm fo3 (fun e => ?_) ⟨l2, zs, rfl, hf3, rep3.mono newOf_sub⟩⟩
    rw [e] at hgl
    have : (0 : Nat) = fs.length + (ns.map V.int).length := hgl
    omega
end
end K19
set_option Elab.async false
set_option linter.all false
set_option maxRecDepth 100000
set_option maxHeartbeats 4000000
namespace K19
open PySem L2 Rg
section
variable {P : Program} {w : World} {K : PySem.W.Frag} {mg : Str → Option Value} {base : Heap} {f : Addr} {fd : FuncData}
/-- the law's own depths -/
def spLDepths : Sp := fun vs H Q _ => ∃ (fs : List (Str × Fm)) (rk : Str → Nat) (v : V), vs = [v] ∧ DRep H (formsD fs) v ∧ Forms fs rk ∧ ∀ (d : Addr) (kvs : List (Key × V)) (H' : Hp), Same H H' → H' d = some (.dK kvs) → (∀ n ∈ fs.map (·.1), valV kvs (Sum.inr n) = some (.int (depOf fs rk n : Nat))) → Q (.ref d) H'
def dKvs (dp : Str → Nat) (L : List Str) : List (Key × V) := (L.map fun n => (n, dp n)).map fun p => (Sum.inr p.1, V.int (p.2 : Nat))
theorem dKvs_get {dp : Str → Nat} {L : List Str} (nd : L.Nodup) (n : Str) : valV (dKvs dp L) (Sum.inr n) = if n ∈ L then some (.int (dp n : Nat)) else none := by
  unfold dKvs
  have hm : (L.map fun n => (n, dp n)).map (·.1) = L := by rw [List.map_map]; exact List.map_id L
  by_cases h : n ∈ L
  · rw [if_pos h]
    exact valV_map_str (fun k : Nat => V.int (k : Nat)) _ (by rw [hm]; exact nd) (p := (n, dp n)) (List.mem_map.mpr ⟨n, h, rfl⟩)
  · rw [if_neg h]
    exact valV_map_none (fun k : Nat => V.int (k : Nat)) (by rw [hm]; exact h)
theorem dKvs_len (dp : Str → Nat) (L : List Str) : (dKvs dp L).length = L.length := by unfold dKvs; rw [List.length_map, List.length_map]
theorem dKvs_snoc (dp : Str → Nat) (L : List Str) (n : Str) : dKvs dp (L ++ [n]) = dKvs dp L ++ [(Sum.inr n, .int (dp n : Nat))] := by unfold dKvs; rw [List.map_append, List.map_append]; rfl
theorem sc_l_depths : FnScope ["_law_forms", "_law_depths_here", "_law_name", "_law_form", "_law_below"] ["_law_forms"] (defScope s_l_depths) := ⟨rfl, rfl, rfl, by decide +kernel, rfl, by decide +kernel, by decide +kernel⟩
theorem ok_l_depths (F : Fun K "_law_depths" "_law_depths" s_l_depths f fd) (B : Blt mg) (h_l_leans : Has P w K mg base "_law_leans" 1 ["_law_form"] spLeans) : FnOk P w K mg base CX0 2 f fd ["_law_forms"] spLDepths := by
  refine F.ok sc_l_depths (fun vs H Q E h => ?_) (fun cdv A outer s H vs Q E hr h => ?_)
  · obtain ⟨fs, rk, v, rfl, _⟩ := h
    rfl
  obtain ⟨fs, rk, v, rfl, rep, fo, q⟩ := h
  have hu := hu_of hr
  have nd := sc_l_depths.nd
  refine run_of (qss_cons (qs_set (i := 1) nd rfl (Or.inr rfl) qe_dnewK)
    (qss_cons (qs_while PassesOwn.never (qt_cmpR k_lt (qe_cB (k_len K) rfl B.len PySem.boot_len (qa_c (qv 1) qa_nil)) (qe_cB (k_len K) rfl B.len PySem.boot_len (qa_c (qv 0) qa_nil)) rfl) (qss_one (qs_for PassesOwn.never rfl (qi_list K (qv 0)) (qg_tup K rfl (qgs_cons (qg_name (i := 2) nd rfl (Or.inl rfl)) (qgs_cons (qg_name (i := 3) nd rfl (Or.inl rfl)) qgs_nil))) (qss_cons (qs_set (i := 4) nd rfl (Or.inl rfl) (qe_call h_l_leans hr (by decide) rfl (qa_c (qv 3) qa_nil)))
    (qss_one (qs_if (qw_pt (qw_and (qt_cmpR (k_notIn K hu) (qv 2) (qv 1) rfl) (qw_and1 (qt_tru K (qe_cB (k_all rfl) rfl B.all PyProof.Rows.boot_all (qa_c (qe_c1 rfl (.inl rfl) (qi_list K (qv 4)) (LcStG.ok (sc := defScope s_l_depths) (N := ["_law_forms", "_law_depths_here", "_law_name", "_law_form", "_law_below"]) (fr := [("_law_depths_here", 1)]) ⟨by decide +kernel, rfl, by decide +kernel, by decide +kernel, by decide +kernel, by decide +kernel, by decide +kernel⟩ rfl rfl) (fun _ _ _ _ => qts_nil) (fun _ _ _ _ => (qe_cmpR (k_in K hu) (qv 0) (qv 1) rfl))) qa_nil)) (fun _ => rfl))))) (qss_one (qs_put hu (qe_cB (k_maxL rfl) rfl B.max PyProof.Rows.boot_max (qa_c (qe_op (k_add K) (qe_lst (qa_c qe_int qa_nil)) (qe_c1 rfl (.inl rfl) (qi_list K (qv 4)) (LcStG.ok (sc := defScope s_l_depths) (N := ["_law_forms", "_law_depths_here", "_law_name", "_law_form", "_law_below"]) (fr := [("_law_depths_here", 1)]) ⟨by decide +kernel, rfl, by decide +kernel, by decide +kernel, by decide +kernel, by decide +kernel, by decide +kernel⟩ rfl rfl) (fun _ _ _ _ => qts_nil) (fun _ _ _ _ => (qe_op (k_add K) (qe_ix K hu (qv 1) (qv 0) (fun _ _ => rfl)) qe_int)))) qa_nil)) (qv 1) (qv 2))) qss_nil))))))
    (qss_one (qs_ret (qv 1))))) ?_
  obtain ⟨fa, xs, rfl, hfa, hxs⟩ := forms_at rep
  have hlen : xs.length = fs.length := by rw [hxs.len, List.length_map]
  have few := fo.few
  have hnl : (fs.map (·.1)).length = fs.length := List.length_map _
  refine fun d hd => ?_
  refine ⟨fun m σ H' => ∃ (x y z : Option V) (L : List Str), m = fs.length - L.length ∧ σ = [some (.ref fa), some (.ref d), x, y, z] ∧ Same H H' ∧ H' d = some (.dK (dKvs (depOf fs rk) L)) ∧ L.Nodup ∧ ∀ n ∈ L, n ∈ fs.map (·.1), ⟨fs.length, _, _, _, [], rfl, rfl, same_new hd _, upd_same, List.nodup_nil, fun n hn => absurd hn (by simp)⟩, ?_⟩
  rintro m σ H1 ⟨x1, y1, z1, L, rfl, rfl, sm, hdd, ndL, hL⟩
  have hLle : L.length ≤ fs.length := by rw [← hnl]; exact length_le_of_sub ndL hL
  refine ⟨_, rfl, len_d hdd ⟨_, rfl, len_l (SqL.of (sm _ _ hfa)) ⟨_, _, rfl, rfl, _, rfl, ite2 (fun h => ?_) (fun h => ?_)⟩⟩⟩
  · have hlt : L.length < fs.length := by
      have := of_decide_eq_true h
      rw [dKvs_len, hlen] at this
      exact_mod_cast this
    obtain ⟨n0, hn0, hno, hmin⟩ := least_out (ns := fs.map (·.1)) (L := L) rk (some_out fo.nd (by rw [hnl]; exact hlt))
    refine ⟨fun σ' H' => ∃ m', m' < fs.length - L.length ∧ ∃ (x y z : Option V) (L' : List Str), m' = fs.length - L'.length ∧ σ' = [some (.ref fa), some (.ref d), x, y, z] ∧ Same H H' ∧ H' d = some (.dK (dKvs (depOf fs rk) L')) ∧ L'.Nodup ∧ ∀ n ∈ L', n ∈ fs.map (·.1), fun _ _ h => h, ?_⟩
    refine ⟨_, rfl, fa, rfl, ⟨_, SqL.of (sm _ _ hfa)⟩, for_w (w_list (xs := xs)) (fun j σ H2 => ∃ (x y z : Option V) (L2 : List Str), σ = [some (.ref fa), some (.ref d), x, y, z] ∧ Same H H2 ∧ H2 d = some (.dK (dKvs (depOf fs rk) L2)) ∧ L2.Nodup ∧ (∀ n ∈ L2, n ∈ fs.map (·.1)) ∧ (∀ n ∈ L, n ∈ L2) ∧ ∀ n ∈ (fs.map (·.1)).take j, (∀ k ∈ leansOf fs n, k ∈ L) → n ∈ L2)
      ⟨_, _, _, L, rfl, sm, hdd, ndL, hL, fun n hn => hn, fun n hn => absurd hn (by simp)⟩ (fun j σ H2 hj p => ?_) (fun j x σ H2 H3 hj p y => ?_) (fun σ H2 p => ?_)⟩
    · obtain ⟨_, _, _, _, _, s2, _⟩ := p
      exact SqL.of (s2 _ _ hfa)
    · obtain ⟨x2, y2, z2, L2, rfl, s2, hd2, nd2, hL2, hsub, hin⟩ := p
      obtain ⟨rfl, hx⟩ := y
      obtain ⟨n, Fo, ta, u, hf, rfl, hta, hu'⟩ := forms_get hxs hx
      have hmem := List.mem_of_getElem? hf
      have hn : n ∈ fs.map (·.1) := List.mem_map.mpr ⟨_, hmem, rfl⟩
      have hnj : (fs.map (·.1))[j]? = some n := by rw [List.getElem?_map, hf]; rfl
      have hlns := fo.leansOf hmem
      have hL2le : L2.length ≤ fs.length := by rw [← hnl]; exact length_le_of_sub nd2 hL2
      have hlen100 : Fo.leans.length ≤ 100 := Fm.leans_len (fo.ok _ hmem)
      refine ⟨ta, _, rfl, SqT.of (s2 _ _ hta), rfl, _, _, rfl, _, _, rfl, rfl, ?_⟩
      refine ⟨_, rfl, Fo, u, rfl, hu'.mono s2, fo.ok _ hmem, fun r H4 sm4 hr4 => ?_⟩
      have hd4 := sm4 _ _ hd2
      have stepIn : ∀ L3 : List Str, (∀ k ∈ L2, k ∈ L3) → n ∈ L3 → ∀ k ∈ (fs.map (·.1)).take (j + 1), (∀ i ∈ leansOf fs k, i ∈ L) → k ∈ L3 := fun L3 h1 h2 k hk hl => by
        rw [List.take_succ, hnj] at hk
        rcases List.mem_append.mp hk with hk | hk
        · exact h1 k (hin k hk hl)
        · rw [List.mem_singleton.mp hk]; exact h2
      refine ⟨_, rfl, _, rfl, notin_d hd4 ⟨_, rfl, ?_⟩⟩
      rw [dKvs_get nd2]
      by_cases hn2 : n ∈ L2
      · rw [if_pos hn2]
        exact iteF (iteF ⟨_, _, _, L2, rfl, s2.trans sm4, hd4, nd2, hL2, hsub, stepIn L2 (fun k hk => hk) hn2⟩)
      rw [if_neg hn2]
      refine iteT ?_
      refine ⟨_, rfl, r, rfl, ⟨_, SqL.of hr4⟩, lc_w0 (w_list (xs := Fo.leans.map V.str)) (fun i ys H' => H4 = H' ∧ ys = (Fo.leans.take i).map fun n => V.bl (decide (n ∈ L2))) (by rw [List.length_map]; exact small (by omega)) ⟨rfl, rfl⟩ (fun i ys H' hi p => ?_) (fun i x ys H5 H6 hi p y => ?_) (fun ys H' p r2 hr2 => ?_)⟩
      · obtain ⟨rfl, rfl⟩ := p
        exact ⟨SqL.of hr4, by rw [List.length_map, List.length_take]; omega⟩
      · obtain ⟨rfl, rfl⟩ := p
        obtain ⟨rfl, hx2⟩ := y
        rw [List.getElem?_map] at hx2
        cases en : Fo.leans[i]? with
        | none => rw [en] at hx2; cases hx2
        | some k =>
          rw [en] at hx2
          cases hx2
          refine ⟨[.str k], rfl, rfl, _, rfl, _, rfl, in_d hd4 ⟨rfl, ?_⟩⟩
          rw [List.take_succ, en, List.map_append, dKvs_get nd2]
          by_cases hk : k ∈ L2
          · rw [if_pos hk]
            show _ ++ [V.bl true] = _ ++ [V.bl (decide (k ∈ L2))]
            rw [decide_eq_true hk]
          · rw [if_neg hk]
            show _ ++ [V.bl false] = _ ++ [V.bl (decide (k ∈ L2))]
            rw [decide_eq_false hk]
      obtain ⟨rfl, rfl⟩ := p
      rw [List.length_map, List.take_of_length_le (Nat.le_refl _)]
      have sm5 := same_new hr2 (.lst (Fo.leans.map fun n => V.bl (decide (n ∈ L2))))
      refine ⟨r2, Fo.leans.map fun n => decide (n ∈ L2), rfl, by rw [upd_same, List.map_map]; rfl, _, rfl, ?_⟩
      have hd5 := sm5 _ _ hd4
      have hr5 := sm5 _ _ hr4
      rw [List.all_map]
      by_cases hall : ∀ k ∈ Fo.leans, k ∈ L2
      · refine iteEqT (List.all_eq_true.mpr fun k hk => decide_eq_true (hall k hk)) ?_
        refine ⟨(by show 1 ≤ sizeLine; decide), fun p0 hp0 => ?_⟩
        have sm6 := same_new hp0 (.lst [V.int 0])
        refine ⟨_, rfl, r, rfl, ⟨_, SqL.of (sm6 _ _ hr5)⟩, lc_w0 (w_list (xs := Fo.leans.map V.str)) (fun i ys H' => H' = upd (upd H4 r2 (.lst (Fo.leans.map fun n => V.bl (decide (n ∈ L2))))) p0 (.lst [V.int 0]) ∧ ys = (Fo.leans.take i).map fun n => V.int ((depOf fs rk n : Nat) + 1 : Int)) (by rw [List.length_map]; exact small (by omega)) ⟨rfl, rfl⟩ (fun i ys H' hi p => ?_) (fun i x ys H5 H6 hi p y => ?_) (fun ys H' p r3 hr3 => ?_)⟩
        · obtain ⟨rfl, rfl⟩ := p
          exact ⟨SqL.of (sm6 _ _ hr5), by rw [List.length_map, List.length_take]; omega⟩
        · obtain ⟨rfl, rfl⟩ := p
          obtain ⟨rfl, hx2⟩ := y
          rw [List.getElem?_map] at hx2
          cases en : Fo.leans[i]? with
          | none => rw [en] at hx2; cases hx2
          | some k =>
            rw [en] at hx2
            cases hx2
            have hk : k ∈ L2 := hall k (List.mem_of_getElem? en)
            refine ⟨[.str k], rfl, rfl, _, rfl, _, rfl, ix_s (sm6 _ _ hd5) (by rw [dKvs_get nd2, if_pos hk]) (add_i ⟨rfl, ?_⟩)⟩
            rw [List.take_succ, en, List.map_append]
            rfl
        obtain ⟨rfl, rfl⟩ := p
        rw [List.length_map, List.take_of_length_le (Nat.le_refl _)]
        have sm7 := same_new hr3 (.lst (Fo.leans.map fun n => V.int ((depOf fs rk n : Nat) + 1 : Int)))
        refine add_l (sm7 _ _ upd_same) upd_same (small (by rw [List.length_map]; show 1 + _ ≤ 1000; omega)) fun p8 hp8 => ?_
        refine ⟨p8, (0 : Int) :: Fo.leans.map fun n => ((depOf fs rk n : Nat) + 1 : Int), rfl, by rw [upd_same, List.map_cons, List.map_map]; rfl, by simp, fun M hM hMx => ?_⟩
        have sm8 := same_new hp8 (.lst ([V.int 0] ++ Fo.leans.map fun n => V.int ((depOf fs rk n : Nat) + 1 : Int)))
        have smB := ((sm5.trans sm6).trans sm7).trans sm8
        have hMd : M = (depOf fs rk n : Nat) := by
          have e : depOf fs rk n = maxL ((leansOf fs n).map fun m => depOf fs rk m + 1) := depR_eq fo.leans hn
          rw [hlns] at e
          have h1 : ((depOf fs rk n : Nat) : Int) ≤ M := by
            by_cases hz : Fo.leans = []
            · rw [hz] at e
              rw [e]
              exact hMx 0 List.mem_cons_self
            · have hm := maxL_mem (l := Fo.leans.map fun m => depOf fs rk m + 1) (by simpa using hz)
              rw [← e] at hm
              obtain ⟨k, hk, e2⟩ := List.mem_map.mp hm
              rw [← e2]
              exact hMx _ (List.mem_cons_of_mem _ (List.mem_map.mpr ⟨k, hk, by push_cast; rfl⟩))
          have h2 : M ≤ ((depOf fs rk n : Nat) : Int) := by
            rcases List.mem_cons.mp hM with rfl | hM
            · omega
            · obtain ⟨k, hk, rfl⟩ := List.mem_map.mp hM
              have := le_maxL (l := Fo.leans.map fun m => depOf fs rk m + 1) (List.mem_map.mpr ⟨k, hk, rfl⟩)
              rw [← e] at this
              omega
          omega
        rw [hMd]
        have hd8 := smB _ _ hd4
        refine ⟨_, rfl, _, rfl, put_s hd8 (small1000 (by rw [dKvs_len]; omega)) ?_⟩
        have hnone : valV (dKvs (depOf fs rk) L2) (Sum.inr n) = none := by rw [dKvs_get nd2, if_neg hn2]
        refine ⟨_, _, _, L2 ++ [n], rfl, fun b o hb => ?_, ?_, nd_snoc nd2 hn2, fun k hk => ?_, fun k hk => List.mem_append_left _ (hsub k hk), stepIn _ (fun k hk => List.mem_append_left _ hk) (List.mem_append_right _ (List.mem_singleton.mpr rfl))⟩
        · rw [upd_ne (fun e => by rw [e, hd] at hb; cases hb)]
          exact smB _ _ (sm4 _ _ (s2 _ _ hb))
        · rw [upd_same, putK_new _ hnone, dKvs_snoc]
        · rcases List.mem_append.mp hk with hk | hk
          · exact hL2 k hk
          · rw [List.mem_singleton.mp hk]; exact hn
      · refine iteEqF ?_ ⟨_, _, _, L2, rfl, (s2.trans sm4).trans sm5, hd5, nd2, hL2, hsub, fun k hk hl => ?_⟩
        · apply Bool.eq_false_iff.mpr
          intro z
          exact hall fun k hk => of_decide_eq_true (List.all_eq_true.mp z k hk)
        · rw [List.take_succ, hnj] at hk
          rcases List.mem_append.mp hk with hk | hk
          · exact hin k hk hl
          · rw [List.mem_singleton.mp hk] at hl
            rw [hlns] at hl
            exact absurd (fun k hk => hsub k (hl k hk)) hall
    · obtain ⟨x2, y2, z2, L2, rfl, s2, hd2, nd2, hL2, hsub, hin⟩ := p
      rw [hlen, List.take_of_length_le (by rw [hnl]; exact Nat.le_refl _)] at hin
      have h0 : n0 ∈ L2 := hin n0 hn0 fun k hk => hmin k (fo.leans.dn n0 hn0 k hk).1 (fo.leans.dn n0 hn0 k hk).2
      have hgrow : L.length + 1 ≤ L2.length := length_le_of_sub (l := n0 :: L) (m := L2) (List.nodup_cons.mpr ⟨hno, ndL⟩) fun k hk => by
        rcases List.mem_cons.mp hk with rfl | hk
        · exact h0
        · exact hsub k hk
      exact ⟨fs.length - L2.length, by omega, _, _, _, L2, rfl, rfl, s2, hd2, nd2, hL2⟩
  · have hge : ¬ L.length < fs.length := fun z => h (decide_eq_true (by rw [dKvs_len, hlen]; exact_mod_cast z))
    refine ⟨_, rfl, q d _ H1 sm hdd fun n hn => ?_⟩
    have hnL : n ∈ L := Classical.byContradiction fun hno => by
      have := length_le_of_sub (l := n :: L) (m := fs.map (·.1)) (List.nodup_cons.mpr ⟨hno, ndL⟩) fun k hk => by
        rcases List.mem_cons.mp hk with rfl | hk
        · exact hn
        · exact hL k hk
      rw [List.length_cons, hnl] at this
      omega
    rw [dKvs_get ndL, if_pos hnL]
/-- two numbers that are alike -/
def spAlike : Sp := fun vs H Q _ => ∃ i : Int, vs = [.int i, .int i] ∧ ∀ H', Same H H' → Q (.bl true) H'
theorem sc_l_alike : FnScope ["_law_found", "_law_due"] ["_law_found", "_law_due"] (defScope s_l_alike) := ⟨rfl, rfl, rfl, by decide +kernel, rfl, by decide +kernel, by decide +kernel⟩
theorem ok_l_alike (F : Fun K "_law_alike" "_law_alike" s_l_alike f fd) (B : Blt mg) : FnOk P w K mg base CX0 1 f fd ["_law_found", "_law_due"] spAlike := by
  refine F.ok sc_l_alike (fun vs H Q E h => ?_) (fun cdv A outer s H vs Q E hr h => ?_)
  · obtain ⟨i, rfl, _⟩ := h
    rfl
  obtain ⟨i, rfl, q⟩ := h
  have hu := hu_of hr
  refine run_of (qss_cons (qs_if (qt_tru K (qe_cB (k_isi K) rfl B.isi PyProof.Rows.boot_isinstance (qa_c (qv 1) (qa_c (qe_tup (qa_c (qe_bltn (v := .ty "list") rfl B.list PyProof.Rows.boot_list rfl) (qa_c (qe_bltn (v := .ty "tuple") rfl B.tuple PyProof.Rows.boot_tuple rfl) qa_nil))) qa_nil))) (fun _ => rfl)) qss_never qss_nil)
    (qss_cons (qs_if (qt_tru K (qe_cB (k_isi K) rfl B.isi PyProof.Rows.boot_isinstance (qa_c (qv 1) (qa_c (qe_bltn (v := .ty "dict") rfl B.dict PyProof.Rows.boot_dict rfl) qa_nil))) (fun _ => rfl)) qss_never qss_nil)
    (qss_cons (qs_if (qt_cmpR k_isN (qv 1) qe_non rfl) (qss_one (qs_ret (qe_cmpR k_isN (qv 0) qe_non rfl))) qss_nil)
    (qss_cons (qs_if (qt_tru K (qe_cB (k_isi K) rfl B.isi PyProof.Rows.boot_isinstance (qa_c (qv 1) (qa_c (qe_bltn (v := .ty "bool") rfl B.bool PyProof.Rows.boot_bool rfl) qa_nil))) (fun _ => rfl)) (qss_one (qs_ret (qe_and (qe_cB (k_isi K) rfl B.isi PyProof.Rows.boot_isinstance (qa_c (qv 0) (qa_c (qe_bltn (v := .ty "bool") rfl B.bool PyProof.Rows.boot_bool rfl) qa_nil))) (qe_one (qe_cmpR k_eq (qv 0) (qv 1) rfl))))) qss_nil)
    (qss_cons (qs_if (qt_tru K (qe_cB (k_isi K) rfl B.isi PyProof.Rows.boot_isinstance (qa_c (qv 1) (qa_c (qe_bltn (v := .ty "str") rfl B.str PyProof.Rows.boot_str rfl) qa_nil))) (fun _ => rfl)) (qss_one (qs_ret (qe_and (qe_cB (k_isi K) rfl B.isi PyProof.Rows.boot_isinstance (qa_c (qv 0) (qa_c (qe_bltn (v := .ty "str") rfl B.str PyProof.Rows.boot_str rfl) qa_nil))) (qe_one (qe_cmpR k_eq (qv 0) (qv 1) rfl))))) qss_nil)
    (qss_one (qs_ret (qe_and (qe_cB (k_isi K) rfl B.isi PyProof.Rows.boot_isinstance (qa_c (qv 0) (qa_c (qe_bltn (v := .ty "int") rfl B.int PyProof.Rows.boot_int rfl) qa_nil))) (qe_and (qe_not (qe_cB (k_isi K) rfl B.isi PyProof.Rows.boot_isinstance (qa_c (qv 0) (qa_c (qe_bltn (v := .ty "bool") rfl B.bool PyProof.Rows.boot_bool rfl) qa_nil)))) (qe_one (qe_cmpR k_eq (qv 0) (qv 1) rfl))))))))))) ?_
  refine ⟨_, rfl, (by show 2 ≤ sizeLine; decide), fun p hp => isi_t upd_same (.int _) (kq_int_lt K) ⟨_, rfl, iteF ?_⟩⟩
  have sm := same_new hp (.tup [.ty "list", .ty "tuple"])
  refine ⟨_, rfl, isi_1 (.int _) (kq_int_dict K) ⟨_, rfl, iteF ⟨_, rfl, rfl, _, rfl, iteEqF (decide_eq_false fun e => by cases e) ?_⟩⟩⟩
  refine ⟨_, rfl, isi_1 (.int _) (kq_int_bool K) ⟨_, rfl, iteF ⟨_, rfl, isi_1 (.int _) (kq_int_str K) ⟨_, rfl, iteF ?_⟩⟩⟩⟩
  refine ⟨_, rfl, isi_1 (.int _) (kq_int_int K) ⟨_, rfl, iteT ⟨_, rfl, isi_1 (.int _) (kq_int_bool K) ⟨_, rfl, _, rfl, iteT ⟨_, rfl, _, rfl, rfl, ?_⟩⟩⟩⟩⟩
  have z := q _ sm
  rw [show decide (V.int i = V.int i) = true from decide_eq_true rfl]
  exact z
def spDepth : Sp := fun vs H Q _ => ∃ (fs : List (Str × Fm)) (rk : Str → Nat) (v : V) (n : Str), vs = [v, .str n] ∧ DRep H (formsD fs) v ∧ Forms fs rk ∧ n ∈ fs.map (·.1) ∧ ∀ H', Same H H' → Q (.int (depOf fs rk n : Nat)) H'
theorem sc_depth : FnScope ["forms", "name"] ["forms", "name"] (defScope s_depth) := ⟨rfl, rfl, rfl, by decide +kernel, rfl, by decide +kernel, by decide +kernel⟩
theorem ok_depth (F : Fun K "depth" "depth" s_depth f fd) (h_depths_of : Has P w K mg base "depths_of" 2 ["forms"] spDepths) : FnOk P w K mg base CX0 3 f fd ["forms", "name"] spDepth := by
  refine F.ok sc_depth (fun vs H Q E h => ?_) (fun cdv A outer s H vs Q E hr h => ?_)
  · obtain ⟨fs, rk, v, n, rfl, _⟩ := h
    rfl
  obtain ⟨fs, rk, v, n, rfl, rep, fo, hn, q⟩ := h
  have hu := hu_of hr
  refine run_of (qss_one (qs_ret (qe_ix K hu (qe_call h_depths_of hr (by decide) rfl (qa_c (qv 0) qa_nil)) (qv 1) (fun _ _ => rfl)))) ?_
  refine ⟨_, rfl, fs, rk, v, rfl, rep, fo, fun d H' sm _ hd => ⟨_, rfl, ix_s hd ?_ (q _ sm)⟩⟩
  rw [depKvs_get fo hn, if_pos]
  have := dep_small fo.leans hn
  rw [List.length_map] at this
  exact this
def spLaw (K : PySem.W.Frag) : Sp := fun vs H Q _ => ∃ (a : Addr) (ns : List Int), vs = [.ref a] ∧ SqL K H a (ns.map V.int) ∧ ns.length ≤ 63 ∧ ∀ H', Q (.bl true) H'
theorem cut_ints (ns : List Int) (lo hi : Option Int) : ∃ us : List Int, cutV (ns.map V.int) lo hi = us.map V.int := by
  refine ⟨(ns.drop (HT.sIx (ns.map V.int).length 0 lo)).take (HT.sIx (ns.map V.int).length (ns.map V.int).length hi - HT.sIx (ns.map V.int).length 0 lo), ?_⟩
  unfold cutV
  rw [List.map_take, List.map_drop]
theorem cut_ints18 (ns : List Int) : ∃ us : List Int, cutV (ns.map V.int) (some 8) (some 26) = us.map V.int ∧ us.length ≤ 18 := by
  obtain ⟨us, e⟩ := cut_ints ns (some 8) (some 26)
  refine ⟨us, e, ?_⟩
  have := congrArg List.length e
  rw [List.length_map] at this
  rw [← this]
  have h8 : ∀ n d, HT.sIx n d (some 8) = min 8 n := fun n d => HT.sIx_nat n d 8
  have h26 : ∀ n d, HT.sIx n d (some 26) = min 26 n := fun n d => HT.sIx_nat n d 26
  unfold cutV
  rw [List.length_take, h8, h26]
  omega
theorem sc_law : FnScope ["_law_script", "_law_count", "_law_shift", "_law_forms", "_law_at", "_law_due", "_law_handed", "_law_name", "_law_form"] ["_law_script"] (defScope s_law) := ⟨rfl, rfl, rfl, by decide +kernel, rfl, by decide +kernel, by decide +kernel⟩
theorem ok_law (F : Fun K "law" "law" s_law f fd) (B : Blt mg) (h_l_cell_at : Has P w K mg base "_law_cell_at" 1 ["_law_script", "_law_k"] (spCell K)) (h_l_mixed : Has P w K mg base "_law_mixed" 1 ["_law_number", "_law_k"] spMixed)
    (h_l_forms_by : Has P w K mg base "_law_forms_by" 3 ["_law_cells", "_law_count", "_law_shift"] (spFormsBy K)) (h_l_longer : Has P w K mg base "_law_longer" 2 ["_law_forms", "_law_cells"] (spLonger K)) (h_l_depths : Has P w K mg base "_law_depths" 2 ["_law_forms"] spLDepths)
    (h_l_copied : Has P w K mg base "_law_copied" 1 ["_law_forms"] spLCopied) (h_l_alike : Has P w K mg base "_law_alike" 1 ["_law_found", "_law_due"] spAlike) (h_depth : Has P w K mg base "depth" 3 ["forms", "name"] spDepth) :
    FnOk P w K mg base CX0 4 f fd ["_law_script"] (spLaw K) := by
  refine F.ok sc_law (fun vs H Q E h => ?_) (fun cdv A outer s H vs Q E hr h => ?_)
  · obtain ⟨a, ns, rfl, _⟩ := h
    rfl
  obtain ⟨a, ns, rfl, hS, hn, q⟩ := h
  have hu := hu_of hr
  have nd := sc_law.nd
  refine run_of (qss_cons (qs_set (i := 1) nd rfl (Or.inl rfl) (qe_op (k_add K) qe_int (qe_op k_mod (qe_call h_l_cell_at hr (by decide) rfl (qa_c (qv 0) (qa_c qe_int qa_nil))) qe_int)))
    (qss_cons (qs_set (i := 2) nd rfl (Or.inl rfl) (qe_call h_l_mixed hr (by decide) rfl (qa_c (qe_call h_l_cell_at hr (by decide) rfl (qa_c (qv 0) (qa_c qe_int qa_nil))) (qa_c qe_int qa_nil))))
    (qss_cons (qs_set (i := 3) nd rfl (Or.inl rfl) (qe_call h_l_forms_by hr (by decide) rfl (qa_c (qe_slice K (qv 0) (qo_some qe_int) (qo_some qe_int)) (qa_c (qv 1) (qa_c (qv 2) qa_nil)))))
    (qss_cut (qs_if (qt_cmpR k_eq (qe_op k_mod (qe_op k_fdiv (qv 2) qe_int) qe_int) qe_int rfl) (qss_one (qs_set (i := 3) nd rfl (Or.inl rfl) (qe_call h_l_longer hr (by decide) rfl (qa_c (qv 3) (qa_c (qe_slice K (qv 0) (qo_some qe_int) (qo_some qe_int)) qa_nil))))) qss_nil)
    (qss_cons (qs_set (i := 4) nd rfl (Or.inl rfl) (qe_op k_mod (qe_op k_fdiv (qv 2) qe_int) (qe_cB (k_len K) rfl B.len PySem.boot_len (qa_c (qv 3) qa_nil))))
    (qss_cons (qs_set (i := 3) nd rfl (Or.inl rfl) (qe_op (k_add K) (qe_slice K (qv 3) (qo_some (qv 4)) qo_none) (qe_slice K (qv 3) qo_none (qo_some (qv 4)))))
    (qss_cons (qs_set (i := 5) nd rfl (Or.inl rfl) (qe_call h_l_depths hr (by decide) rfl (qa_c (qv 3) qa_nil)))
    (qss_cons (qs_set (i := 6) nd rfl (Or.inl rfl) (qe_call h_l_copied hr (by decide) rfl (qa_c (qv 3) qa_nil)))
    (qss_cons (qs_for PassesOwn.never rfl (qi_list K (qv 3)) (qg_tup K rfl (qgs_cons (qg_name (i := 7) nd rfl (Or.inl rfl)) (qgs_cons (qg_name (i := 8) nd rfl (Or.inl rfl)) qgs_nil))) (qss_one (qs_if (qw_pt (qw_or (qt_not (qt_tru K (qe_call h_l_alike hr (by decide) rfl (qa_c (qe_call h_depth hr (by decide) rfl (qa_c (qv 6) (qa_c (qv 7) qa_nil))) (qa_c (qe_ix K hu (qv 5) (qv 7) (fun _ _ => rfl)) qa_nil))) (fun _ => rfl))) (qw_or1 (qt_cmpR (k_ne hr) (qv 6) (qv 3) rfl)))) (qss_one (qs_ret qe_bl)) qss_nil)))
    (qss_one (qs_ret qe_bl))))))))))) ?_
  refine ⟨_, rfl, a, ns, 0, rfl, by decide, hS, fun c0 => ⟨_, _, rfl, rfl, (by show (0 : Int) < 5; decide), add_i ?_⟩⟩
  refine ⟨_, rfl, a, ns, 1, rfl, by decide, hS, fun c1 => ⟨c1, 50, rfl, by decide, by decide, fun sh s0 s1 => ?_⟩⟩
  refine ⟨_, rfl, _, rfl, _, rfl, sl_l hS fun p hp => ?_⟩
  obtain ⟨us, eus⟩ := cut_ints ns (some 2) (some 8)
  rw [eus]
  have sm1 := same_new hp (.lst (us.map V.int))
  have hc : ∃ c : Nat, 2 + c0 % 5 = (c : Int) ∧ 2 ≤ c ∧ c ≤ 6 := ⟨(2 + c0 % 5).toNat, by omega, by omega, by omega⟩
  obtain ⟨c, hc, hc2, hc6⟩ := hc
  rw [hc]
  refine ⟨_, rfl, _, rfl, p, us, c, sh, rfl, SqL.of upd_same, hc2, hc6, s0, fun fs rk v H2 sm2 fo hfl h8 rep => ?_⟩
  have smA := sm1.trans sm2
  have rep2 := rep.mono newOf_sub
  have hne : fs ≠ [] := fun e => by rw [e] at hfl; have : (0 : Nat) = c := hfl; omega
  refine ⟨fun σ H3 => ∃ (gs : List (Str × Fm)) (rk' : Str → Nat) (v' : V), σ = [some (.ref a), some (.int c), some (.int sh), some v', none, none, none, none, none] ∧ Same H H3 ∧ Forms gs rk' ∧ gs ≠ [] ∧ DRep H3 (formsD gs) v', ?_, ?_⟩
  · refine ⟨_, rfl, _, _, rfl, rfl, ⟨by decide, by decide⟩, _, _, rfl, rfl, (by show (0 : Int) < 2; decide), rfl, _, rfl, ite2 (fun _ => ?_) (fun _ => ⟨fs, rk, v, rfl, smA, fo, hne, rep2⟩)⟩
    refine ⟨_, rfl, _, rfl, _, rfl, _, rfl, sl_l (smA.seq hS) fun p2 hp2 => ?_⟩
    obtain ⟨vs, evs, hvl⟩ := cut_ints18 ns
    rw [evs]
    have sm3 := same_new hp2 (.lst (vs.map V.int))
    refine ⟨fs, rk, v, p2, vs, rfl, rep2.mono sm3, fo, hne, by omega, h8, SqL.of upd_same, hvl, fun gs rk' v' H4 sm4 fo4 hne4 rep4 => ?_⟩
    exact ⟨gs, rk', v', rfl, (smA.trans sm3).trans sm4, fo4, hne4, rep4⟩
  · rintro σ H3 ⟨gs, rk', v', rfl, sm3, fo3, hne3, rep3⟩
    obtain ⟨fa, xs, rfl, hfa, hxs⟩ := forms_at rep3
    have hlen : xs.length = gs.length := by rw [hxs.len, List.length_map]
    have few := fo3.few
    have hpos : 0 < gs.length := List.length_pos_iff.mpr hne3
    refine ⟨_, rfl, _, _, rfl, rfl, ⟨by decide, by decide⟩, _, rfl, len_l (SqL.of hfa) ⟨_, _, rfl, rfl, (by show (0 : Int) < (xs.length : Int); omega), ?_⟩⟩
    have hat : sh / 128 % (xs.length : Int) = ((sh / 128 % (xs.length : Int)).toNat : Int) := by
      have := Int.emod_nonneg (sh / 128) (show (xs.length : Int) ≠ 0 by omega)
      omega
    generalize hk : (sh / 128 % (xs.length : Int)).toNat = k at hat
    dsimp only
    rw [hat]
    refine ⟨_, rfl, _, rfl, _, rfl, sl_l (SqL.of hfa) fun p1 hp1 => ?_⟩
    rw [cut_from]
    have sm4 := same_new hp1 (.lst (xs.drop k))
    refine ⟨_, rfl, _, rfl, _, rfl, sl_l (SqL.of (sm4 _ _ hfa)) fun p2 hp2 => ?_⟩
    rw [cut_nat]
    have sm5 := same_new hp2 (.lst (xs.take k))
    refine add_l (sm5 _ _ upd_same) upd_same (small (by rw [List.length_drop, List.length_take]; omega)) fun p hp => ?_
    have sm6 := same_new hp (.lst (xs.drop k ++ xs.take k))
    have fo6 := fo3.perm (rot_perm gs k)
    have hx6 := hxs.mono ((sm4.trans sm5).trans sm6)
    have rep6 : DRep (upd (upd (upd H3 p1 (.lst (xs.drop k))) p2 (.lst (xs.take k))) p (.lst (xs.drop k ++ xs.take k))) (formsD (gs.drop k ++ gs.take k)) (.ref p) := by
      refine ⟨p, _, rfl, upd_same, ?_⟩
      rw [List.map_append, List.map_drop, List.map_take]
      exact DReps.app (hx6.take k) (hx6.drop k)
    generalize gs.drop k ++ gs.take k = ks at fo6 rep6
    refine ⟨_, rfl, ks, rk', _, rfl, rep6, fo6, fun d kvs H7 sm7 hd7 hkvs => ?_⟩
    refine ⟨_, rfl, ks, _, rfl, rep6.mono sm7, fo6.few, fun hv H8 sm8 rep8 => ?_⟩
    have rep9 := (rep6.mono sm7).mono sm8
    obtain ⟨fb, ys, efb, hfb, hys⟩ := forms_at rep9
    cases efb
    refine ⟨_, rfl, p, rfl, ⟨_, SqL.of hfb⟩, for_w (w_list (xs := ys)) (fun i σ H9 => ∃ x y : Option V, σ = [some (.ref a), some (.int c), some (.int sh), some (.ref p), some (.int (k : Int)), some (.ref d), some hv, x, y] ∧ Same H8 H9) ⟨_, _, rfl, Same.refl _⟩ (fun i σ H9 hi pv => ?_) (fun i x σ H9 H10 hi pv y => ?_) (fun σ H9 pv => q H9)⟩
    · obtain ⟨_, _, _, s9⟩ := pv
      exact SqL.of (s9 _ _ hfb)
    · obtain ⟨x1, y1, rfl, s9⟩ := pv
      obtain ⟨rfl, hx⟩ := y
      obtain ⟨n, Fo, ta, u, hf, rfl, hta, hu'⟩ := forms_get hys hx
      have hmem : n ∈ ks.map (·.1) := List.mem_map.mpr ⟨_, List.mem_of_getElem? hf, rfl⟩
      refine ⟨ta, _, rfl, SqT.of (s9 _ _ hta), rfl, _, _, rfl, _, _, rfl, rfl, ?_⟩
      refine ⟨_, rfl, _, rfl, ks, rk', _, n, rfl, rep8.mono s9, fo6, hmem, fun H11 sm11 => ⟨_, rfl, _, rfl, ix_s (sm11 _ _ (s9 _ _ (sm8 _ _ hd7))) (hkvs n hmem) ⟨_, rfl, fun H12 sm12 => ⟨_, rfl, iteF ?_⟩⟩⟩⟩
      have smZ := (s9.trans sm11).trans sm12
      exact ⟨_, rfl, _, rfl, ne_d (formsD ks) (rep8.mono smZ) (rep9.mono smZ) (formsD_fine ks).1 (Nat.le_trans (formsD_fine ks).2 (by decide)) ⟨_, rfl, iteF ⟨_, _, rfl, smZ⟩⟩⟩
end
end K19
set_option Elab.async false
set_option linter.all false
set_option maxRecDepth 100000
set_option maxHeartbeats 4000000
namespace K19
open PySem L2 Rg
theorem all_mk {l : PySem.W.OpenLaw} {w : World} {K : PySem.W.Frag} {h : Heap} {mg : Str → Option Value} {fa f1 f2 f3 f4 f5 f6 f7 f8 f9 f10 f11 f12 f13 f14 f15 f16 f17 f18 f19 f20 : Addr} (X : K.In h) (G : h.Ns mainGlobals mg) (hfa : mg "law" = some (.ref fa))
    {od1 an1 od2 an2 od3 an3 od4 an4 od5 an5 od6 an6 od7 an7 od8 an8 od9 an9 od10 an10 od11 an11 od12 an12 od13 an13 od14 an14 od15 an15 od16 an16 od17 an17 od18 an18 od19 an19 od20 an20 : Option Addr} {sl1 sl2 sl3 sl4 sl5 sl6 sl7 sl8 sl9 sl10 sl11 sl12 sl13 sl14 sl15 sl16 sl17 sl18 sl19 sl20 : Array (Option Value)} {oc1 kV1 dc1 pm1 cd1 ct1 oc2 kV2 dc2 pm2 cd2 ct2 oc3 kV3 dc3 pm3 cd3 ct3 oc4 kV4 dc4 pm4 cd4 ct4 oc5 kV5 dc5 pm5 cd5 ct5 oc6 kV6 dc6 pm6 cd6 ct6 oc7 kV7 dc7 pm7 cd7 ct7 oc8 kV8 dc8 pm8 cd8 ct8 oc9 kV9 dc9 pm9 cd9 ct9 oc10 kV10 dc10 pm10 cd10 ct10 oc11 kV11 dc11 pm11 cd11 ct11 oc12 kV12 dc12 pm12 cd12 ct12 oc13 kV13 dc13 pm13 cd13 ct13 oc14 kV14 dc14 pm14 cd14 ct14 oc15 kV15 dc15 pm15 cd15 ct15 oc16 kV16 dc16 pm16 cd16 ct16 oc17 kV17 dc17 pm17 cd17 ct17 oc18 kV18 dc18 pm18 cd18 ct18 oc19 kV19 dc19 pm19 cd19 ct19 oc20 kV20 dc20 pm20 cd20 ct20 : Value}
    (a1 : PySem.W.nsIn K mainGlobals "leans_on" = some (some (.ref f1)))
    (l1 : K.lookup f1 = some ⟨oc1, od1, .func (PySem.W.fnOf "leans_on" "leans_on" (defArgs s_leans_on) (defBody s_leans_on) (defScope s_leans_on) .none kV1 dc1 pm1 an1 cd1 ct1), sl1⟩)
    (c1 : PySem.W.codeIn K cd1 "leans_on" = true) (k1 : PySem.W.keepIn K (.ref f1) = true)
    (a2 : PySem.W.nsIn K mainGlobals "all_in" = some (some (.ref f2)))
    (l2 : K.lookup f2 = some ⟨oc2, od2, .func (PySem.W.fnOf "all_in" "all_in" (defArgs s_all_in) (defBody s_all_in) (defScope s_all_in) .none kV2 dc2 pm2 an2 cd2 ct2), sl2⟩)
    (c2 : PySem.W.codeIn K cd2 "all_in" = true) (k2 : PySem.W.keepIn K (.ref f2) = true)
    (a3 : PySem.W.nsIn K mainGlobals "depths_of" = some (some (.ref f3)))
    (l3 : K.lookup f3 = some ⟨oc3, od3, .func (PySem.W.fnOf "depths_of" "depths_of" (defArgs s_depths_of) (defBody s_depths_of) (defScope s_depths_of) .none kV3 dc3 pm3 an3 cd3 ct3), sl3⟩)
    (c3 : PySem.W.codeIn K cd3 "depths_of" = true) (k3 : PySem.W.keepIn K (.ref f3) = true)
    (a4 : PySem.W.nsIn K mainGlobals "depth" = some (some (.ref f4)))
    (l4 : K.lookup f4 = some ⟨oc4, od4, .func (PySem.W.fnOf "depth" "depth" (defArgs s_depth) (defBody s_depth) (defScope s_depth) .none kV4 dc4 pm4 an4 cd4 ct4), sl4⟩)
    (c4 : PySem.W.codeIn K cd4 "depth" = true) (k4 : PySem.W.keepIn K (.ref f4) = true)
    (a5 : PySem.W.nsIn K mainGlobals "_law_cell_at" = some (some (.ref f5)))
    (l5 : K.lookup f5 = some ⟨oc5, od5, .func (PySem.W.fnOf "_law_cell_at" "_law_cell_at" (defArgs s_l_cell_at) (defBody s_l_cell_at) (defScope s_l_cell_at) .none kV5 dc5 pm5 an5 cd5 ct5), sl5⟩)
    (c5 : PySem.W.codeIn K cd5 "_law_cell_at" = true) (k5 : PySem.W.keepIn K (.ref f5) = true)
    (a6 : PySem.W.nsIn K mainGlobals "_law_mixed" = some (some (.ref f6)))
    (l6 : K.lookup f6 = some ⟨oc6, od6, .func (PySem.W.fnOf "_law_mixed" "_law_mixed" (defArgs s_l_mixed) (defBody s_l_mixed) (defScope s_l_mixed) .none kV6 dc6 pm6 an6 cd6 ct6), sl6⟩)
    (c6 : PySem.W.codeIn K cd6 "_law_mixed" = true) (k6 : PySem.W.keepIn K (.ref f6) = true)
    (a7 : PySem.W.nsIn K mainGlobals "_law_name_by" = some (some (.ref f7)))
    (l7 : K.lookup f7 = some ⟨oc7, od7, .func (PySem.W.fnOf "_law_name_by" "_law_name_by" (defArgs s_l_name_by) (defBody s_l_name_by) (defScope s_l_name_by) .none kV7 dc7 pm7 an7 cd7 ct7), sl7⟩)
    (c7 : PySem.W.codeIn K cd7 "_law_name_by" = true) (k7 : PySem.W.keepIn K (.ref f7) = true)
    (a8 : PySem.W.nsIn K mainGlobals "_law_number_by" = some (some (.ref f8)))
    (l8 : K.lookup f8 = some ⟨oc8, od8, .func (PySem.W.fnOf "_law_number_by" "_law_number_by" (defArgs s_l_number_by) (defBody s_l_number_by) (defScope s_l_number_by) .none kV8 dc8 pm8 an8 cd8 ct8), sl8⟩)
    (c8 : PySem.W.codeIn K cd8 "_law_number_by" = true) (k8 : PySem.W.keepIn K (.ref f8) = true)
    (a9 : PySem.W.nsIn K mainGlobals "_law_word_by" = some (some (.ref f9)))
    (l9 : K.lookup f9 = some ⟨oc9, od9, .func (PySem.W.fnOf "_law_word_by" "_law_word_by" (defArgs s_l_word_by) (defBody s_l_word_by) (defScope s_l_word_by) .none kV9 dc9 pm9 an9 cd9 ct9), sl9⟩)
    (c9 : PySem.W.codeIn K cd9 "_law_word_by" = true) (k9 : PySem.W.keepIn K (.ref f9) = true)
    (a10 : PySem.W.nsIn K mainGlobals "_law_plain_form" = some (some (.ref f10)))
    (l10 : K.lookup f10 = some ⟨oc10, od10, .func (PySem.W.fnOf "_law_plain_form" "_law_plain_form" (defArgs s_l_plain_form) (defBody s_l_plain_form) (defScope s_l_plain_form) .none kV10 dc10 pm10 an10 cd10 ct10), sl10⟩)
    (c10 : PySem.W.codeIn K cd10 "_law_plain_form" = true) (k10 : PySem.W.keepIn K (.ref f10) = true)
    (a11 : PySem.W.nsIn K mainGlobals "_law_row_form" = some (some (.ref f11)))
    (l11 : K.lookup f11 = some ⟨oc11, od11, .func (PySem.W.fnOf "_law_row_form" "_law_row_form" (defArgs s_l_row_form) (defBody s_l_row_form) (defScope s_l_row_form) .none kV11 dc11 pm11 an11 cd11 ct11), sl11⟩)
    (c11 : PySem.W.codeIn K cd11 "_law_row_form" = true) (k11 : PySem.W.keepIn K (.ref f11) = true)
    (a12 : PySem.W.nsIn K mainGlobals "_law_record_form" = some (some (.ref f12)))
    (l12 : K.lookup f12 = some ⟨oc12, od12, .func (PySem.W.fnOf "_law_record_form" "_law_record_form" (defArgs s_l_record_form) (defBody s_l_record_form) (defScope s_l_record_form) .none kV12 dc12 pm12 an12 cd12 ct12), sl12⟩)
    (c12 : PySem.W.codeIn K cd12 "_law_record_form" = true) (k12 : PySem.W.keepIn K (.ref f12) = true)
    (a13 : PySem.W.nsIn K mainGlobals "_law_leaning_form" = some (some (.ref f13)))
    (l13 : K.lookup f13 = some ⟨oc13, od13, .func (PySem.W.fnOf "_law_leaning_form" "_law_leaning_form" (defArgs s_l_leaning_form) (defBody s_l_leaning_form) (defScope s_l_leaning_form) .none kV13 dc13 pm13 an13 cd13 ct13), sl13⟩)
    (c13 : PySem.W.codeIn K cd13 "_law_leaning_form" = true) (k13 : PySem.W.keepIn K (.ref f13) = true)
    (a14 : PySem.W.nsIn K mainGlobals "_law_forms_by" = some (some (.ref f14)))
    (l14 : K.lookup f14 = some ⟨oc14, od14, .func (PySem.W.fnOf "_law_forms_by" "_law_forms_by" (defArgs s_l_forms_by) (defBody s_l_forms_by) (defScope s_l_forms_by) .none kV14 dc14 pm14 an14 cd14 ct14), sl14⟩)
    (c14 : PySem.W.codeIn K cd14 "_law_forms_by" = true) (k14 : PySem.W.keepIn K (.ref f14) = true)
    (a15 : PySem.W.nsIn K mainGlobals "_law_alike" = some (some (.ref f15)))
    (l15 : K.lookup f15 = some ⟨oc15, od15, .func (PySem.W.fnOf "_law_alike" "_law_alike" (defArgs s_l_alike) (defBody s_l_alike) (defScope s_l_alike) .none kV15 dc15 pm15 an15 cd15 ct15), sl15⟩)
    (c15 : PySem.W.codeIn K cd15 "_law_alike" = true) (k15 : PySem.W.keepIn K (.ref f15) = true)
    (a16 : PySem.W.nsIn K mainGlobals "_law_copied" = some (some (.ref f16)))
    (l16 : K.lookup f16 = some ⟨oc16, od16, .func (PySem.W.fnOf "_law_copied" "_law_copied" (defArgs s_l_copied) (defBody s_l_copied) (defScope s_l_copied) .none kV16 dc16 pm16 an16 cd16 ct16), sl16⟩)
    (c16 : PySem.W.codeIn K cd16 "_law_copied" = true) (k16 : PySem.W.keepIn K (.ref f16) = true)
    (a17 : PySem.W.nsIn K mainGlobals "_law_longer" = some (some (.ref f17)))
    (l17 : K.lookup f17 = some ⟨oc17, od17, .func (PySem.W.fnOf "_law_longer" "_law_longer" (defArgs s_l_longer) (defBody s_l_longer) (defScope s_l_longer) .none kV17 dc17 pm17 an17 cd17 ct17), sl17⟩)
    (c17 : PySem.W.codeIn K cd17 "_law_longer" = true) (k17 : PySem.W.keepIn K (.ref f17) = true)
    (a18 : PySem.W.nsIn K mainGlobals "_law_leans" = some (some (.ref f18)))
    (l18 : K.lookup f18 = some ⟨oc18, od18, .func (PySem.W.fnOf "_law_leans" "_law_leans" (defArgs s_l_leans) (defBody s_l_leans) (defScope s_l_leans) .none kV18 dc18 pm18 an18 cd18 ct18), sl18⟩)
    (c18 : PySem.W.codeIn K cd18 "_law_leans" = true) (k18 : PySem.W.keepIn K (.ref f18) = true)
    (a19 : PySem.W.nsIn K mainGlobals "_law_depths" = some (some (.ref f19)))
    (l19 : K.lookup f19 = some ⟨oc19, od19, .func (PySem.W.fnOf "_law_depths" "_law_depths" (defArgs s_l_depths) (defBody s_l_depths) (defScope s_l_depths) .none kV19 dc19 pm19 an19 cd19 ct19), sl19⟩)
    (c19 : PySem.W.codeIn K cd19 "_law_depths" = true) (k19 : PySem.W.keepIn K (.ref f19) = true)
    (a20 : PySem.W.nsIn K mainGlobals "law" = some (some (.ref f20)))
    (l20 : K.lookup f20 = some ⟨oc20, od20, .func (PySem.W.fnOf "law" "law" (defArgs s_law) (defBody s_law) (defScope s_law) .none kV20 dc20 pm20 an20 cd20 ct20), sl20⟩)
    (c20 : PySem.W.codeIn K cd20 "law" = true) (k20 : PySem.W.keepIn K (.ref f20) = true)
    (z1 : PySem.W.nsIn K mainGlobals "len" = some none)
    (z2 : PySem.W.nsIn K mainGlobals "isinstance" = some none)
    (z3 : PySem.W.nsIn K mainGlobals "list" = some none)
    (z4 : PySem.W.nsIn K mainGlobals "dict" = some none)
    (z5 : PySem.W.nsIn K mainGlobals "sorted" = some none)
    (z6 : PySem.W.nsIn K mainGlobals "reversed" = some none)
    (z7 : PySem.W.nsIn K mainGlobals "range" = some none)
    (z8 : PySem.W.nsIn K mainGlobals "int" = some none)
    (z9 : PySem.W.nsIn K mainGlobals "bool" = some none)
    (z10 : PySem.W.nsIn K mainGlobals "str" = some none)
    (z11 : PySem.W.nsIn K mainGlobals "sum" = some none)
    (z12 : PySem.W.nsIn K mainGlobals "zip" = some none)
    (z13 : PySem.W.nsIn K mainGlobals "abs" = some none)
    (z14 : PySem.W.nsIn K mainGlobals "min" = some none)
    (z15 : PySem.W.nsIn K mainGlobals "max" = some none)
    (z16 : PySem.W.nsIn K mainGlobals "all" = some none)
    (z17 : PySem.W.nsIn K mainGlobals "enumerate" = some none)
    (z18 : PySem.W.nsIn K mainGlobals "tuple" = some none) :
    ∃ fd : FuncData, (∀ (s : Shared) (v : Value), BindsTo s fd ⟨[v], []⟩ [("_law_script", v)]) ∧ ∀ base : Heap, K.In base → base.Ns mainGlobals mg → FnOk l.prog w K mg base CX0 4 fa fd ["_law_script"] (spLaw K) := by
  have e := hfa.symm.trans (PySem.W.mg_of X G a20)
  cases e
  have F1 := fun_mk (st := s_leans_on) l1 c1 k1
  have b1 := F1.binds (ps := ["form"]) fun _ _ _ _ _ _ us hl => match us, hl with | [_], _ => rfl
  have m1 := PySem.W.mg_of X G a1
  have F2 := fun_mk (st := s_all_in) l2 c2 k2
  have b2 := F2.binds (ps := ["names", "known"]) fun _ _ _ _ _ _ us hl => match us, hl with | [_, _], _ => rfl
  have m2 := PySem.W.mg_of X G a2
  have F3 := fun_mk (st := s_depths_of) l3 c3 k3
  have b3 := F3.binds (ps := ["forms"]) fun _ _ _ _ _ _ us hl => match us, hl with | [_], _ => rfl
  have m3 := PySem.W.mg_of X G a3
  have F4 := fun_mk (st := s_depth) l4 c4 k4
  have b4 := F4.binds (ps := ["forms", "name"]) fun _ _ _ _ _ _ us hl => match us, hl with | [_, _], _ => rfl
  have m4 := PySem.W.mg_of X G a4
  have F5 := fun_mk (st := s_l_cell_at) l5 c5 k5
  have b5 := F5.binds (ps := ["_law_script", "_law_k"]) fun _ _ _ _ _ _ us hl => match us, hl with | [_, _], _ => rfl
  have m5 := PySem.W.mg_of X G a5
  have F6 := fun_mk (st := s_l_mixed) l6 c6 k6
  have b6 := F6.binds (ps := ["_law_number", "_law_k"]) fun _ _ _ _ _ _ us hl => match us, hl with | [_, _], _ => rfl
  have m6 := PySem.W.mg_of X G a6
  have F7 := fun_mk (st := s_l_name_by) l7 c7 k7
  have b7 := F7.binds (ps := ["_law_cell", "_law_k"]) fun _ _ _ _ _ _ us hl => match us, hl with | [_, _], _ => rfl
  have m7 := PySem.W.mg_of X G a7
  have F8 := fun_mk (st := s_l_number_by) l8 c8 k8
  have b8 := F8.binds (ps := ["_law_number"]) fun _ _ _ _ _ _ us hl => match us, hl with | [_], _ => rfl
  have m8 := PySem.W.mg_of X G a8
  have F9 := fun_mk (st := s_l_word_by) l9 c9 k9
  have b9 := F9.binds (ps := ["_law_number"]) fun _ _ _ _ _ _ us hl => match us, hl with | [_], _ => rfl
  have m9 := PySem.W.mg_of X G a9
  have F10 := fun_mk (st := s_l_plain_form) l10 c10 k10
  have b10 := F10.binds (ps := ["_law_number"]) fun _ _ _ _ _ _ us hl => match us, hl with | [_], _ => rfl
  have m10 := PySem.W.mg_of X G a10
  have F11 := fun_mk (st := s_l_row_form) l11 c11 k11
  have b11 := F11.binds (ps := ["_law_number", "_law_names"]) fun _ _ _ _ _ _ us hl => match us, hl with | [_, _], _ => rfl
  have m11 := PySem.W.mg_of X G a11
  have F12 := fun_mk (st := s_l_record_form) l12 c12 k12
  have b12 := F12.binds (ps := ["_law_number", "_law_names"]) fun _ _ _ _ _ _ us hl => match us, hl with | [_, _], _ => rfl
  have m12 := PySem.W.mg_of X G a12
  have F13 := fun_mk (st := s_l_leaning_form) l13 c13 k13
  have b13 := F13.binds (ps := ["_law_number", "_law_ahead"]) fun _ _ _ _ _ _ us hl => match us, hl with | [_, _], _ => rfl
  have m13 := PySem.W.mg_of X G a13
  have F14 := fun_mk (st := s_l_forms_by) l14 c14 k14
  have b14 := F14.binds (ps := ["_law_cells", "_law_count", "_law_shift"]) fun _ _ _ _ _ _ us hl => match us, hl with | [_, _, _], _ => rfl
  have m14 := PySem.W.mg_of X G a14
  have F15 := fun_mk (st := s_l_alike) l15 c15 k15
  have b15 := F15.binds (ps := ["_law_found", "_law_due"]) fun _ _ _ _ _ _ us hl => match us, hl with | [_, _], _ => rfl
  have m15 := PySem.W.mg_of X G a15
  have F16 := fun_mk (st := s_l_copied) l16 c16 k16
  have b16 := F16.binds (ps := ["_law_forms"]) fun _ _ _ _ _ _ us hl => match us, hl with | [_], _ => rfl
  have m16 := PySem.W.mg_of X G a16
  have F17 := fun_mk (st := s_l_longer) l17 c17 k17
  have b17 := F17.binds (ps := ["_law_forms", "_law_cells"]) fun _ _ _ _ _ _ us hl => match us, hl with | [_, _], _ => rfl
  have m17 := PySem.W.mg_of X G a17
  have F18 := fun_mk (st := s_l_leans) l18 c18 k18
  have b18 := F18.binds (ps := ["_law_form"]) fun _ _ _ _ _ _ us hl => match us, hl with | [_], _ => rfl
  have m18 := PySem.W.mg_of X G a18
  have F19 := fun_mk (st := s_l_depths) l19 c19 k19
  have b19 := F19.binds (ps := ["_law_forms"]) fun _ _ _ _ _ _ us hl => match us, hl with | [_], _ => rfl
  have m19 := PySem.W.mg_of X G a19
  have F20 := fun_mk (st := s_law) l20 c20 k20
  have B : Blt mg := ⟨PySem.W.mg_none_of X G z1, PySem.W.mg_none_of X G z2, PySem.W.mg_none_of X G z3, PySem.W.mg_none_of X G z4, PySem.W.mg_none_of X G z5, PySem.W.mg_none_of X G z6, PySem.W.mg_none_of X G z7, PySem.W.mg_none_of X G z8, PySem.W.mg_none_of X G z9, PySem.W.mg_none_of X G z10, PySem.W.mg_none_of X G z11, PySem.W.mg_none_of X G z12, PySem.W.mg_none_of X G z13, PySem.W.mg_none_of X G z14, PySem.W.mg_none_of X G z15, PySem.W.mg_none_of X G z16, PySem.W.mg_none_of X G z17, PySem.W.mg_none_of X G z18⟩
  refine ⟨PySem.W.fnOf "law" "law" (defArgs s_law) (defBody s_law) (defScope s_law) .none kV20 dc20 pm20 an20 cd20 ct20, fun s v => .of_eq rfl, fun base _ _ => ?_⟩
  have Q1 := ok_leans_on (P := l.prog) (w := w) (K := K) (mg := mg) (base := base) F1 B
  have H1 : Has l.prog w K mg base "leans_on" _ _ _ := ⟨_, _, Q1, b1, k1, m1⟩
  have Q2 := ok_all_in (P := l.prog) (w := w) (K := K) (mg := mg) (base := base) F2 B
  have H2 : Has l.prog w K mg base "all_in" _ _ _ := ⟨_, _, Q2, b2, k2, m2⟩
  have Q3 := ok_depths_of (P := l.prog) (w := w) (K := K) (mg := mg) (base := base) F3 B H1 H2
  have H3 : Has l.prog w K mg base "depths_of" _ _ _ := ⟨_, _, Q3, b3, k3, m3⟩
  have Q4 := ok_depth (P := l.prog) (w := w) (K := K) (mg := mg) (base := base) F4 H3
  have H4 : Has l.prog w K mg base "depth" _ _ _ := ⟨_, _, Q4, b4, k4, m4⟩
  have Q5 := ok_l_cell_at (P := l.prog) (w := w) (K := K) (mg := mg) (base := base) F5 B
  have H5 : Has l.prog w K mg base "_law_cell_at" _ _ _ := ⟨_, _, Q5, b5, k5, m5⟩
  have Q6 := ok_l_mixed (P := l.prog) (w := w) (K := K) (mg := mg) (base := base) F6
  have H6 : Has l.prog w K mg base "_law_mixed" _ _ _ := ⟨_, _, Q6, b6, k6, m6⟩
  have Q7 := ok_l_name_by (P := l.prog) (w := w) (K := K) (mg := mg) (base := base) F7
  have H7 : Has l.prog w K mg base "_law_name_by" _ _ _ := ⟨_, _, Q7, b7, k7, m7⟩
  have Q8 := ok_l_number_by (P := l.prog) (w := w) (K := K) (mg := mg) (base := base) F8
  have H8 : Has l.prog w K mg base "_law_number_by" _ _ _ := ⟨_, _, Q8, b8, k8, m8⟩
  have Q9 := ok_l_word_by (P := l.prog) (w := w) (K := K) (mg := mg) (base := base) F9
  have H9 : Has l.prog w K mg base "_law_word_by" _ _ _ := ⟨_, _, Q9, b9, k9, m9⟩
  have Q10 := ok_l_plain_form (P := l.prog) (w := w) (K := K) (mg := mg) (base := base) F10 H8 H6
  have H10 : Has l.prog w K mg base "_law_plain_form" _ _ _ := ⟨_, _, Q10, b10, k10, m10⟩
  have Q11 := ok_l_row_form (P := l.prog) (w := w) (K := K) (mg := mg) (base := base) F11 B H6
  have H11 : Has l.prog w K mg base "_law_row_form" _ _ _ := ⟨_, _, Q11, b11, k11, m11⟩
  have Q12 := ok_l_record_form (P := l.prog) (w := w) (K := K) (mg := mg) (base := base) F12 B H6 H9
  have H12 : Has l.prog w K mg base "_law_record_form" _ _ _ := ⟨_, _, Q12, b12, k12, m12⟩
  have Q13 := ok_l_leaning_form (P := l.prog) (w := w) (K := K) (mg := mg) (base := base) F13 B H6 H9
  have H13 : Has l.prog w K mg base "_law_leaning_form" _ _ _ := ⟨_, _, Q13, b13, k13, m13⟩
  have Q14 := ok_l_forms_by (P := l.prog) (w := w) (K := K) (mg := mg) (base := base) F14 B H6 H5 H7 H10 H11 H12 H13
  have H14 : Has l.prog w K mg base "_law_forms_by" _ _ _ := ⟨_, _, Q14, b14, k14, m14⟩
  have Q15 := ok_l_alike (P := l.prog) (w := w) (K := K) (mg := mg) (base := base) F15 B
  have H15 : Has l.prog w K mg base "_law_alike" _ _ _ := ⟨_, _, Q15, b15, k15, m15⟩
  have Q16 := ok_l_copied (P := l.prog) (w := w) (K := K) (mg := mg) (base := base) F16 B
  have H16 : Has l.prog w K mg base "_law_copied" _ _ _ := ⟨_, _, Q16, b16, k16, m16⟩
  have Q17 := ok_l_longer (P := l.prog) (w := w) (K := K) (mg := mg) (base := base) F17 B H6
  have H17 : Has l.prog w K mg base "_law_longer" _ _ _ := ⟨_, _, Q17, b17, k17, m17⟩
  have Q18 := ok_l_leans (P := l.prog) (w := w) (K := K) (mg := mg) (base := base) F18 B
  have H18 : Has l.prog w K mg base "_law_leans" _ _ _ := ⟨_, _, Q18, b18, k18, m18⟩
  have Q19 := ok_l_depths (P := l.prog) (w := w) (K := K) (mg := mg) (base := base) F19 B H18
  have H19 : Has l.prog w K mg base "_law_depths" _ _ _ := ⟨_, _, Q19, b19, k19, m19⟩
  exact ok_law (P := l.prog) (w := w) (K := K) (mg := mg) (base := base) F20 B H5 H6 H14 H17 H19 H16 H15 H4
theorem walk {l : PySem.W.OpenLaw} {q : Program} {loose : List Str} {XP : (Str → Option Value) → Heap → Prop} {YP : World → Heap → Prop} {d : DefRec} {K : Params → PySem.W.Frag} (hn : l.most = some 63) (hdf : d.params.defaults = [])
    (hY : ∀ (w : World) (h : Heap), YP w h → (K w.params).In h)
    (F : ∀ (w : World) (mg : Str → Option Value) (fa : Addr) (h : Heap), (K w.params).In h → h.Ns mainGlobals mg → mg d.name = some (.ref fa) →
      ∃ fd : FuncData, (∀ (s : Shared) (u : Value), BindsTo s fd ⟨[u], []⟩ [("_law_script", u)]) ∧ ∀ base : Heap, (K w.params).In base → base.Ns mainGlobals mg → FnOk l.prog w (K w.params) mg base CX0 4 fa fd ["_law_script"] (spLaw (K w.params))) :
    PySem.W.WalkO q loose XP YP l.row.toRowW d [] (fun f vs => PySem.call f vs) :=
  L2.walk_of (n := 63) (k := 4) (x := "_law_script") (CX := fun _ => CX0) (sp := fun w => spLaw (K w.params)) hn (by decide) hdf ⟨rfl, by decide, by decide⟩ hY F (fun _ _ a ns hl _ hS => ⟨a, ns, rfl, hS, hl, fun _ => rfl⟩) fun _ _ _ _ _ z => z
end K19
open PySem PySem.W PyProof.Rows
set_option maxRecDepth 100000 in
set_option maxHeartbeats 0 in
theorem PySem.Challenge.cw_recordgate_k19_how_deep_forms_lean_holds : PySem.Challenge.rw_recordgate_k19_how_deep_forms_lean.Holds := by
  w_on; o_law; k_head; (case hw => w_witness2)
  k_fill
  refine K19.walk (l := PySem.Challenge.rw_recordgate_k19_how_deep_forms_lean) rfl rfl (fun w h Y => PySem.W.kIn_of Y) ?F
  case F =>
    intro w mg fa h KX G hmg
    refine' K19.all_mk KX G hmg ?a1 ?l1 ?c1 ?k1 ?a2 ?l2 ?c2 ?k2 ?a3 ?l3 ?c3 ?k3 ?a4 ?l4 ?c4 ?k4 ?a5 ?l5 ?c5 ?k5 ?a6 ?l6 ?c6 ?k6 ?a7 ?l7 ?c7 ?k7 ?a8 ?l8 ?c8 ?k8 ?a9 ?l9 ?c9 ?k9 ?a10 ?l10 ?c10 ?k10 ?a11 ?l11 ?c11 ?k11 ?a12 ?l12 ?c12 ?k12 ?a13 ?l13 ?c13 ?k13 ?a14 ?l14 ?c14 ?k14 ?a15 ?l15 ?c15 ?k15 ?a16 ?l16 ?c16 ?k16 ?a17 ?l17 ?c17 ?k17 ?a18 ?l18 ?c18 ?k18 ?a19 ?l19 ?c19 ?k19 ?a20 ?l20 ?c20 ?k20 ?z1 ?z2 ?z3 ?z4 ?z5 ?z6 ?z7 ?z8 ?z9 ?z10 ?z11 ?z12 ?z13 ?z14 ?z15 ?z16 ?z17 ?z18
    (case a1 => k_is)
    (case l1 => k_is)
    (case c1 => k_is)
    (case k1 => k_is)
    (case a2 => k_is)
    (case l2 => k_is)
    (case c2 => k_is)
    (case k2 => k_is)
    (case a3 => k_is)
    (case l3 => k_is)
    (case c3 => k_is)
    (case k3 => k_is)
    (case a4 => k_is)
    (case l4 => k_is)
    (case c4 => k_is)
    (case k4 => k_is)
    (case a5 => k_is)
    (case l5 => k_is)
    (case c5 => k_is)
    (case k5 => k_is)
    (case a6 => k_is)
    (case l6 => k_is)
    (case c6 => k_is)
    (case k6 => k_is)
    (case a7 => k_is)
    (case l7 => k_is)
    (case c7 => k_is)
    (case k7 => k_is)
    (case a8 => k_is)
    (case l8 => k_is)
    (case c8 => k_is)
    (case k8 => k_is)
    (case a9 => k_is)
    (case l9 => k_is)
    (case c9 => k_is)
    (case k9 => k_is)
    (case a10 => k_is)
    (case l10 => k_is)
    (case c10 => k_is)
    (case k10 => k_is)
    (case a11 => k_is)
    (case l11 => k_is)
    (case c11 => k_is)
    (case k11 => k_is)
    (case a12 => k_is)
    (case l12 => k_is)
    (case c12 => k_is)
    (case k12 => k_is)
    (case a13 => k_is)
    (case l13 => k_is)
    (case c13 => k_is)
    (case k13 => k_is)
    (case a14 => k_is)
    (case l14 => k_is)
    (case c14 => k_is)
    (case k14 => k_is)
    (case a15 => k_is)
    (case l15 => k_is)
    (case c15 => k_is)
    (case k15 => k_is)
    (case a16 => k_is)
    (case l16 => k_is)
    (case c16 => k_is)
    (case k16 => k_is)
    (case a17 => k_is)
    (case l17 => k_is)
    (case c17 => k_is)
    (case k17 => k_is)
    (case a18 => k_is)
    (case l18 => k_is)
    (case c18 => k_is)
    (case k18 => k_is)
    (case a19 => k_is)
    (case l19 => k_is)
    (case c19 => k_is)
    (case k19 => k_is)
    (case a20 => k_is)
    (case l20 => k_is)
    (case c20 => k_is)
    (case k20 => k_is)
    (case z1 => k_is)
    (case z2 => k_is)
    (case z3 => k_is)
    (case z4 => k_is)
    (case z5 => k_is)
    (case z6 => k_is)
    (case z7 => k_is)
    (case z8 => k_is)
    (case z9 => k_is)
    (case z10 => k_is)
    (case z11 => k_is)
    (case z12 => k_is)
    (case z13 => k_is)
    (case z14 => k_is)
    (case z15 => k_is)
    (case z16 => k_is)
    (case z17 => k_is)
    (case z18 => k_is)
