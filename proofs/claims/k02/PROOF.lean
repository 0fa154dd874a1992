import PyProof.Rows.All
import Wide.All
import OpenK.AllK
import Wide.FinOn
import Lean
import KE.KSortTup
import PyProof.EqAt
import PyProof.EqKinds
import PyProof.TupleCall
import KE.KLam
import KE.KNestM
import PyProof.NeKinds
import PyProof.MeetsIn
import PyProof.DictIter
import PyProof.DictKind
import PyProof.ZipIter
import KE.KTurns
import KE.KRevIter
import PyProof.FString5
import KE.KDictSum
import PySem.Challenge.RW_recordgate_k02_the_order_of_things
import PyProof.CompUse
set_option Elab.async false
set_option linter.all false
set_option maxRecDepth 100000
set_option maxHeartbeats 4000000
namespace Rg
open PySem PySem.W PyProof.Rows
/-! what a sort may end with, whatever the comparisons answer -/
def KOk {α : Type} (n : Nat) (P : α → Prop) : KasT α → Prop
  | .ret a => P a
  | .ask i j k => i < n ∧ j < n ∧ ∀ b, KOk n P (k b)
theorem KOk.bind {α β : Type} {n : Nat} {P : β → Prop} {f : α → KasT β} : ∀ {t : KasT α}, KOk n (fun a => KOk n P (f a)) t → KOk n P (t.bind f)
  | .ret _, h => h
  | .ask _ _ k, h => ⟨h.1, h.2.1, fun b => KOk.bind (t := k b) (h.2.2 b)⟩
theorem KOk.imp {α : Type} {n : Nat} {P P' : α → Prop} (hp : ∀ a, P a → P' a) : ∀ {t : KasT α}, KOk n P t → KOk n P' t
  | .ret _, h => hp _ h
  | .ask _ _ k, h => ⟨h.1, h.2.1, fun b => KOk.imp hp (t := k b) (h.2.2 b)⟩
theorem KOk.ite {α : Type} {n : Nat} {P : α → Prop} {c : Prop} [Decidable c] {t u : KasT α} (h1 : KOk n P t) (h2 : KOk n P u) : KOk n P (if c then t else u) := by
  split
  · exact h1
  · exact h2
theorem kasWp_ok {α : Type} {n : Nat} {P : α → Prop} {cmp : Nat → Nat → (Bool → Shared → Prop) → Shared → Prop} {s : Shared} {G : α → Shared → Prop}
    (hc : ∀ i j, i < n → j < n → ∀ C : Bool → Shared → Prop, (∀ b, C b s) → cmp i j C s) (hG : ∀ a, P a → G a s) : ∀ {t : KasT α}, KOk n P t → t.kasWp cmp G s
  | .ret a, h => hG a h
  | .ask i j k, h => hc i j h.1 h.2.1 _ fun b => kasWp_ok hc hG (t := k b) (h.2.2 b)
def Pm (n : Nat) (p : Array Nat) : Prop := p.toList.Perm (List.range n)
theorem Pm.lt {n : Nat} {p : Array Nat} (h : Pm n p) (hn : 0 < n) (i : Nat) : p.getD i 0 < n := by
  by_cases hi : i < p.size
  · have e : p.getD i 0 = p[i] := by simp [Array.getD, hi]
    rw [e]
    exact List.mem_range.mp (h.mem_iff.mp (by simp))
  · have e : p.getD i 0 = 0 := by simp [Array.getD, hi]
    rw [e]
    exact hn
theorem Pm.rev {n : Nat} {p : Array Nat} (h : Pm n p) (i j : Nat) : Pm n (kas_rev p i j) := (Array.perm_iff_toList_perm.mp (mirror_perm p i j ((j - i) / 2))).trans h
theorem Pm.bub {n : Nat} {p : Array Nat} (h : Pm n p) (i j : Nat) : Pm n (bubble p i j) := (Array.perm_iff_toList_perm.mp (bubble_perm p i j)).trans h
theorem Pm.start (n : Nat) : Pm n (List.toArray (List.range n)) := by
  unfold Pm
  exact List.Perm.refl _
section
variable {n : Nat} {p : Array Nat}
theorem asc_ok (h : Pm n p) (hn : 0 < n) : ∀ f m : Nat, KOk n (fun _ => True) (kas_asc p f m)
  | 0, _ => trivial
  | f + 1, m => ⟨h.lt hn _, h.lt hn _, fun b => KOk.ite trivial (asc_ok h hn f (m + 1))⟩
theorem desc_ok (hn : 0 < n) : ∀ (f : Nat) (p : Array Nat) (m q : Nat), Pm n p → KOk n (fun r => Pm n r.1) (kas_desc f p m q)
  | 0, _, _, _, h => h
  | f + 1, p, m, q, h => ⟨h.lt hn _, h.lt hn _, fun b => KOk.ite (KOk.ite (desc_ok hn f _ _ _ (h.rev _ _)) (desc_ok hn f _ _ _ h)) ⟨h.lt hn _, h.lt hn _, fun d => KOk.ite h (desc_ok hn f _ _ _ h)⟩⟩
theorem tail3_ok (h : Pm n p) (hn : 0 < n) (k m : Nat) : KOk n (fun r => Pm n r.2) (kas_tail3 k m p) :=
  KOk.bind (KOk.imp (fun _ _ => h.rev _ _) (asc_ok (h.rev 0 k) hn _ _))
theorem descPart_ok (h : Pm n p) (hn : 0 < n) (k m : Nat) : KOk n (fun r => Pm n r.2) (kas_descPart k m p) :=
  KOk.bind (KOk.imp (fun r hr => KOk.ite (tail3_ok (hr.rev _ _) hn _ _) (tail3_ok hr hn _ _)) (desc_ok hn _ p _ _ h))
theorem count_ok (h : Pm n p) (hn : 0 < n) (m : Nat) : KOk n (fun r => Pm n r.2) (kas_count m p) := by
  unfold kas_count
  refine KOk.bind (KOk.imp (fun k _ => ?_) (asc_ok h hn _ _))
  refine KOk.ite ?_ (KOk.ite ?_ (descPart_ok h hn _ _))
  · exact h
  · refine ⟨h.lt hn _, h.lt hn _, fun b => KOk.ite ?_ (descPart_ok (h.rev _ _) hn _ _)⟩
    exact h
theorem place_ok (h : Pm n p) (hn : 0 < n) (k : Nat) : ∀ f l r : Nat, KOk n (fun _ => True) (kas_place p k f l r)
  | 0, _, _ => trivial
  | f + 1, l, r => KOk.ite trivial ⟨h.lt hn _, h.lt hn _, fun b => KOk.ite (place_ok h hn k f _ _) (place_ok h hn k f _ _)⟩
theorem bin_ok (hn : 0 < n) : ∀ (f : Nat) (p : Array Nat) (k : Nat), Pm n p → KOk n (Pm n) (kas_bin f p k)
  | 0, _, _, h => h
  | f + 1, p, k, h => KOk.bind (KOk.imp (fun l _ => bin_ok hn f _ _ (h.bub _ _)) (place_ok h hn k k 0 k))
theorem sort_ok (hn : 0 < n) : KOk n (Pm n) (kas_sort n) := by
  unfold kas_sort
  refine KOk.bind (KOk.imp (fun r hr => ?_) (count_ok (Pm.start n) hn n))
  refine KOk.ite (bin_ok hn _ _ _ hr) ?_
  exact hr
end
end Rg
-- CHANGE: your row's module here, as the last of these rows
set_option Elab.async false
set_option linter.all false
set_option maxRecDepth 100000
/-! THE HAND LAYER, for ints, bools, texts, own classes, LISTS and tuples (index, slices, in, append, pop ..), calls, loops. Paste it whole ahead of your own text; what your proof does not reach may be deleted. -/
namespace L2
open PySem PySem.Spec PyProof.Rows
/-- a key: an int or a str -/
abbrev Key := Sum Int Str
def keyIs : Key → Value → Bool
  | .inl k, v => Value.isInt k v
  | .inr x, v => Value.isStrOf x v
def keyH (w : World) : Key → Int
  | .inl k => hashInt k
  | .inr x => hashStr w x
theorem keyIs_shape : ∀ {k : Key} {v : Value}, keyIs k v = true → (∃ i t, k = Sum.inl i ∧ v = Value.int i t) ∨ (∃ x t, k = Sum.inr x ∧ v = Value.str x t)
  | .inl i, v, h => by
    obtain ⟨t, e⟩ := Value.isInt_shape (k := i) (v := v) h
    exact .inl ⟨i, t, rfl, e⟩
  | .inr x, v, h => by
    obtain ⟨t, e⟩ := Value.isStrOf_shape (x := x) (v := v) h
    exact .inr ⟨x, t, rfl, e⟩
theorem keyIs_int (i : Int) (t : Tok) : keyIs (.inl i) (.int i t) = true := by simp [keyIs, Value.isInt]
theorem keyIs_str (x : Str) (t : Tok) : keyIs (.inr x) (.str x t) = true := by simp [keyIs, Value.isStrOf]
theorem key_ll (a b : Int) : decide ((Sum.inl a : Key) = Sum.inl b) = (a == b) := by
  by_cases e : a = b
  · subst e; simp
  · have h : ¬ (Sum.inl a : Key) = Sum.inl b := fun q => e (Sum.inl.inj q)
    rw [decide_eq_false h]
    exact (beq_eq_false_iff_ne.mpr e).symm
theorem key_rr (a b : Str) : decide ((Sum.inr a : Key) = Sum.inr b) = decide (a = b) := by
  by_cases e : a = b
  · subst e; simp
  · have h : ¬ (Sum.inr a : Key) = Sum.inr b := fun q => e (Sum.inr.inj q)
    rw [decide_eq_false h, decide_eq_false e]
theorem key_lr (a : Int) (b : Str) : decide ((Sum.inl a : Key) = Sum.inr b) = false := decide_eq_false (fun q => nomatch q)
theorem key_rl (a : Str) (b : Int) : decide ((Sum.inr a : Key) = Sum.inl b) = false := decide_eq_false (fun q => nomatch q)
def mixKind (prog : Program) (w : World) : PySem.KeyKind prog w Key where
  is := keyIs
  hash := keyH w
  inj := fun v a b ha hb => by
    rcases keyIs_shape ha with ⟨i, t, rfl, rfl⟩ | ⟨x, t, rfl, rfl⟩
    · rcases keyIs_shape hb with ⟨j, u, rfl, e⟩ | ⟨y, u, rfl, e⟩
      · injection e with e1 _; rw [e1]
      · exact nomatch e
    · rcases keyIs_shape hb with ⟨j, u, rfl, e⟩ | ⟨y, u, rfl, e⟩
      · exact nomatch e
      · injection e with e1 _; rw [e1]
  byValue := fun k v h => by
    rcases keyIs_shape h with ⟨i, t, rfl, rfl⟩ | ⟨x, t, rfl, rfl⟩ <;> rfl
  pyHash := fun hv h => by
    rcases keyIs_shape hv with ⟨i, t, rfl, rfl⟩ | ⟨x, t, rfl, rfl⟩
    · exact wpAny_pyHash_int h
    · exact wpAny_pyHash_str h
  eqBool := fun hu hv h => by
    rcases keyIs_shape hu with ⟨i, t, rfl, rfl⟩ | ⟨x, t, rfl, rfl⟩
    · rcases keyIs_shape hv with ⟨j, u, rfl, rfl⟩ | ⟨y, u, rfl, rfl⟩
      · rw [key_ll] at h; exact wpAny_eqBool_int h
      · rw [key_lr] at h; exact SeqAt.EqAt.int_str i t y u _ _ _ _ h
    · rcases keyIs_shape hv with ⟨j, u, rfl, rfl⟩ | ⟨y, u, rfl, rfl⟩
      · rw [key_rl] at h; exact SeqAt.EqAt.str_int x t j u _ _ _ _ h
      · rw [key_rr] at h; exact wpAny_eqBool_str h
  «strs» := fun k x t v h => by
    rcases keyIs_shape h with ⟨i, u, rfl, e⟩ | ⟨y, u, rfl, e⟩
    · exact nomatch e
    · injection e with e1 _
      subst e1
      cases v <;> rfl
theorem mixKind_int (prog : Program) (w : World) (i : Int) (t : Tok) : (mixKind prog w).is (.inl i) (.int i t) = true := keyIs_int i t
theorem mixKind_str (prog : Program) (w : World) (x : Str) (t : Tok) : (mixKind prog w).is (.inr x) (.str x t) = true := keyIs_str x t
end L2
namespace L2
open PySem PySem.Spec PyProof.Rows
/-- a value, without the heap -/
inductive V where
  | non | bl (b : Bool) | int (i : Int) | str (x : Str) | byt (b : Array UInt8) | flt (b : UInt64) | ref (a : Addr) | ty (n : String)
  deriving DecidableEq
def RelV : V → Value → Prop
  | .non, u => u = Value.none
  | .bl b, u => u = Value.bool b
  | .int i, u => ∃ t, u = Value.int i t
  | .str x, u => ∃ t, u = Value.str x t
  | .byt b, u => ∃ t, u = Value.bytes b t
  | .flt b, u => ∃ t, u = Value.float b t
  | .ref a, u => u = Value.ref a
  | .ty n, u => u = Value.type n
abbrev Vals : List V → List Value → Prop := Paired RelV
theorem Vals.length {xs : List V} {us : List Value} (r : Vals xs us) : xs.length = us.length := Paired.length r
theorem Vals.get : ∀ {xs : List V} {us : List Value} {i : Nat} {x : V}, Vals xs us → xs[i]? = some x → ∃ u, us[i]? = some u ∧ RelV x u
  | _, _, _, _, .nil, e => by simp at e
  | _, _, 0, _, .cons r _, e => by simp at e; subst e; exact ⟨_, rfl, r⟩
  | _, _, i + 1, x, .cons _ t, e => by
    obtain ⟨u, h1, h2⟩ := Vals.get (i := i) (x := x) t (by simpa using e)
    exact ⟨u, by simpa using h1, h2⟩
theorem Vals.set {x : V} {u : Value} (r : RelV x u) : ∀ {xs : List V} {us : List Value} (i : Nat), Vals xs us → Vals (xs.set i x) (us.set i u)
  | _, _, _, .nil => .nil
  | _, _, 0, .cons _ t => .cons r t
  | _, _, i + 1, .cons q t => .cons q (Vals.set r i t)
theorem Vals.append : ∀ {xs ys : List V} {us ws : List Value}, Vals xs us → Vals ys ws → Vals (xs ++ ys) (us ++ ws)
  | _, _, _, _, .nil, s => s
  | _, _, _, _, .cons r t, s => .cons r (Vals.append t s)
theorem Vals.take : ∀ {xs : List V} {us : List Value} (n : Nat), Vals xs us → Vals (xs.take n) (us.take n)
  | _, _, 0, _ => .nil
  | _, _, _ + 1, .nil => .nil
  | _, _, n + 1, .cons r t => .cons r (Vals.take n t)
theorem Vals.drop : ∀ {xs : List V} {us : List Value} (n : Nat), Vals xs us → Vals (xs.drop n) (us.drop n)
  | _, _, 0, r => r
  | _, _, _ + 1, .nil => .nil
  | _, _, n + 1, .cons _ t => Vals.drop n t
theorem Vals.none_of : ∀ {xs : List V} {us : List Value} {i : Nat}, Vals xs us → xs[i]? = none → us[i]? = none := fun {xs us i} r e => by
  have h1 := r.length
  have h2 : xs.length ≤ i := List.getElem?_eq_none_iff.mp e
  exact List.getElem?_eq_none_iff.mpr (by omega)
def RelO : Option V → Option Value → Prop
  | some v, some u => RelV v u
  | none, none => True
  | _, _ => False
def KV {κ : Type} : List (κ × V) → List (κ × Value) → Prop := Paired fun (p : κ × V) (q : κ × Value) => p.1 = q.1 ∧ RelV p.2 q.2
/-- a key of a dict (00_mix): an int or a text -/
def kV : Key → V
  | .inl i => .int i
  | .inr x => .str x
/-- what stands at a tracked address -/
inductive HO where
  /-- a list -/
  | lst (xs : List V)
  /-- a tuple (never changes) -/
  | tup (xs : List V)
  /-- a dict whose keys are ints and texts; one whose keys are tuples of ints and texts (the empty one is both) -/
  | dK (kvs : List (Key × V)) | dT (kvs : List (List Key × V))
  /-- a set of ints: its members, its size -/
  | set (S : Int → Bool) (n : Nat)
  /-- an instance of the class at C, its dict at dx, its attributes -/
  | ins (C dx : Addr) (fs : List (Str × V))
  /-- the dict of the instance at x -/
  | own (x : Addr)
  /-- the dict of an exception -/
  | xd (fs : List (Str × V))
  /-- a bound method, f of x -/
  | met (f x : Addr)
  /-- a range object lo, lo + 1, .. below hi -/
  | rng (lo hi : Int)
  /-- a thing that is known to the object (the script; a dict while a loop walks it): read, never written while it is so -/
  | frz (o : Obj) (u : HO)
  /-- a code object's table -/
  | tbl (ps : Array Value)
  /-- any other thing, by what is true of its one object (a def of one's own: SetO a S n := HO.ext fun h => ..) -/
  | ext (φ : Heap → Prop)
abbrev Hp := Addr → Option HO
def upd (H : Hp) (a : Addr) (o : HO) : Hp := fun b => if b = a then some o else H b
theorem upd_same {H : Hp} {a : Addr} {o : HO} : upd H a o a = some o := by unfold upd; rw [if_pos rfl]
theorem upd_ne {H : Hp} {a b : Addr} {o : HO} (h : b ≠ a) : upd H a o b = H b := by unfold upd; rw [if_neg h]
/-- two objects of different content stand apart -/
theorem ne_of {H : Hp} {a b : Addr} {o u : HO} (h : H a = some o) (h' : H b = some u) (d : o ≠ u) : a ≠ b := by
  intro e; subst e; rw [h] at h'; exact d (Option.some.inj h')
theorem ne_of_none {H : Hp} {a b : Addr} {o : HO} (h : H a = some o) (h' : H b = none) : a ≠ b := by
  intro e; subst e; rw [h] at h'; cases h'
section
variable (P : Program) (w : World)
def ObjOk (H : Hp) (h : Heap) (a : Addr) : HO → Prop
  | .lst xs => xs.length ≤ sizeLine ∧ ∃ (its : List Value) (n : Nat), Vals xs its ∧ h.get? a = some { cls := .type "list", data := .seq its.toArray n }
  | .tup xs => xs.length ≤ sizeLine ∧ ∃ its : List Value, Vals xs its ∧ IsTup h a its.toArray
  | .dK kvs => kvs.length ≤ sizeLine ∧ (a == sysModules) = false ∧ ∃ vs, KV kvs vs ∧ h.DictOf (mixKind P w) a vs
  | .dT kvs => kvs.length ≤ sizeLine ∧ (a == sysModules) = false ∧ ∃ xs : List (List Key × Addr × Value),
      Paired (fun (p : List Key × V) (q : List Key × Addr × Value) => p.1 = q.1 ∧ H q.2.1 = some (.tup (p.1.map kV)) ∧ RelV p.2 q.2.2) kvs xs ∧
      ∃ o es ep, h.get? a = some o ∧ o.ExactDict ∧ o.data = .dict es ep ∧ es.toList = xs.map (entryOfKey (tupleKind (mixKind P w))) ∧ (xs.map (·.1)).Nodup
  | .set S n => h.SetOf (intKind P w) a S n
  | .ins C dx fs => H dx = some (.own a) ∧ fs.length ≤ 1000 ∧ dx ≠ a ∧ h.get? a = some (PySem.W.instObj C dx) ∧
      ∃ mA, h.Ns1 dx mA ∧ (∀ f, RelO (fs.lookup f) (mA f)) ∧ PySem.Within mA (fs.map (·.1))
  | .own _ => ∃ o, h.get? a = some o
  | .xd fs => ∃ mA, h.Ns1 a mA ∧ ∀ f, RelO (fs.lookup f) (mA f)
  | .rng lo hi => ∃ t u v, h.get? a = some { cls := .type "range", data := .fields #[.int lo t, .int hi u, .int 1 v] }
  | .frz o u => h.get? a = some o ∧ ObjOk H h a u
  | .tbl ps => h.get? a = some { cls := .none, data := .fields ps }
  | .met f x => h.get? a = some (PySem.W.methodObj (.ref f) (.ref x))
  | .ext φ => φ h ∧ (∃ o, h.get? a = some o) ∧ ∀ h1 h2 : Heap, φ h1 → (∀ o, h1.get? a = some o → h2.get? a = some o) → φ h2
/-- the abstract heap is held -/
def HOk (H : Hp) (h : Heap) : Prop := ∀ a o, H a = some o → ObjOk P w H h a o
end
section
variable {P : Program} {w : World} {H H' : Hp} {h h' : Heap} {a : Addr} {o : HO}
theorem ObjOk.lt (x : ObjOk P w H h a o) : a < h.objs.size := by
  cases o with
  | lst xs => obtain ⟨_, _, _, _, e⟩ := x; exact Heap.lt_size e
  | tup xs => obtain ⟨_, _, _, p⟩ := x; exact p.lt
  | dK kvs => obtain ⟨_, _, _, _, o, _, _, e, _⟩ := x; exact Heap.lt_size e
  | dT kvs => obtain ⟨_, _, _, _, o, _, _, e, _⟩ := x; exact Heap.lt_size e
  | set S n => obtain ⟨o, _, _, _, e, _⟩ := x; exact Heap.lt_size e
  | ins C dx fs => obtain ⟨_, _, _, e, _⟩ := x; exact Heap.lt_size e
  | own y => obtain ⟨_, e⟩ := x; exact Heap.lt_size e
  | xd fs => obtain ⟨_, ⟨_, _, _, e, _⟩, _⟩ := x; exact Heap.lt_size e
  | rng lo hi => obtain ⟨_, _, _, e⟩ := x; exact Heap.lt_size e
  | frz ob u => obtain ⟨e, _⟩ := x; exact Heap.lt_size e
  | tbl ps => exact Heap.lt_size (show h.get? a = some _ from x)
  | met f y => exact Heap.lt_size (show h.get? a = some _ from x)
  | ext φ => obtain ⟨_, ⟨_, e⟩, _⟩ := x; exact Heap.lt_size e
theorem Paired.mapP {α β : Type} {F G : α → β → Prop} : ∀ {l₁ : List α} {l₂ : List β}, Paired F l₁ l₂ → (∀ a b, F a b → G a b) → Paired G l₁ l₂
  | _, _, .nil, _ => .nil
  | _, _, .cons r t, f => .cons (f _ _ r) (Paired.mapP t f)
/-- what an object's description leans on: its own object, its own dict, the tuples -/
theorem ObjOk.stay (x : ObjOk P w H h a o) (k : ∀ b u, (b = a ∨ H b = some (.own a)) → h.get? b = some u → h'.get? b = some u)
    (ho : ∀ b, H b = some (.own a) → H' b = some (.own a)) (ht : ∀ b xs, H b = some (.tup xs) → H' b = some (.tup xs)) : ObjOk P w H' h' a o := by
  induction o with
  | lst xs => obtain ⟨z, its, n, r, e⟩ := x; exact ⟨z, its, n, r, k _ _ (.inl rfl) e⟩
  | tup xs => obtain ⟨z, its, r, ob, e, c⟩ := x; exact ⟨z, its, r, ob, k _ _ (.inl rfl) e, c⟩
  | dK kvs => obtain ⟨z, y, vs, r, ob, es, ep, e, c⟩ := x; exact ⟨z, y, vs, r, ob, es, ep, k _ _ (.inl rfl) e, c⟩
  | dT kvs =>
    obtain ⟨z, y, xs, r, ob, es, ep, e, c⟩ := x
    exact ⟨z, y, xs, Paired.mapP r fun p q z => ⟨z.1, ht _ _ z.2.1, z.2.2⟩, ob, es, ep, k _ _ (.inl rfl) e, c⟩
  | set S n => obtain ⟨ob, es, ep, t, e, c⟩ := x; exact ⟨ob, es, ep, t, k _ _ (.inl rfl) e, c⟩
  | ins C dx fs =>
    obtain ⟨d, z, ne, e, mA, ⟨od, es, ep, e2, c⟩, r⟩ := x
    exact ⟨ho _ d, z, ne, k _ _ (.inl rfl) e, mA, ⟨od, es, ep, k _ _ (.inr d) e2, c⟩, r⟩
  | own y => obtain ⟨ob, e⟩ := x; exact ⟨ob, k _ _ (.inl rfl) e⟩
  | xd fs => obtain ⟨mA, ⟨od, es, ep, e, c⟩, r⟩ := x; exact ⟨mA, ⟨od, es, ep, k _ _ (.inl rfl) e, c⟩, r⟩
  | rng lo hi => obtain ⟨t, u, v, e⟩ := x; exact ⟨t, u, v, k _ _ (.inl rfl) e⟩
  | frz ob u ih => obtain ⟨e, q⟩ := x; exact ⟨k _ _ (.inl rfl) e, ih q⟩
  | tbl ps =>
    have e : h.get? a = some { cls := .none, data := .fields ps } := x
    show h'.get? a = some { cls := .none, data := .fields ps }
    exact k a _ (.inl rfl) e
  | met f y =>
    have e : h.get? a = some (PySem.W.methodObj (.ref f) (.ref y)) := x
    show h'.get? a = some (PySem.W.methodObj (.ref f) (.ref y))
    exact k a _ (.inl rfl) e
  | ext φ => obtain ⟨p, ⟨o, e⟩, st⟩ := x; exact ⟨st _ _ p fun o q => k _ _ (.inl rfl) q, ⟨o, k _ _ (.inl rfl) e⟩, st⟩
theorem HOk.lt (x : HOk P w H h) (e : H a = some o) : a < h.objs.size := (x a o e).lt
theorem HOk.fresh (x : HOk P w H h) (e : h.objs.size ≤ a) : H a = none := by
  cases q : H a with
  | none => rfl
  | some u => exact absurd (Nat.lt_of_lt_of_le (x.lt q) e) (Nat.lt_irrefl _)
/-- every object of the heap is kept -/
theorem HOk.kept (x : HOk P w H h) (k : ∀ b u, h.get? b = some u → h'.get? b = some u) : HOk P w H h' := fun a o e =>
  (x a o e).stay (fun b u _ q => k b u q) (fun _ q => q) fun _ _ q => q
/-- a new object is laid and tracked -/
theorem HOk.laid (x : HOk P w H h) (k : ∀ b u, h.get? b = some u → h'.get? b = some u) (hp : h.objs.size ≤ a) (new : ObjOk P w (upd H a o) h' a o) : HOk P w (upd H a o) h' := fun b u e => by
  have hn := x.fresh hp
  by_cases hb : b = a
  · subst hb; rw [upd_same] at e; cases e; exact new
  · rw [upd_ne hb] at e
    exact (x b u e).stay (fun c v _ q => k c v q) (fun c q => by rw [upd_ne (ne_of_none q hn)]; exact q) fun c xs q => by rw [upd_ne (ne_of_none q hn)]; exact q
end
/-- what may be read as u: it is u, or a known u -/
def Rd (H : Hp) (a : Addr) (u : HO) : Prop := H a = some u ∨ ∃ o, H a = some (.frz o u)
theorem Rd.of {H : Hp} {a : Addr} {u : HO} (h : H a = some u) : Rd H a u := .inl h
theorem Rd.ok {P : Program} {w : World} {H : Hp} {h : Heap} {a : Addr} {u : HO} (r : Rd H a u) (x : HOk P w H h) : ObjOk P w H h a u := by
  rcases r with r | ⟨o, r⟩
  · exact x a u r
  · obtain ⟨_, q⟩ := x a _ r
    exact q
/-- what may be written -/
def Mut : Option HO → Prop
  | some (.lst _) => True
  | some (.dK _) => True
  | some (.dT _) => True
  | some (.set _ _) => True
  | some (.ins _ _ _) => True
  | some (.ext _) => True
  | _ => False
section
variable {P : Program} {w : World} {H : Hp} {h h' : Heap} {x e : Addr} {o' : HO}
/-- the object at e is changed: x itself, or the dict of the instance x -/
theorem HOk.write (ok : HOk P w H h) (mu : Mut (H x)) (he : e = x ∨ H e = some (.own x)) (k : ∀ b u, b ≠ e → h.get? b = some u → h'.get? b = some u) (heo : ∃ u, h'.get? e = some u)
    (new : ObjOk P w (upd H x o') h' x o') : HOk P w (upd H x o') h' := fun b u q => by
  have nown : ∀ c y, H c = some (.own y) → c ≠ x := fun c y r z => by subst z; rw [r] at mu; exact mu
  have ntup : ∀ c xs, H c = some (.tup xs) → c ≠ x := fun c xs r z => by subst z; rw [r] at mu; exact mu
  by_cases hb : b = x
  · subst hb; rw [upd_same] at q; cases q; exact new
  · rw [upd_ne hb] at q
    by_cases hbe : b = e
    · have q' : H b = some (.own x) := by
        rcases he with z | z
        · exact absurd (hbe.trans z) hb
        · rw [hbe]; exact z
      rw [q] at q'; cases q'
      obtain ⟨v, hv⟩ := heo
      exact ⟨v, by rw [hbe]; exact hv⟩
    · refine (ok b u q).stay (fun c v hc r => k c v ?_ r) (fun c r => by rw [upd_ne (nown c b r)]; exact r) fun c xs r => by rw [upd_ne (ntup c xs r)]; exact r
      rcases hc with rfl | hc
      · exact hbe
      · rintro rfl
        rcases he with z | z
        · exact nown c b hc z
        · rw [hc] at z; cases z; exact hb rfl
end
/-! ### kept unless tracked; of the frames at fs (the callers') the slots may change (an exception that passes writes there); of the records at ex (iterators) nothing is said -/
structure Un (fs ex : List Addr) (H H' : Hp) (h h' : Heap) : Prop where
  keep : ∀ b o, h.get? b = some o → H b = none → b ∉ fs → b ∉ ex → h'.get? b = some o
  slot : ∀ b o, h.get? b = some o → H b = none → b ∈ fs → b ∉ ex → ∃ sl, h'.get? b = some { o with slots := sl }
  free : ∀ b o, h.get? b = some o → H b = none → b ∉ ex → H' b = none
  there : ∀ b o, h.get? b = some o → b ∉ ex → ∃ o', h'.get? b = some o'
  tups : ∀ b xs, H b = some (.tup xs) → H' b = some (.tup xs)
  frzs : ∀ b o u, H b = some (.frz o u) → H' b = some (.frz o u)
  tbls : ∀ b ps, H b = some (.tbl ps) → ∃ more, H' b = some (.tbl (ps ++ more))
section
variable {fs fs' ex ex' : List Addr} {H H1 H2 : Hp} {h h1 h2 h' : Heap} {a x e : Addr} {o : HO}
theorem Un.any (u : Un fs ex H H1 h h1) {b : Addr} {ob : Obj} (q : h.get? b = some ob) (n : H b = none) (hx : b ∉ ex) : ∃ sl, h1.get? b = some { ob with slots := sl } := by
  by_cases hb : b ∈ fs
  · exact u.slot b ob q n hb hx
  · exact ⟨ob.slots, u.keep b ob q n hb hx⟩
theorem Un.trans (a : Un fs ex H H1 h h1) (b : Un fs ex H1 H2 h1 h2) : Un fs ex H H2 h h2 where
  keep := fun c ob q n hc hx => b.keep c ob (a.keep c ob q n hc hx) (a.free c ob q n hx) hc hx
  slot := fun c ob q n hc hx => by
    obtain ⟨sl, e1⟩ := a.slot c ob q n hc hx
    obtain ⟨sl', e2⟩ := b.slot c _ e1 (a.free c ob q n hx) hc hx
    exact ⟨sl', e2⟩
  free := fun c ob q n hx => by
    obtain ⟨o', e1⟩ := a.there c ob q hx
    exact b.free c o' e1 (a.free c ob q n hx) hx
  there := fun c ob q hx => by
    obtain ⟨o', e1⟩ := a.there c ob q hx
    exact b.there c o' e1 hx
  tups := fun c xs q => b.tups c xs (a.tups c xs q)
  frzs := fun c ob xs q => b.frzs c ob xs (a.frzs c ob xs q)
  tbls := fun c ps q => by
    obtain ⟨m1, e1⟩ := a.tbls c ps q
    obtain ⟨m2, e2⟩ := b.tbls c _ e1
    exact ⟨m1 ++ m2, by rw [e2, Array.append_assoc]⟩
theorem Un.kept (k : ∀ b u, h.get? b = some u → h'.get? b = some u) : Un fs ex H H h h' :=
  ⟨fun b ob q _ _ _ => k b ob q, fun b ob q _ _ _ => ⟨ob.slots, k b ob q⟩, fun _ _ _ n _ => n, fun b ob q _ => ⟨ob, k b ob q⟩, fun _ _ q => q, fun _ _ _ q => q, fun _ ps q => ⟨#[], by rw [q]; simp⟩⟩
theorem Un.refl : Un fs ex H H h h := Un.kept fun _ _ q => q
theorem Un.laid (k : ∀ b u, h.get? b = some u → h'.get? b = some u) (hp : h.objs.size ≤ a) (hn : H a = none) : Un fs ex H (upd H a o) h h' where
  keep := fun b u q _ _ _ => k b u q
  slot := fun b u q _ _ _ => ⟨u.slots, k b u q⟩
  free := fun b u q n _ => by rw [upd_ne (Nat.ne_of_lt (Nat.lt_of_lt_of_le (Heap.lt_size q) hp))]; exact n
  there := fun b u q _ => ⟨u, k b u q⟩
  tups := fun b xs q => by rw [upd_ne (ne_of_none q hn)]; exact q
  frzs := fun b u xs q => by rw [upd_ne (ne_of_none q hn)]; exact q
  tbls := fun b ps q => ⟨#[], by rw [upd_ne (ne_of_none q hn), q]; simp⟩
theorem Un.write (mu : Mut (H x)) (he : e = x ∨ H e = some (.own x)) (k : ∀ b u, b ≠ e → h.get? b = some u → h'.get? b = some u) (heo : ∃ u, h'.get? e = some u) : Un fs ex H (upd H x o) h h' := by
  have hx : ∀ b, H b = none → b ≠ x := fun b n z => by subst z; rw [n] at mu; exact mu
  have hb : ∀ b, H b = none → b ≠ e := fun b n z => by
    subst z
    rcases he with r | r
    · exact hx b n r
    · rw [n] at r; cases r
  have hm : ∀ b u, H b = some u → ¬ Mut (some u) → b ≠ x := fun b u q nm z => by subst z; rw [q] at mu; exact nm mu
  refine ⟨fun b u q n _ _ => k b u (hb b n) q, fun b u q n _ _ => ⟨u.slots, k b u (hb b n) q⟩, fun b u q n _ => by rw [upd_ne (hx b n)]; exact n, fun b u q _ => ?_,
    fun b xs q => by rw [upd_ne (hm b _ q fun z => z)]; exact q, fun b u xs q => by rw [upd_ne (hm b _ q fun z => z)]; exact q, fun b ps q => ⟨#[], by rw [upd_ne (hm b _ q fun z => z), q]; simp⟩⟩
  by_cases hbe : b = e
  · subst hbe; exact heo
  · exact ⟨u, k b u hbe q⟩
theorem Un.mono (u : Un fs ex H H1 h h1) (hs : ∀ b ∈ fs, b ∈ fs') (hx : ∀ b ∈ ex, b ∈ ex') : Un fs' ex' H H1 h h1 :=
  ⟨fun b ob q n hb he => u.keep b ob q n (fun z => hb (hs b z)) fun z => he (hx b z), fun _ _ q n _ he => u.any q n fun z => he (hx _ z), fun b ob q n he => u.free b ob q n fun z => he (hx b z), fun b ob q he => u.there b ob q fun z => he (hx b z), u.tups, u.frzs, u.tbls⟩
end
/-! ### the heap without what is tracked -/
def trk (h : Heap) (H : Hp) : List Addr := (List.range h.objs.size).filter fun a => (H a).isSome
def hidT (h : Heap) (H : Hp) : Heap := PySem.W.hideAll h (trk h H)
theorem hidT_size (h : Heap) (H : Hp) : (hidT h H).objs.size = h.objs.size := PySem.W.hideAll_size _ _
theorem hidT_get {h : Heap} {H : Hp} {b : Addr} {o : Obj} (e : h.get? b = some o) (n : H b = none) : (hidT h H).get? b = some o :=
  PySem.W.hideAll_get _ e fun hm => by
    have q : (H b).isSome = true := (List.mem_filter.mp hm).2
    rw [n] at q; simp at q
theorem of_hidT {h : Heap} {H : Hp} {b : Addr} {o : Obj} (e : (hidT h H).get? b = some o) : h.get? b = some o ∧ H b = none := by
  have e' : h.get? b = some o := PySem.W.of_hideAll (trk h H) e
  refine ⟨e', ?_⟩
  cases q : H b with
  | none => rfl
  | some x =>
    have hm : b ∈ trk h H := List.mem_filter.mpr ⟨List.mem_range.mpr (Heap.lt_size e'), by simp [q]⟩
    have z : (hidT h H).get? b = none := PySem.W.hideAll_none (trk h H) hm
    rw [z] at e; cases e
/-! ### OpenK's ledger, filled with every new object but one -/
def allNews (g h : Heap) (L : Addr) : List (Addr × Obj) := (List.range h.objs.size).filterMap fun a => if a = L ∨ (g.get? a).isSome = true then none else (h.get? a).map fun o => (a, o)
def rest (g h : Heap) (L d : Addr) : List (Addr × Obj) := (allNews g h L).filter fun p => decide (p.1 ≠ d)
end L2
namespace L2
open PySem PySem.Spec PyProof.Rows
/-- the module's facts, over the base: the heap at the law's entry without what is tracked there -/
structure Mod (K : PySem.W.Frag) (mg : Str → Option Value) (base : Heap) : Prop where
  kin : K.In base
  glob : base.Ns mainGlobals mg
  blt : ∃ mb, base.Ns builtinsNs mb ∧ ∀ x : Str, x ≠ "__name__" → mb x = bootBuiltins x
  nolimit : base.NoLimit
/-- the context: a def's body (or a comprehension's block) running. base: fixed through the whole law; s₀, H₀: the entry; outer: the frames whose slots others may change (a def's callers); stack: all frames that run;
   ex: iterators that were made ahead of the entry and are walked here (a comprehension's); fn: the names whose cells were made at the entry (a def: all; a comprehension's block: its own); calm: not within an except suite; pn: pins that every state bears; xe: what is wanted of an exception that leaves the code -/
structure Cx where
  prog : Program
  w : World
  K : PySem.W.Frag
  mg : Str → Option Value
  base : Heap
  A : Around
  N : List Str
  s₀ : Shared
  H₀ : Hp
  env : Env
  outer : List Env
  stack : List Env
  ex : List Addr
  fn : Str → Bool
  calm : Bool
  pn : List (Addr × Obj)
  xe : Value → Shared → Prop
/-- the callers' frames -/
def frs (l : List Env) : List Addr := l.filterMap (·.frame)
abbrev Cx.fs (X : Cx) : List Addr := frs X.outer
def Vis (sc : Scope) (x : Str) : Prop := sc.names.lookup x = some .local ∨ sc.names.lookup x = some .cell ∨ sc.names.lookup x = some .free
def Loc (sc : Scope) (x : Str) : Prop := sc.names.lookup x = some .local ∨ sc.names.lookup x = some .cell
def Look (env : Env) (h : Heap) (m : Str → Option Value) (x : Str) (u : Value) : Prop :=
  (env.kindOf x = some .local ∧ m x = some u) ∨ ((env.kindOf x = some .cell ∨ env.kindOf x = some .free) ∧ ∃ c, env.cells.lookup x = some c ∧ h.IsCell c (some u))
structure Cx.Ok (X : Cx) : Prop where
  mod : Mod X.K X.mg X.base
  kind : X.env.scope.kind = .function
  glob : X.env.globals = mainGlobals
  blt : X.env.builtins = builtinsNs
  above : X.s₀.heap.objs.size ≤ X.env.locals
  inj : ∀ x y c, X.env.cells.lookup x = some c → X.env.cells.lookup y = some c → x = y
  has : ∀ x, (X.env.kindOf x = some .cell ∨ X.env.kindOf x = some .free) → ∃ c, X.env.cells.lookup x = some c
  cab : ∀ x c, X.fn x = true → X.env.cells.lookup x = some c → X.s₀.heap.objs.size ≤ c
  hd : X.calm = true → X.A.handled = none
  frames : X.A.frames = some X.stack
  stk : X.stack = X.outer ∨ (X.stack = X.env :: X.outer ∧ X.env.frame = some X.env.locals)
  exf : ∀ b ∈ X.ex, b ≠ X.env.locals ∧ ∀ x c, X.env.cells.lookup x = some c → c ≠ b
  bs : ∀ b o, X.base.get? b = some o → X.s₀.heap.get? b = some o ∧ X.H₀ b = none
  bsz : X.base.objs.size ≤ X.s₀.heap.objs.size
  noex : ∀ b o, X.base.get? b = some o → b ∉ X.ex
  exfs : ∀ b ∈ X.ex, b ∉ X.fs
  funs : X.s₀.heap.FunFrames X.base X.outer
  frf : ∀ b ∈ X.fs, X.H₀ b = none
structure Inv (X : Cx) (pins : List (Addr × Obj)) (σ : List (Option V)) (H : Hp) (s : Shared) : Prop where
  ok : X.Ok
  os : s.os = X.s₀.os
  bare : AllBare s.gens
  base : Un X.fs X.ex X.H₀ H X.s₀.heap s.heap
  loc : ∃ m, s.heap.Ns X.env.locals m ∧ ∀ (i : Nat) (x : Str) (v : V), X.N[i]? = some x → σ[i]? = some (some v) → Vis X.env.scope x → ∃ u, RelV v u ∧ Look X.env s.heap m x u
  cell : ∀ x c, X.env.cells.lookup x = some c → ∃ v, s.heap.IsCell c v
  free : H X.env.locals = none
  freeC : ∀ x c, X.env.cells.lookup x = some c → H c = none
  pin : ∀ p ∈ X.pn ++ pins, s.heap.get? p.1 = some p.2 ∧ H p.1 = none ∧ p.1 ≠ X.env.locals ∧ p.1 ∉ X.fs ∧ ∀ v, p.2.data ≠ .cell v
  hok : HOk X.prog X.w H s.heap
  len : σ.length = X.N.length
section
variable {X : Cx} {pins : List (Addr × Obj)} {σ : List (Option V)} {H H' : Hp} {s : Shared} {h' : Heap}
theorem Cx.Ok.nofr (ok : X.Ok) {b : Addr} {o : Obj} (e : X.base.get? b = some o) : b ∉ X.fs := fun hb => by
  have := (ok.funs.mem hb).1
  rw [e] at this; cases this
theorem Inv.bs (I : Inv X pins σ H s) : ∀ b o, X.base.get? b = some o → s.heap.get? b = some o ∧ H b = none := fun b o e =>
  ⟨I.base.keep b o (I.ok.bs b o e).1 (I.ok.bs b o e).2 (I.ok.nofr e) (I.ok.noex b o e), I.base.free b o (I.ok.bs b o e).1 (I.ok.bs b o e).2 (I.ok.noex b o e)⟩
theorem Inv.bk (I : Inv X pins σ H s) : ∀ b o, X.base.get? b = some o → s.heap.get? b = some o := fun b o e => (I.bs b o e).1
theorem Inv.mod (I : Inv X pins σ H s) : Mod X.K X.mg X.base := I.ok.mod
theorem Inv.kIn (I : Inv X pins σ H s) : X.K.In s.heap := I.ok.mod.kin.keeps I.bk
theorem Inv.nolimit (I : Inv X pins σ H s) : s.heap.NoLimit := I.ok.mod.nolimit.keeps I.bk
/-- the frame over the base: for OpenK's rules (K.In X.base is I.mod.kin) -/
theorem Inv.fr (I : Inv X pins σ H s) : ∃ m, Fr X.base X.env.locals s.heap m :=
  let ⟨m, hn, _⟩ := I.loc
  ⟨m, hn, I.bk, Nat.le_trans I.ok.bsz I.ok.above⟩
theorem Inv.lt (I : Inv X pins σ H s) : X.env.locals < s.heap.objs.size := let ⟨_, hn, _⟩ := I.loc; hn.lt
theorem Inv.sz (I : Inv X pins σ H s) : X.s₀.heap.objs.size ≤ s.heap.objs.size := Nat.le_trans I.ok.above (Nat.le_of_lt I.lt)
theorem Inv.nofs (I : Inv X pins σ H s) {a : Addr} (h : s.heap.objs.size ≤ a) : a ∉ X.fs := fun hb => by
  obtain ⟨_, o, ho, _⟩ := I.ok.funs.mem hb
  exact absurd (Nat.lt_of_lt_of_le (Heap.lt_size ho) (Nat.le_trans I.sz h)) (Nat.lt_irrefl _)
theorem Inv.cne (I : Inv X pins σ H s) : ∀ x c, X.env.cells.lookup x = some c → c ≠ X.env.locals := fun x c e z => by
  obtain ⟨v, o, ho, hd⟩ := I.cell x c e
  obtain ⟨m, ⟨o', es, ep, ho', hd', _⟩, _⟩ := I.loc
  rw [z, ho'] at ho; cases ho; rw [hd'] at hd; cases hd
theorem Inv.funs (I : Inv X pins σ H s) : s.heap.FunFrames X.base X.outer := by
  have all : ∀ (l : List Env), (∀ b ∈ frs l, b ∈ X.fs) → X.s₀.heap.FunFrames X.base l → s.heap.FunFrames X.base l := by
    intro l
    induction l with
    | nil => intro _ _; trivial
    | cons env r ih =>
      intro hs hl
      obtain ⟨hk, ⟨L, o, hf, hn, ho, hd⟩, hr⟩ := hl
      have hL : L ∈ X.fs := hs L (by unfold frs; rw [List.filterMap_cons, hf]; exact List.mem_cons_self)
      obtain ⟨sl, e⟩ := I.base.slot L o ho (I.ok.frf L hL) hL fun z => I.ok.exfs L z hL
      exact ⟨hk, ⟨L, _, hf, hn, e, hd⟩, ih (fun b hb => hs b (by unfold frs; rw [List.filterMap_cons, hf]; exact List.mem_cons_of_mem _ hb)) hr⟩
  exact all X.outer (fun _ hb => hb) I.ok.funs
/-- the frames that run, for a call -/
theorem Inv.stack (I : Inv X pins σ H s) : s.heap.FunFrames X.base X.stack := by
  rcases I.ok.stk with e | ⟨e, hf⟩
  · rw [e]; exact I.funs
  · rw [e]
    obtain ⟨m, hn, _⟩ := I.loc
    refine .cons (by rw [I.ok.kind]; decide) hf hn ?_ I.funs
    exact Heap.get?_none_of_le (Nat.le_trans I.ok.bsz I.ok.above)
theorem Inv.stkSub (I : Inv X pins σ H s) : ∀ b ∈ frs X.stack, b ∈ X.env.locals :: X.fs := fun b hb => by
  rcases I.ok.stk with e | ⟨e, hf⟩
  · rw [e] at hb; exact List.mem_cons_of_mem _ hb
  · rw [e] at hb
    unfold frs at hb
    rw [List.filterMap_cons, hf] at hb
    exact hb
theorem Inv.stkFree (I : Inv X pins σ H s) : ∀ b ∈ frs X.stack, H b = none := fun b hb => by
  rcases List.mem_cons.mp (I.stkSub b hb) with e | hb
  · rw [e]; exact I.free
  · obtain ⟨_, o, ho, _⟩ := I.ok.funs.mem hb
    exact I.base.free b o ho (I.ok.frf b hb) fun z => I.ok.exfs b z hb
/-- THE STEP: the untracked objects but the frame and the records at ch are kept (the callers' frames up to slots), the frame's map is kept, the new abstract heap is held -/
theorem Inv.step {g' : Array GenState} {t' : Nat} {d' : Drawn} {ch : List Addr} (I : Inv X pins σ H s)
    (hch : ∀ b ∈ ch, (b ∈ X.ex ∨ X.s₀.heap.objs.size ≤ b) ∧ b ≠ X.env.locals ∧ (∀ x c, X.env.cells.lookup x = some c → c ≠ b) ∧ ∀ p ∈ X.pn ++ pins, p.1 ≠ b)
    (keep : ∀ b o, b ≠ X.env.locals → b ∉ X.fs → b ∉ ch → s.heap.get? b = some o → H b = none → h'.get? b = some o)
    (slot : ∀ b o, b ≠ X.env.locals → b ∈ X.fs → b ∉ ch → s.heap.get? b = some o → H b = none → ∃ sl, h'.get? b = some { o with slots := sl }) (free : ∀ b o, b ∉ ch → s.heap.get? b = some o → H b = none → H' b = none)
    (there : ∀ b o, b ∉ ch → s.heap.get? b = some o → ∃ o', h'.get? b = some o')
    (tups : ∀ b xs, H b = some (.tup xs) → H' b = some (.tup xs)) (frzs : ∀ b o u, H b = some (.frz o u) → H' b = some (.frz o u)) (tbls : ∀ b ps, H b = some (.tbl ps) → ∃ more, H' b = some (.tbl (ps ++ more)))
    (ns : ∀ m, s.heap.Ns X.env.locals m → h'.Ns X.env.locals m) (hok : HOk X.prog X.w H' h') (hg : AllBare g') :
    Inv X pins σ H' { s with heap := h', gens := g', drawn := d', toks := t' } := by
  have neL : ∀ b o, X.s₀.heap.get? b = some o → b ≠ X.env.locals := fun b o e => Nat.ne_of_lt (Nat.lt_of_lt_of_le (Heap.lt_size e) I.ok.above)
  have neC : ∀ b o, X.s₀.heap.get? b = some o → b ∉ X.ex → b ∉ ch := fun b o e hx hb => by
    rcases (hch b hb).1 with z | z
    · exact hx z
    · exact absurd (Nat.lt_of_lt_of_le (Heap.lt_size e) z) (Nat.lt_irrefl _)
  have cellK : ∀ x c, X.env.cells.lookup x = some c → ∀ v, s.heap.IsCell c v → h'.IsCell c v := fun x c e v ⟨o, ho, hd⟩ => by
    have nch : c ∉ ch := fun z => (hch c z).2.2.1 x c e rfl
    by_cases hc : c ∈ X.fs
    · obtain ⟨sl, q⟩ := slot c o (I.cne x c e) hc nch ho (I.freeC x c e)
      exact ⟨_, q, hd⟩
    · exact ⟨o, keep c o (I.cne x c e) hc nch ho (I.freeC x c e), hd⟩
  refine ⟨I.ok, I.os, hg, ⟨fun b o e n hb hx => ?_, fun b o e n hb hx => ?_, fun b o e n hx => ?_, fun b o e hx => ?_, fun b xs e => tups b xs (I.base.tups b xs e), fun b o xs e => frzs b o xs (I.base.frzs b o xs e), fun b ps e => ?_⟩, ?_, fun x c e => ?_, ?_, fun x c e => ?_, fun p hp => ?_, hok, I.len⟩
  · exact keep b o (neL b o e) hb (neC b o e hx) (I.base.keep b o e n hb hx) (I.base.free b o e n hx)
  · obtain ⟨sl, e1⟩ := I.base.slot b o e n hb hx
    obtain ⟨sl', e2⟩ := slot b _ (neL b o e) hb (neC b o e hx) e1 (I.base.free b o e n hx)
    exact ⟨sl', e2⟩
  · obtain ⟨o', e1⟩ := I.base.there b o e hx
    exact free b o' (neC b o e hx) e1 (I.base.free b o e n hx)
  · obtain ⟨o', e1⟩ := I.base.there b o e hx
    exact there b o' (neC b o e hx) e1
  · obtain ⟨m1, e1⟩ := I.base.tbls b ps e
    obtain ⟨m2, e2⟩ := tbls b _ e1
    exact ⟨m1 ++ m2, by rw [e2, Array.append_assoc]⟩
  · obtain ⟨m, hn, hl⟩ := I.loc
    refine ⟨m, ns m hn, fun i x v e1 e2 e3 => ?_⟩
    obtain ⟨u, r, l⟩ := hl i x v e1 e2 e3
    refine ⟨u, r, ?_⟩
    rcases l with l | ⟨k, c, e, z⟩
    · exact .inl l
    · exact .inr ⟨k, c, e, cellK x c e _ z⟩
  · obtain ⟨v, z⟩ := I.cell x c e
    exact ⟨v, cellK x c e v z⟩
  · obtain ⟨m, ⟨o, _, _, ho, _⟩, _⟩ := I.loc
    exact free _ o (fun z => (hch _ z).2.1 rfl) ho I.free
  · obtain ⟨v, o, ho, hd⟩ := I.cell x c e
    exact free c o (fun z => (hch c z).2.2.1 x c e rfl) ho (I.freeC x c e)
  · obtain ⟨e, n, ne, nf, d⟩ := I.pin p hp
    have nch : p.1 ∉ ch := fun z => (hch p.1 z).2.2.2 p hp rfl
    exact ⟨keep p.1 p.2 ne nf nch e n, free p.1 p.2 nch e n, ne, nf, d⟩
/-- .. where the frame's own object is kept too -/
theorem Inv.un {t' : Nat} (I : Inv X pins σ H s) (u : Un X.fs [] H H' s.heap h') (hok : HOk X.prog X.w H' h') : Inv X pins σ H' { s with heap := h', toks := t' } := by
  obtain ⟨m, ⟨o, es, ep, ho, r⟩, _⟩ := id I.loc
  obtain ⟨sl, hL⟩ := u.any ho I.free (by simp)
  exact I.step (g' := s.gens) (d' := s.drawn) (ch := []) (fun _ z => nomatch z) (fun b o _ hb _ e n => u.keep b o e n hb (by simp)) (fun b o _ hb _ e n => u.slot b o e n hb (by simp)) (fun b o _ e n => u.free b o e n (by simp)) (fun b o _ e => u.there b o e (by simp)) u.tups u.frzs u.tbls (fun m' hm => by
    obtain ⟨o', es', ep', ho', r'⟩ := hm
    rw [ho] at ho'; cases ho'
    exact ⟨_, es', ep', hL, r'⟩) hok I.bare
/-- behind a call (or a comprehension's block): the slots of this frame may have changed too, the records at ch may have turned -/
theorem Inv.call {g' : Array GenState} {t' : Nat} {d' : Drawn} {ch : List Addr} (I : Inv X pins σ H s) (u : Un (frs X.stack) ch H H' s.heap h') (hok : HOk X.prog X.w H' h') (hg : AllBare g')
    (hch : ∀ b ∈ ch, (b ∈ X.ex ∨ X.s₀.heap.objs.size ≤ b) ∧ b ≠ X.env.locals ∧ (∀ x c, X.env.cells.lookup x = some c → c ≠ b) ∧ ∀ p ∈ X.pn ++ pins, p.1 ≠ b) :
    Inv X pins σ H' { s with heap := h', gens := g', drawn := d', toks := t' } := by
  obtain ⟨m, ⟨o, es, ep, ho, r⟩, _⟩ := id I.loc
  obtain ⟨sl, hL⟩ := u.any ho I.free fun z => (hch _ z).2.1 rfl
  exact I.step (ch := ch) hch (fun b o hL hb hc e n => u.keep b o e n (fun z => (List.mem_cons.mp (I.stkSub b z)).elim hL hb) hc) (fun b o _ _ hc e n => u.any e n hc) (fun b o hc e n => u.free b o e n hc) (fun b o hc e => u.there b o e hc) u.tups u.frzs u.tbls (fun m' hm => by
    obtain ⟨o', es', ep', ho', r'⟩ := hm
    rw [ho] at ho'; cases ho'
    exact ⟨_, es', ep', hL, r'⟩) hok hg
/-- an untracked record of ours (an iterator) has turned -/
theorem Inv.turned {t' : Nat} {it : Addr} (I : Inv X pins σ H s) (k : ∀ b o, b ≠ it → s.heap.get? b = some o → h'.get? b = some o) (hn : H it = none) (hL : it ≠ X.env.locals)
    (h1 : it ∈ X.ex ∨ X.s₀.heap.objs.size ≤ it) (h2 : ∀ x c, X.env.cells.lookup x = some c → c ≠ it) (h3 : ∀ p ∈ X.pn ++ pins, p.1 ≠ it) : Inv X pins σ H { s with heap := h', toks := t' } := by
  have nit : ∀ b u, H b = some u → b ≠ it := fun b u e z => by rw [z, hn] at e; cases e
  refine I.step (g' := s.gens) (d' := s.drawn) (ch := [it]) (fun b hb => ?_) (fun b o _ _ hc e _ => k b o (fun z => hc (by simp [z])) e) (fun b o _ _ hc e _ => ⟨o.slots, k b o (fun z => hc (by simp [z])) e⟩) (fun _ _ _ _ n => n)
    (fun b o hc e => ⟨o, k b o (fun z => hc (by simp [z])) e⟩) (fun _ _ e => e) (fun _ _ _ e => e) (fun b ps e => ⟨#[], by rw [e]; simp⟩) (fun m hm => ?_) (fun b u e => ?_) I.bare
  · have e : b = it := by simpa using hb
    subst e
    exact ⟨h1, hL, h2, h3⟩
  · obtain ⟨o, es, ep, ho, r⟩ := hm
    exact ⟨o, es, ep, k _ o (Ne.symm hL) ho, r⟩
  · refine (I.hok b u e).stay (fun c v hc q => k c v ?_ q) (fun _ q => q) fun _ _ q => q
    rcases hc with z | z
    · rw [z]; exact nit b u e
    · exact nit c _ z
theorem Inv.tok (I : Inv X pins σ H s) (t : Nat) : Inv X pins σ H { s with toks := t } := I.un (h' := s.heap) (t' := t) Un.refl I.hok
/-- all objects kept -/
theorem Inv.kept {t' : Nat} (I : Inv X pins σ H s) (k : ∀ b u, s.heap.get? b = some u → h'.get? b = some u) : Inv X pins σ H { s with heap := h', toks := t' } := I.un (Un.kept k) (I.hok.kept k)
/-- a new object laid and tracked -/
theorem Inv.laid {a : Addr} {o : HO} {t' : Nat} (I : Inv X pins σ H s) (k : ∀ b u, s.heap.get? b = some u → h'.get? b = some u) (hp : s.heap.objs.size ≤ a) (new : ObjOk X.prog X.w (upd H a o) h' a o) :
    Inv X pins σ (upd H a o) { s with heap := h', toks := t' } := I.un (Un.laid k hp (I.hok.fresh hp)) (I.hok.laid k hp new)
/-- an object written -/
theorem Inv.write {x e : Addr} {o : HO} {t' : Nat} (I : Inv X pins σ H s) (mu : Mut (H x)) (he : e = x ∨ H e = some (.own x)) (k : ∀ b u, b ≠ e → s.heap.get? b = some u → h'.get? b = some u) (heo : ∃ u, h'.get? e = some u)
    (new : ObjOk X.prog X.w (upd H x o) h' x o) : Inv X pins σ (upd H x o) { s with heap := h', toks := t' } := I.un (Un.write mu he k heo) (I.hok.write mu he k heo new)
/-- forgetting slots, pins -/
theorem Inv.weak {σ' : List (Option V)} (I : Inv X pins σ H s) (hl : σ'.length = σ.length) (w : ∀ (i : Nat) v, σ'[i]? = some (some v) → σ[i]? = some (some v)) : Inv X pins σ' H s :=
  ⟨I.ok, I.os, I.bare, I.base, let ⟨m, hn, hl'⟩ := I.loc; ⟨m, hn, fun i x v e1 e2 e3 => hl' i x v e1 (w i v e2) e3⟩, I.cell, I.free, I.freeC, I.pin, I.hok, hl.trans I.len⟩
theorem Inv.pins_of {pins' : List (Addr × Obj)} (I : Inv X pins σ H s) (h : ∀ p ∈ pins', s.heap.get? p.1 = some p.2 ∧ H p.1 = none ∧ p.1 ≠ X.env.locals ∧ p.1 ∉ X.fs ∧ ∀ v, p.2.data ≠ .cell v) : Inv X pins' σ H s :=
  ⟨I.ok, I.os, I.bare, I.base, I.loc, I.cell, I.free, I.freeC, fun p hp => (List.mem_append.mp hp).elim (fun z => I.pin p (List.mem_append_left _ z)) (h p), I.hok, I.len⟩
theorem nodup_ix {N : List Str} (hN : N.Nodup) {i j : Nat} {x : Str} (a : N[i]? = some x) (b : N[j]? = some x) : i = j := by
  obtain ⟨h1, e1⟩ := List.getElem?_eq_some_iff.mp a
  obtain ⟨h2, e2⟩ := List.getElem?_eq_some_iff.mp b
  exact (List.getElem_inj hN).mp (e1.trans e2.symm)
/-- a name is stored; what changed -/
theorem store_ok2 {M : Model} {A : Around} {E : Value → Shared → Prop} {i : Nat} {x : Str} {v : V} {u : Value} {Q : Unit → Shared → Prop} (I : Inv X pins σ H s) (hN : X.N.Nodup) (hi : X.N[i]? = some x) (hx : Loc X.env.scope x) (r : RelV v u)
    (h : ∀ s', Inv X pins (σ.set i (some v)) H s' → (∃ a, Heap.SameBut a s.heap s'.heap ∧ (a = X.env.locals ∨ X.env.cells.lookup x = some a)) → Q () s') (hf : X.fn x = true ∨ X.env.scope.names.lookup x = some .local := by first | exact .inl rfl | exact .inr rfl | assumption) : wpAny M A (storeName X.env x u) Q E s := by
  obtain ⟨m, hn, hl⟩ := id I.loc
  have hcls : (X.env.scope.kind == .class || (X.env.scope.kind == .module && X.env.locals != X.env.globals)) = false := by rw [I.ok.kind]; rfl
  have hiσ : i < σ.length := by rw [I.len]; exact (List.getElem?_eq_some_iff.mp hi).1
  have cne := I.cne
  have tracked : ∀ {a : Addr} {h' : Heap}, (∃ o, s.heap.get? a = some o ∧ H a = none) → Heap.SameBut a s.heap h' → HOk X.prog X.w H h' := fun {a h'} ha hs b ob e => by
    obtain ⟨_, _, hfree⟩ := ha
    refine (I.hok b ob e).stay (fun c w' hc q => (hs.2 c ?_).trans q) (fun _ q => q) fun _ _ q => q
    rintro rfl
    rcases hc with rfl | hc
    · rw [hfree] at e; cases e
    · rw [hfree] at hc; cases hc
  rcases hx with hk | hk
  · refine wpAny_storeName_local hk hn (fun h' hn' hs => ?_) hcls
    obtain ⟨oL, _, _, hoL, _⟩ := id hn
    refine h _ ⟨I.ok, I.os, I.bare, ⟨fun b o e n hb hx => ?_, fun b o e n hb hx => ?_, I.base.free, fun b o e hx => ?_, I.base.tups, I.base.frzs, I.base.tbls⟩, ⟨_, hn', fun j y v' e1 e2 e3 => ?_⟩, fun y c e => ?_, I.free, I.freeC, fun p hp => ?_, tracked ⟨oL, hoL, I.free⟩ hs, by simpa using I.len⟩ ⟨_, hs, .inl rfl⟩
    · exact (hs.2 b (Nat.ne_of_lt (Nat.lt_of_lt_of_le (Heap.lt_size e) I.ok.above))).trans (I.base.keep b o e n hb hx)
    · obtain ⟨sl, e1⟩ := I.base.slot b o e n hb hx
      exact ⟨sl, (hs.2 b (Nat.ne_of_lt (Nat.lt_of_lt_of_le (Heap.lt_size e) I.ok.above))).trans e1⟩
    · obtain ⟨o', e1⟩ := I.base.there b o e hx
      exact ⟨o', (hs.2 b (Nat.ne_of_lt (Nat.lt_of_lt_of_le (Heap.lt_size e) I.ok.above))).trans e1⟩
    · by_cases hj : j = i
      · subst hj
        rw [hi] at e1; cases e1
        rw [List.getElem?_set_self hiσ] at e2
        cases e2
        exact ⟨u, r, .inl ⟨hk, by simp⟩⟩
      · rw [List.getElem?_set_ne (Ne.symm hj)] at e2
        obtain ⟨u', r', q⟩ := hl j y v' e1 e2 e3
        refine ⟨u', r', ?_⟩
        rcases q with ⟨k, e⟩ | ⟨k, c, e, z⟩
        · refine .inl ⟨k, ?_⟩
          have : y ≠ x := fun e => hj (nodup_ix hN e1 (e ▸ hi))
          simp [this, e]
        · exact .inr ⟨k, c, e, z.sameBut hs (cne y c e)⟩
    · obtain ⟨w', z⟩ := I.cell y c e
      exact ⟨w', z.sameBut hs (cne y c e)⟩
    · obtain ⟨e, n, ne, nf, d⟩ := I.pin p hp
      exact ⟨(hs.2 p.1 ne).trans e, n, ne, nf, d⟩
  · have hfn : X.fn x = true := by
      rcases hf with z | z
      · exact z
      · rw [z] at hk; cases hk
    obtain ⟨c, hc⟩ := I.ok.has x (.inl hk)
    obtain ⟨w', z⟩ := I.cell x c hc
    refine wpAny_storeName_cell I.ok.kind hk hc z (fun h' hc' hs => ?_)
    obtain ⟨oc, hoc, hocd⟩ := id z
    refine h { s with heap := h' } ⟨I.ok, I.os, I.bare, ⟨fun b o e n hb hx => ?_, fun b o e n hb hx => ?_, I.base.free, fun b o e hx => ?_, I.base.tups, I.base.frzs, I.base.tbls⟩, ⟨m, hn.sameBut hs (Ne.symm (cne x c hc)), fun j y v' e1 e2 e3 => ?_⟩, fun y c' e => ?_, I.free, I.freeC, fun p hp => ?_, tracked ⟨oc, hoc, I.freeC x c hc⟩ hs, by simpa using I.len⟩ ⟨c, hs, .inr hc⟩
    · exact (hs.2 b (Nat.ne_of_lt (Nat.lt_of_lt_of_le (Heap.lt_size e) (I.ok.cab x c hfn hc)))).trans (I.base.keep b o e n hb hx)
    · obtain ⟨sl, e1⟩ := I.base.slot b o e n hb hx
      exact ⟨sl, (hs.2 b (Nat.ne_of_lt (Nat.lt_of_lt_of_le (Heap.lt_size e) (I.ok.cab x c hfn hc)))).trans e1⟩
    · obtain ⟨o', e1⟩ := I.base.there b o e hx
      exact ⟨o', (hs.2 b (Nat.ne_of_lt (Nat.lt_of_lt_of_le (Heap.lt_size e) (I.ok.cab x c hfn hc)))).trans e1⟩
    · by_cases hj : j = i
      · subst hj
        rw [hi] at e1; cases e1
        rw [List.getElem?_set_self hiσ] at e2
        cases e2
        exact ⟨u, r, .inr ⟨.inl hk, c, hc, hc'⟩⟩
      · rw [List.getElem?_set_ne (Ne.symm hj)] at e2
        obtain ⟨u', r', q⟩ := hl j y v' e1 e2 e3
        refine ⟨u', r', ?_⟩
        rcases q with q | ⟨k, c', e, z'⟩
        · exact .inl q
        · refine .inr ⟨k, c', e, z'.sameBut hs ?_⟩
          rintro rfl
          exact hj (nodup_ix hN e1 (I.ok.inj _ _ _ e hc ▸ hi))
    · by_cases hcc : c' = c
      · subst hcc; exact ⟨_, hc'⟩
      · obtain ⟨w2, z2⟩ := I.cell y c' e
        exact ⟨w2, z2.sameBut hs hcc⟩
    · obtain ⟨e, n, ne, nf, d⟩ := I.pin p hp
      refine ⟨(hs.2 p.1 ?_).trans e, n, ne, nf, d⟩
      intro q
      rw [q, hoc] at e
      have q' : oc = p.2 := Option.some.inj e
      exact d w' (by rw [← q']; exact hocd)
theorem store_ok {M : Model} {A : Around} {E : Value → Shared → Prop} {i : Nat} {x : Str} {v : V} {u : Value} {Q : Unit → Shared → Prop} (I : Inv X pins σ H s) (hN : X.N.Nodup) (hi : X.N[i]? = some x) (hx : Loc X.env.scope x) (r : RelV v u)
    (h : ∀ s', Inv X pins (σ.set i (some v)) H s' → Q () s') (hf : X.fn x = true ∨ X.env.scope.names.lookup x = some .local := by first | exact .inl rfl | exact .inr rfl | assumption) : wpAny M A (storeName X.env x u) Q E s :=
  store_ok2 I hN hi hx r (fun s' I' _ => h s' I') hf
/-- behind a call or a block, the state as it is -/
theorem Inv.call' {s' : Shared} {ch : List Addr} (I : Inv X pins σ H s) (ho : s'.os = s.os) (u : Un (frs X.stack) ch H H' s.heap s'.heap) (hok : HOk X.prog X.w H' s'.heap) (hg : AllBare s'.gens)
    (hch : ∀ b ∈ ch, (b ∈ X.ex ∨ X.s₀.heap.objs.size ≤ b) ∧ b ≠ X.env.locals ∧ (∀ x c, X.env.cells.lookup x = some c → c ≠ b) ∧ ∀ p ∈ X.pn ++ pins, p.1 ≠ b) : Inv X pins σ H' s' := by
  obtain ⟨h', g', d', t', o'⟩ := s'
  have e : o' = s.os := ho
  subst e
  exact I.call (g' := g') (t' := t') (d' := d') u hok hg hch
end
/-! ### the judgements -/
/-- an exception: its class, its own dict's address (where it has one), the abstract heap behind it -/
abbrev XK := Value → Option Addr → Hp → Prop
abbrev St := List (Option V)
abbrev VK := V → Hp → Prop
/-- an expression's reading; a test's; an argument list's -/
abbrev TE := St → Hp → VK → Prop
abbrev TT := St → Hp → (Bool → Hp → Prop) → Prop
abbrev TA := St → Hp → (List V → Hp → Prop) → Prop
/-- what is wanted behind a statement -/
structure Ends where
  nx : St → Hp → Prop
  rt : VK
  bk : St → Hp → Prop := fun _ _ => False
  ct : St → Hp → Prop := fun _ _ => False
abbrev TS := Ends → St → Hp → Prop
def EP (X : Cx) (pins : List (Addr × Obj)) (σ : St) (Q : VK) (u : Value) (s' : Shared) : Prop := ∃ v H', Inv X pins σ H' s' ∧ RelV v u ∧ Q v H'
def TP (X : Cx) (pins : List (Addr × Obj)) (σ : St) (Q : Bool → Hp → Prop) (b : Bool) (s' : Shared) : Prop := ∃ H', Inv X pins σ H' s' ∧ Q b H'
def AP (X : Cx) (pins : List (Addr × Obj)) (σ : St) (Q : List V → Hp → Prop) (us : List Value) (s' : Shared) : Prop := ∃ vs H', Inv X pins σ H' s' ∧ Vals vs us ∧ Q vs H'
def SP (X : Cx) (pins : List (Addr × Obj)) (D : Ends) (f : Flow) (s' : Shared) : Prop :=
  match f with
  | .next => ∃ σ' H', Inv X pins σ' H' s' ∧ D.nx σ' H'
  | .brk => ∃ σ' H', Inv X pins σ' H' s' ∧ D.bk σ' H'
  | .cont => ∃ σ' H', Inv X pins σ' H' s' ∧ D.ct σ' H'
  | .ret u => ∃ v σ' H', Inv X pins σ' H' s' ∧ RelV v u ∧ D.rt v H'
def PE (X : Cx) (e : Expr) (t : TE) : Prop :=
  ∀ (pins : List (Addr × Obj)) (s : Shared) (σ : St) (H : Hp) (Q : VK), Inv X pins σ H s → t σ H Q → wpAny (model X.prog X.w) X.A (eval e X.env) (EP X pins σ Q) X.xe s
def PT (X : Cx) (e : Expr) (t : TT) : Prop :=
  ∀ (pins : List (Addr × Obj)) (s : Shared) (σ : St) (H : Hp) (Q : Bool → Hp → Prop), Inv X pins σ H s → t σ H Q → wpAny (model X.prog X.w) X.A (isTrue e X.env (eval e X.env)) (TP X pins σ Q) X.xe s
/-- a test whatever its 'whole' is (and, or) -/
def PW (X : Cx) (e : Expr) (t : TT) : Prop :=
  ∀ (whole : Sem Value) (pins : List (Addr × Obj)) (s : Shared) (σ : St) (H : Hp) (Q : Bool → Hp → Prop), Inv X pins σ H s → t σ H Q → wpAny (model X.prog X.w) X.A (isTrue e X.env whole) (TP X pins σ Q) X.xe s
theorem PW.pt {X : Cx} {e : Expr} {t : TT} (h : PW X e t) : PT X e t := h _
/-- an argument list (no star), from the left -/
def PA (X : Cx) (es : List Expr) (t : TA) : Prop :=
  ∀ (pos : Pos) (pins : List (Addr × Obj)) (s : Shared) (σ : St) (H : Hp) (Q : List V → Hp → Prop), Inv X pins σ H s → t σ H Q → wpAny (model X.prog X.w) X.A (spliced (backTo pos (starEach es X.env))) (AP X pins σ Q) X.xe s
def PS (X : Cx) (st : Stmt) (t : TS) : Prop :=
  ∀ (pins : List (Addr × Obj)) (s : Shared) (σ : St) (H : Hp) (D : Ends), Inv X pins σ H s → t D σ H → wpAny (model X.prog X.w) X.A (exec st X.env) (SP X pins D) X.xe s
def PSs (X : Cx) (st : List Stmt) (t : TS) : Prop :=
  ∀ (pins : List (Addr × Obj)) (s : Shared) (σ : St) (H : Hp) (D : Ends), Inv X pins σ H s → t D σ H → wpAny (model X.prog X.w) X.A (execs st X.env) (SP X pins D) X.xe s
/-- weaken the end -/
theorem thn {α : Type} {t : Sem α} {Q Q' : α → Shared → Prop} {M : Model} {A : Around} {E : Value → Shared → Prop} {s : Shared} (h : wpAny M A t Q E s) (hQ : ∀ a s, Q a s → Q' a s) : wpAny M A t Q' E s := wpAny_mono h hQ fun _ _ x => x
end L2
namespace L2
open PySem PySem.Spec PyProof.Rows
section
variable {X : Cx}
/-! ### names and constants -/
def tVar (i : Nat) : TE := fun σ H Q => ∃ v, σ[i]? = some (some v) ∧ Q v H
def tC (v : V) : TE := fun _ H Q => Q v H
theorem pe_var {i : Nat} {x : Str} {pos : Pos} (hN : X.N[i]? = some x) (hv : Vis X.env.scope x) (hd : (x == ("__debug__" : Str)) = false := by decide) (hcd : (x == ("__classdict__" : Str)) = false := by decide) : PE X (.Name x pos) (tVar i) := by
  intro pins s σ H Q I h
  obtain ⟨v, e, h⟩ := h
  obtain ⟨m, hn, hl⟩ := I.loc
  obtain ⟨u, r, l⟩ := hl i x v hN e hv
  have fin : EP X pins σ Q u s := ⟨v, H, I, r, h⟩
  rcases l with ⟨hk, hm⟩ | ⟨hk, c, hc, hcell⟩
  · exact wpAny_Name (wpAny_loadName_local I.ok.kind hk hn hm fin) hd
  · rcases hk with hk | hk
    · exact wpAny_Name (wpAny_loadName_cell I.ok.kind hk hc hcell fin) hd
    · exact wpAny_Name (wpAny_loadName_free I.ok.kind hk hc hcell fin hcd) hd
theorem pe_int {i j pos} : PE X (.Constant (.int i) j pos) (tC (.int i)) := fun _ _ _ H _ I h => wpAny_Constant_int ⟨.int i, H, I.tok _, ⟨_, rfl⟩, h⟩
theorem pe_bl {b j pos} : PE X (.Constant (.bool b) j pos) (tC (.bl b)) := fun _ _ _ H _ I h => Constant_bool ⟨.bl b, H, I, rfl, h⟩
theorem pe_str {x j pos} : PE X (.Constant (.str x) j pos) (tC (.str x)) := fun _ _ _ H _ I h => Calls.Constant_str ⟨.str x, H, I.tok _, ⟨_, rfl⟩, h⟩
/-- a global name of the def -/
def Gl (X : Cx) (x : Str) : Prop := X.env.kindOf x = some .globalImplicit
theorem ld_glob {E : Value → Shared → Prop} {pins : List (Addr × Obj)} {s : Shared} {σ : St} {H : Hp} {x : Str} {u : Value} {pos : Pos} {Q : Value → Shared → Prop} (I : Inv X pins σ H s) (hg : Gl X x) (hm : X.mg x = some u) (h : Q u s)
    (hd : (x == ("__debug__" : Str)) = false := by decide) : wpAny (model X.prog X.w) X.A (eval (.Name x pos) X.env) Q E s :=
  Calls.Name_function_global I.ok.kind hg (Calls.loadGlobal_global (by rw [I.ok.glob]; exact I.mod.glob.keeps I.bk) hm h) hd
theorem ld_blt {E : Value → Shared → Prop} {pins : List (Addr × Obj)} {s : Shared} {σ : St} {H : Hp} {x : Str} {u : Value} {pos : Pos} {Q : Value → Shared → Prop} (I : Inv X pins σ H s) (hg : Gl X x) (hm : X.mg x = none) (hv : bootBuiltins x = some u) (h : Q u s)
    (hn : x ≠ "__name__" := by decide) (hd : (x == ("__debug__" : Str)) = false := by decide) : wpAny (model X.prog X.w) X.A (eval (.Name x pos) X.env) Q E s := by
  obtain ⟨mb, h1, h2⟩ := I.mod.blt
  exact Calls.Name_function_global I.ok.kind hg (Calls.loadGlobal_builtin (by rw [I.ok.glob]; exact I.mod.glob.keeps I.bk) hm (by rw [I.ok.blt]; exact h1.keeps I.bk) ((h2 x hn).trans hv) h) hd
/-- a module's constant, a class, a function, as a value -/
theorem pe_glob {x : Str} {v : V} {u : Value} {pos : Pos} (hg : Gl X x) (hm : X.mg x = some u) (r : RelV v u) (hd : (x == ("__debug__" : Str)) = false := by decide) : PE X (.Name x pos) (tC v) :=
  fun _ _ _ H _ I h => ld_glob I hg hm ⟨v, H, I, r, h⟩ hd
theorem pe_bltn {x : Str} {v : V} {u : Value} {pos : Pos} (hg : Gl X x) (hm : X.mg x = none) (hv : bootBuiltins x = some u) (r : RelV v u) (hn : x ≠ "__name__" := by decide) (hd : (x == ("__debug__" : Str)) = false := by decide) : PE X (.Name x pos) (tC v) :=
  fun _ _ _ H _ I h => ld_blt I hg hm hv ⟨v, H, I, r, h⟩ hn hd
/-! ### arithmetic -/
/-- two ints -/
def t2I (ta tb : TE) (k : Int → Int → Hp → Prop) : St → Hp → Prop := fun σ H => ta σ H fun x H1 => tb σ H1 fun y H2 => ∃ i j, x = .int i ∧ y = .int j ∧ k i j H2
def tAdd (ta tb : TE) : TE := fun σ H Q => t2I ta tb (fun i j H2 => Q (.int (i + j)) H2) σ H
def tSub (ta tb : TE) : TE := fun σ H Q => t2I ta tb (fun i j H2 => Q (.int (i - j)) H2) σ H
/-- the left factor below 2^64 -/
def tMul (ta tb : TE) : TE := fun σ H Q => t2I ta tb (fun i j H2 => (-(2 ^ 64) < i ∧ i < 2 ^ 64) ∧ Q (.int (i * j)) H2) σ H
variable {a b : Expr} {ta tb : TE} {pos : Pos}
/-! ### comparisons -/
def PC (X : Cx) (op : CmpOp) (a b : Expr) (t : TE) : Prop :=
  ∀ (pins : List (Addr × Obj)) (s : Shared) (σ : St) (H : Hp) (Q : VK), Inv X pins σ H s → t σ H Q →
    wpAny (model X.prog X.w) X.A (eval a X.env) (fun v s₁ => wpAny (model X.prog X.w) X.A (eval b X.env) (fun u s₂ => wpAny (model X.prog X.w) X.A (compareOp op v u) (EP X pins σ Q) X.xe s₂) X.xe s₁) X.xe s
def tCmp (p : Int → Int → Bool) (ta tb : TE) : TE := fun σ H Q => t2I ta tb (fun i j H2 => Q (.bl (p i j)) H2) σ H
abbrev tLt : TE → TE → TE := tCmp fun i j => decide (i < j)
abbrev tLe : TE → TE → TE := tCmp fun i j => decide (i ≤ j)
abbrev tGt : TE → TE → TE := tCmp fun i j => decide (j < i)
abbrev tGe : TE → TE → TE := tCmp fun i j => decide (j ≤ i)
abbrev tEqI : TE → TE → TE := tCmp fun i j => decide (i = j)
abbrev tNeI : TE → TE → TE := tCmp fun i j => !decide (i = j)
/-- is None -/
def tIsN (ta : TE) : TE := fun σ H Q => ta σ H fun x H1 => Q (.bl (decide (x = .non))) H1
def tNotN (ta : TE) : TE := fun σ H Q => ta σ H fun x H1 => Q (.bl (!decide (x = .non))) H1
/-- a comparison as a value, as a test -/
def tB (t : TE) : TT := fun σ H Q => t σ H fun x H1 => ∃ c, x = .bl c ∧ Q c H1
/-- an expression whose value is a bool, as a test -/
theorem pt_val {e : Expr} {t : TE} (h : PE X e t) (he : ∀ whole, isTrue e X.env whole = (do let v ← whole; standAt e.pos; holding [v] (truthy v)) := by intro _; rfl) : PT X e (tB t) := by
  intro pins s σ H Q I hw
  refine isTrue_plain (thn (h pins s σ H _ I hw) fun v s1 ⟨x, H1, I1, r1, q1⟩ => ?_) (he _)
  obtain ⟨d, rfl, q⟩ := q1
  cases r1
  exact wpAny_truthy_bool ⟨H1, I1, q⟩
/-! ### and, or, not -/
variable {tA tB' : TT} {rest : List Expr}
def tAnd (t u : TT) : TT := fun σ H Q => t σ H fun c H1 => if c = true then u σ H1 Q else Q false H1
def tOr (t u : TT) : TT := fun σ H Q => t σ H fun c H1 => if c = true then Q true H1 else u σ H1 Q
def tNot (t : TT) : TT := fun σ H Q => t σ H fun c H1 => Q (!c) H1
theorem pw_and1 (ha : PT X a tA) : PW X (.BoolOp .And [a] pos) tA := by
  intro wh pins s σ H Q I h
  refine isTrue_and (thn (ha pins s σ H Q I h) fun c s1 e => ?_)
  cases c with
  | true => exact isTrue_and_nil e
  | false => exact e
theorem pw_or1 (ha : PT X a tA) : PW X (.BoolOp .Or [a] pos) tA := by
  intro wh pins s σ H Q I h
  refine isTrue_or (thn (ha pins s σ H Q I h) fun c s1 e => ?_)
  cases c with
  | false => exact isTrue_or_nil e
  | true => exact e
theorem pw_and (ha : PT X a tA) (hb : PW X (.BoolOp .And (b :: rest) pos) tB') : PW X (.BoolOp .And (a :: b :: rest) pos) (tAnd tA tB') := by
  intro wh pins s σ H Q I h
  refine isTrue_and (thn (ha pins s σ H _ I h) fun c s1 ⟨H1, I1, q1⟩ => ?_)
  cases c with
  | true => exact hb wh pins s1 σ H1 Q I1 q1
  | false => exact ⟨H1, I1, q1⟩
theorem pw_or (ha : PT X a tA) (hb : PW X (.BoolOp .Or (b :: rest) pos) tB') : PW X (.BoolOp .Or (a :: b :: rest) pos) (tOr tA tB') := by
  intro wh pins s σ H Q I h
  refine isTrue_or (thn (ha pins s σ H _ I h) fun c s1 ⟨H1, I1, q1⟩ => ?_)
  cases c with
  | true => exact ⟨H1, I1, q1⟩
  | false => exact hb wh pins s1 σ H1 Q I1 q1
theorem pt_not (ha : PT X a tA) : PT X (.UnaryOp .Not a pos) (tNot tA) := by
  intro pins s σ H Q I h
  exact isTrue_not (ha pins s σ H (fun c H1 => Q (!c) H1) I h)
/-- .. as values (bools) -/
def tAndV (ta tb : TE) : TE := fun σ H Q => ta σ H fun x H1 => ∃ c, x = .bl c ∧ if c = true then tb σ H1 Q else Q (.bl false) H1
def tOrV (ta tb : TE) : TE := fun σ H Q => ta σ H fun x H1 => ∃ c, x = .bl c ∧ if c = true then Q (.bl true) H1 else tb σ H1 Q
def tNotV (ta : TE) : TE := fun σ H Q => ta σ H fun x H1 => ∃ c, x = .bl c ∧ Q (.bl (!c)) H1
theorem pe_one {op} {t : TE} (h : PE X a t) : PE X (.BoolOp op [a] pos) t := fun pins s σ H Q I hw => BoolOp_one (h pins s σ H Q I hw)
theorem pe_and (ha : PE X a ta) (hb : PE X (.BoolOp .And (b :: rest) pos) tb) : PE X (.BoolOp .And (a :: b :: rest) pos) (tAndV ta tb) := by
  intro pins s σ H Q I h
  refine BoolOp_and (thn (ha pins s σ H _ I h) fun v s1 ⟨x, H1, I1, r1, q1⟩ => ?_)
  obtain ⟨c, rfl, q1⟩ := q1
  cases r1
  refine wpAny_truthy_bool ?_
  cases c with
  | true => exact hb pins s1 σ H1 Q I1 q1
  | false => exact ⟨.bl false, H1, I1, rfl, q1⟩
/-- a if t else b -/
def tIf (t : TT) (ta tb : TE) : TE := fun σ H Q => t σ H fun c H1 => if c = true then ta σ H1 Q else tb σ H1 Q
theorem pe_ifExp {c : Expr} (hc : PT X c tA) (ha : PE X a ta) (hb : PE X b tb) : PE X (.IfExp c a b pos) (tIf tA ta tb) := by
  intro pins s σ H Q I h
  refine wpAny_IfExp (thn (hc pins s σ H _ I h) fun d s1 ⟨H1, I1, q1⟩ => ?_)
  cases d with
  | true => exact ha pins s1 σ H1 Q I1 q1
  | false => exact hb pins s1 σ H1 Q I1 q1
end
end L2
namespace L2
open PySem PySem.Spec PyProof.Rows
/-! ### a list, a tuple that is read: tracked, frozen, or an object of the module -/
def SqL (K : PySem.W.Frag) (H : Hp) (a : Addr) (xs : List V) : Prop :=
  Rd H a (.lst xs) ∨
    ∃ (o : Obj) (its : Array Value) (n : Nat), K.lookup a = some o ∧ o.cls = .type "list" ∧ o.dict = none ∧ o.data = .seq its n ∧ its.size ≤ sizeLine ∧ Vals xs its.toList
def SqT (K : PySem.W.Frag) (H : Hp) (a : Addr) (xs : List V) : Prop :=
  Rd H a (.tup xs) ∨
    ∃ (o : Obj) (its : Array Value) (n : Nat), K.lookup a = some o ∧ o.cls = .type "tuple" ∧ o.data = .seq its n ∧ its.size ≤ sizeLine ∧ Vals xs its.toList
def absV : Value → Option V
  | .none => some .non
  | .bool b => some (.bl b)
  | .int i _ => some (.int i)
  | .str x _ => some (.str x)
  | .bytes b _ => some (.byt b)
  | .float b _ => some (.flt b)
  | .ref a => some (.ref a)
  | .type n => some (.ty n)
  | _ => none
theorem RelV.abs {x : V} {u : Value} (r : RelV x u) : absV u = some x := by
  cases x with
  | non => cases r; rfl
  | bl _ => cases r; rfl
  | int _ => obtain ⟨t, rfl⟩ := r; rfl
  | str _ => obtain ⟨t, rfl⟩ := r; rfl
  | byt _ => obtain ⟨t, rfl⟩ := r; rfl
  | flt _ => obtain ⟨t, rfl⟩ := r; rfl
  | ref _ => cases r; rfl
  | ty _ => cases r; rfl
theorem RelV.inj {x y : V} {u : Value} (r : RelV x u) (q : RelV y u) : x = y := Option.some.inj (r.abs.symm.trans q.abs)
theorem Vals.inj : ∀ {xs ys : List V} {us : List Value}, Vals xs us → Vals ys us → xs = ys
  | _, _, _, .nil, .nil => rfl
  | _, _, _, .cons r t, .cons r' t' => by rw [r.inj r', Vals.inj t t']
section
variable {X : Cx} {pins : List (Addr × Obj)} {σ : St} {H : Hp} {s : Shared} {a : Addr} {xs ys : List V}
theorem SqL.of {K : PySem.W.Frag} (h : H a = some (.lst xs)) : SqL K H a xs := .inl (.inl h)
theorem SqT.of {K : PySem.W.Frag} (h : H a = some (.tup xs)) : SqT K H a xs := .inl (.inl h)
theorem Inv.list (I : Inv X pins σ H s) (h : SqL X.K H a xs) : ∃ its : List Value, Vals xs its ∧ PlainL s.heap a its.toArray ∧ xs.length ≤ sizeLine := by
  rcases h with h | ⟨o, its, n, hk, hc, hd, hs, hz, r⟩
  · obtain ⟨z, its, n, r, e⟩ := h.ok I.hok
    exact ⟨its, r, ⟨_, n, e, rfl, rfl, rfl⟩, z⟩
  · refine ⟨its.toList, r, ⟨o, n, I.kIn a o hk, hc, hd, by simpa using hs⟩, ?_⟩
    have e := r.length
    simp only [Array.length_toList] at e
    omega
theorem Inv.tuple (I : Inv X pins σ H s) (h : SqT X.K H a xs) : ∃ its : List Value, Vals xs its ∧ IsTup s.heap a its.toArray ∧ xs.length ≤ sizeLine := by
  rcases h with h | ⟨o, its, n, hk, hc, hs, hz, r⟩
  · obtain ⟨z, its, r, p⟩ := h.ok I.hok
    exact ⟨its, r, p, z⟩
  · refine ⟨its.toList, r, ⟨o, I.kIn a o hk, hc, n, by simpa using hs⟩, ?_⟩
    have e := r.length
    simp only [Array.length_toList] at e
    omega
theorem Inv.list_inj (I : Inv X pins σ H s) (h : SqL X.K H a xs) (h' : SqL X.K H a ys) : xs = ys := by
  obtain ⟨its, r, ⟨o, n, e, _, _, d⟩, _⟩ := I.list h
  obtain ⟨its', r', ⟨o', n', e', _, _, d'⟩, _⟩ := I.list h'
  rw [e] at e'; cases e'
  rw [d] at d'
  injection d' with d1 _
  have : its = its' := by simpa using congrArg Array.toList d1
  subst this
  exact r.inj r'
end
/-! ### another wish about exceptions -/
abbrev Cx.wish (X : Cx) (E : Value → Shared → Prop) : Cx := { X with xe := E }
/-- no exception leaves -/
abbrev Cx.nox (X : Cx) : Cx := X.wish fun _ _ => False
theorem Cx.Ok.wish {X : Cx} (ok : X.Ok) (E : Value → Shared → Prop) : (X.wish E).Ok :=
  ⟨ok.mod, ok.kind, ok.glob, ok.blt, ok.above, ok.inj, ok.has, ok.cab, ok.hd, ok.frames, ok.stk, ok.exf, ok.bs, ok.bsz, ok.noex, ok.exfs, ok.funs, ok.frf⟩
theorem Cx.Ok.unwish {X : Cx} {E : Value → Shared → Prop} (ok : (X.wish E).Ok) : X.Ok :=
  ⟨ok.mod, ok.kind, ok.glob, ok.blt, ok.above, ok.inj, ok.has, ok.cab, ok.hd, ok.frames, ok.stk, ok.exf, ok.bs, ok.bsz, ok.noex, ok.exfs, ok.funs, ok.frf⟩
section
variable {X : Cx} {pins : List (Addr × Obj)} {σ : St} {H : Hp} {s : Shared} {E : Value → Shared → Prop}
theorem Inv.wish (I : Inv X pins σ H s) (E : Value → Shared → Prop) : Inv (X.wish E) pins σ H s := ⟨I.ok.wish E, I.os, I.bare, I.base, I.loc, I.cell, I.free, I.freeC, I.pin, I.hok, I.len⟩
theorem Inv.unwish (I : Inv (X.wish E) pins σ H s) : Inv X pins σ H s := ⟨I.ok.unwish, I.os, I.bare, I.base, I.loc, I.cell, I.free, I.freeC, I.pin, I.hok, I.len⟩
theorem SP.unwish {D : Ends} {f : Flow} {s' : Shared} (h : SP (X.wish E) pins D f s') : SP X pins D f s' := by
  cases f with
  | next => obtain ⟨σ', H', I, q⟩ := h; exact ⟨σ', H', I.unwish, q⟩
  | brk => obtain ⟨σ', H', I, q⟩ := h; exact ⟨σ', H', I.unwish, q⟩
  | cont => obtain ⟨σ', H', I, q⟩ := h; exact ⟨σ', H', I.unwish, q⟩
  | ret u => obtain ⟨v, σ', H', I, r, q⟩ := h; exact ⟨v, σ', H', I.unwish, r, q⟩
theorem PE.nox {e : Expr} {t : TE} (h : PE X.nox e t) : PE X e t := fun pins s σ H Q I hw =>
  wpAny_mono (h pins s σ H Q (I.wish _) hw) (fun _ _ ⟨v, H', I', r, q⟩ => ⟨v, H', I'.unwish, r, q⟩) fun _ _ z => False.elim z
theorem PT.nox {e : Expr} {t : TT} (h : PT X.nox e t) : PT X e t := fun pins s σ H Q I hw =>
  wpAny_mono (h pins s σ H Q (I.wish _) hw) (fun _ _ ⟨H', I', q⟩ => ⟨H', I'.unwish, q⟩) fun _ _ z => False.elim z
theorem PSs.nox {st : List Stmt} {t : TS} (h : PSs X.nox st t) : PSs X st t := fun pins s σ H D I hw =>
  wpAny_mono (h pins s σ H D (I.wish _) hw) (fun _ _ q => q.unwish) fun _ _ z => False.elim z
end
/-! ### blocks and small statements -/
section
variable {X : Cx} {st : Stmt} {rest : List Stmt} {t u : TS} {e : Expr} {te : TE} {pos : Pos}
def tNext : TS := fun D σ H => D.nx σ H
def tSeq (t u : TS) : TS := fun D σ H => t { D with nx := u D } σ H
theorem pss_nil : PSs X [] tNext := fun _ _ σ H _ I h => wpAny_execs_nil ⟨σ, H, I, h⟩
theorem pss_cons (h1 : PS X st t) (h2 : PSs X rest u) : PSs X (st :: rest) (tSeq t u) := by
  intro pins s σ H D I h
  refine wpAny_execs_cons (thn (h1 pins s σ H { D with nx := u D } I h) fun f s1 q => ?_)
  cases f with
  | next =>
    obtain ⟨σ', H', I', q⟩ := q
    exact h2 pins s1 σ' H' D I' q
  | ret v => exact q
  | brk => exact q
  | cont => exact q
theorem pss_one (h1 : PS X st t) : PSs X [st] t := by
  intro pins s σ H D I h
  refine wpAny_execs_cons (thn (h1 pins s σ H D I h) fun f s1 q => ?_)
  cases f with
  | next => exact wpAny_execs_nil q
  | ret v => exact q
  | brk => exact q
  | cont => exact q
def tBreak : TS := fun D σ H => D.bk σ H
def tCont : TS := fun D σ H => D.ct σ H
/-- in a def's body nothing is shown -/
theorem Inv.quiet {pins : List (Addr × Obj)} {σ : St} {H : Hp} {s : Shared} (I : Inv X pins σ H s) : interactive X.env = false := by simp [interactive, I.ok.kind]
/-- an expression whose value is dropped -/
def tDrop (te : TE) : TS := fun D σ H => te σ H fun _ H1 => D.nx σ H1
theorem ps_expr (he : PE X e te) (hs : swapsWith e none pos.line X.env = pure false := by rfl) : PS X (.Expr e pos) (tDrop te) := by
  intro pins s σ H D I h
  exact wpAny_Expr_any (thn (he pins s σ H _ I h) fun v s1 ⟨x, H1, I1, r1, q1⟩ => ⟨σ, H1, I1, q1⟩) I.quiet hs
def tRet (te : TE) : TS := fun D σ H => te σ H D.rt
theorem ps_ret (he : PE X e te) : PS X (.Return (some e) pos) (tRet te) := by
  intro pins s σ H D I h
  exact wpAny_Return_some (thn (he pins s σ H _ I h) fun v s1 ⟨x, H1, I1, r1, q1⟩ => ⟨x, σ, H1, I1, r1, q1⟩)
def tRetN : TS := fun D _ H => D.rt .non H
def tIfS (c : TT) (t u : TS) : TS := fun D σ H => c σ H fun b H1 => if b = true then t D σ H1 else u D σ H1
theorem ps_if {c : Expr} {a b : List Stmt} {tc : TT} (hc : PT X c tc) (ha : PSs X a t) (hb : PSs X b u) : PS X (.If c a b pos) (tIfS tc t u) := by
  intro pins s σ H D I h
  refine wpAny_If (thn (hc pins s σ H _ I h) fun d s1 ⟨H1, I1, q1⟩ => ?_)
  cases d with
  | true => exact ha pins s1 σ H1 D I1 q1
  | false => exact hb pins s1 σ H1 D I1 q1
/-- code that the proof never comes to -/
def tNever : TS := fun _ _ _ => False
theorem pss_never {sts : List Stmt} : PSs X sts tNever := fun _ _ _ _ _ _ h => h.elim
end
/-! ### targets -/
abbrev TG := V → St → Hp → (St → Hp → Prop) → Prop
abbrev TGs := List V → St → Hp → (St → Hp → Prop) → Prop
def PG (X : Cx) (target : Expr) (t : TG) : Prop :=
  ∀ (pins : List (Addr × Obj)) (s : Shared) (σ : St) (H : Hp) (v : V) (u : Value) (Q : St → Hp → Prop), Inv X pins σ H s → RelV v u → t v σ H Q →
    wpAny (model X.prog X.w) X.A (assign target X.env u) (fun _ s' => ∃ σ' H', Inv X pins σ' H' s' ∧ Q σ' H') X.xe s
/-- several targets, one after another -/
def PGs (X : Cx) (ts : List Expr) (t : TGs) : Prop :=
  ∀ (pins : List (Addr × Obj)) (s : Shared) (σ : St) (H : Hp) (vs : List V) (us : List Value) (Q : St → Hp → Prop), Inv X pins σ H s → Vals vs us → t vs σ H Q →
    wpAny (model X.prog X.w) X.A (assignInOrder ((assignEach ts X.env).map (·.2)) us) (fun _ s' => ∃ σ' H', Inv X pins σ' H' s' ∧ Q σ' H') X.xe s
/-- o[i] = v, by values -/
abbrev TSet := V → V → V → Hp → (Hp → Prop) → Prop
def PSet (X : Cx) (t : TSet) : Prop :=
  ∀ (pins : List (Addr × Obj)) (s : Shared) (σ : St) (H : Hp) (o i v : V) (ov iv u : Value) (Q : Hp → Prop), Inv X pins σ H s → RelV o ov → RelV i iv → RelV v u → t o i v H Q →
    wpAny (model X.prog X.w) X.A (setItem ov iv u) (fun _ s' => ∃ H', Inv X pins σ H' s' ∧ Q H') X.xe s
/-- a op= b, by values -/
abbrev TIp := V → V → Hp → VK → Prop
def PIp (X : Cx) (op : Operator) (t : TIp) : Prop :=
  ∀ (pins : List (Addr × Obj)) (s : Shared) (σ : St) (H : Hp) (x y : V) (v u : Value) (Q : VK), Inv X pins σ H s → RelV x v → RelV y u → t x y H Q →
    wpAny (model X.prog X.w) X.A (inplaceOp op v u) (EP X pins σ Q) X.xe s
section
variable {X : Cx} {pos : Pos}
def gName (i : Nat) : TG := fun v σ H Q => Q (σ.set i (some v)) H
theorem pg_name {i : Nat} {x : Str} (hN : X.N.Nodup) (hi : X.N[i]? = some x) (hx : Loc X.env.scope x) (hf : X.fn x = true ∨ X.env.scope.names.lookup x = some .local := by first | exact .inl rfl | exact .inr rfl | assumption) : PG X (.Name x pos) (gName i) := by
  intro pins s σ H v u Q I r h
  exact wpAny_assign_Name (store_ok I hN hi hx r (fun s' I' => ⟨_, H, I', h⟩) hf)
def gNil : TGs := fun vs σ H Q => vs = [] ∧ Q σ H
def gCons (t : TG) (u : TGs) : TGs := fun vs σ H Q => ∃ v r, vs = v :: r ∧ t v σ H fun σ' H' => u r σ' H' Q
theorem pgs_nil : PGs X [] gNil := by
  intro pins s σ H vs us Q I r h
  obtain ⟨e, h⟩ := h
  subst e
  cases r
  exact assignInOrder_nil ⟨σ, H, I, h⟩
theorem pgs_cons {e : Expr} {es : List Expr} {t : TG} {u : TGs} (h1 : PG X e t) (h2 : PGs X es u)
    (hs : (assignEach (e :: es) X.env).map (·.2) = assign e X.env :: (assignEach es X.env).map (·.2) := by rfl) : PGs X (e :: es) (gCons t u) := by
  intro pins s σ H vs us Q I r h
  obtain ⟨v, vr, e1, h⟩ := h
  subst e1
  cases r with
  | cons r rr =>
    rw [hs]
    refine assignInOrder_cons (thn (h1 pins s σ H _ _ _ I r h) fun _ s1 ⟨σ1, H1, I1, q1⟩ => ?_)
    exact h2 pins s1 σ1 H1 _ _ Q I1 rr q1
/-- (a, b, ..) = a tuple of that length -/
def gTup (K : PySem.W.Frag) (n : Nat) (t : TGs) : TG := fun v σ H Q => ∃ a xs, v = .ref a ∧ SqT K H a xs ∧ xs.length = n ∧ t xs σ H Q
theorem pg_tup {es : List Expr} {k : Nat} {t : TGs} {n : Nat} (hc : X.calm = true) (h : PGs X es t)
    (hn : (assignEach es X.env).length = n := by rfl) (hst : (assignEach es X.env).findIdx? (·.1) = none := by rfl) : PG X (.Tuple es k pos) (gTup X.K n t) := by
  intro pins s σ H v u Q I r hw
  obtain ⟨a, xs, e1, hq, hl, hw⟩ := hw
  subst e1
  cases r
  obtain ⟨its, rv, ht, hz⟩ := I.tuple hq
  refine assign_Tuple_tuple (I.ok.hd hc) ht (by simp [hn, ← hl, rv.length]) hst fun h' hx => ?_
  have I1 : Inv X pins σ H { s with heap := h' } := I.kept (t' := s.toks) fun b o e => hx b o (Nat.ne_of_lt (Heap.lt_size e)) e
  exact h pins _ σ H xs _ Q I1 (by simpa using rv) hw
/-- o[i] = .. -/
def gSub (to ti : TE) (t : TSet) : TG := fun v σ H Q => to σ H fun o H1 => ti σ H1 fun i H2 => t o i v H2 fun H3 => Q σ H3
theorem pg_sub {o i : Expr} {to ti : TE} {t : TSet} (ho : PE X o to) (hi : PE X i ti) (hs : PSet X t)
    (ha : ∀ v, assign (.Subscript o i pos) X.env v = (do
      let ov ← holding [v] (eval o X.env)
      let iv ← holding [v, ov] (eval i X.env)
      standAt pos
      holding [v, ov, iv] (setItem ov iv v)
      release [v, ov, iv] []) := by intro _; rfl) : PG X (.Subscript o i pos) (gSub to ti t) := by
  intro pins s σ H v u Q I r h
  rw [ha]
  refine wpAny_bind (wpAny_holding (thn (ho pins s σ H _ I h) fun ov s1 ⟨x, H1, I1, r1, q1⟩ => ?_))
  refine wpAny_bind (wpAny_holding (thn (hi pins s1 σ H1 _ I1 q1) fun iv s2 ⟨y, H2, I2, r2, q2⟩ => ?_))
  refine wpAny_bind (wpAny_standAt (wpAny_bind (wpAny_holding (thn (hs pins s2 σ H2 x y v ov iv u _ I2 r1 r2 r q2) fun _ s3 ⟨H3, I3, q3⟩ => ?_))))
  exact wpAny_release ⟨σ, H3, I3, q3⟩
/-- target = value -/
def tAsg (te : TE) (g : TG) : TS := fun D σ H => te σ H fun x H1 => g x σ H1 D.nx
theorem ps_asg {tg e : Expr} {te : TE} {g : TG} (he : PE X e te) (hg : PG X tg g) (hs : swapsWithSole [tg] e pos.line X.env = pure false := by rfl) (hw : swappedStores [tg] e X.env = pure none := by rfl)
    (h1 : (assignEach [tg] X.env).map (·.2) = [assign tg X.env] := by rfl) : PS X (.Assign [tg] e pos) (tAsg te g) := by
  intro pins s σ H D I h
  refine wpAny_Assign_stores (thn (he pins s σ H _ I h) fun v s1 ⟨x, H1, I1, r1, q1⟩ => ?_) hs hw
  rw [h1]
  exact thn (hg pins s1 σ H1 x v _ I1 r1 q1) fun _ s2 q => q
/-- name = value -/
theorem ps_set {i : Nat} {x : Str} {e : Expr} {te : TE} {pos' : Pos} (hN : X.N.Nodup) (hi : X.N[i]? = some x) (hx : Loc X.env.scope x) (he : PE X e te) (hs : swapsWith e (some (.Name x pos')) pos.line X.env = pure false := by rfl) (hf : X.fn x = true ∨ X.env.scope.names.lookup x = some .local := by first | exact .inl rfl | exact .inr rfl | assumption) :
    PS X (.Assign [.Name x pos'] e pos) (tAsg te (gName i)) := by
  intro pins s σ H D I h
  refine wpAny_Assign_Name (thn (he pins s σ H _ I h) fun v s1 ⟨y, H1, I1, r1, q1⟩ => ?_) hs
  exact store_ok I1 hN hi hx r1 (fun s2 I2 => ⟨_, H1, I2, q1⟩) hf
/-- a, b = x, y with plain local names: stored from the right; the pair itself is not tracked (the opening rows as in PyProof/Rows/TupAssign.lean:23) -/
def tPar (i j : Nat) (ta : TA) : TS := fun D σ H => ta σ H fun vs H1 => ∃ v w, vs = [v, w] ∧ D.nx ((σ.set i (some v)).set j (some w)) H1
/-- name op= e -/
def tAug (i : Nat) (te : TE) (ti : TIp) : TS := fun D σ H => ∃ x, σ[i]? = some (some x) ∧ te σ H fun y H1 => ti x y H1 fun z H2 => D.nx (σ.set i (some z)) H2
theorem ps_aug {i : Nat} {x : Str} {e : Expr} {te : TE} {op : Operator} {ti : TIp} {pos' : Pos} (hN : X.N.Nodup) (hi : X.N[i]? = some x) (hx : Loc X.env.scope x) (he : PE X e te) (ho : PIp X op ti) (hf : X.fn x = true ∨ X.env.scope.names.lookup x = some .local := by first | exact .inl rfl | exact .inr rfl | assumption) :
    PS X (.AugAssign (.Name x pos') op e pos) (tAug i te ti) := by
  intro pins s σ H D I h
  obtain ⟨v, e1, h⟩ := h
  obtain ⟨m, hn, hl⟩ := I.loc
  have vis : Vis X.env.scope x := by rcases hx with k | k; exact .inl k; exact .inr (.inl k)
  obtain ⟨u, r, l⟩ := hl i x v hi e1 vis
  refine wpAny_AugAssign_Name ?_
  have go : wpAny (model X.prog X.w) X.A (eval e X.env) (fun w s₂ => wpAny (model X.prog X.w) X.A (inplaceOp op u w) (fun r s₃ => wpAny (model X.prog X.w) X.A (storeName X.env x r) (fun _ => SP X pins D .next) X.xe s₃) X.xe s₂) X.xe s := by
    refine thn (he pins s σ H _ I h) fun w s1 ⟨y, H1, I1, r1, q1⟩ => ?_
    refine thn (ho pins s1 σ H1 v y u w _ I1 r r1 q1) fun z s2 ⟨zv, H2, I2, r2, q2⟩ => ?_
    exact store_ok I2 hN hi hx r2 (fun s3 I3 => ⟨_, H2, I3, q2⟩) hf
  rcases l with ⟨hk, hm⟩ | ⟨hk, c, hc, hcell⟩
  · exact wpAny_loadName_local I.ok.kind hk hn hm go
  · rcases hk with hk | hk
    · exact wpAny_loadName_cell I.ok.kind hk hc hcell go
    · rcases hx with k | k
      · have : X.env.scope.names.lookup x = some .free := hk
        rw [k] at this; cases this
      · have : X.env.scope.names.lookup x = some .free := hk
        rw [k] at this; cases this
/-- o[i] op= e -/
def tAugS (to ti te : TE) (tget : V → V → Hp → VK → Prop) (tip : TIp) (tset : TSet) : TS := fun D σ H => to σ H fun o H1 => ti σ H1 fun i H2 => tget o i H2 fun x H3 => te σ H3 fun y H4 => tip x y H4 fun z H5 => tset o i z H5 fun H6 => D.nx σ H6
/-- o[i], by values -/
def PGet (X : Cx) (t : V → V → Hp → VK → Prop) : Prop :=
  ∀ (pins : List (Addr × Obj)) (s : Shared) (σ : St) (H : Hp) (o i : V) (ov iv : Value) (Q : VK), Inv X pins σ H s → RelV o ov → RelV i iv → t o i H Q →
    wpAny (model X.prog X.w) X.A (getItem ov iv) (EP X pins σ Q) X.xe s
/-- ints -/
def ipI (f : Int → Int → Int) : TIp := fun x y H Q => ∃ i j, x = .int i ∧ y = .int j ∧ Q (.int (f i j)) H
theorem ip_add : PIp X .Add (ipI fun i j => i + j) := by
  intro pins s σ H x y v u Q I r1 r2 h
  obtain ⟨i, j, e1, e2, q⟩ := h
  subst e1; subst e2
  obtain ⟨t, rfl⟩ := r1
  obtain ⟨t', rfl⟩ := r2
  exact iadd_int ⟨.int _, H, I.tok _, ⟨_, rfl⟩, q⟩
end
/-! ### while -/
section
variable {X : Cx} {pos : Pos}
/-- the invariant W with its measure -/
def tWhile (c : TT) (tb : TS) : TS := fun D σ H => ∃ W : Nat → St → Hp → Prop, (∃ m, W m σ H) ∧ ∀ m σ H, W m σ H →
  c σ H fun b H1 => if b = true then ∃ N : St → Hp → Prop, (∀ σ' H', N σ' H' → ∃ m', m' < m ∧ W m' σ' H') ∧ tb { D with nx := N, ct := N, bk := D.nx } σ H1 else D.nx σ H1
theorem ps_while {c : Expr} {body : List Stmt} {tc : TT} {tb : TS} (hp : PassesOwn (model X.prog X.w) X.A X.env X.xe) (hc : PT X c tc) (hb : PSs X body tb) : PS X (.While c body [] pos) (tWhile tc tb) := by
  intro pins s σ H D I h
  obtain ⟨W, ⟨m0, w0⟩, turn⟩ := h
  refine wpAny_While (codeAny_whileLoop (fun n s' => ∃ σ' H', Inv X pins σ' H' s' ∧ W n σ' H') ?_ m0 ⟨σ, H, I, w0⟩)
  rintro n s1 ⟨σ1, H1, I1, w1⟩
  refine wpAny_passesOwn hp (thn (hc pins s1 σ1 H1 _ I1 (turn n σ1 H1 w1)) fun b s2 ⟨H2, I2, q2⟩ => ?_)
  cases b with
  | true =>
    obtain ⟨N, hN, q2⟩ := q2
    rw [if_pos rfl]
    refine wpAny_passesOwn hp (thn (hb pins s2 σ1 H2 _ I2 q2) fun f s3 q3 => ?_)
    cases f with
    | next =>
      obtain ⟨σ3, H3, I3, n3⟩ := q3
      obtain ⟨m', hm, w3⟩ := hN σ3 H3 n3
      exact ⟨m', hm, σ3, H3, I3, w3⟩
    | cont =>
      obtain ⟨σ3, H3, I3, n3⟩ := q3
      obtain ⟨m', hm, w3⟩ := hN σ3 H3 n3
      exact ⟨m', hm, σ3, H3, I3, w3⟩
    | brk => exact q3
    | ret v => exact q3
  | false =>
    rw [if_neg Bool.false_ne_true]
    exact wpAny_execs_nil ⟨σ1, H2, I2, q2⟩
end
/-! ### what a loop or a comprehension walks -/
/-- at turn i: it yields x (the heap may grow), or it stops -/
structure It where
  go : Nat → Hp → Prop
  yld : Nat → Hp → V → Hp → Prop
  stop : Nat → Hp → Prop
/-- the iterator's own objects may turn: they are not the frame's, not pinned, younger than the entry (or a comprehension's own) -/
def FpOk (X : Cx) (pins : List (Addr × Obj)) (H : Hp) (b : Addr) : Prop :=
  H b = none ∧ b ≠ X.env.locals ∧ b ∉ X.fs ∧ (b ∈ X.ex ∨ X.s₀.heap.objs.size ≤ b) ∧ (∀ x c, X.env.cells.lookup x = some c → c ≠ b) ∧ ∀ p ∈ X.pn ++ pins, p.1 ≠ b
theorem Inv.fpOk {X : Cx} {pins : List (Addr × Obj)} {σ : St} {H H' : Hp} {s : Shared} {b : Addr} (I : Inv X pins σ H s) (hb : s.heap.objs.size ≤ b) (hn : H' b = none) : FpOk X pins H' b := by
  refine ⟨hn, Nat.ne_of_gt (Nat.lt_of_lt_of_le I.lt hb), I.nofs hb, .inr (Nat.le_trans I.sz hb), fun x c e z => ?_, fun p hp z => ?_⟩
  · obtain ⟨v, q⟩ := I.cell x c e
    exact absurd (Nat.lt_of_lt_of_le q.lt (by rw [z]; exact hb)) (Nat.lt_irrefl _)
  · exact absurd (Nat.lt_of_lt_of_le (Heap.lt_size (I.pin p hp).1) (by rw [z]; exact hb)) (Nat.lt_irrefl _)
structure Turn (P : Program) (w : World) (K : PySem.W.Frag) (tg : Expr) (J : It) (fp : List Addr) (it : Addr) (tn : Nat → Heap → Prop) : Prop where
  mem : it ∈ fp
  obj : ∀ i h, tn i h → ∀ b ∈ fp, ∃ o, h.get? b = some o ∧ ∀ v, o.data ≠ .cell v
  keep : ∀ i h h', tn i h → (∀ b ∈ fp, ∀ o, h.get? b = some o → h'.get? b = some o) → tn i h'
  item : ∀ (X : Cx), X.prog = P → X.w = w → X.K = K → X.calm = true → ∀ (i : Nat) (pins : List (Addr × Obj)) (s : Shared) (σ : St) (H : Hp) (E : Value → Shared → Prop), Inv X pins σ H s → (∀ b ∈ fp, FpOk X pins H b) → tn i s.heap → J.go i H →
    wpAny (model P w) X.A (pyNext (.ref it)) (fun r s1 => ∃ u, r = some u ∧
      wpAny (model P w) X.A (letOwnedTupleGo tg (.ref it) u) (fun _ s2 => ∃ x H', Inv X pins σ H' s2 ∧ RelV x u ∧ J.yld i H x H' ∧ tn (i + 1) s2.heap ∧ ∀ b ∈ fp, H' b = none) E s1) E s
  done : ∀ (X : Cx), X.prog = P → X.w = w → X.K = K → X.calm = true → ∀ (i : Nat) (pins : List (Addr × Obj)) (s : Shared) (σ : St) (H : Hp) (E : Value → Shared → Prop), Inv X pins σ H s → (∀ b ∈ fp, FpOk X pins H b) → tn i s.heap → J.stop i H →
    wpAny (model P w) X.A (pyNext (.ref it)) (fun r s1 => r = none ∧ Inv X pins σ H s1) E s
  self : ∀ (A : Around) (i : Nat) (s : Shared) (Q : Value → Shared → Prop) (E : Value → Shared → Prop), tn i s.heap → Q (.ref it) s → wpAny (model P w) A (pyIter (.ref it)) Q E s
abbrev TI := St → Hp → (It → Hp → Prop) → Prop
/-- an iterator has come -/
def PIE (X : Cx) (pins : List (Addr × Obj)) (σ : St) (tg : Expr) (R : It → Hp → Prop) (itv : Value) (s2 : Shared) : Prop :=
  ∃ (it : Addr) (fp : List Addr) (tn : Nat → Heap → Prop) (J : It) (H' : Hp), itv = .ref it ∧ Inv X pins σ H' s2 ∧ Turn X.prog X.w X.K tg J fp it tn ∧ tn 0 s2.heap ∧ (∀ b ∈ fp, FpOk X pins H' b) ∧ R J H'
def PI (X : Cx) (tg iter : Expr) (wi : TI) : Prop :=
  ∀ (pins : List (Addr × Obj)) (s : Shared) (σ : St) (H : Hp) (R : It → Hp → Prop), Inv X pins σ H s → wi σ H R →
    wpAny (model X.prog X.w) X.A (eval iter X.env) (fun v s1 => wpAny (model X.prog X.w) X.A (pyIter v) (PIE X pins σ tg R) X.xe s1) X.xe s
/-- the step ahead of the store is nothing for an iterator that keeps no tuple -/
theorem go_of {M : Model} {A : Around} {E : Value → Shared → Prop} {s : Shared} {tg : Expr} {it : Addr} {u : Value} {o : Obj} {n : String} {vs : Array Value} {Q : Unit → Shared → Prop} (ho : s.heap.get? it = some o) (hc : o.cls = .type n) (hd : o.data = .fields vs)
    (hn : ["enumerate", "zip", "dict_itemiterator", "dict_reverseitemiterator", "odict_iterator", "itertools.zip_longest", "itertools.pairwise"].contains n = false) (hQ : Q () s) : wpAny M A (letOwnedTupleGo tg (.ref it) u) Q E s := by
  unfold letOwnedTupleGo
  cases tg <;> first
    | exact wpAny_pure hQ
    | (cases u <;> first
        | exact wpAny_pure hQ
        | (refine wpAny_bind (wpAny_load ho ?_)
           rw [hc, hd]
           show wpAny M A (if (["enumerate", "zip", "dict_itemiterator", "dict_reverseitemiterator", "odict_iterator", "itertools.zip_longest", "itertools.pairwise"].contains n && vs[0]? == some (rawInt _)) = true then _ else _) Q E s
           rw [if_neg (by intro h; rw [hn, Bool.false_and] at h; cases h)]
           exact wpAny_pure hQ))
/-- the list at a, as it stands at each turn (a loop may append to it) -/
def Itl (K : PySem.W.Frag) (a : Addr) : It :=
  ⟨fun i H => ∃ xs x, SqL K H a xs ∧ xs[i]? = some x, fun i H x H' => H' = H ∧ ∀ xs, SqL K H a xs → xs[i]? = some x, fun i H => ∃ xs, SqL K H a xs ∧ xs.length ≤ i⟩
def Itt (K : PySem.W.Frag) (a : Addr) : It :=
  ⟨fun i H => ∃ xs x, SqT K H a xs ∧ xs[i]? = some x, fun i H x H' => H' = H ∧ ∀ xs, SqT K H a xs → xs[i]? = some x, fun i H => ∃ xs, SqT K H a xs ∧ xs.length ≤ i⟩
/-- lo, lo + 1, .. (n of them) -/
def Itr (lo : Int) (n : Nat) : It := ⟨fun i _ => i < n, fun i H x H' => H' = H ∧ x = .int (lo + i), fun i _ => n ≤ i⟩
theorem turn_list {P : Program} {w : World} {K : PySem.W.Frag} {tg : Expr} (a it : Addr) : Turn P w K tg (Itl K a) [it] it (fun i h => h.IsListIter it a i) where
  mem := by simp
  obj := fun i h st b hb => by
    have e : b = it := by simpa using hb
    subst e
    obtain ⟨o, e, c, d⟩ := st
    exact ⟨o, e, fun v z => by rw [d] at z; cases z⟩
  keep := fun i h h' st k => st.at fun o e => k it (by simp) o e
  item := by
    intro X hP hw hK hc i pins s σ H E I hf st hg
    subst hP hw hK
    obtain ⟨xs, x, hq, hx⟩ := hg
    obtain ⟨its, rv, p, hz⟩ := I.list hq
    obtain ⟨u, hu, ru⟩ := rv.get hx
    obtain ⟨f0, f1, f2, f3, f4, f5⟩ := hf it (by simp)
    refine wpAny_pyNext_list_item st p.isList (x := u) (by simpa using hu) fun h' st' sb => ?_
    have I1 : Inv X pins σ H { s with heap := h' } := I.turned (t' := s.toks) (fun b o hb e => (sb.2 b hb).trans e) f0 f1 f3 f4 f5
    obtain ⟨o, e, c, d⟩ := id st'
    exact ⟨u, rfl, go_of (s := { s with heap := h' }) e c d (by decide) ⟨x, H, I1, ru, ⟨rfl, fun ys hy => by rw [I.list_inj hy hq]; exact hx⟩, st', fun b hb => (hf b hb).1⟩⟩
  done := by
    intro X hP hw hK hc i pins s σ H E I hf st hg
    subst hP hw hK
    obtain ⟨xs, hq, hx⟩ := hg
    obtain ⟨its, rv, p, hz⟩ := I.list hq
    obtain ⟨f0, f1, f2, f3, f4, f5⟩ := hf it (by simp)
    have hl := rv.length
    exact wpAny_pyNext_list_end (I.ok.hd hc) st p.isList (by simp; omega) fun h' eb => ⟨rfl, I.turned (t' := s.toks) (fun b o hb e => eb b o hb e) f0 f1 f3 f4 f5⟩
  self := fun _ _ _ _ _ st h => wpAny_pyIter_listiter st h
theorem turn_range {P : Program} {w : World} {K : PySem.W.Frag} {tg : Expr} (it : Addr) (lo : Int) (n : Nat) : Turn P w K tg (Itr lo n) [it] it (fun i h => IsRangeIter h it (lo + (i : Nat) * 1) ((n : Int) - (i : Nat)) 1) where
  mem := by simp
  obj := fun i h st b hb => by
    have e : b = it := by simpa using hb
    subst e
    exact ⟨_, st, fun v z => by
      have z' : Data.fields _ = Data.cell v := z
      cases z'⟩
  keep := fun i h h' st k => k it (by simp) _ st
  item := by
    intro X hP hw hK hc i pins s σ H E I hf st hg
    subst hP hw hK
    obtain ⟨f0, f1, f2, f3, f4, f5⟩ := hf it (by simp)
    have W := Walks.range (prog := X.prog) (w := X.w) (I.ok.hd hc) it lo 1 n
    refine W.item i s _ _ hg st fun v h' tk hv st' kk => ?_
    obtain ⟨t, rfl⟩ := hv
    have I1 : Inv X pins σ H { s with heap := h', toks := tk } := I.turned (fun b o hb e => kk b o (by simpa using hb) e) f0 f1 f3 f4 f5
    refine ⟨_, rfl, go_of (s := { s with heap := h', toks := tk }) (n := "range_iterator") st' rfl rfl (by decide) ⟨.int (lo + i), H, I1, ⟨t, ?_⟩, ⟨rfl, rfl⟩, st', fun b hb => (hf b hb).1⟩⟩
    rw [Int.mul_one]
  done := by
    intro X hP hw hK hc i pins s σ H E I hf st hg
    subst hP hw hK
    obtain ⟨f0, f1, f2, f3, f4, f5⟩ := hf it (by simp)
    exact wpAny_pyNext_range_end (I.ok.hd hc) st (by have : n ≤ i := hg; omega) fun h' eb => ⟨rfl, I.turned (t' := s.toks) (fun b o hb e => eb b o hb e) f0 f1 f3 f4 f5⟩
  self := fun _ _ _ _ _ st h => wpAny_pyIter_rangeiter st h
end L2
namespace L2
open PySem PySem.Spec PyProof.Rows
section
variable {X : Cx} {tg : Expr}
def iList (K : PySem.W.Frag) (tl : TE) : TI := fun σ H R => tl σ H fun x H1 => ∃ a, x = .ref a ∧ (∃ xs, SqL K H1 a xs) ∧ R (Itl K a) H1
def iTup (K : PySem.W.Frag) (tl : TE) : TI := fun σ H R => tl σ H fun x H1 => ∃ a, x = .ref a ∧ (∃ xs, SqT K H1 a xs) ∧ R (Itt K a) H1
theorem pi_list {l : Expr} {tl : TE} (hl : PE X l tl) : PI X tg l (iList X.K tl) := by
  intro pins s σ H R I h
  refine thn (hl pins s σ H _ I h) fun v s1 ⟨x, H1, I1, r1, q1⟩ => ?_
  obtain ⟨a, e, ⟨xs, hq⟩, q⟩ := q1
  subst e
  cases r1
  obtain ⟨its, rv, p, hz⟩ := I1.list hq
  refine wpAny_pyIter_list p.isList ?_
  refine ⟨s1.heap.objs.size, [s1.heap.objs.size], _, _, H1, rfl, I1.kept (t' := s1.toks) fun b o e => Heap.get?_push_of_some _ e, turn_list a _, ⟨_, Heap.get?_push_size _ rfl, rfl, rfl⟩, fun b hb => ?_, q⟩
  have e : b = s1.heap.objs.size := by simpa using hb
  subst e
  exact I1.fpOk (Nat.le_refl _) (I1.hok.fresh (Nat.le_refl _))
/-- a range object just made, walked -/
theorem range_it {pins : List (Addr × Obj)} {σ : St} {H : Hp} {s : Shared} {R : It → Hp → Prop} {E : Value → Shared → Prop} {lo hi : Int} {t u v : Tok} {tk : Nat} (I : Inv X pins σ H s) (h1 : -(2 ^ 62) ≤ lo) (h2 : lo < 2 ^ 62) (h3 : -(2 ^ 62) ≤ hi) (h4 : hi < 2 ^ 62)
    (q : R (Itr lo (hi - lo).toNat) H) : wpAny (model X.prog X.w) X.A (pyIter (.ref s.heap.objs.size)) (PIE X pins σ tg R) E { s with heap := s.heap.push { cls := .type "range", data := .fields #[.int lo t, .int hi u, .int 1 v] }, toks := tk } := by
  refine wpAny_pyIter_range (IsRange.new ..) (small_one h1 h2 h3 h4) ?_
  have I1 : Inv X pins σ H { s with heap := s.heap.push { cls := .type "range", data := .fields #[.int lo t, .int hi u, .int 1 v] }, toks := tk } := I.kept fun b o e => Heap.get?_push_of_some _ e
  refine ⟨(s.heap.push { cls := .type "range", data := .fields #[.int lo t, .int hi u, .int 1 v] }).objs.size, [(s.heap.push { cls := .type "range", data := .fields #[.int lo t, .int hi u, .int 1 v] }).objs.size], _, _, H, rfl,
    I1.kept (t' := tk) fun b o e => Heap.get?_push_of_some _ e, turn_range _ lo (hi - lo).toNat, ?_, fun b hb => ?_, q⟩
  · have e1 : lo + ((0 : Nat) : Int) * 1 = lo := by simp
    have e2 : (((hi - lo).toNat : Nat) : Int) - ((0 : Nat) : Int) = Builtin.Range.rangeSize lo hi 1 := by rw [rangeSize_one]; split <;> omega
    show IsRangeIter _ _ (lo + ((0 : Nat) : Int) * 1) ((((hi - lo).toNat : Nat) : Int) - ((0 : Nat) : Int)) 1
    rw [e1, e2]
    exact Heap.get?_push_size _ rfl
  · have e : b = (s.heap.push { cls := .type "range", data := .fields #[.int lo t, .int hi u, .int 1 v] }).objs.size := by simpa using hb
    subst e
    exact I1.fpOk (Nat.le_refl _) (I1.hok.fresh (Nat.le_refl _))
def iRng1 (ta : TA) : TI := fun σ H R => ta σ H fun vs H1 => ∃ j : Int, vs = [.int j] ∧ -(2 ^ 62) ≤ j ∧ j < 2 ^ 62 ∧ R (Itr 0 j.toNat) H1
def iRng2 (ta : TA) : TI := fun σ H R => ta σ H fun vs H1 => ∃ i j : Int, vs = [.int i, .int j] ∧ (-(2 ^ 62) ≤ i ∧ i < 2 ^ 62 ∧ -(2 ^ 62) ≤ j ∧ j < 2 ^ 62) ∧ R (Itr i (j - i).toNat) H1
theorem pi_range1 {a : Expr} {ta : TA} {p pos : Pos} (hg : Gl X "range") (hm : X.mg "range" = none) (ha : PA X [a] ta) (hs : starEach [a] X.env = [(false, eval a X.env)] := by rfl) : PI X tg (.Call (.Name "range" p) [a] [] pos) (iRng1 ta) := by
  intro pins s σ H R I h
  refine Call_ (ld_blt I hg hm boot_range (PyProof.Rows.callWith_type1 (thn (ha pos pins s σ H _ I h) fun us s1 ⟨vs, H1, I1, r1, q1⟩ => ?_) hs rfl))
  obtain ⟨j, e, q1, q2, q⟩ := q1
  subst e
  cases r1 with
  | cons r rr =>
    cases rr
    obtain ⟨t, rfl⟩ := r
    exact call_range_1 (range_it I1 (by omega) (by omega) q1 q2 (by simpa using q))
/-! ### for -/
/-- W: the invariant by the turn and a measure; N: what the body is to reach -/
def tFor (wi : TI) (g : TG) (tb : TS) : TS := fun D σ H => wi σ H fun J H1 => ∃ W : Nat → Nat → St → Hp → Prop, (∃ m, W 0 m σ H1) ∧ ∀ i m σ H, W i m σ H →
  (J.stop i H ∧ D.nx σ H) ∨ (J.go i H ∧ ∃ N : St → Hp → Prop, (∀ σ' H', N σ' H' → ∃ m', m' < m ∧ W (i + 1) m' σ' H') ∧ ∀ x H', J.yld i H x H' → g x σ H' fun σ2 H2 => tb { D with nx := N, ct := N, bk := D.nx } σ2 H2)
/-- the records at fp as they stand -/
def pinsAt (fp : List Addr) (h : Heap) : List (Addr × Obj) := fp.filterMap fun b => (h.get? b).map fun o => (b, o)
theorem mem_pinsAt {fp : List Addr} {h : Heap} {b : Addr} {o : Obj} (hb : b ∈ fp) (e : h.get? b = some o) : (b, o) ∈ pinsAt fp h := List.mem_filterMap.mpr ⟨b, hb, by rw [e]; rfl⟩
theorem of_pinsAt {fp : List Addr} {h : Heap} {p : Addr × Obj} (hp : p ∈ pinsAt fp h) : p.1 ∈ fp ∧ h.get? p.1 = some p.2 := by
  obtain ⟨b, hb, e⟩ := List.mem_filterMap.mp hp
  cases q : h.get? b with
  | none => rw [q] at e; cases e
  | some o =>
    rw [q] at e
    have e' : (b, o) = p := Option.some.inj e
    subst e'
    exact ⟨hb, q⟩
theorem Inv.pinned {pins : List (Addr × Obj)} {σ : St} {H : Hp} {s : Shared} {fp : List Addr} (I : Inv X pins σ H s) (hf : ∀ b ∈ fp, FpOk X pins H b) (ho : ∀ b ∈ fp, ∃ o, s.heap.get? b = some o ∧ ∀ v, o.data ≠ .cell v) : Inv X (pins ++ pinsAt fp s.heap) σ H s :=
  I.pins_of fun p hp => (List.mem_append.mp hp).elim (fun z => I.pin p (List.mem_append_right _ z)) fun z => by
    obtain ⟨hb, e⟩ := of_pinsAt z
    obtain ⟨f0, f1, f2, _⟩ := hf p.1 hb
    obtain ⟨o, e', d⟩ := ho p.1 hb
    rw [e] at e'; cases e'
    exact ⟨e, f0, f1, f2, d⟩
theorem Inv.unpinned {pins pl : List (Addr × Obj)} {σ : St} {H : Hp} {s : Shared} (I : Inv X (pins ++ pl) σ H s) : Inv X pins σ H s := I.pins_of fun p hp => I.pin p (List.mem_append_right _ (List.mem_append_left _ hp))
theorem ps_for {iter : Expr} {body : List Stmt} {wi : TI} {g : TG} {tb : TS} {pos : Pos} (hp : PassesOwn (model X.prog X.w) X.A X.env X.xe) (hc : X.calm = true) (hi : PI X tg iter wi) (hg : PG X tg g) (hb : PSs X body tb)
    (hs : ∀ x, foldedSetIterable iter X.env x = pure x := by intro _; rfl) : PS X (.For tg iter body [] pos) (tFor wi g tb) := by
  intro pins s σ H D I h
  refine wpAny_For (thn (hi pins s σ H _ I h) fun v s1 h1 => thn h1 fun itv s2 h2 => ?_) hs
  obtain ⟨it, fp, tn, J, H2, e, I2, T, st2, f2, W, ⟨m0, w0⟩, turn⟩ := h2
  subst e
  -- what stays true of the iterator's objects through the loop
  have stat : ∀ {H' : Hp}, (∀ b ∈ fp, H' b = none) → ∀ b ∈ fp, FpOk X pins H' b := fun hn b hb => ⟨hn b hb, (f2 b hb).2⟩
  refine codeAny_forLoop_any (fun n s' => ∃ i σ' H', Inv X pins σ' H' s' ∧ tn i s'.heap ∧ (∀ b ∈ fp, H' b = none) ∧ W i n σ' H') ?_ m0 ⟨0, σ, H2, I2, st2, fun b hb => (f2 b hb).1, w0⟩
  rintro n s3 ⟨i, σ3, H3, I3, st3, fr3, w3⟩
  rcases turn i n σ3 H3 w3 with ⟨stop, qn⟩ | ⟨go, N, hN, step⟩
  · refine wpAny_passesOwn hp (thn (T.done X rfl rfl rfl hc i pins s3 σ3 H3 X.xe I3 (stat fr3) st3 stop) fun r s4 ⟨hr, I4⟩ => ?_)
    subst hr
    exact wpAny_execs_nil ⟨σ3, H3, I4, qn⟩
  · refine wpAny_passesOwn hp (thn (T.item X rfl rfl rfl hc i pins s3 σ3 H3 X.xe I3 (stat fr3) st3 go) fun r s4 ⟨u, hr, h4⟩ => ?_)
    subst hr
    refine wpAny_passesOwn hp (thn h4 fun _ s5 ⟨x, H5, I5, r5, y5, st5, fr5⟩ => ?_)
    have I5' := I5.pinned (stat fr5) (T.obj _ _ st5)
    refine wpAny_passesOwn hp (thn (hg _ s5 σ3 H5 x u _ I5' r5 (step x H5 y5)) fun _ s6 ⟨σ6, H6, I6, q6⟩ => ?_)
    refine wpAny_passesOwn hp (thn (hb _ s6 σ6 H6 _ I6 q6) fun f s7 q7 => ?_)
    have again : ∀ {σ7 : St} {H7 : Hp}, Inv X (pins ++ pinsAt fp s5.heap) σ7 H7 s7 → N σ7 H7 → ∃ m, m < n ∧ ∃ i σ' H', Inv X pins σ' H' s7 ∧ tn i s7.heap ∧ (∀ b ∈ fp, H' b = none) ∧ W i m σ' H' := fun {σ7 H7} I7 n7 => by
      obtain ⟨m', hm, w7⟩ := hN σ7 H7 n7
      refine ⟨m', hm, i + 1, σ7, H7, I7.unpinned, T.keep _ _ _ st5 fun b hb o e => (I7.pin (b, o) (List.mem_append_right _ (List.mem_append_right _ (mem_pinsAt hb e)))).1, fun b hb => ?_, w7⟩
      obtain ⟨o, e, d⟩ := T.obj _ _ st5 b hb
      exact (I7.pin (b, o) (List.mem_append_right _ (List.mem_append_right _ (mem_pinsAt hb e)))).2.1
    cases f with
    | next => obtain ⟨σ7, H7, I7, n7⟩ := q7; exact again I7 n7
    | cont => obtain ⟨σ7, H7, I7, n7⟩ := q7; exact again I7 n7
    | brk => obtain ⟨σ7, H7, I7, q7⟩ := q7; exact ⟨σ7, H7, I7.unpinned, q7⟩
    | ret v => obtain ⟨x7, σ7, H7, I7, r7, q7⟩ := q7; exact ⟨x7, σ7, H7, I7.unpinned, r7, q7⟩
end
/-! ### the forms one uses -/
/-- over a list that the body leaves as it is -/
theorem for_list {K : PySem.W.Frag} {a : Addr} {xs : List V} {g : TG} {tb : TS} {D : Ends} {σ : St} {H : Hp} (Pv : Nat → St → Hp → Prop) (h0 : Pv 0 σ H) (hl : ∀ i σ H, i ≤ xs.length → Pv i σ H → SqL K H a xs)
    (hs : ∀ i x σ H, xs[i]? = some x → Pv i σ H → g x σ H fun σ2 H2 => tb { D with nx := Pv (i + 1), ct := Pv (i + 1), bk := D.nx } σ2 H2) (hd : ∀ σ H, Pv xs.length σ H → D.nx σ H) :
    ∃ W : Nat → Nat → St → Hp → Prop, (∃ m, W 0 m σ H) ∧ ∀ i m σ H, W i m σ H →
      ((Itl K a).stop i H ∧ D.nx σ H) ∨ ((Itl K a).go i H ∧ ∃ N : St → Hp → Prop, (∀ σ' H', N σ' H' → ∃ m', m' < m ∧ W (i + 1) m' σ' H') ∧ ∀ x H', (Itl K a).yld i H x H' → g x σ H' fun σ2 H2 => tb { D with nx := N, ct := N, bk := D.nx } σ2 H2) := by
  refine ⟨fun i m σ H => m = xs.length - i ∧ i ≤ xs.length ∧ Pv i σ H, ⟨xs.length, by simp, Nat.zero_le _, h0⟩, ?_⟩
  rintro i m σ H ⟨rfl, hi, p⟩
  have q := hl i σ H hi p
  by_cases hlt : i < xs.length
  · refine .inr ⟨⟨xs, xs[i], q, by simp [hlt]⟩, Pv (i + 1), fun σ' H' p' => ⟨xs.length - (i + 1), by omega, rfl, hlt, p'⟩, fun x H' y => ?_⟩
    obtain ⟨e, y⟩ := y
    subst e
    exact hs i x σ _ (y xs q) p
  · have e : i = xs.length := by omega
    subst e
    exact .inl ⟨⟨xs, q, Nat.le_refl _⟩, hd σ H p⟩
theorem for_range {lo : Int} {n : Nat} {g : TG} {tb : TS} {D : Ends} {σ : St} {H : Hp} (Pv : Nat → St → Hp → Prop) (h0 : Pv 0 σ H)
    (hs : ∀ i σ H, i < n → Pv i σ H → g (.int (lo + i)) σ H fun σ2 H2 => tb { D with nx := Pv (i + 1), ct := Pv (i + 1), bk := D.nx } σ2 H2) (hd : ∀ σ H, Pv n σ H → D.nx σ H) :
    ∃ W : Nat → Nat → St → Hp → Prop, (∃ m, W 0 m σ H) ∧ ∀ i m σ H, W i m σ H →
      ((Itr lo n).stop i H ∧ D.nx σ H) ∨ ((Itr lo n).go i H ∧ ∃ N : St → Hp → Prop, (∀ σ' H', N σ' H' → ∃ m', m' < m ∧ W (i + 1) m' σ' H') ∧ ∀ x H', (Itr lo n).yld i H x H' → g x σ H' fun σ2 H2 => tb { D with nx := N, ct := N, bk := D.nx } σ2 H2) := by
  refine ⟨fun i m σ H => m = n - i ∧ i ≤ n ∧ Pv i σ H, ⟨n, by simp, Nat.zero_le _, h0⟩, ?_⟩
  rintro i m σ H ⟨rfl, hi, p⟩
  by_cases hlt : i < n
  · refine .inr ⟨hlt, Pv (i + 1), fun σ' H' p' => ⟨n - (i + 1), by omega, rfl, hlt, p'⟩, fun x H' y => ?_⟩
    obtain ⟨e, y⟩ := y
    subst e y
    exact hs i σ _ hlt p
  · have e : i = n := by omega
    subst e
    exact .inl ⟨Nat.le_refl _, hd σ H p⟩
end L2
namespace L2
open PySem PySem.Spec PyProof.Rows
abbrev R2 := V → V → Hp → VK → Prop
/-- a two-place operation on values: f is binaryOp op, inplaceOp op or compareOp op -/
def OpR (X : Cx) (f : Value → Value → Sem Value) (r : R2) : Prop :=
  ∀ (pins : List (Addr × Obj)) (s : Shared) (σ : St) (H : Hp) (x y : V) (v u : Value) (Q : VK), Inv X pins σ H s → RelV x v → RelV y u → r x y H Q →
    wpAny (model X.prog X.w) X.A (f v u) (EP X pins σ Q) X.xe s
/-- a one-place operation -/
def UnR (X : Cx) (f : Value → Sem Value) (r : V → Hp → VK → Prop) : Prop :=
  ∀ (pins : List (Addr × Obj)) (s : Shared) (σ : St) (H : Hp) (x : V) (v : Value) (Q : VK), Inv X pins σ H s → RelV x v → r x H Q →
    wpAny (model X.prog X.w) X.A (f v) (EP X pins σ Q) X.xe s
/-- a call of a value that is known (a builtin, a type) with values -/
def CallR (X : Cx) (f : Value) (r : List V → Hp → VK → Prop) : Prop :=
  ∀ (pins : List (Addr × Obj)) (s : Shared) (σ : St) (H : Hp) (xs : List V) (us : List Value) (Q : VK), Inv X pins σ H s → Vals xs us → r xs H Q →
    wpAny (model X.prog X.w) X.A (call f us) (EP X pins σ Q) X.xe s
/-- a value's truth -/
def TruR (X : Cx) (r : V → Hp → (Bool → Hp → Prop) → Prop) : Prop :=
  ∀ (pins : List (Addr × Obj)) (s : Shared) (σ : St) (H : Hp) (x : V) (v : Value) (Q : Bool → Hp → Prop), Inv X pins σ H s → RelV x v → r x H Q →
    wpAny (model X.prog X.w) X.A (truthy v) (TP X pins σ Q) X.xe s
def tOp (r : R2) (ta tb : TE) : TE := fun σ H Q => ta σ H fun x H1 => tb σ H1 fun y H2 => r x y H2 Q
def tUn (r : V → Hp → VK → Prop) (ta : TE) : TE := fun σ H Q => ta σ H fun x H1 => r x H1 Q
/-- ints in, under C, and a value out -/
def rI (C : Int → Int → Prop) (g : Int → Int → V) : R2 := fun x y H Q => ∃ i j, x = .int i ∧ y = .int j ∧ C i j ∧ Q (g i j) H
def rI0 (g : Int → Int → V) : R2 := fun x y H Q => ∃ i j, x = .int i ∧ y = .int j ∧ Q (g i j) H
def rU (g : Int → V) : V → Hp → VK → Prop := fun x H Q => ∃ i, x = .int i ∧ Q (g i) H
section
variable {X : Cx} {a b c : Expr} {ta tb tc : TE} {pos : Pos}
theorem binT (ha : PE X a ta) (hb : PE X b tb) {pins : List (Addr × Obj)} {s : Shared} {σ : St} {H : Hp} {R : V → V → Hp → Prop} (I : Inv X pins σ H s)
    (h : ta σ H fun x H1 => tb σ H1 fun y H2 => R x y H2) {Q : Value → Shared → Prop} {f : Value → Value → Sem Value}
    (hf : ∀ v u s2 x y H2, Inv X pins σ H2 s2 → RelV x v → RelV y u → R x y H2 → wpAny (model X.prog X.w) X.A (f v u) Q X.xe s2) :
    wpAny (model X.prog X.w) X.A (eval a X.env) (fun v s₁ => wpAny (model X.prog X.w) X.A (eval b X.env) (fun u s₂ => wpAny (model X.prog X.w) X.A (f v u) Q X.xe s₂) X.xe s₁) X.xe s := by
  refine thn (ha pins s σ H _ I h) fun v s1 ⟨x, H1, I1, r1, q1⟩ => ?_
  refine thn (hb pins s1 σ H1 _ I1 q1) fun u s2 ⟨y, H2, I2, r2, q2⟩ => ?_
  exact hf v u s2 x y H2 I2 r1 r2 q2
theorem pe_op {op : Operator} {r : R2} (ho : OpR X (binaryOp op) r) (ha : PE X a ta) (hb : PE X b tb) : PE X (.BinOp a op b pos) (tOp r ta tb) := by
  intro pins s σ H Q I h
  exact wpAny_BinOp (binT ha hb I h fun v u s2 x y H2 I2 rx ry q => ho pins s2 σ H2 x y v u Q I2 rx ry q)
theorem pe_un {op : UnaryOp} {r : V → Hp → VK → Prop} (ho : UnR X (unaryOp op) r) (ha : PE X a ta) : PE X (.UnaryOp op a pos) (tUn r ta) := by
  intro pins s σ H Q I h
  exact UnaryOp_ (thn (ha pins s σ H _ I h) fun v s1 ⟨x, H1, I1, r1, q1⟩ => ho pins s1 σ H1 x v Q I1 r1 q1)
/-! ### ints -/
theorem opI {f : Value → Value → Sem Value} {C : Int → Int → Prop} {g : Int → Int → Int}
    (rule : ∀ (i j : Int) (t u : Tok) (s : Shared) (Q : Value → Shared → Prop) (E : Value → Shared → Prop), C i j → Q (.int (g i j) s.toks) { s with toks := s.toks + 1 } → wpAny (model X.prog X.w) X.A (f (.int i t) (.int j u)) Q E s) :
    OpR X f (rI C fun i j => .int (g i j)) := by
  intro pins s σ H x y v u Q I rx ry h
  obtain ⟨i, j, rfl, rfl, hc, q⟩ := h
  obtain ⟨t, rfl⟩ := rx
  obtain ⟨t', rfl⟩ := ry
  exact rule i j t t' s _ _ hc ⟨.int (g i j), H, I.tok _, ⟨_, rfl⟩, q⟩
theorem opI0 {f : Value → Value → Sem Value} {g : Int → Int → Int}
    (rule : ∀ (i j : Int) (t u : Tok) (s : Shared) (Q : Value → Shared → Prop) (E : Value → Shared → Prop), Q (.int (g i j) s.toks) { s with toks := s.toks + 1 } → wpAny (model X.prog X.w) X.A (f (.int i t) (.int j u)) Q E s) :
    OpR X f (rI0 fun i j => .int (g i j)) := by
  intro pins s σ H x y v u Q I rx ry h
  obtain ⟨i, j, rfl, rfl, q⟩ := h
  obtain ⟨t, rfl⟩ := rx
  obtain ⟨t', rfl⟩ := ry
  exact rule i j t t' s _ _ ⟨.int (g i j), H, I.tok _, ⟨_, rfl⟩, q⟩
theorem opB0 {f : Value → Value → Sem Value} {g : Int → Int → Bool}
    (rule : ∀ (i j : Int) (t u : Tok) (s : Shared) (Q : Value → Shared → Prop) (E : Value → Shared → Prop), Q (.bool (g i j)) s → wpAny (model X.prog X.w) X.A (f (.int i t) (.int j u)) Q E s) :
    OpR X f (rI0 fun i j => .bl (g i j)) := by
  intro pins s σ H x y v u Q I rx ry h
  obtain ⟨i, j, rfl, rfl, q⟩ := h
  obtain ⟨t, rfl⟩ := rx
  obtain ⟨t', rfl⟩ := ry
  exact rule i j t t' s _ _ ⟨.bl (g i j), H, I, rfl, q⟩
def CDiv (i j : Int) : Prop := 0 < j ∧ j < 1073741824
def CDivN (i j : Int) : Prop := j ≠ 0 ∧ j.natAbs < 1073741824
def CPow (i j : Int) : Prop := 0 ≤ j ∧ j ≤ 1000000 ∧ i.natAbs < 2 ^ 64
def CMul (i j : Int) : Prop := (-(2 ^ 64) < i ∧ i < 2 ^ 64) ∨ (-(2 ^ 64) < j ∧ j < 2 ^ 64)
theorem CMul.ok {i j : Int} (h : CMul i j) : IntMulOk i j := by
  rcases h with ⟨h1, h2⟩ | ⟨h1, h2⟩
  · exact .of_left (intBits_le_64 h1 h2)
  · exact .of_right (intBits_le_64 h1 h2)
theorem op_add : OpR X (binaryOp .Add) (rI0 fun i j => .int (i + j)) := opI0 fun _ _ _ _ _ _ _ q => add_int q
theorem op_sub : OpR X (binaryOp .Sub) (rI0 fun i j => .int (i - j)) := opI0 fun _ _ _ _ _ _ _ q => sub_int q
theorem op_mul : OpR X (binaryOp .Mult) (rI CMul fun i j => .int (i * j)) := opI fun _ _ _ _ _ _ _ hc q => mul_int q hc.ok
/-- // by a positive divisor -/
theorem op_fdiv : OpR X (binaryOp .FloorDiv) (rI CDiv fun i j => .int (i / j)) := opI fun i j _ _ _ _ _ hc q => by
  have h1 : (0 : Int) < j := hc.1
  have h2 : j < 1073741824 := hc.2
  exact floordiv_int (by omega) (by rw [Int.fdiv_eq_ediv_of_nonneg i (by omega)]; exact q) (.inl (PyProof.noPylong_small (by omega)))
/-- % by a positive divisor of any size -/
theorem op_mod : OpR X (binaryOp .Mod) (rI (fun _ j => 0 < j) fun i j => .int (i % j)) := opI fun i j _ _ _ _ _ hc q => by
  have h1 : (0 : Int) < j := hc
  exact mod_int' (by omega) (by rw [Int.fmod_eq_emod_of_nonneg i (by omega)]; exact q)
theorem op_pow : OpR X (binaryOp .Pow) (rI CPow fun i j => .int (i ^ j.toNat)) := opI fun _ _ _ _ _ _ _ hc q => pow_int_small hc.1 hc.2.1 hc.2.2 q
theorem unI {f : Value → Sem Value} {g : Int → Int}
    (rule : ∀ (i : Int) (t : Tok) (s : Shared) (Q : Value → Shared → Prop) (E : Value → Shared → Prop), Q (.int (g i) s.toks) { s with toks := s.toks + 1 } → wpAny (model X.prog X.w) X.A (f (.int i t)) Q E s) :
    UnR X f (rU fun i => .int (g i)) := by
  intro pins s σ H x v Q I rx h
  obtain ⟨i, rfl, q⟩ := h
  obtain ⟨t, rfl⟩ := rx
  exact rule i t s _ _ ⟨.int (g i), H, I.tok _, ⟨_, rfl⟩, q⟩
theorem un_neg : UnR X (unaryOp .USub) (rU fun i => .int (-i)) := unI fun _ _ _ _ _ q => neg_int q
/-! ### bools among ints: n += (a < b) -/
end
/-! ### comparisons -/
/-- the scalars that == tells apart as data does -/
def scal : V → V → Bool
  | .non, .non => true | .non, .int _ => true | .int _, .non => true | .non, .bl _ => true | .bl _, .non => true | .non, .str _ => true | .str _, .non => true
  | .int _, .int _ => true | .bl _, .bl _ => true | .str _, .str _ => true | .byt _, .byt _ => true
  | .int _, .str _ => true | .str _, .int _ => true | .bl _, .str _ => true | .str _, .bl _ => true
  | _, _ => false
def rEq : R2 := fun x y H Q => scal x y = true ∧ Q (.bl (decide (x = y))) H
def rNe : R2 := fun x y H Q => scal x y = true ∧ Q (.bl (!decide (x = y))) H
theorem dec_int {i j : Int} : decide (V.int i = V.int j) = (i == j) := by
  rw [Bool.eq_iff_iff]
  simp
theorem dec_bl {i j : Bool} : decide (V.bl i = V.bl j) = (i == j) := by
  rw [Bool.eq_iff_iff]
  simp
theorem dec_str {i j : Str} : decide (V.str i = V.str j) = (i == j) := by
  rw [Bool.eq_iff_iff]
  simp
theorem dec_byt {i j : Array UInt8} : decide (V.byt i = V.byt j) = (i.toList == j.toList) := by
  rw [Bool.eq_iff_iff]
  cases i
  cases j
  simp
section
variable {X : Cx} {a b c : Expr} {ta tb tc : TE} {pos : Pos}
theorem fin_bl {pins : List (Addr × Obj)} {σ : St} {H : Hp} {s : Shared} {Q : VK} {k k' : Bool} (I : Inv X pins σ H s) (q : Q (.bl k) H) (e : k = k') : EP X pins σ Q (.bool k') s := by
  subst e
  exact ⟨.bl k, H, I, rfl, q⟩
theorem op_eq : OpR X (compareOp .Eq) rEq := by
  intro pins s σ H x y v u Q I rx ry h
  obtain ⟨hs, q⟩ := h
  cases x with
  | non =>
    cases rx
    cases y with
    | non => cases ry; exact PySem.EqNone.eq_none_none (fin_bl I q (by simp))
    | bl j => cases ry; exact PySem.EqNone.eq_none_bool (fin_bl I q (by simp))
    | int j => obtain ⟨t', rfl⟩ := ry; exact PySem.EqNone.eq_none_int (fin_bl I q (by simp))
    | str j => obtain ⟨t', rfl⟩ := ry; exact PySem.EqNone.eq_none_str (fin_bl I q (by simp))
    | _ => exact absurd (show false = true from hs) Bool.false_ne_true
  | bl i =>
    cases rx
    cases y with
    | non => cases ry; exact PySem.EqNone.eq_bool_none (fin_bl I q (by simp))
    | bl j => cases ry; exact eq_bool (fin_bl I q dec_bl)
    | str j => obtain ⟨t', rfl⟩ := ry; exact PySem.EqMixed.eq_bool_str (fin_bl I q (by simp))
    | _ => exact absurd (show false = true from hs) Bool.false_ne_true
  | int i =>
    obtain ⟨t, rfl⟩ := rx
    cases y with
    | non => cases ry; exact PySem.EqNone.eq_int_none (fin_bl I q (by simp))
    | int j => obtain ⟨t', rfl⟩ := ry; exact eq_int (fin_bl I q dec_int)
    | str j => obtain ⟨t', rfl⟩ := ry; exact PySem.EqMixed.eq_int_str (fin_bl I q (by simp))
    | _ => exact absurd (show false = true from hs) Bool.false_ne_true
  | str i =>
    obtain ⟨t, rfl⟩ := rx
    cases y with
    | non => cases ry; exact PySem.EqNone.eq_str_none (fin_bl I q (by simp))
    | bl j => cases ry; exact PySem.EqMixed.eq_str_bool (fin_bl I q (by simp))
    | int j => obtain ⟨t', rfl⟩ := ry; exact PySem.EqMixed.eq_str_int (fin_bl I q (by simp))
    | str j => obtain ⟨t', rfl⟩ := ry; exact eq_str (fin_bl I q dec_str)
    | _ => exact absurd (show false = true from hs) Bool.false_ne_true
  | byt i =>
    obtain ⟨t, rfl⟩ := rx
    cases y with
    | byt j => obtain ⟨t', rfl⟩ := ry; exact PySem.W.eq_bytes (fin_bl I q dec_byt)
    | _ => exact absurd (show false = true from hs) Bool.false_ne_true
  | _ => cases y <;> exact absurd (show false = true from hs) Bool.false_ne_true
theorem op_ne : OpR X (compareOp .NotEq) rNe := by
  intro pins s σ H x y v u Q I rx ry h
  obtain ⟨hs, q⟩ := h
  cases x with
  | non =>
    cases rx
    cases y with
    | non => cases ry; exact PySem.EqNone.ne_none_none (fin_bl I q (by simp))
    | bl j => cases ry; exact PySem.EqNone.ne_none_bool (fin_bl I q (by simp))
    | int j => obtain ⟨t', rfl⟩ := ry; exact PySem.EqNone.ne_none_int (fin_bl I q (by simp))
    | str j => obtain ⟨t', rfl⟩ := ry; exact PySem.EqNone.ne_none_str (fin_bl I q (by simp))
    | _ => exact absurd (show false = true from hs) Bool.false_ne_true
  | bl i =>
    cases rx
    cases y with
    | non => cases ry; exact PySem.EqNone.ne_bool_none (fin_bl I q (by simp))
    | bl j => cases ry; exact ne_bool (fin_bl I q (congrArg not dec_bl))
    | str j => obtain ⟨t', rfl⟩ := ry; exact PySem.EqMixed.ne_bool_str (fin_bl I q (by simp))
    | _ => exact absurd (show false = true from hs) Bool.false_ne_true
  | int i =>
    obtain ⟨t, rfl⟩ := rx
    cases y with
    | non => cases ry; exact PySem.EqNone.ne_int_none (fin_bl I q (by simp))
    | int j => obtain ⟨t', rfl⟩ := ry; exact ne_int (fin_bl I q (congrArg not dec_int))
    | str j => obtain ⟨t', rfl⟩ := ry; exact PySem.EqMixed.ne_int_str (fin_bl I q (by simp))
    | _ => exact absurd (show false = true from hs) Bool.false_ne_true
  | str i =>
    obtain ⟨t, rfl⟩ := rx
    cases y with
    | non => cases ry; exact PySem.EqNone.ne_str_none (fin_bl I q (by simp))
    | bl j => cases ry; exact PySem.EqMixed.ne_str_bool (fin_bl I q (by simp))
    | int j => obtain ⟨t', rfl⟩ := ry; exact PySem.EqMixed.ne_str_int (fin_bl I q (by simp))
    | str j => obtain ⟨t', rfl⟩ := ry; exact ne_str (fin_bl I q (congrArg not dec_str))
    | _ => exact absurd (show false = true from hs) Bool.false_ne_true
  | byt i =>
    obtain ⟨t, rfl⟩ := rx
    cases y with
    | byt j => obtain ⟨t', rfl⟩ := ry; exact PySem.W.ne_bytes (fin_bl I q (congrArg not dec_byt))
    | _ => exact absurd (show false = true from hs) Bool.false_ne_true
  | _ => cases y <;> exact absurd (show false = true from hs) Bool.false_ne_true
theorem op_lt : OpR X (compareOp .Lt) (rI0 fun i j => .bl (decide (i < j))) := opB0 fun _ _ _ _ _ _ _ q => lt_int q
theorem op_gt : OpR X (compareOp .Gt) (rI0 fun i j => .bl (decide (j < i))) := opB0 fun _ _ _ _ _ _ _ q => gt_int q
/-- is, is not of two objects that are tracked lists or instances -/
def isObj : HO → Bool
  | .lst _ => true
  | .ins _ _ _ => true
  | _ => false
/-- two rules for one operation: by cases -/
theorem OpR.or {f : Value → Value → Sem Value} {r r' : R2} (h : OpR X f r) (h' : OpR X f r') : OpR X f (fun x y H Q => r x y H Q ∨ r' x y H Q) := by
  intro pins s σ H x y v u Q I rx ry q
  rcases q with q | q
  · exact h pins s σ H x y v u Q I rx ry q
  · exact h' pins s σ H x y v u Q I rx ry q
theorem nomark (b : Expr) {op : CmpOp} (h : op ≠ .In := by decide) (h2 : op ≠ .NotIn := by decide) : behindInMarks op b = false := by
  have e1 : (op == CmpOp.In) = false := by cases op <;> first | rfl | exact absurd rfl h
  have e2 : (op == CmpOp.NotIn) = false := by cases op <;> first | rfl | exact absurd rfl h2
  cases b <;> simp [behindInMarks, e1, e2]
/-- a comparison as a value; hm: nomark b, or (for in, not in) by with_unfolding_all rfl -/
theorem pe_cmpR {op : CmpOp} {r : R2} (ho : OpR X (compareOp op) r) (ha : PE X a ta) (hb : PE X b tb) (hm : behindInMarks op b = false) : PE X (.Compare a [op] [b] pos) (tOp r ta tb) := by
  intro pins s σ H Q I h
  exact wpAny_Compare1 (binT ha hb I h fun v u s2 x y H2 I2 rx ry q => ho pins s2 σ H2 x y v u Q I2 rx ry q) hm
/-- a reading of a value as a test -/
def tTest (t : TE) : TT := fun σ H Q => t σ H fun x H' => ∃ k, x = .bl k ∧ Q k H'
theorem pt_cmpR {op : CmpOp} {r : R2} (ho : OpR X (compareOp op) r) (ha : PE X a ta) (hb : PE X b tb) (hm : behindInMarks op b = false) : PT X (.Compare a [op] [b] pos) (tTest (tOp r ta tb)) := by
  intro pins s σ H Q I h
  refine wpAny_isTrue_Compare1 (thn (ha pins s σ H _ I h) fun v s1 ⟨x, H1, I1, r1, q1⟩ => thn (hb pins s1 σ H1 _ I1 q1) fun u s2 ⟨y, H2, I2, r2, q2⟩ =>
    thn (ho pins s2 σ H2 x y v u _ I2 r1 r2 q2) fun c s3 ⟨z, H3, I3, r3, k, e, q3⟩ => ?_) hm
  subst e
  cases r3
  exact wpAny_truthy_bool ⟨H3, I3, q3⟩
/-- a op1 b op2 c -/
def tChain (r r' : R2) (ta tb tc : TE) : TE := fun σ H Q => ta σ H fun x H1 => tb σ H1 fun y H2 => r x y H2 fun z H3 => ∃ k, z = .bl k ∧
  (if k = true then tc σ H3 fun w' H4 => r' y w' H4 Q else Q (.bl false) H3)
/-! ### truth -/
/-- a value's truth by the abstract heap -/
def TruV (K : PySem.W.Frag) (x : V) (H : Hp) (k : Bool) : Prop :=
  match x with
  | .non => k = false
  | .bl b => k = b
  | .int i => k = (i != 0)
  | .str y => y.length ≤ sizeLine ∧ k = ((y.length : Int) != 0)
  | .byt y => y.size ≤ sizeLine ∧ k = ((y.size : Int) != 0)
  | .ref p => (∃ xs, SqL K H p xs ∧ k = !xs.isEmpty) ∨ (∃ xs, SqT K H p xs ∧ k = !xs.isEmpty) ∨ ∃ kvs, H p = some (.dK kvs) ∧ k = !kvs.isEmpty
  | _ => False
theorem isEmpty_kv {κ : Type} {kvs : List (κ × V)} {vs : List (κ × Value)} (r : KV kvs vs) : (!vs.isEmpty) = !kvs.isEmpty := by
  cases r <;> rfl
theorem isEmpty_of {xs : List V} {its : List Value} (r : Vals xs its) : (!its.toArray.isEmpty) = !xs.isEmpty := by
  cases r <;> simp
theorem line63 : (sizeLine : Nat) < 2 ^ 63 := by rw [sizeLine_eq]; decide
theorem tru_ok : TruR X (fun x H Q => ∃ k, TruV X.K x H k ∧ Q k H) := by
  intro pins s σ H x v Q I rx h
  obtain ⟨k, e, q⟩ := h
  have hl := line63
  have hs : sizeLine = 16777216 := sizeLine_eq
  cases x with
  | non =>
    cases rx
    have e' : k = false := e
    subst e'
    exact truthy_none ⟨H, I, q⟩
  | bl b =>
    cases rx
    have e' : k = b := e
    subst e'
    exact wpAny_truthy_bool ⟨H, I, q⟩
  | int i =>
    obtain ⟨t, rfl⟩ := rx
    have e' : k = (i != 0) := e
    subst e'
    exact PySem.P.truthy_int ⟨H, I, q⟩
  | str y =>
    obtain ⟨t, rfl⟩ := rx
    obtain ⟨hy, e'⟩ : y.length ≤ sizeLine ∧ k = ((y.length : Int) != 0) := e
    subst e'
    exact PySem.P.truthy_str (by omega) ⟨H, I.tok _, q⟩
  | byt y =>
    obtain ⟨t, rfl⟩ := rx
    obtain ⟨hy, e'⟩ : y.size ≤ sizeLine ∧ k = ((y.size : Int) != 0) := e
    subst e'
    exact PySem.W.truthy_bytes (by omega) ⟨H, I.tok _, q⟩
  | ref p =>
    cases rx
    have e' : (∃ xs, SqL X.K H p xs ∧ k = !xs.isEmpty) ∨ (∃ xs, SqT X.K H p xs ∧ k = !xs.isEmpty) ∨ ∃ kvs, H p = some (.dK kvs) ∧ k = !kvs.isEmpty := e
    rcases e' with ⟨xs, hx, e'⟩ | ⟨xs, hx, e'⟩ | ⟨kvs, hx, e'⟩
    · subst e'
      obtain ⟨its, r, pl, hz⟩ := I.list hx
      have hlen := r.length
      exact wpAny_truthy_list pl.isList (by simp only [List.size_toArray]; omega) ⟨H, I.tok _, by rw [isEmpty_of r]; exact q⟩
    · subst e'
      obtain ⟨its, r, pl, hz⟩ := I.tuple hx
      have hlen := r.length
      exact truthy_tuple pl (by simp only [List.size_toArray]; omega) ⟨H, I.tok _, by rw [isEmpty_of r]; exact q⟩
    · subst e'
      obtain ⟨hz, hS, vs, r, m⟩ : kvs.length ≤ sizeLine ∧ (p == sysModules) = false ∧ ∃ vs, KV kvs vs ∧ s.heap.DictOf (mixKind X.prog X.w) p vs := I.hok p _ hx
      have hlen : kvs.length = vs.length := Paired.length r
      exact wpAny_truthy_dict hS m (by omega) ⟨H, I.tok _, by rw [isEmpty_kv r]; exact q⟩
  | _ => exact (show False from e).elim
/-- any expression whose test is its value's truth (a name, a call, a subscript, a field ..: he by fun _ => rfl) -/
theorem pt_truth (ha : PE X a ta) (he : ∀ whole, isTrue a X.env whole = (do let v ← whole; standAt a.pos; holding [v] (truthy v))) :
    PT X a (fun σ H Q => ta σ H fun x H' => ∃ k, TruV X.K x H' k ∧ Q k H') := by
  intro pins s σ H Q I h
  exact isTrue_plain (thn (ha pins s σ H _ I h) fun v s1 ⟨x, H1, I1, r1, q1⟩ => tru_ok pins s1 σ H1 x v Q I1 r1 q1) (he _)
/-! ### strs and bytes -/
def PlainIxT (b : Expr) : Prop := ∀ o i, subscripted b false o i = operate [o, i] (getItem o i)
/-! ### scalar builtins, by CallR -/
theorem vals1 {x : V} {us : List Value} (r : Vals [x] us) : ∃ u, us = [u] ∧ RelV x u := by
  cases r with
  | cons r1 r2 => cases r2; exact ⟨_, rfl, r1⟩
theorem vals2 {x y : V} {us : List Value} (r : Vals [x, y] us) : ∃ u w', us = [u, w'] ∧ RelV x u ∧ RelV y w' := by
  cases r with
  | cons r1 r2 =>
    cases r2 with
    | cons r3 r4 => cases r4; exact ⟨_, _, rfl, r1, r3⟩
theorem call_abs : CallR X (.builtin "abs") (fun xs H Q => ∃ i, xs = [.int i] ∧ Q (.int (if i < 0 then -i else i)) H) := by
  intro pins s σ H xs us Q I r h
  obtain ⟨i, rfl, q⟩ := h
  obtain ⟨u, rfl, t, rfl⟩ := vals1 r
  exact call_abs_int fun u tk => ⟨.int (if i < 0 then -i else i), H, I.tok _, ⟨_, rfl⟩, q⟩
theorem call_min2 (hc : X.calm = true) : CallR X (.builtin "min") (fun xs H Q => ∃ i j, xs = [.int i, .int j] ∧ Q (.int (if j < i then j else i)) H) := by
  intro pins s σ H xs us Q I r h
  obtain ⟨i, j, rfl, q⟩ := h
  obtain ⟨u, w', rfl, ⟨t, rfl⟩, ⟨t', rfl⟩⟩ := vals2 r
  refine min_two_ints (I.ok.hd hc) fun h' tk k => ⟨_, H, I.kept k, ?_, q⟩
  by_cases hj : j < i
  · rw [if_pos hj, if_pos hj]; exact ⟨_, rfl⟩
  · rw [if_neg hj, if_neg hj]; exact ⟨_, rfl⟩
theorem call_int1 : CallR X (.type "int") (fun xs H Q => (∃ i, xs = [.int i] ∧ Q (.int i) H) ∨ ∃ k, xs = [.bl k] ∧ Q (.int (if k then 1 else 0)) H) := by
  intro pins s σ H xs us Q I r h
  rcases h with ⟨i, rfl, q⟩ | ⟨k, rfl, q⟩
  · obtain ⟨u, rfl, t, rfl⟩ := vals1 r
    exact call_int_int ⟨.int i, H, I, ⟨_, rfl⟩, q⟩
  · obtain ⟨u, rfl, r1⟩ := vals1 r
    cases r1
    exact call_int_bool ⟨.int (if k then 1 else 0), H, I.tok _, ⟨_, rfl⟩, q⟩
/-- len of a str, a bytes, a list, a tuple -/
def LenV (K : PySem.W.Frag) (x : V) (H : Hp) (n : Nat) : Prop :=
  match x with
  | .str y => y.length ≤ sizeLine ∧ n = y.length
  | .byt y => y.size ≤ sizeLine ∧ n = y.size
  | .ref p => (∃ xs, SqL K H p xs ∧ n = xs.length) ∨ ∃ xs, SqT K H p xs ∧ n = xs.length
  | _ => False
theorem call_len : CallR X (.builtin "len") (fun xs H Q => ∃ x n, xs = [x] ∧ LenV X.K x H n ∧ Q (.int n) H) := by
  intro pins s σ H xs us Q I r h
  obtain ⟨x, n, rfl, e, q⟩ := h
  obtain ⟨u, rfl, rx⟩ := vals1 r
  have hl := line63
  have hs : sizeLine = 16777216 := sizeLine_eq
  cases x with
  | str y =>
    obtain ⟨t, rfl⟩ := rx
    obtain ⟨hy, e'⟩ : y.length ≤ sizeLine ∧ n = y.length := e
    subst e'
    exact len_str (by omega) ⟨.int _, H, I.tok _, ⟨_, rfl⟩, q⟩
  | byt y =>
    obtain ⟨t, rfl⟩ := rx
    obtain ⟨hy, e'⟩ : y.size ≤ sizeLine ∧ n = y.size := e
    subst e'
    exact PySem.W.len_bytes (by omega) ⟨.int _, H, I.tok _, ⟨_, rfl⟩, q⟩
  | ref p =>
    cases rx
    have e' : (∃ xs, SqL X.K H p xs ∧ n = xs.length) ∨ ∃ xs, SqT X.K H p xs ∧ n = xs.length := e
    rcases e' with ⟨xs, hx, e'⟩ | ⟨xs, hx, e'⟩
    · subst e'
      obtain ⟨its, r', pl, hz⟩ := I.list hx
      have hlen := r'.length
      exact Calls.call_len_list pl.isList (by simp only [List.size_toArray]; omega) ⟨.int xs.length, H, I.tok _, ⟨_, by simp only [List.size_toArray]; rw [hlen]⟩, q⟩
    · subst e'
      obtain ⟨its, r', pl, hz⟩ := I.tuple hx
      have hlen := r'.length
      exact len_tuple pl (by simp only [List.size_toArray]; omega) ⟨.int xs.length, H, I.tok _, ⟨_, by simp only [List.size_toArray]; rw [hlen]⟩, q⟩
  | _ => exact (show False from e).elim
end
end L2
namespace L2
open PySem PySem.Spec PyProof.Rows
/-! ### an instance, its attributes a map -/
structure ObjM (h : Heap) (x dx C : Addr) (mA : Str → Option Value) : Prop where
  obj : h.get? x = some (PySem.W.instObj C dx)
  ns : h.Ns1 dx mA
  ne : dx ≠ x
theorem lookIn_ns {h : Heap} {dx : Addr} {mA : Str → Option Value} (n : h.Ns1 dx mA) : ∃ od, h.get? dx = some od ∧ ∀ name, PySem.W.lookIn name od = some (mA name) := by
  obtain ⟨o, es, ep, ho, hd, hk, _, hm⟩ := n
  refine ⟨o, ho, fun name => ?_⟩
  have e := hm name
  unfold nsFind findBy at e
  rw [← Array.find?_toList] at e
  unfold PySem.W.lookIn
  rw [hd]
  dsimp only
  split
  · rename_i y q
    rw [q] at e
    exact congrArg some e
  · rename_i q
    rw [q] at e
    have a : es.toList.any (·.refKey) = false := by
      rw [List.any_eq_false]
      intro y hy
      obtain ⟨z, t, hkey⟩ := hk y (Array.mem_toList_iff.mp hy)
      simp [DictEntry.refKey, hkey]
    have a' : ¬ es.toList.any (·.refKey) = true := by rw [a]; exact Bool.false_ne_true
    rw [if_neg a']
    exact congrArg some e
theorem ObjM.look {h : Heap} {x dx C : Addr} {mA : Str → Option Value} (I : ObjM h x dx C mA) : ∃ od, PySem.W.InstAt h x (PySem.W.instObj C dx) C (some od) ∧ ∀ name, PySem.W.lookIn name od = some (mA name) :=
  let ⟨od, ho, hl⟩ := lookIn_ns I.ns
  ⟨od, ⟨I.obj, rfl, rfl, ho⟩, hl⟩
section
variable {prog : Program} {w : World} {A : Around} {E : Value → Shared → Prop} {s : Shared} {K : PySem.W.Frag} {x dx C f : Addr} {mA : Str → Option Value} {name : Str} {v : Value}
end
/-! ### the attributes as a list of pairs -/
def putF (f : Str) (v : V) : List (Str × V) → List (Str × V)
  | [] => [(f, v)]
  | (g, x) :: r => if g = f then (g, v) :: r else (g, x) :: putF f v r
theorem RelO.some_of {v : V} {o : Option Value} (r : RelO (some v) o) : ∃ u, o = some u ∧ RelV v u := by
  cases o with
  | none => exact (show False from r).elim
  | some u => exact ⟨u, rfl, r⟩
theorem RelO.none_of {o : Option Value} (r : RelO none o) : o = none := by
  cases o with
  | none => rfl
  | some u => exact (show False from r).elim
section
variable {P : Program} {w : World} {H H' : Hp} {h h' : Heap} {a C dx : Addr} {fs fs' : List (Str × V)}
theorem ins_get (hok : HOk P w H h) (e : H a = some (.ins C dx fs)) : ∃ mA, ObjM h a dx C mA ∧ (∀ f, RelO (fs.lookup f) (mA f)) ∧ PySem.Within mA (fs.map (·.1)) ∧ fs.length ≤ 1000 ∧ H dx = some (.own a) := by
  obtain ⟨d, z, ne, ob, mA, n, r, q⟩ := (show ObjOk P w H h a (.ins C dx fs) from hok a _ e)
  exact ⟨mA, ⟨ob, n, ne⟩, r, q, z, d⟩
end
/-! ### what of the text a class must have -/
structure Cls (K : PySem.W.Frag) (C : Addr) : Prop where
  pg : PySem.W.plainGet K C Str.empty = true
  hd : PySem.W.hasDictIn K C = true
  po : PySem.W.plainOver K C = true
  sa : PySem.W.findIn K (.ref C) "__setattr__" = some (some (.builtin "object.__setattr__"))
theorem Cls.get {K : PySem.W.Frag} {C : Addr} (c : Cls K C) (f : Str) : PySem.W.plainGet K C f = true := c.pg
/-- no class of it has the name -/
def NoAttr (K : PySem.W.Frag) (C : Addr) (f : Str) : Prop := PySem.W.findIn K (.ref C) f = some none
/-- a constant of the class -/
structure Con (K : PySem.W.Frag) (C : Addr) (f : Str) (v : V) (u : Value) : Prop where
  at_ : PySem.W.findIn K (.ref C) f = some (some u)
  rel : RelV v u
  get : PySem.W.specialIn K u "__get__" = some none
  cp : PySem.W.copiedNames.contains f = false
/-- a method: a plain def of the class or of one above it -/
structure Meth (K : PySem.W.Frag) (C : Addr) (m : Str) (f : Addr) : Prop where
  at_ : PySem.W.findIn K (.ref C) m = some (some (.ref f))
  fn : PySem.W.isFn K (.ref f) = true
  kp : PySem.W.keepIn K (.ref f) = true
section
variable {X : Cx} {pins : List (Addr × Obj)} {σ : St} {H : Hp} {s : Shared} {a C dx : Addr} {fs : List (Str × V)} {f : Str} {v : V} {A : Around} {E : Value → Shared → Prop}
/-- a new instance, tracked, without attributes -/
theorem Inv.made (I : Inv X pins σ H s) : Inv X pins σ (upd (upd H s.heap.objs.size (.own (s.heap.objs.size + 1))) (s.heap.objs.size + 1) (.ins C s.heap.objs.size []))
    { s with heap := (s.heap.push PySem.W.emptyDict).push (PySem.W.instObj C s.heap.objs.size) } := by
  have e1 : (s.heap.push PySem.W.emptyDict).get? s.heap.objs.size = some PySem.W.emptyDict := Heap.get?_push_size s.heap rfl
  have e2 : ((s.heap.push PySem.W.emptyDict).push (PySem.W.instObj C s.heap.objs.size)).get? (s.heap.objs.size + 1) = some (PySem.W.instObj C s.heap.objs.size) := by
    have := Heap.get?_push_size (s.heap.push PySem.W.emptyDict) (o := PySem.W.instObj C s.heap.objs.size) rfl
    rwa [Heap.size_push] at this
  have e3 : (s.heap.push PySem.W.emptyDict).Ns s.heap.objs.size (fun _ => none) := ⟨PySem.W.emptyDict, #[], _, e1, rfl, (fun e he => absurd he (by simp)), fun _ => rfl⟩
  have I1 := I.laid (a := s.heap.objs.size) (o := .own (s.heap.objs.size + 1)) (h' := s.heap.push PySem.W.emptyDict) (t' := s.toks) (fun b u q => Heap.get?_push_of_some _ q) (Nat.le_refl _) ⟨_, e1⟩
  refine I1.laid (a := s.heap.objs.size + 1) (o := .ins C s.heap.objs.size []) (t' := s.toks) (fun b u q => Heap.get?_push_of_some _ q) (Nat.le_of_eq (Heap.size_push _ _)) ?_
  have ne : s.heap.objs.size ≠ s.heap.objs.size + 1 := Nat.ne_of_lt (Nat.lt_succ_self _)
  refine ⟨by rw [upd_ne ne, upd_same], Nat.zero_le _, ne, e2, fun _ => none, (Heap.Ns1.of_empty e3).at fun o q => Heap.get?_push_of_some _ q, fun _ => True.intro, fun y hy => absurd rfl hy⟩
end
/-! ### readings and rules -/
/-- e.f, an attribute of the instance -/
def tFld (K : PySem.W.Frag) (ta : TE) (f : Str) : TE := fun σ H Q => ta σ H fun x H1 => ∃ a C dx fs v, x = .ref a ∧ H1 a = some (.ins C dx fs) ∧ Cls K C ∧ NoAttr K C f ∧ fs.lookup f = some v ∧ Q v H1
/-- e.f, a constant of the class -/
def tCon (K : PySem.W.Frag) (ta : TE) (f : Str) : TE := fun σ H Q => ta σ H fun x H1 => ∃ a C dx fs v u, x = .ref a ∧ H1 a = some (.ins C dx fs) ∧ Cls K C ∧ Con K C f v u ∧ fs.lookup f = none ∧ Q v H1
/-- e.f = value -/
def sFld (K : PySem.W.Frag) (ta tv : TE) (f : Str) : TS := fun D σ H => tv σ H fun y H1 => ta σ H1 fun x H2 => ∃ a C dx fs, x = .ref a ∧ H2 a = some (.ins C dx fs) ∧ Cls K C ∧ NoAttr K C f ∧ fs.length < 1000 ∧
  D.nx σ (upd H2 a (.ins C dx (putF f y fs)))
/-- an augmented operator on two values -/
def InOp (X : Cx) (op : Operator) (rd : V → V → Hp → VK → Prop) : Prop :=
  ∀ (pins : List (Addr × Obj)) (s : Shared) (σ : St) (H : Hp) (x y : V) (u v : Value) (Q : VK), Inv X pins σ H s → RelV x u → RelV y v → rd x y H Q → wpAny (model X.prog X.w) X.A (inplaceOp op u v) (EP X pins σ Q) X.xe s
/-- e.f op= value -/
def sFldAug (K : PySem.W.Frag) (ta tv : TE) (rd : V → V → Hp → VK → Prop) (f : Str) : TS := fun D σ H => ta σ H fun x H1 => ∃ a C dx fs v, x = .ref a ∧ H1 a = some (.ins C dx fs) ∧ Cls K C ∧ NoAttr K C f ∧ fs.lookup f = some v ∧
  tv σ H1 fun y H2 => rd v y H2 fun z H3 => ∃ dx' fs', H3 a = some (.ins C dx' fs') ∧ fs'.length < 1000 ∧ D.nx σ (upd H3 a (.ins C dx' (putF f z fs')))
section
variable {X : Cx} {o e value : Expr} {f : Str} {pos pos' tpos : Pos} {ta tv : TE}
def rAdd : V → V → Hp → VK → Prop := fun x y H Q => ∃ i j, x = .int i ∧ y = .int j ∧ Q (.int (i + j)) H
def rSub : V → V → Hp → VK → Prop := fun x y H Q => ∃ i j, x = .int i ∧ y = .int j ∧ Q (.int (i - j)) H
end
/-! ### isinstance -/
section
variable {X : Cx} {pins : List (Addr × Obj)} {σ : St} {H : Hp} {s : Shared} {A : Around} {E : Value → Shared → Prop} {Q : Value → Shared → Prop} {c : Value} {b : Bool}
/-- the type of a value, as the fragment's deciders take it; for an instance its class -/
inductive TyOf (K : PySem.W.Frag) (H : Hp) : V → Value → Prop where
  | non : TyOf K H .non (.type "NoneType")
  | bl (x : Bool) : TyOf K H (.bl x) (.type "bool")
  | int (i : Int) : TyOf K H (.int i) (.type "int")
  | str (x : Str) : TyOf K H (.str x) (.type "str")
  | flt (x : UInt64) : TyOf K H (.flt x) (.type "float")
  | lst {a : Addr} {xs : List V} (e : H a = some (.lst xs)) : TyOf K H (.ref a) (.type "list")
  | frz {a : Addr} {o : Obj} {xs : List V} (e : H a = some (.frz o (.lst xs))) : TyOf K H (.ref a) (.type "list")
  | tup {a : Addr} {xs : List V} (e : H a = some (.tup xs)) : TyOf K H (.ref a) (.type "tuple")
  | dK {a : Addr} {kvs : List (Key × V)} (e : H a = some (.dK kvs)) : TyOf K H (.ref a) (.type "dict")
  | dT {a : Addr} {kvs : List (List Key × V)} (e : H a = some (.dT kvs)) : TyOf K H (.ref a) (.type "dict")
  | ins {a C dx : Addr} {fs : List (Str × V)} (e : H a = some (.ins C dx fs)) (cl : Cls K C) (ha : PySem.W.findIn K (.ref C) "__class__" = some (some (.builtin "object.__class__")))
      (hn : PySem.W.specialIn K (.builtin "object.__class__") "__get__" = some (some (.builtin "getset_descriptor.__get__"))) (htk : PySem.W.takesIn K (.builtin "object.__class__") = some true)
      (hm : PySem.W.mroIn K C (.type "object") = some true) : TyOf K H (.ref a) (.ref C)
/-- isinstance(x, c) for one class c, a built-in or an own one: kitOne's answer -/
theorem isinst_ok {x : V} {u t : Value} (I : Inv X pins σ H s) (rx : RelV x u) (ty : TyOf X.K H x t) (e : PySem.W.kitOne X.K t c = some b) (h : ∀ tk, Q (.bool b) { s with toks := tk }) :
    wpAny (model X.prog X.w) A (call (.builtin "isinstance") [u, c]) Q E s := by
  cases ty with
  | non => cases (show u = Value.none from rx); exact PySem.W.kia_one PySem.W.kitx_none I.kIn True.intro e (fun z => nomatch z) h
  | bl y => cases (show u = Value.bool y from rx); exact PySem.W.kia_one PySem.W.kitx_bool I.kIn True.intro e (fun z => nomatch z) h
  | int i => obtain ⟨t, q⟩ := (show ∃ t, u = Value.int i t from rx); cases q; exact PySem.W.kia_one PySem.W.kitx_int I.kIn True.intro e (fun z => nomatch z) h
  | str y => obtain ⟨t, q⟩ := (show ∃ t, u = Value.str y t from rx); cases q; exact PySem.W.kia_one PySem.W.kitx_str I.kIn True.intro e (fun z => nomatch z) h
  | flt y => obtain ⟨t, q⟩ := (show ∃ t, u = Value.float y t from rx); cases q; exact PySem.W.kia_one PySem.W.kitx_float I.kIn True.intro e (fun z => nomatch z) h
  | @lst a xs ea =>
    cases (show u = Value.ref a from rx)
    obtain ⟨_, _, n, _, h1⟩ := (show ObjOk X.prog X.w H s.heap a (.lst xs) from I.hok a _ ea)
    exact PySem.W.kia_one PySem.W.kitx_list I.kIn ⟨_, h1, rfl⟩ e (fun z => nomatch z) h
  | @frz a ob xs ea =>
    cases (show u = Value.ref a from rx)
    obtain ⟨_, _, _, n, _, h1⟩ := (show ObjOk X.prog X.w H s.heap a (.frz ob (.lst xs)) from I.hok a _ ea)
    exact PySem.W.kia_one PySem.W.kitx_list I.kIn ⟨_, h1, rfl⟩ e (fun z => nomatch z) h
  | @tup a xs ea =>
    cases (show u = Value.ref a from rx)
    obtain ⟨_, _, _, p⟩ := (show ObjOk X.prog X.w H s.heap a (.tup xs) from I.hok a _ ea)
    obtain ⟨o, h1, h2, _⟩ := p
    exact PySem.W.kia_one PySem.W.kitx_tuple I.kIn ⟨o, h1, h2⟩ e (fun z => nomatch z) h
  | @dK a kvs ea =>
    cases (show u = Value.ref a from rx)
    obtain ⟨_, _, vs, _, p⟩ := (show ObjOk X.prog X.w H s.heap a (.dK kvs) from I.hok a _ ea)
    obtain ⟨o, es, ep, h1, h2, _⟩ := p
    exact PySem.W.kia_one PySem.W.kitx_dict I.kIn ⟨o, h1, h2.1⟩ e (fun z => nomatch z) h
  | @dT a kvs ea =>
    cases (show u = Value.ref a from rx)
    obtain ⟨_, _, xs, _, o, es, ep, h1, h2, _⟩ := (show ObjOk X.prog X.w H s.heap a (.dT kvs) from I.hok a _ ea)
    exact PySem.W.kia_one PySem.W.kitx_dict I.kIn ⟨o, h1, h2.1⟩ e (fun z => nomatch z) h
  | @ins a C dx fs ea cl ha hn htk hm =>
    cases (show u = Value.ref a from rx)
    obtain ⟨mA, O, _⟩ := ins_get I.hok ea
    obtain ⟨od, J, _⟩ := O.look
    exact PySem.W.kia_one (PySem.W.kitx_own (cl.get _) cl.hd ha hn htk hm) I.kIn J e (fun z => nomatch z) h
end
end L2
namespace L2
open PySem PySem.Spec PyProof.Rows
/-! ### room -/
structure Room (k : Nat) (A : Around) : Prop where
  hd : A.handled = none
  dp : A.depth + 3 * k + 5 < recursionLimit
  un : A.units + 16 * k + 200 < cLine
theorem Room.mono {j k : Nat} {A : Around} (r : Room k A) (h : j ≤ k) : Room j A := ⟨r.hd, by have := r.dp; omega, by have := r.un; omega⟩
theorem Room.deeper {k : Nat} {A : Around} (r : Room (k + 1) A) (env : Env) : Room k (A.deeper env) :=
  ⟨r.hd, by have := r.dp; show A.depth + 1 + 3 * k + 5 < _; omega, by have := r.un; show A.units + 3 + 16 * k + 200 < _; omega⟩
theorem Room.in1 {k : Nat} {A : Around} (r : Room (k + 1) A) : Room k A.in1 :=
  ⟨r.hd, by have := r.dp; show A.depth + 3 * k + 5 < _; omega, by have := r.un; show A.units + 1 + 16 * k + 200 < _; omega⟩
theorem make_depth {A : Around} {C : Addr} {us : List Value} {kw : List (Str × Value)} : (A.under (.builtin "type.__call__" ⟨.ref C :: us, kw⟩)).depth = A.depth + 1 := by
  first | rfl | simp [Around.under, Code.weight, Code.isCreation, Code.isGuard, Code.isCaller, Code.frames, Code.isFrame, guardIds]
theorem make_units {A : Around} {C : Addr} {us : List Value} {kw : List (Str × Value)} : (A.under (.builtin "type.__call__" ⟨.ref C :: us, kw⟩)).units = A.units + 1 := by
  first | rfl | simp [Around.under, Code.cUnits, Code.frames, Code.isFrame]
theorem Room.make {k : Nat} {A : Around} (r : Room (k + 1) A) (C : Addr) (us : List Value) (kw : List (Str × Value)) : Room k (A.under (.builtin "type.__call__" ⟨.ref C :: us, kw⟩)) :=
  ⟨r.hd, by have := r.dp; rw [make_depth]; omega, by have := r.un; rw [make_units]; omega⟩
theorem Room.depth {k : Nat} {A : Around} (r : Room k A) : A.depth < recursionLimit := by have := r.dp; omega
theorem Room.units {k : Nat} {A : Around} (r : Room k A) : A.units + 64 < cLine := by have := r.un; omega
/-! ### argument lists and displays -/
def tNil : TA := fun _ H Q => Q [] H
def tCons (ta : TE) (tr : TA) : TA := fun σ H Q => ta σ H fun x H1 => tr σ H1 fun xs H2 => Q (x :: xs) H2
section
variable {X : Cx} {e : Expr} {es : List Expr} {te : TE} {t : TA} {pos : Pos}
theorem pa_nil : PA X [] tNil := fun _ _ _ _ H Q I h => Calls.spliced_nil ⟨[], H, I, .nil, h⟩
theorem pa_cons (ha : PE X e te) (hr : PA X es t) (hs : starEach (e :: es) X.env = (false, eval e X.env) :: starEach es X.env := by rfl) : PA X (e :: es) (tCons te t) := by
  intro pos pins s σ H Q I h
  rw [hs]
  show wpAny _ _ (spliced ((false, eval e X.env) :: backTo pos (starEach es X.env))) _ _ s
  refine Calls.spliced_cons (thn (ha pins s σ H _ I h) fun u s1 ⟨x, H1, I1, r1, q1⟩ => ?_)
  exact thn (hr pos pins s1 σ H1 _ I1 q1) fun us s2 ⟨xs, H2, I2, r2, q2⟩ => ⟨x :: xs, H2, I2, .cons r1 r2, q2⟩
/-- a tuple, a list of written items -/
def tTup (t : TA) : TE := fun σ H Q => t σ H fun xs H1 => xs.length ≤ sizeLine ∧ ∀ p, H1 p = none → Q (.ref p) (upd H1 p (.tup xs))
def tLst (t : TA) : TE := fun σ H Q => t σ H fun xs H1 => xs.length ≤ sizeLine ∧ ∀ p, H1 p = none → Q (.ref p) (upd H1 p (.lst xs))
theorem pe_tup {x1} (h : PA X es t) : PE X (.Tuple es x1 pos) (tTup t) := by
  intro pins s σ H Q I hq
  refine wpAny_Tuple_spliced (thn (h pos pins s σ H _ I hq) fun us s1 ⟨xs, H1, I1, r, z, q⟩ => ⟨by rw [← r.length]; exact z, ?_⟩)
  have hf : H1 s1.heap.objs.size = none := I1.hok.fresh (Nat.le_refl _)
  refine ⟨.ref s1.heap.objs.size, upd H1 s1.heap.objs.size (.tup xs), I1.laid (t' := s1.toks) (fun b u e => Heap.get?_push_of_some _ e) (Nat.le_refl _) ?_, rfl, q _ hf⟩
  exact ⟨z, us, r, ⟨_, Heap.get?_push_size _ rfl, rfl, _, rfl⟩⟩
theorem pe_lst (h : PA X es t) : PE X (.List es pos) (tLst t) := by
  intro pins s σ H Q I hq
  refine wpAny_List_spliced (thn (h pos pins s σ H _ I hq) fun us s1 ⟨xs, H1, I1, r, z, q⟩ => ⟨by rw [← r.length]; exact z, ?_⟩)
  have hf : H1 s1.heap.objs.size = none := I1.hok.fresh (Nat.le_refl _)
  refine ⟨.ref s1.heap.objs.size, upd H1 s1.heap.objs.size (.lst xs), I1.laid (t' := s1.toks) (fun b u e => Heap.get?_push_of_some _ e) (Nat.le_refl _) ?_, rfl, q _ hf⟩
  exact ⟨z, us, 0, r, Heap.get?_push_size _ rfl⟩
end
/-! ### what a def promises -/
/-- a def's promise: the bound arguments in the parameters' order, the heap, the wanted end, the wanted exception -/
abbrev Sp := List V → Hp → VK → XK → Prop
/-- how an exception lies behind a call (file 08 gives it): the callers' frames, abstract heap and state ahead of the call, the wish, the exception, the state -/
abbrev CXT := List Env → Hp → Shared → XK → Value → Shared → Prop
/-- the state at a call -/
structure Env0 (P : Program) (w : World) (K : PySem.W.Frag) (mg : Str → Option Value) (base : Heap) (A : Around) (outer : List Env) (s : Shared) (H : Hp) : Prop where
  frames : A.frames = some outer
  mod : Mod K mg base
  bs : ∀ b o, base.get? b = some o → s.heap.get? b = some o ∧ H b = none
  bsz : base.objs.size ≤ s.heap.objs.size
  funs : s.heap.FunFrames base outer
  frf : ∀ b ∈ frs outer, H b = none
  hok : HOk P w H s.heap
  bare : AllBare s.gens
/-- a call's end -/
def CE (outer : List Env) (P : Program) (w : World) (H : Hp) (s : Shared) (Q : VK) (u : Value) (s' : Shared) : Prop :=
  ∃ v H', s'.os = s.os ∧ AllBare s'.gens ∧ Un (frs outer) [] H H' s.heap s'.heap ∧ HOk P w H' s'.heap ∧ RelV v u ∧ Q v H'
def CR (CX : CXT) (outer : List Env) (P : Program) (w : World) (H : Hp) (s : Shared) (Q : VK) (E : XK) (r : Result) (s' : Shared) : Prop :=
  match r with
  | .ok (.ret u) => CE outer P w H s Q u s'
  | .ok _ => False
  | .error e => CX outer H s E e s'
structure FnOk (P : Program) (w : World) (K : PySem.W.Frag) (mg : Str → Option Value) (base : Heap) (CX : CXT) (k : Nat) (f : Addr) (fd : FuncData) (ps : List Str) (sp : Sp) : Prop where
  len : ∀ vs H Q E, sp vs H Q E → vs.length = ps.length
  run : ∀ (A : Around) (outer : List Env) (s : Shared) (H : Hp) (args : Args) (us : List Value) (vs : List V) (Q : VK) (E : XK), Room k A → Env0 P w K mg base A outer s H → BindsTo s fd args (ps.zip us) → Vals vs us → sp vs H Q E →
    codeAny (model P w) A (.call (.ref f) args) (CR CX outer P w H s Q E) s
theorem FnOk.mono {P : Program} {w : World} {K : PySem.W.Frag} {mg : Str → Option Value} {base : Heap} {CX : CXT} {j k : Nat} {f : Addr} {fd : FuncData} {ps : List Str} {sp : Sp} (F : FnOk P w K mg base CX j f fd ps sp) (h : j ≤ k) :
    FnOk P w K mg base CX k f fd ps sp := ⟨F.len, fun A outer s H args us vs Q E hr => F.run A outer s H args us vs Q E (hr.mono h)⟩
/-- a weaker promise -/
theorem FnOk.imp {P : Program} {w : World} {K : PySem.W.Frag} {mg : Str → Option Value} {base : Heap} {CX : CXT} {k : Nat} {f : Addr} {fd : FuncData} {ps : List Str} {sp sp' : Sp} (F : FnOk P w K mg base CX k f fd ps sp)
    (h : ∀ vs H Q E, sp' vs H Q E → sp vs H Q E) : FnOk P w K mg base CX k f fd ps sp' :=
  ⟨fun vs H Q E q => F.len vs H Q E (h _ _ _ _ q), fun A outer s H args us vs Q E hr he hb hv hs => F.run A outer s H args us vs Q E hr he hb hv (h _ _ _ _ hs)⟩
theorem Env0.make {P : Program} {w : World} {K : PySem.W.Frag} {mg : Str → Option Value} {base : Heap} {A : Around} {outer : List Env} {s : Shared} {H : Hp} (e : Env0 P w K mg base A outer s H) (C : Addr) (us : List Value) (kw : List (Str × Value)) :
    Env0 P w K mg base (A.under (.builtin "type.__call__" ⟨.ref C :: us, kw⟩)) outer s H := ⟨by first | exact e.frames | (simpa [Around.under, Code.envs, Code.isFrame, pushEnvs] using e.frames), e.mod, e.bs, e.bsz, e.funs, e.frf, e.hok, e.bare⟩
theorem Env0.in1 {P : Program} {w : World} {K : PySem.W.Frag} {mg : Str → Option Value} {base : Heap} {A : Around} {outer : List Env} {s : Shared} {H : Hp} (e : Env0 P w K mg base A outer s H) :
    Env0 P w K mg base A.in1 outer s H := ⟨e.frames, e.mod, e.bs, e.bsz, e.funs, e.frf, e.hok, e.bare⟩
section
variable {X : Cx} {pins : List (Addr × Obj)} {σ : St} {H : Hp} {s s' : Shared}
/-- from a body: what a callee wants -/
theorem Inv.env0 (I : Inv X pins σ H s) : Env0 X.prog X.w X.K X.mg X.base X.A X.stack s H :=
  ⟨I.ok.frames, I.ok.mod, I.bs, Nat.le_trans I.ok.bsz I.sz, I.stack, I.stkFree, I.hok, I.bare⟩
/-- behind a call -/
theorem Inv.after {Q : VK} {u : Value} (I : Inv X pins σ H s) (h : CE X.stack X.prog X.w H s Q u s') : EP X pins σ Q u s' := by
  obtain ⟨v, H', os, bare, un, hok, r, q⟩ := h
  obtain ⟨hh, g, d, t, os'⟩ := s'
  obtain rfl : os' = s.os := os
  exact ⟨v, H', I.call (h' := hh) (g' := g) (d' := d) (t' := t) (ch := []) un hok bare (fun b z => absurd z (by simp)), r, q⟩
end
/-! ### calls -/
/-- f(..): the written arguments, then the defaults dvs; E: what is wanted of an exception -/
def tCall (sp : Sp) (dvs : List V) (E : XK) (t : TA) : TE := fun σ H Q => t σ H fun vs H1 => sp (vs ++ dvs) H1 Q E
/-- o.m(..) of an instance of the class at C -/
def tMeth (C : Addr) (m : Str) (sp : Sp) (dvs : List V) (E : XK) (ta : TE) (t : TA) : TE := fun σ H Q => ta σ H fun x H1 => ∃ a dx fs, x = .ref a ∧ H1 a = some (.ins C dx fs) ∧ fs.lookup m = none ∧
  t σ H1 fun vs H2 => sp (x :: (vs ++ dvs)) H2 Q E
/-- C(..): a new instance and its dict, then __init__ -/
def tMake (C : Addr) (sp : Sp) (dvs : List V) (E : XK) (t : TA) : TE := fun σ H Q => t σ H fun vs H1 => ∀ x dx, H1 x = none → H1 dx = none → dx ≠ x →
  sp (.ref x :: (vs ++ dvs)) (upd (upd H1 dx (.own x)) x (.ins C dx [])) (fun v H2 => v = .non ∧ Q (.ref x) H2) E
/-- how the parameters are bound: us the positional arguments, kw the keywords' values by name, ds the defaults that fill up -/
def Binds (K : PySem.W.Frag) (fd : FuncData) (ps : List Str) (ds : List Value) : Prop :=
  ∀ (s : Shared) (us : List Value), K.In s.heap → (us ++ ds).length = ps.length → BindsTo s fd ⟨us, []⟩ (ps.zip (us ++ ds))
/-- every parameter is given -/
theorem Binds.all {K : PySem.W.Frag} {fd : FuncData} {ps : List Str} (h : ∀ us : List Value, us.length = ps.length → bindArgs fd ⟨us, []⟩ = pure (ps.zip us)) : Binds K fd ps [] := fun s us _ hl => by
  rw [List.append_nil] at hl ⊢
  exact .of_eq (h us hl)
/-- an exception of a callee reaches what this body wants of exceptions -/
def Passes (CX : CXT) (X : Cx) (E : XK) : Prop := ∀ (pins : List (Addr × Obj)) (σ : St) (H : Hp) (s : Shared) (e : Value) (s' : Shared), Inv X pins σ H s → CX X.stack H s E e s' → X.xe e s'
section
variable {X : Cx} {CX : CXT} {k : Nat} {f C : Addr} {fd : FuncData} {ps : List Str} {sp : Sp} {dvs : List V} {ds : List Value} {E : XK} {x m : Str} {p pos apos : Pos} {e o : Expr} {es : List Expr} {ta : TE} {t : TA}
/-- the callee runs -/
theorem run_fn {pins : List (Addr × Obj)} {σ : St} {H : Hp} {s : Shared} {Q : VK} {us : List Value} {vs : List V} (F : FnOk X.prog X.w X.K X.mg X.base CX k f fd ps sp) (hr : Room k X.A) (hb : Binds X.K fd ps ds) (hd : Vals dvs ds) (hx : Passes CX X E)
    (I : Inv X pins σ H s) (r : Vals vs us) (h : sp (vs ++ dvs) H Q E) : wpAny (model X.prog X.w) X.A (call (.ref f) us) (EP X pins σ Q) X.xe s := by
  have r2 : Vals (vs ++ dvs) (us ++ ds) := r.append hd
  have hl : (us ++ ds).length = ps.length := by rw [← r2.length]; exact F.len _ _ _ _ h
  refine wpAny_call (codeAny_mono (F.run X.A X.stack s H ⟨us, []⟩ (us ++ ds) (vs ++ dvs) Q E hr I.env0 (hb s us I.kIn hl) r2 h) fun r s' hq => ?_)
  cases r with
  | error e => exact hx pins σ H s e s' I hq
  | ok fl =>
    cases fl with
    | ret u => exact I.after hq
    | next => exact False.elim hq
    | brk => exact False.elim hq
    | cont => exact False.elim hq
theorem pe_call (F : FnOk X.prog X.w X.K X.mg X.base CX k f fd ps sp) (hr : Room k X.A) (hg : Gl X x) (hm : X.mg x = some (.ref f)) (hk : PySem.W.keepIn X.K (.ref f) = true) (hb : Binds X.K fd ps ds) (hd : Vals dvs ds) (hx : Passes CX X E)
    (ha : PA X (e :: es) t) (hdb : (x == ("__debug__" : Str)) = false := by decide) (he : starEach (e :: es) X.env = (false, eval e X.env) :: starEach es X.env := by rfl) (hpl : (backTo pos (starEach es X.env)).any (·.1) = false := by rfl) :
    PE X (.Call (.Name x p) (e :: es) [] pos) (tCall sp dvs E t) := by
  intro pins s σ H Q I h
  refine wpAny_Call_Name_kw (ld_glob I hg hm ?_ hdb)
  refine PySem.W.callWith_K (h₀ := X.base) I.ok.mod.kin hk (thn (ha pos pins s σ H _ I h) fun us s1 ⟨vs, H1, I1, r, q⟩ => ⟨I1.kIn, ?_⟩) he hpl
  exact run_fn F hr hb hd hx I1 r q
/-- what a class must have to be made -/
structure Mk (K : PySem.W.Frag) (C f : Addr) : Prop where
  makes : PySem.W.makesIn K C = true
  init : PySem.W.findIn K (.ref C) "__init__" = some (some (.ref f))
  fn : PySem.W.isFn K (.ref f) = true
  kp : PySem.W.keepIn K (.ref C) = true
end
/-! ### keywords -/
/-- the values of the keywords, from the left -/
def PK (X : Cx) (kws : List Keyword) (t : TA) : Prop :=
  ∀ (pos : Pos) (pins : List (Addr × Obj)) (s : Shared) (σ : St) (H : Hp) (Q : List V → Hp → Prop), Inv X pins σ H s → t σ H Q → wpAny (model X.prog X.w) X.A (evalAll ((backToKw pos (keywordEach kws X.env)).map (·.2))) (AP X pins σ Q) X.xe s
section
variable {X : Cx} {CX : CXT} {k : Nat} {f C : Addr} {fd : FuncData} {ps ks : List Str} {sp : Sp} {E : XK} {x m : Str} {p pos apos kpos : Pos} {e o : Expr} {es : List Expr} {kws : List Keyword} {te ta : TE} {t tk : TA} {nm : Option Str}
theorem pk_nil : PK X [] tNil := fun _ _ _ _ H Q I h => wpAny_evalAll_nil ⟨[], H, I, .nil, h⟩
theorem pk_cons (ha : PE X e te) (hr : PK X kws t) : PK X (⟨nm, e, kpos⟩ :: kws) (tCons te t) := by
  intro pos pins s σ H Q I h
  show wpAny _ _ (evalAll ((do let v ← eval e X.env; standAt pos; pure v) :: (backToKw pos (keywordEach kws X.env)).map (·.2))) _ _ s
  refine wpAny_evalAll_cons (wpAny_bind (thn (ha pins s σ H _ I h) fun u s1 ⟨x, H1, I1, r1, q1⟩ => wpAny_bind (wpAny_standAt (wpAny_pure ?_))))
  exact thn (hr pos pins s1 σ H1 _ I1 q1) fun us s2 ⟨xs, H2, I2, r2, q2⟩ => ⟨x :: xs, H2, I2, .cons r1 r2, q2⟩
/-- how a call with keywords binds: g puts the positional values us and the keywords' values ws (names ks) in the parameters' order, defaults among them -/
structure KBinds (K : PySem.W.Frag) (fd : FuncData) (ps ks : List Str) (g : List Value → List Value → List Value) (gV : List V → List V → List V) : Prop where
  to : ∀ (s : Shared) (us ws : List Value), K.In s.heap → (g us ws).length = ps.length → BindsTo s fd ⟨us, ks.zip ws⟩ (ps.zip (g us ws))
  rel : ∀ {vs : List V} {us : List Value} {zs : List V} {ws : List Value}, Vals vs us → Vals zs ws → Vals (gV vs zs) (g us ws)
def tCallK (sp : Sp) (gV : List V → List V → List V) (E : XK) (t tk : TA) : TE := fun σ H Q => t σ H fun vs H1 => tk σ H1 fun zs H2 => sp (gV vs zs) H2 Q E
variable {g : List Value → List Value → List Value} {gV : List V → List V → List V}
end
/-! ### a def's body keeps its promise -/
/-- names: the parameters first -/
structure FnScope (N P : List Str) (sc : Scope) : Prop where
  kind : sc.kind = .function
  co : sc.isCoroutine = false
  gen : sc.isGenerator = false
  nd : N.Nodup
  pre : N.take P.length = P
  par : ∀ x ∈ P, sc.names.lookup x = some .local ∨ sc.names.lookup x = some .cell
  nofree : ∀ y ∈ sc.names, y.2 ≠ .free
theorem bindL_out {kindOf : Str → Option NameKind} {x : Str} : ∀ {binds : List (Str × Value)} {m : Str → Option Value}, (∀ v, (x, v) ∉ binds) → bindL kindOf binds m x = m x
  | [], _, _ => rfl
  | (n, v) :: r, m, h => by
    unfold bindL
    rw [bindL_out fun w hw => h w (List.mem_cons_of_mem _ hw)]
    split
    · have : x ≠ n := by rintro rfl; exact h v List.mem_cons_self
      simp [this]
    · rfl
theorem bindC_out {kindOf : Str → Option NameKind} {x : Str} : ∀ {binds : List (Str × Value)} {m : Str → Option Value}, (∀ v, (x, v) ∉ binds) → bindC kindOf binds m x = m x
  | [], _, _ => rfl
  | (n, v) :: r, m, h => by
    unfold bindC
    rw [bindC_out fun w hw => h w (List.mem_cons_of_mem _ hw)]
    split
    · rfl
    · have : x ≠ n := by rintro rfl; exact h v List.mem_cons_self
      simp [this]
theorem bindL_get {kindOf : Str → Option NameKind} {x : Str} {v : Value} : ∀ {P : List Str} {vs : List Value} {i : Nat} {m : Str → Option Value}, P.Nodup → P[i]? = some x → vs[i]? = some v → kindOf x = some .local →
    bindL kindOf (P.zip vs) m x = some v
  | [], _, _, _, _, h, _, _ => by simp at h
  | _ :: _, [], _, _, _, _, h, _ => by simp at h
  | p :: P, w :: vs, 0, m, nd, h1, h2, hk => by
    simp at h1 h2; subst h1; subst h2
    show bindL kindOf ((p, w) :: P.zip vs) m p = _
    unfold bindL
    rw [bindL_out fun v hv => (List.nodup_cons.mp nd).1 (List.of_mem_zip hv).1, if_pos hk]
    simp
  | p :: P, w :: vs, i + 1, m, nd, h1, h2, hk => by
    show bindL kindOf ((p, w) :: P.zip vs) m x = _
    unfold bindL
    exact bindL_get (i := i) (List.nodup_cons.mp nd).2 (by simpa using h1) (by simpa using h2) hk
theorem bindC_get {kindOf : Str → Option NameKind} {x : Str} {v : Value} : ∀ {P : List Str} {vs : List Value} {i : Nat} {m : Str → Option Value}, P.Nodup → P[i]? = some x → vs[i]? = some v → kindOf x ≠ some .local →
    bindC kindOf (P.zip vs) m x = some v
  | [], _, _, _, _, h, _, _ => by simp at h
  | _ :: _, [], _, _, _, _, h, _ => by simp at h
  | p :: P, w :: vs, 0, m, nd, h1, h2, hk => by
    simp at h1 h2; subst h1; subst h2
    show bindC kindOf ((p, w) :: P.zip vs) m p = _
    unfold bindC
    rw [bindC_out fun v hv => (List.nodup_cons.mp nd).1 (List.of_mem_zip hv).1, if_neg hk]
    simp
  | p :: P, w :: vs, i + 1, m, nd, h1, h2, hk => by
    show bindC kindOf ((p, w) :: P.zip vs) m x = _
    unfold bindC
    exact bindC_get (i := i) (List.nodup_cons.mp nd).2 (by simpa using h1) (by simpa using h2) hk
/-- the names' values at the entry -/
def start (N : List Str) (vs : List V) : St := vs.map some ++ List.replicate (N.length - vs.length) none
/-- the context of a def's body, at its entry; an exception leaves the frame, then lies as CX says -/
def cxOf (CX : CXT) (P : Program) (w : World) (K : PySem.W.Frag) (mg : Str → Option Value) (base : Heap) (N : List Str) (qual : Str) (scope : Scope) (f : Addr) (cd : Value) (A : Around) (outer : List Env) (s : Shared) (H : Hp) (E : XK) : Cx where
  prog := P
  w := w
  K := K
  mg := mg
  base := base
  A := A.deeper (envOfC qual scope s.heap.objs.size f cd)
  N := N
  s₀ := s
  H₀ := H
  env := envOfC qual scope s.heap.objs.size f cd
  outer := outer
  stack := envOfC qual scope s.heap.objs.size f cd :: outer
  ex := []
  calm := true
  fn := fun _ => true
  pn := []
  xe := fun e s' => wpAny (model P w) (A.deeper (envOfC qual scope s.heap.objs.size f cd)) (leaving (envOfC qual scope s.heap.objs.size f cd) e) (fun _ s'' => CX outer H s E e s'') (fun e' s'' => CX outer H s E e' s'') s'
theorem cell_has {sc : Scope} {n : Nat} {x : Str} (h : sc.names.lookup x = some .cell) : ∃ c, (cellsFrom n sc.names []).lookup x = some c := by
  have q := PySem.W.cellsFrom_some sc.names n [] (.inl h)
  exact Option.isSome_iff_exists.mp q
theorem inv_start {CX : CXT} {P : Program} {w : World} {K : PySem.W.Frag} {mg : Str → Option Value} {base : Heap} {N ps : List Str} {qual : Str} {scope : Scope} {f : Addr} {cd : Value} {A : Around} {outer : List Env} {s s1 : Shared} {H : Hp} {E : XK} {us : List Value} {vs : List V}
    (S : FnScope N ps scope) (hd : A.handled = none) (e0 : Env0 P w K mg base A outer s H) (hl : vs.length = ps.length) (r : Vals vs us)
    (x : InCallC s s.heap.objs.size (bindL (envOfC qual scope s.heap.objs.size f cd).kindOf (ps.zip us) fun _ => none) (cellsFrom (s.heap.objs.size + 1) scope.names []) (bindC (envOfC qual scope s.heap.objs.size f cd).kindOf (ps.zip us) fun _ => none) s1) :
    Inv (cxOf CX P w K mg base N qual scope f cd A outer s H E) [] (start N vs) H s1 := by
  have hpl : ps.length ≤ N.length := by have := congrArg List.length S.pre; rw [List.length_take] at this; omega
  obtain ⟨h1, tk, rfl, hk⟩ := x.done
  have noA : ∀ b : Addr, b ∉ (cxOf CX P w K mg base N qual scope f cd A outer s H E).ex := fun b z => absurd (show b ∈ ([] : List Addr) from z) (by simp)
  refine ⟨⟨e0.mod, S.kind, rfl, rfl, Nat.le_refl _, fun y z c h1 h2 => ?_, fun y hy => ?_, fun y c _ h => ?_, fun _ => hd, Around.frames_deeper e0.frames, .inr ⟨rfl, rfl⟩, fun b z => absurd z (noA b), e0.bs, e0.bsz, fun b _ _ => noA b, fun b z => absurd z (noA b), e0.funs, e0.frf⟩,
    rfl, e0.bare, Un.kept hk, ⟨_, x.toInCall.ns, fun i y v h1 h2 h3 => ?_⟩, fun y c h => ⟨_, x.cell y c h⟩, e0.hok.fresh (Nat.le_refl _), fun y c h => ?_, fun p hp => absurd (show p ∈ ([] : List (Addr × Obj)) from hp) (by simp), e0.hok.kept hk, ?_⟩
  · exact name_of_addr x.apart (PySem.mem_of_lookup h1) (PySem.mem_of_lookup h2)
  · have hy : scope.names.lookup y = some .cell ∨ scope.names.lookup y = some .free := hy
    rcases hy with hy | hy
    · exact cell_has hy
    · exact absurd rfl (S.nofree _ (PySem.mem_of_lookup hy))
  · exact Nat.le_of_lt (x.above y c (PySem.mem_of_lookup h))
  · have hi : i < vs.length := by
      unfold start at h2
      by_cases hi : i < vs.length
      · exact hi
      · rw [List.getElem?_append_right (by simpa using hi)] at h2
        rw [List.getElem?_replicate] at h2
        split at h2 <;> cases h2
    have ha : vs[i]? = some v := by
      unfold start at h2
      rw [List.getElem?_append_left (by simpa using hi), List.getElem?_map] at h2
      cases e : vs[i]? with
      | none => rw [e] at h2; cases h2
      | some a => rw [e] at h2; cases h2; rfl
    obtain ⟨u, hu, rv⟩ := r.get ha
    have hp : ps[i]? = some y := by
      rw [← S.pre, List.getElem?_take_of_lt (by omega)]; exact h1
    have ndP : ps.Nodup := by rw [← S.pre]; exact S.nd.sublist (List.take_sublist _ _)
    refine ⟨u, rv, ?_⟩
    rcases S.par y (List.mem_of_getElem? hp) with k | k
    · exact .inl ⟨k, bindL_get ndP hp hu k⟩
    · obtain ⟨c, e⟩ := cell_has (n := s.heap.objs.size + 1) k
      refine .inr ⟨.inl k, c, e, ?_⟩
      have q := x.cell y c e
      rw [bindC_get ndP hp hu (by show scope.names.lookup y ≠ _; rw [k]; decide)] at q
      exact q
  · exact e0.hok.fresh (Nat.le_of_lt (x.above y c (PySem.mem_of_lookup h)))
  · unfold start
    show _ = N.length
    rw [List.length_append, List.length_map, List.length_replicate]
    omega
/-- THE RULE: a def (or a method) of the text, by its body. The body's reading t is chosen for each entry; it is run at the parameters' values -/
theorem fn_of {CX : CXT} {P : Program} {w : World} {K : PySem.W.Frag} {mg : Str → Option Value} {base : Heap} {k : Nat} {f : Addr} {name qual : Str} {params : Arguments} {body : List Stmt} {scope : Scope} {dV kV doc pm cdv ct oc : Value} {an od : Option Addr}
    {osl : Array (Option Value)} {N ps : List Str} {sp : Sp} (lk : K.lookup f = some ⟨oc, od, .func (PySem.W.fnOf name qual params body scope dV kV doc pm an cdv ct), osl⟩) (hcd : PySem.W.codeIn K cdv qual = true) (S : FnScope N ps scope)
    (len : ∀ vs H Q E, sp vs H Q E → vs.length = ps.length)
    (hbody : ∀ (A : Around) (outer : List Env) (s : Shared) (H : Hp) (vs : List V) (Q : VK) (E : XK), Room k (A.deeper (envOfC qual scope s.heap.objs.size f cdv)) → sp vs H Q E →
      ∃ t, PSs (cxOf CX P w K mg base N qual scope f cdv A outer s H E) body t ∧ t { nx := fun _ H' => Q .non H', rt := Q } (start N vs) H) :
    FnOk P w K mg base CX (k + 1) f (PySem.W.fnOf name qual params body scope dV kV doc pm an cdv ct) ps sp := by
  refine ⟨len, fun A outer s H args us vs Q E hr e0 hb r hsp => ?_⟩
  have hl := len _ _ _ _ hsp
  have KX : K.In s.heap := e0.mod.kin.keeps fun b o e => (e0.bs b o e).1
  have lim : s.heap.NoLimit := e0.mod.nolimit.keeps fun b o e => (e0.bs b o e).1
  have hkind : ∀ y ∈ ps.zip us, scope.names.lookup y.1 = some .local ∨ (scope.names.lookup y.1 = some .cell ∧ ((cellsFrom (s.heap.objs.size + 1) scope.names []).lookup y.1).isSome = true) := fun ⟨n, v⟩ hy => by
    rcases S.par n (List.of_mem_zip hy).1 with q | q
    · exact .inl q
    · exact .inr ⟨q, PySem.W.cellsFrom_some _ _ _ (.inl q)⟩
  refine codeAny_call_function hr.depth (KX _ _ lk) rfl S.co S.gen rfl (PySem.W.codeRec_of KX hcd) (hb _ _ _ _ ?_)
  refine wpAny_newFunctionEnv_cells S.kind hkind fun env he s1 x => ?_
  subst he
  refine ⟨lim.keeps x.toInCall.keep, codeAny_func ?_⟩
  obtain ⟨t, ht, hq⟩ := hbody A outer s H vs Q E (hr.deeper _) hsp
  have I : Inv (cxOf CX P w K mg base N qual scope f cdv A outer s H E) [] (start N vs) H s1 := inv_start S hr.hd e0 hl r x
  refine wpAny_mono (ht [] s1 (start N vs) H _ I hq) (fun fl s' hs => ?_) fun e s' hs => hs
  have fin : ∀ {σ' : St} {H' : Hp} {v : V} {u : Value}, Inv (cxOf CX P w K mg base N qual scope f cdv A outer s H E) [] σ' H' s' → RelV v u → Q v H' → CE outer P w H s Q u s' :=
    fun {σ' H' v u} J rv q => ⟨v, H', J.os, J.bare, J.base, J.hok, rv, q⟩
  cases fl with
  | ret u =>
    obtain ⟨v, σ', H', J, rv, q⟩ := hs
    exact fin J rv q
  | next =>
    obtain ⟨σ', H', J, q⟩ := hs
    exact fin (v := V.non) (u := Value.none) J rfl q
  | brk =>
    obtain ⟨_, _, _, q⟩ := hs
    exact False.elim q
  | cont =>
    obtain ⟨_, _, _, q⟩ := hs
    exact False.elim q
end L2
namespace L2
open PySem PySem.Spec PyProof.Rows
section
variable {X : Cx} {x : Str} {p pos : Pos} {e : Expr} {es : List Expr} {t : TA} {id T : String} {r : List V → Hp → VK → Prop}
def tCB (r : List V → Hp → VK → Prop) (t : TA) : TE := fun σ H Q => t σ H fun vs H1 => r vs H1 Q
/-- f(e, ..), f a built-in function -/
theorem pe_callB (hc : CallR X (.builtin id) r) (hg : Gl X x) (hm : X.mg x = none) (hv : bootBuiltins x = some (.builtin id)) (ha : PA X (e :: es) t) (hn : x ≠ "__name__" := by decide) (hdb : (x == ("__debug__" : Str)) = false := by decide)
    (he : starEach (e :: es) X.env = (false, eval e X.env) :: starEach es X.env := by rfl) (hpl : (backTo pos (starEach es X.env)).any (·.1) = false := by rfl) : PE X (.Call (.Name x p) (e :: es) [] pos) (tCB r t) := by
  intro pins s σ H Q I h
  refine wpAny_Call_Name_kw (ld_blt I hg hm hv ?_ hn hdb)
  exact PyProof.Rows.callWith_builtin1 (thn (ha pos pins s σ H _ I h) fun us s1 ⟨vs, H1, I1, r1, q1⟩ => hc pins s1 σ H1 vs us Q I1 r1 q1) he hpl
/-- T(e, ..), T a built-in type -/
theorem pe_callTy (hc : CallR X (.type T) r) (hg : Gl X x) (hm : X.mg x = none) (hv : bootBuiltins x = some (.type T)) (ha : PA X (e :: es) t) (hn : x ≠ "__name__" := by decide) (hdb : (x == ("__debug__" : Str)) = false := by decide)
    (he : starEach (e :: es) X.env = (false, eval e X.env) :: starEach es X.env := by rfl) (hpl : (backTo pos (starEach es X.env)).any (·.1) = false := by rfl) : PE X (.Call (.Name x p) (e :: es) [] pos) (tCB r t) := by
  intro pins s σ H Q I h
  refine wpAny_Call_Name_kw (ld_blt I hg hm hv ?_ hn hdb)
  exact PyProof.Rows.callWith_type1 (thn (ha pos pins s σ H _ I h) fun us s1 ⟨vs, H1, I1, r1, q1⟩ => hc pins s1 σ H1 vs us Q I1 r1 q1) he hpl
end
end L2
namespace HT
open PySem PyProof.Rows
/-- t < u of tuples of ints -/
def lexLt : List Int → List Int → Bool
  | [], [] => false
  | [], _ :: _ => true
  | _ :: _, [] => false
  | x :: xs, y :: ys => if x = y then lexLt xs ys else decide (x < y)
theorem rcLt_int (A : Around) (s : Shared) (a : Int) (t : Tok) (c : Int) (u : Tok) (prog : Program) (w : World) (E : Value → Shared → Prop) (Q : Value → Shared → Prop) (h : Q (.bool (decide (a < c))) s) :
    wpAny (model prog w) A (richCompare .Lt (.int a t) (.int c u)) Q E s :=
  (PyProof.Rows.lt_int h : wpAny (model prog w) A (compareOp .Lt (.int a t) (.int c u)) Q E s)
section
open PySem.SeqAt
open PySem.AutoSeq1 (wpAny_loadPart')
open PySem.MeetsSeq PySem.MeetsSeq2 PySem.MeetsSeq3
end
section
variable {prog : Program} {w : World} {A : Around} {E : Value → Shared → Prop} {s : Shared}
/-- t + u, t not empty -/
theorem cat_tup {t b : Addr} {vs ws : List Value} {Q : Value → Shared → Prop} (ht : IsTup s.heap t vs.toArray) (hb : IsTup s.heap b ws.toArray) (hv : vs ≠ [])
    (h1 : ws = [] → Q (.ref t) s) (h2 : ws ≠ [] → Q (.ref s.heap.objs.size) { s with heap := s.heap.push { cls := .type "tuple", data := .seq (vs ++ ws).toArray } })
    (hsz : vs.length + ws.length ≤ sizeLine) : wpAny (model prog w) A (binaryOp .Add (.ref t) (.ref b)) Q E s := by
  obtain ⟨⟨cls, dd, data, sl⟩, ho, hc, n, hd⟩ := id ht
  obtain ⟨⟨cls2, dd2, data2, sl2⟩, ho2, hc2, n2, hd2⟩ := id hb
  simp only at hc hd hc2 hd2
  subst hc hd hc2 hd2
  have e : vs.toArray ++ ws.toArray = (vs ++ ws).toArray := by simp
  by_cases hw : ws = []
  · exact concat_meets ⟨_, ho, rfl⟩ ⟨_, ho2, rfl⟩ noFill_tuple_add seq_tuple_add PySem.F.slot_tuple_add PySem.F.entry_tuple_add (PySem.F.args_tuple_add_2 _ _)
      (tuple_addW1 t b vs.toArray ws.toArray n n2 dd dd2 sl sl2 (by simpa using hv) (by simp [hw])) ⟨ho, ho2, h1 hw⟩
  · refine concat_meets ⟨_, ho, rfl⟩ ⟨_, ho2, rfl⟩ noFill_tuple_add seq_tuple_add PySem.F.slot_tuple_add PySem.F.entry_tuple_add (PySem.F.args_tuple_add_2 _ _)
      (tuple_addW2 t b vs.toArray ws.toArray n n2 dd dd2 sl sl2 (by simpa using hv) (by simpa using hw) (by rw [List.size_toArray, List.size_toArray]; exact hsz)) ⟨ho, ho2, ?_⟩
    rw [e]
    exact h2 hw
/-! ### t[a:b], not the whole -/
/-- a slice's bound as a place among n (d where it is left out) -/
def sIx (n d : Nat) : Option Int → Nat
  | none => d
  | some v => if v < 0 then (v + (n : Int)).toNat else min v.toNat n
end
end HT
namespace L2
open PySem PySem.Spec PyProof.Rows
/-! ### the parts of a slice -/
abbrev TO := St → Hp → (Option Int → Hp → Prop) → Prop
/-- a slice's part (left out, or an int) -/
def PO (X : Cx) (e : Option Expr) (t : TO) : Prop :=
  ∀ (pins : List (Addr × Obj)) (s : Shared) (σ : St) (H : Hp) (Q : Option Int → Hp → Prop), Inv X pins σ H s → t σ H Q →
    wpAny (model X.prog X.w) X.A (evalPart e X.env) (fun u s' => ∃ o H', Inv X pins σ H' s' ∧ IsPart u o ∧ Q o H') X.xe s
def tNoPart : TO := fun _ H Q => Q none H
def tPart (t : TE) : TO := fun σ H Q => t σ H fun x H1 => ∃ i, x = .int i ∧ Q (some i) H1
section
variable {X : Cx} {e : Expr} {te : TE} {lo hi : Option Expr} {tl th : TO} {pos p2 : Pos}
/-- what a slice of a value is, by values: the slice object stands at sl -/
def SlR (X : Cx) (r : V → Option Int → Option Int → Hp → VK → Prop) : Prop :=
  ∀ (pins : List (Addr × Obj)) (s : Shared) (σ : St) (H : Hp) (x : V) (v vl vu : Value) (lo hi : Option Int) (sl : Addr) (Q : VK), Inv X pins σ H s → RelV x v → s.heap.IsSliceOf sl vl vu .none → IsPart vl lo → IsPart vu hi → r x lo hi H Q →
    ∃ T id, typeLookup (.type T) "__getitem__" = pure (some (.builtin id)) ∧ s.TypeIs v T ∧ wpAny (model X.prog X.w) X.A (getItem v (.ref sl)) (EP X pins σ Q) X.xe s
theorem SlR.or {r r' : V → Option Int → Option Int → Hp → VK → Prop} (h : SlR X r) (h' : SlR X r') : SlR X (fun x lo hi H Q => r x lo hi H Q ∨ r' x lo hi H Q) := by
  intro pins s σ H x v vl vu lo hi sl Q I rx hs pl pu q
  rcases q with q | q
  · exact h pins s σ H x v vl vu lo hi sl Q I rx hs pl pu q
  · exact h' pins s σ H x v vl vu lo hi sl Q I rx hs pl pu q
def tSl (r : V → Option Int → Option Int → Hp → VK → Prop) (te : TE) (tl th : TO) : TE := fun σ H Q => te σ H fun x H1 => tl σ H1 fun l H2 => th σ H2 fun u H3 => r x l u H3 Q
/-- the items of xs[lo:hi] -/
def cutV (xs : List V) (lo hi : Option Int) : List V := (xs.drop (HT.sIx xs.length 0 lo)).take (HT.sIx xs.length xs.length hi - HT.sIx xs.length 0 lo)
/-- t[lo:hi], not the whole of it (the whole would be t itself) -/
def rSlT (K : PySem.W.Frag) : V → Option Int → Option Int → Hp → VK → Prop := fun x lo hi H Q => ∃ a xs, x = .ref a ∧ SqT K H a xs ∧
  ¬ (HT.sIx xs.length 0 lo = 0 ∧ HT.sIx xs.length xs.length hi = xs.length) ∧ ∀ p, H p = none → Q (.ref p) (upd H p (.tup (cutV xs lo hi)))
/-! ### t < u, t + u -/
def rLtT (K : PySem.W.Frag) : R2 := fun x y H Q => ∃ a b ns ms, x = .ref a ∧ y = .ref b ∧ SqT K H a (ns.map V.int) ∧ SqT K H b (ms.map V.int) ∧ Q (.bl (HT.lexLt ns ms)) H
/-- t + u, t not empty: u empty gives t itself -/
def rCatT (K : PySem.W.Frag) : R2 := fun x y H Q => ∃ a b xs ys, x = .ref a ∧ y = .ref b ∧ SqT K H a xs ∧ SqT K H b ys ∧ xs ≠ [] ∧ xs.length + ys.length ≤ sizeLine ∧
  (ys = [] → Q (.ref a) H) ∧ (ys ≠ [] → ∀ p, H p = none → Q (.ref p) (upd H p (.tup (xs ++ ys))))
theorem Vals.nil_iff {xs : List V} {us : List Value} (r : Vals xs us) : us = [] ↔ xs = [] := by
  cases r with
  | nil => simp
  | cons _ _ => simp
theorem op_catT : OpR X (binaryOp .Add) (rCatT X.K) := by
  intro pins s σ H x y v u Q I rx ry h
  obtain ⟨a, b, xs, ys, rfl, rfl, ha, hb, hx, hz, q1, q2⟩ := h
  cases rx
  cases ry
  obtain ⟨its, r1, p1, _⟩ := I.tuple ha
  obtain ⟨its2, r2, p2, _⟩ := I.tuple hb
  refine HT.cat_tup p1 p2 (fun z => hx (r1.nil_iff.mp z)) (fun z => ⟨.ref a, H, I, rfl, q1 (r2.nil_iff.mp z)⟩) (fun z => ?_) (by rw [← r1.length, ← r2.length]; exact hz)
  refine ⟨.ref s.heap.objs.size, _, I.laid (t' := s.toks) (o := .tup (xs ++ ys)) (fun b ob q => Heap.get?_push_of_some _ q) (Nat.le_refl _) ?_, rfl, q2 (fun w => z (r2.nil_iff.mpr w)) _ (I.hok.fresh (Nat.le_refl _))⟩
  exact ⟨by rw [List.length_append]; exact hz, _, r1.append r2, IsTup.new _ _⟩
end
end L2
namespace L2
open PySem PySem.Spec PyProof.Rows
/-! ### places -/
/-- the place that an index of any sign means -/
def ixN (n : Nat) (i : Int) : Option Nat := if 0 ≤ i then (if i < n then some i.toNat else none) else if -(n : Int) ≤ i then some (i + n).toNat else none
def atI {α : Type} (xs : List α) (i : Int) : Option α := (ixN xs.length i).bind fun j => xs[j]?
theorem ixN_seq {n : Nat} {i : Int} {j : Nat} (h : ixN n i = some j) : seqIndex? i n = some j ∧ j < n ∧ -(n : Int) ≤ i ∧ i < n := by
  unfold ixN at h
  by_cases h0 : 0 ≤ i
  · rw [if_pos h0] at h
    by_cases h1 : i < n
    · rw [if_pos h1] at h
      have e : i.toNat = j := Option.some.inj h
      exact ⟨by rw [seqIndex_of h0 h1, e], by omega, by omega, h1⟩
    · rw [if_neg h1] at h; cases h
  · rw [if_neg h0] at h
    by_cases h1 : -(n : Int) ≤ i
    · rw [if_pos h1] at h
      have e : (i + n).toNat = j := Option.some.inj h
      exact ⟨by rw [seqIndex_neg (by omega) h1, e], by omega, h1, by omega⟩
    · rw [if_neg h1] at h; cases h
theorem atI_get {α : Type} {xs : List α} {i : Int} {v : α} (h : atI xs i = some v) : ∃ j, seqIndex? i xs.length = some j ∧ xs[j]? = some v ∧ j < xs.length ∧ -(xs.length : Int) ≤ i ∧ i < xs.length := by
  unfold atI at h
  cases e : ixN xs.length i with
  | none => rw [e] at h; cases h
  | some j =>
    rw [e] at h
    obtain ⟨h1, h2, h3, h4⟩ := ixN_seq e
    exact ⟨j, h1, h, h2, h3, h4⟩
theorem atI_nat {α : Type} {xs : List α} {j : Nat} {v : α} (h : xs[j]? = some v) : atI xs (j : Int) = some v := by
  have hj : j < xs.length := (List.getElem?_eq_some_iff.mp h).1
  have e : ixN xs.length (j : Int) = some j := by
    unfold ixN
    rw [if_pos (by omega), if_pos (by omega)]; simp
  unfold atI; rw [e]; exact h
/-! ### what may be subscripted -/
/-- what stands as an index of a plain subscript -/
def PlainIx (b : Expr) : Prop := ∀ o i, subscripted b false o i = operate [o, i] (getItem o i)
/-- a subscript by values -/
def IxR (X : Cx) (r : R2) : Prop :=
  ∀ (value slice : Expr) (pins : List (Addr × Obj)) (s : Shared) (σ : St) (H : Hp) (x y : V) (v u : Value) (Q : VK), Inv X pins σ H s → RelV x v → RelV y u → r x y H Q →
    subscripted slice false v u = operate [v, u] (getItem v u) → wpAny (model X.prog X.w) X.A (subscriptTail value slice v u) (EP X pins σ Q) X.xe s
/-- a call of a builtin's method by values: the receiver, the arguments -/
def MtR (X : Cx) (id : String) (r : V → List V → Hp → VK → Prop) : Prop :=
  ∀ (pins : List (Addr × Obj)) (s : Shared) (σ : St) (H : Hp) (x : V) (xs : List V) (v : Value) (us : List Value) (Q : VK), Inv X pins σ H s → RelV x v → Vals xs us → r x xs H Q →
    wpAny (model X.prog X.w) X.A (call (.builtin id) (v :: us)) (EP X pins σ Q) X.xe s
section
variable {X : Cx} {a b : Expr} {ta tb : TE} {pos : Pos}
theorem IxR.or {r r' : R2} (h : IxR X r) (h' : IxR X r') : IxR X (fun x y H Q => r x y H Q ∨ r' x y H Q) := by
  intro value slice pins s σ H x y v u Q I rx ry q hs
  rcases q with q | q
  · exact h value slice pins s σ H x y v u Q I rx ry q hs
  · exact h' value slice pins s σ H x y v u Q I rx ry q hs
theorem MtR.or {id : String} {r r' : V → List V → Hp → VK → Prop} (h : MtR X id r) (h' : MtR X id r') : MtR X id (fun x xs H Q => r x xs H Q ∨ r' x xs H Q) := by
  intro pins s σ H x xs v us Q I rx rs q
  rcases q with q | q
  · exact h pins s σ H x xs v us Q I rx rs q
  · exact h' pins s σ H x xs v us Q I rx rs q
/-- a[b] -/
theorem pe_ix {r : R2} (hr : IxR X r) (ha : PE X a ta) (hb : PE X b tb) (hs : PlainIx b) : PE X (.Subscript a b pos) (tOp r ta tb) := by
  intro pins s σ H Q I h
  exact Subscript_ (binT ha hb I h fun v u s2 x y H2 I2 rx ry q => hr a b pins s2 σ H2 x y v u Q I2 rx ry q (hs _ _))
def rIxL (K : PySem.W.Frag) : R2 := fun x y H Q => ∃ p xs i v, x = .ref p ∧ y = .int i ∧ SqL K H p xs ∧ atI xs i = some v ∧ Q v H
def rIxT (K : PySem.W.Frag) : R2 := fun x y H Q => ∃ p xs i v, x = .ref p ∧ y = .int i ∧ SqT K H p xs ∧ atI xs i = some v ∧ Q v H
def rIxS : R2 := fun x y H Q => ∃ z i c, x = .str z ∧ y = .int i ∧ z.length ≤ sizeLine ∧ atI z.cps.toList i = some c ∧ Q (.str ⟨#[c]⟩) H
theorem ix_list : IxR X (rIxL X.K) := by
  intro value slice pins s σ H x y v u Q I rx ry h hs
  obtain ⟨p, xs, i, z, rfl, rfl, hq, he, q⟩ := h
  cases rx
  obtain ⟨t, rfl⟩ := ry
  obtain ⟨its, r, pl, hz⟩ := I.list hq
  obtain ⟨j, h1, h2, h3, h4, h5⟩ := atI_get he
  obtain ⟨w, ew, rw'⟩ := r.get h2
  have hl := r.length
  have hn := line63
  have fin : EP X pins σ Q w s := ⟨z, H, I, rw', q⟩
  by_cases h0 : 0 ≤ i
  · have hj : i.toNat = j := by
      rw [seqIndex_of h0 h5] at h1
      exact Option.some.inj h1
    exact item_listR pl.isList h0 (by omega) (by rw [hj]; simpa using ew) fin hs
  · have hj : (i + (its.toArray.size : Int)).toNat = j := by
      rw [seqIndex_neg (by omega) h4] at h1
      rw [List.size_toArray, ← hl]
      exact Option.some.inj h1
    exact subscriptTail_builtinR (x := w) pl.isList.typeIs slot_list_getitem.lookup
      (wpAny_getItem_list_neg (Q := fun r s' => r = w ∧ EP X pins σ Q r s') pl.isList (by omega) (by rw [List.size_toArray] <;> omega) (by omega) (by rw [hj]; simpa using ew) ⟨rfl, fin⟩) hs
theorem ix_tup : IxR X (rIxT X.K) := by
  intro value slice pins s σ H x y v u Q I rx ry h hs
  obtain ⟨p, xs, i, z, rfl, rfl, hq, he, q⟩ := h
  cases rx
  obtain ⟨t, rfl⟩ := ry
  obtain ⟨its, r, pl, hz⟩ := I.tuple hq
  obtain ⟨j, h1, h2, h3, h4, h5⟩ := atI_get he
  obtain ⟨w, ew, rw'⟩ := r.get h2
  have hl := r.length
  have hn := line63
  have fin : EP X pins σ Q w s := ⟨z, H, I, rw', q⟩
  exact subscriptTail_builtinR (x := w) pl.typeIs slot_tuple_getitem.lookup
    (getItem_tuple (j := j) (Q := fun r s' => r = w ∧ EP X pins σ Q r s') pl (by omega) (by omega) (by rw [List.size_toArray, ← hl]; exact h1) (by simpa using ew) ⟨rfl, fin⟩) hs
/-- list, tuple or str -/
def rIx (K : PySem.W.Frag) : R2 := fun x y H Q => rIxL K x y H Q ∨ rIxT K x y H Q ∨ rIxS x y H Q
/-! ### xs[i] = v, any sign -/
/-- the list's object behind a store -/
theorem mapSeq_set (its : List Value) (n j : Nat) (u : Value) : Obj.mapSeq (·.setIfInBounds j u) { cls := .type "list", data := .seq its.toArray n } = { cls := .type "list", data := .seq (its.set j u).toArray n } := by
  simp [Obj.mapSeq]
theorem Inv.lst {pins : List (Addr × Obj)} {σ : St} {H : Hp} {s : Shared} {p : Addr} {xs : List V} (I : Inv X pins σ H s) (h : H p = some (.lst xs)) :
    ∃ (its : List Value) (n : Nat), Vals xs its ∧ s.heap.get? p = some { cls := .type "list", data := .seq its.toArray n } ∧ xs.length ≤ sizeLine := by
  obtain ⟨z, its, n, r, e⟩ := I.hok p _ h
  exact ⟨its, n, r, e, z⟩
/-- the list at p is written by an update of its object -/
theorem Inv.lstUpd {pins : List (Addr × Obj)} {σ : St} {H : Hp} {s : Shared} {p : Addr} {xs ys : List V} {its its' : List Value} {n n' : Nat} {f : Obj → Obj} (I : Inv X pins σ H s) (h : H p = some (.lst xs))
    (ho : s.heap.get? p = some { cls := .type "list", data := .seq its.toArray n }) (hf : f { cls := .type "list", data := .seq its.toArray n } = { cls := .type "list", data := .seq its'.toArray n' }) (r : Vals ys its') (hz : ys.length ≤ sizeLine) (t : Nat) :
    Inv X pins σ (upd H p (.lst ys)) { s with heap := s.heap.update p f, toks := t } := by
  have e : (s.heap.update p f).get? p = some { cls := .type "list", data := .seq its'.toArray n' } := by
    rw [Heap.get?_update_self f ho (by rw [hf] <;> rfl), hf]
  refine I.write (x := p) (e := p) (by rw [h]; trivial) (.inl rfl) (fun b u hb q => (Heap.get?_update_other _ _ (Ne.symm hb)).trans q) ⟨_, e⟩ ?_
  exact ⟨hz, its', n', r, e⟩
def rSetL : V → V → V → Hp → (Hp → Prop) → Prop := fun o i v H Q => ∃ p xs k j, o = .ref p ∧ i = .int k ∧ H p = some (.lst xs) ∧ ixN xs.length k = some j ∧ Q (upd H p (.lst (xs.set j v)))
theorem set_list : PSet X rSetL := by
  intro pins s σ H o i v ov iv u Q I ro ri rv h
  obtain ⟨p, xs, k, j, rfl, rfl, hp, hj, q⟩ := h
  cases ro
  obtain ⟨t, rfl⟩ := ri
  obtain ⟨its, n, r, ho, hz⟩ := I.lst hp
  obtain ⟨h1, h2, h3, h4⟩ := ixN_seq hj
  have hl := r.length
  have hn := line63
  have I' : Inv X pins σ (upd H p (.lst (xs.set j v))) { s with heap := s.heap.update p (Obj.mapSeq (·.setIfInBounds j u)) } :=
    I.lstUpd hp ho (mapSeq_set its n j u) (r.set rv j) (by rw [List.length_set]; exact hz) s.toks
  by_cases h0 : 0 ≤ k
  · have hk : k.toNat = j := by
      rw [seqIndex_of h0 h4] at h1
      exact Option.some.inj h1
    exact PySem.W.ki_setAt ho h0 (by omega) (by rw [List.size_toArray, ← hl]; exact h4) (by rw [hk]; exact ⟨_, I', q⟩)
  · have hk : (k + (its.toArray.size : Int)).toNat = j := by
      rw [seqIndex_neg (by omega) h3] at h1
      rw [List.size_toArray, ← hl]
      exact Option.some.inj h1
    exact PySem.W.ki_setBack ho (by omega) (by rw [List.size_toArray, ← hl]; exact h3) (by omega) (by rw [hk]; exact ⟨_, I', q⟩)
/-! ### slices -/
/-- xs[lo:hi] of a list: a new list -/
def rSlL (K : PySem.W.Frag) : V → Option Int → Option Int → Hp → VK → Prop := fun x lo hi H Q => ∃ a xs, x = .ref a ∧ SqL K H a xs ∧ ∀ p, H p = none → Q (.ref p) (upd H p (.lst (cutV xs lo hi)))
/-! ### in, not in: flat items -/
def flatV : V → Bool
  | .non => true
  | .bl _ => true
  | .int _ => true
  | .str _ => true
  | _ => false
/-- == of flat values -/
def eqV : V → V → Bool
  | .non, .non => true
  | .bl a, .bl b => a == b
  | .bl a, .int b => (if a then 1 else 0) == b
  | .int a, .bl b => a == (if b then 1 else 0)
  | .int a, .int b => a == b
  | .str a, .str b => a == b
  | _, _ => false
/-- the items' answers, read off the values (a value's own answer does not lean on its token) -/
def eqU (x : V) (u : Value) : Bool := match u with
  | .none => eqV .non x
  | .bool b => eqV (.bl b) x
  | .int i _ => eqV (.int i) x
  | .str z _ => eqV (.str z) x
  | _ => false
def inV (x : V) (xs : List V) : Bool := xs.any fun y => eqV y x
/-- x in a list or tuple of flat items -/
def rIn (K : PySem.W.Frag) (neg : Bool) : R2 := fun x y H Q => ∃ p xs, y = .ref p ∧ (SqL K H p xs ∨ SqT K H p xs) ∧ flatV x = true ∧ xs.all flatV = true ∧ Q (.bl (if neg then !inV x xs else inV x xs)) H
/-! ### len, list(x), tuple(x) of any list or tuple that is read -/
theorem CallR.or {f : Value} {r r' : List V → Hp → VK → Prop} (h : CallR X f r) (h' : CallR X f r') : CallR X f (fun xs H Q => r xs H Q ∨ r' xs H Q) := by
  intro pins s σ H xs us Q I rs q
  rcases q with q | q
  · exact h pins s σ H xs us Q I rs q
  · exact h' pins s σ H xs us Q I rs q
/-! ### the call of a builtin's method: o.m(..) -/
/-- the value is of that builtin type -/
def tyV (K : PySem.W.Frag) (T : String) (x : V) (H : Hp) : Prop := match x with
  | .str _ => T = "str"
  | .int _ => T = "int"
  | .ref p => (T = "list" ∧ ∃ xs, SqL K H p xs) ∨ (T = "tuple" ∧ ∃ o, K.lookup p = some o ∧ o.cls = .type "tuple" ∧ o.dict = none) ∨
      (T = "dict" ∧ ((∃ kvs, H p = some (.dK kvs)) ∨ ∃ kvs, H p = some (.dT kvs))) ∨ (T = "set" ∧ ∃ S n, H p = some (.set S n))
  | _ => False
theorem tyV_is {pins : List (Addr × Obj)} {σ : St} {H : Hp} {s : Shared} {T : String} {x : V} {v : Value} (I : Inv X pins σ H s) (r : RelV x v) (ty : tyV X.K T x H) :
    s.TypeIs v T ∧ ∀ a, v = .ref a → ∃ ob, s.heap.get? a = some ob ∧ ob.dict = none := by
  cases x with
  | str z =>
    obtain ⟨t, rfl⟩ := r
    cases (show T = "str" from ty)
    exact ⟨typeIs_str s z t, fun _ e => nomatch e⟩
  | int i =>
    obtain ⟨t, rfl⟩ := r
    cases (show T = "int" from ty)
    exact ⟨typeIs_int s i t, fun _ e => nomatch e⟩
  | ref p =>
    cases r
    rcases ty with ⟨rfl, xs, hq⟩ | ⟨rfl, o, hk, hc, hd⟩ | ⟨rfl, hk⟩ | ⟨rfl, S, n, hk⟩
    · obtain ⟨its, _, pl, _⟩ := I.list hq
      refine ⟨pl.isList.typeIs, fun a e => ?_⟩
      cases e
      obtain ⟨o, n, e, c, hd, _⟩ := pl
      exact ⟨o, e, hd⟩
    · refine ⟨⟨o, I.kIn p o hk, hc⟩, fun a e => ?_⟩
      cases e
      exact ⟨o, I.kIn _ o hk, hd⟩
    · have z : ∃ o, s.heap.get? p = some o ∧ o.ExactDict := by
        rcases hk with ⟨kvs, hk⟩ | ⟨kvs, hk⟩
        · obtain ⟨_, _, _, _, o, _, _, e, ex, _⟩ := I.hok p _ hk
          exact ⟨o, e, ex⟩
        · obtain ⟨_, _, _, _, o, _, _, e, ex, _⟩ := I.hok p _ hk
          exact ⟨o, e, ex⟩
      obtain ⟨o, e, ex⟩ := z
      refine ⟨⟨o, e, ex.1⟩, fun a e2 => ?_⟩
      cases e2
      exact ⟨o, e, ex.2.1⟩
    · obtain ⟨o, _, _, _, e, ex, _⟩ := I.hok p _ hk
      refine ⟨⟨o, e, ex.1⟩, fun a e2 => ?_⟩
      cases e2
      exact ⟨o, e, ex.2.1⟩
  | _ => exact False.elim ty
def tBM0 (K : PySem.W.Frag) (T : String) (r : V → List V → Hp → VK → Prop) (to : TE) : TE := fun σ H Q => to σ H fun x H1 => tyV K T x H1 ∧ r x [] H1 Q
def tBM (K : PySem.W.Frag) (T : String) (r : V → List V → Hp → VK → Prop) (to : TE) (t : TA) : TE := fun σ H Q => to σ H fun x H1 => tyV K T x H1 ∧ t σ H1 fun xs H2 => r x xs H2 Q
variable {o e : Expr} {es : List Expr} {to : TE} {t : TA} {name : Str} {apos cpos : Pos} {T id : String} {r : V → List V → Hp → VK → Prop}
theorem pe_bm0 (pa : PlainAttrs T) (slot : Slot T name id) (hty : typeOf (.builtin id) = pure (.type "method_descriptor")) (hm : MtR X id r) (ho : PE X o to)
    (hbase : attributeBase o name X.env (eval o X.env) = eval o X.env := by rfl) (hline : (apos.endLine == cpos.line) = true := by rfl) : PE X (.Call (.Attribute o name apos) [] [] cpos) (tBM0 X.K T r to) := by
  intro pins s σ H Q I h
  refine wpAny_Call_method0_late hbase hline (thn (ho pins s σ H _ I h) fun v s1 ⟨x, H1, I1, r1, ty, q1⟩ => ?_)
  obtain ⟨h1, h2⟩ := tyV_is I1 r1 ty
  exact ⟨T, id, pa, slot, hty, h1, h2, Calls.callWith_builtin rfl (PySem.evalArgs_none (hm pins s1 σ H1 x [] v [] Q I1 r1 .nil q1))⟩
theorem pe_bm (pa : PlainAttrs T) (slot : Slot T name id) (hty : typeOf (.builtin id) = pure (.type "method_descriptor")) (hm : MtR X id r) (ho : PE X o to) (ha : PA X (e :: es) t)
    (hbase : attributeBase o name X.env (eval o X.env) = eval o X.env := by rfl)
    (hfew : ((backTo cpos (starEach (e :: es) X.env)).all (fun x => !x.1) && (backToKw cpos (keywordEach [] X.env)).all (fun x => x.1.isSome)
      && decide ((e :: es).length + ([] : List Keyword).length + (if ([] : List Keyword).isEmpty then 0 else 1) < 30)) = true := by rfl)
    (hline : (apos.endLine == cpos.line) = true := by rfl) (hs : starEach (e :: es) X.env = (false, eval e X.env) :: starEach es X.env := by rfl) (hplain : (backTo cpos (starEach es X.env)).any (·.1) = false := by rfl) :
    PE X (.Call (.Attribute o name apos) (e :: es) [] cpos) (tBM X.K T r to t) := by
  intro pins s σ H Q I h
  refine wpAny_Call_method_late hbase hfew hline rfl (thn (ho pins s σ H _ I h) fun v s1 ⟨x, H1, I1, r1, ty, q1⟩ => ?_)
  obtain ⟨h1, h2⟩ := tyV_is I1 r1 ty
  refine ⟨T, id, pa, slot, hty, h1, h2, ?_⟩
  have hA := ha cpos pins s1 σ H1 _ I1 q1
  rw [hs] at hA ⊢
  refine Calls.callWith_builtin (by show (false || (backTo cpos (starEach es X.env)).any (·.1)) = false; rw [hplain] <;> rfl) (Calls.evalArgs_plain ?_)
  exact thn hA fun us s2 ⟨vs, H2, I2, r2, q2⟩ => hm pins s2 σ H2 x vs v us Q I2 r1 r2 q2
/- xs.append(e), list.index on a module's tuple .. are MtR facts of 06m -/
end
end L2
namespace L2
open PySem PySem.Spec PyProof.Rows
def MtM (X : Cx) (id : String) (r : V → List V → Hp → VK → Prop) : Prop :=
  ∀ (pins : List (Addr × Obj)) (s : Shared) (σ : St) (H : Hp) (x : V) (xs : List V) (v : Value) (us : List Value) (Q : VK), Inv X pins σ H s → RelV x v → Vals xs us → r x xs H Q →
    wpAny (model X.prog X.w) X.A (call (.builtin id) (v :: us)) (EP X pins σ Q) X.xe s
/-! ### lists of values -/
theorem Vals.one : ∀ {x : V} {us : List Value}, Vals [x] us → ∃ u, us = [u] ∧ RelV x u
  | _, _, .cons r .nil => ⟨_, rfl, r⟩
theorem Vals.two : ∀ {x y : V} {us : List Value}, Vals [x, y] us → ∃ u v, us = [u, v] ∧ RelV x u ∧ RelV y v
  | _, _, _, .cons r (.cons q .nil) => ⟨_, _, rfl, r, q⟩
theorem Vals.zero : ∀ {us : List Value}, Vals [] us → us = []
  | _, .nil => rfl
theorem Vals.dropLast {xs : List V} {us : List Value} (h : Vals xs us) : Vals xs.dropLast us.dropLast := by
  induction h with
  | nil => exact .nil
  | cons r t ih =>
    cases t with
    | nil => exact .nil
    | cons q t' => exact .cons r ih
theorem Vals.eraseIdx : ∀ {xs : List V} {us : List Value} (i : Nat), Vals xs us → Vals (xs.eraseIdx i) (us.eraseIdx i)
  | _, _, _, .nil => .nil
  | _, _, 0, .cons _ t => t
  | _, _, i + 1, .cons r t => .cons r (Vals.eraseIdx i t)
theorem Vals.reverse {xs : List V} {us : List Value} (h : Vals xs us) : Vals xs.reverse us.reverse := by
  induction h with
  | nil => exact .nil
  | cons r t ih => rw [List.reverse_cons, List.reverse_cons]; exact Vals.append ih (.cons r .nil)
theorem Vals.rep {xs : List V} {us : List Value} (h : Vals xs us) : ∀ k : Nat, Vals (List.replicate k xs).flatten (List.replicate k us).flatten
  | 0 => .nil
  | k + 1 => by
    rw [List.replicate_succ, List.replicate_succ, List.flatten_cons, List.flatten_cons]
    exact Vals.append h (Vals.rep h k)
theorem erase_last {α : Type} (l : List α) : l.eraseIdx (l.length - 1) = l.dropLast := by
  induction l with
  | nil => rfl
  | cons a r ih =>
    cases r with
    | nil => rfl
    | cons b r =>
      have e : (a :: b :: r).length - 1 = ((b :: r).length - 1) + 1 := by
        have h1 : (a :: b :: r).length = r.length + 2 := rfl
        have h2 : (b :: r).length = r.length + 1 := rfl
        omega
      rw [e, List.eraseIdx_cons_succ, ih]
      all_goals rfl
theorem len_erase {α : Type} : ∀ (l : List α) (i : Nat), (l.eraseIdx i).length ≤ l.length
  | [], _ => Nat.le_refl _
  | _ :: _, 0 => Nat.le_succ _
  | _ :: r, i + 1 => Nat.succ_le_succ (len_erase r i)
section
variable {X : Cx} {pins : List (Addr × Obj)} {σ : St} {H : Hp} {s : Shared} {l b : Addr} {xs ys zs : List V}
/-! ### the two steps: a tracked list is rewritten, a new list is laid -/
theorem Inv.lset {its its' : List Value} {n : Nat} {f : Array Value → Array Value} {t' : Nat} (I : Inv X pins σ H s) (hH : H l = some (.lst xs))
    (e : s.heap.get? l = some { cls := .type "list", data := .seq its.toArray n }) (hf : f its.toArray = its'.toArray) (hv : Vals ys its') (hz : ys.length ≤ sizeLine) :
    Inv X pins σ (upd H l (.lst ys)) { s with heap := s.heap.update l (Obj.mapSeq f), toks := t' } := by
  have q := PySem.IsL.update e f
  rw [hf] at q
  refine I.write (x := l) (e := l) (by rw [hH]; exact trivial) (.inl rfl) (fun b' u hb hu => (Heap.get?_update_other s.heap (Obj.mapSeq f) (Ne.symm hb)).trans hu) ⟨_, q⟩ ?_
  exact ⟨hz, its', _, hv, q⟩
theorem Inv.lnew {its : List Value} {t' : Nat} (I : Inv X pins σ H s) (hv : Vals ys its) (hz : ys.length ≤ sizeLine) :
    Inv X pins σ (upd H s.heap.objs.size (.lst ys)) { s with heap := s.heap.push { cls := .type "list", data := .seq its.toArray }, toks := t' } :=
  I.laid (fun _ _ q => Heap.get?_push_of_some _ q) (Nat.le_refl _) ⟨hz, its, 0, hv, Heap.get?_push_size _ rfl⟩
theorem Inv.fresh (I : Inv X pins σ H s) : H s.heap.objs.size = none := I.hok.fresh (Nat.le_refl _)
theorem Inv.lstM (I : Inv X pins σ H s) (hH : H l = some (.lst xs)) : xs.length ≤ sizeLine ∧ ∃ (its : List Value) (n : Nat), Vals xs its ∧ xs.length = its.length ∧ s.heap.get? l = some { cls := .type "list", data := .seq its.toArray n } := by
  obtain ⟨z, its, n, r, e⟩ := I.hok l _ hH
  exact ⟨z, its, n, r, r.length, e⟩
theorem notLongL {n : Nat} (h : n ≤ sizeLine) : Builtin.List.listTooLong n = false := by
  unfold Builtin.List.listTooLong
  exact decide_eq_false (by omega)
end
section
variable {X : Cx}
/-! ### methods -/
def rAppend : V → List V → Hp → VK → Prop := fun x vs H Q => ∃ l xs y, x = .ref l ∧ vs = [y] ∧ H l = some (.lst xs) ∧ xs.length < sizeLine ∧ Q .non (upd H l (.lst (xs ++ [y])))
theorem mt_append : MtM X "list.append" rAppend := by
  intro pins s σ H x vs v us Q I rx rv h
  obtain ⟨l, xs, y, rfl, rfl, hH, hz, q⟩ := h
  cases rx
  obtain ⟨u, rfl, ru⟩ := rv.one
  obtain ⟨z, its, n, r, hl, e⟩ := I.lstM hH
  refine call_meets F.slot_list_append ⟨_, e, rfl⟩ F.entry_list_append (F.args_list_append_2 _ _) (PySem.list_append l its.toArray n u (by rw [List.size_toArray]; omega)) ⟨e, ?_⟩
  refine ⟨.non, _, I.lset (its' := its ++ [u]) hH e (by simp) (r.append (.cons ru .nil)) ?_, rfl, q⟩
  rw [List.length_append, List.length_singleton]
  omega
def rExtend : V → List V → Hp → VK → Prop := fun x vs H Q => ∃ l b xs zs, x = .ref l ∧ vs = [.ref b] ∧ H l = some (.lst xs) ∧ H b = some (.lst zs) ∧ xs.length + zs.length ≤ sizeLine ∧ Q .non (upd H l (.lst (xs ++ zs)))
theorem mt_extend : MtM X "list.extend" rExtend := by
  intro pins s σ H x vs v us Q I rx rv h
  obtain ⟨l, b, xs, zs, rfl, rfl, hH, hB, hz, q⟩ := h
  cases rx
  obtain ⟨u, rfl, ru⟩ := rv.one
  cases ru
  obtain ⟨z, its, n, r, hl, e⟩ := I.lstM hH
  obtain ⟨z2, its2, n2, r2, hl2, e2⟩ := I.lstM hB
  have hsz : its.toArray.size + its2.toArray.size ≤ sizeLine := by rw [List.size_toArray, List.size_toArray]; omega
  have hlong : ¬ (!its.toArray.isEmpty && Builtin.List.listTooLong (its.toArray.size + its2.toArray.size)) = true := by
    rw [notLongL hsz, Bool.and_false]
    exact Bool.false_ne_true
  refine call_meets F.slot_list_extend ⟨_, e, rfl⟩ F.entry_list_extend (F.args_list_extend_2 _ _)
    (AutoSeq1.list_extend_list_list_0 l its.toArray n b its2.toArray n2 hlong (by rw [List.size_toArray]; omega) (by omega)) ⟨e, e2, ?_⟩
  refine ⟨.non, _, I.lset (its' := its ++ its2) hH e (by simp) (r.append r2) ?_, rfl, q⟩
  rw [List.length_append]
  omega
def rPop : V → List V → Hp → VK → Prop := fun x vs H Q => ∃ l xs y, x = .ref l ∧ vs = [] ∧ H l = some (.lst xs) ∧ xs[xs.length - 1]? = some y ∧ Q y (upd H l (.lst xs.dropLast))
theorem mt_pop : MtM X "list.pop" rPop := by
  intro pins s σ H x vs v us Q I rx rv h
  obtain ⟨l, xs, y, rfl, rfl, hH, hy, q⟩ := h
  cases rx
  have hus := rv.zero
  subst hus
  obtain ⟨z, its, n, r, hl, e⟩ := I.lstM hH
  obtain ⟨u, hu, ru⟩ := r.get hy
  have hy' : its.toArray[its.toArray.size - 1]? = some u := by
    show its.toArray[its.length - 1]? = some u
    rw [← Array.getElem?_toList, ← hl]
    exact hu
  refine call_meets F.slot_list_pop ⟨_, e, rfl⟩ F.entry_list_pop (F.args_list_pop_1 _) (MeetsSeq.list_pop_last l its.toArray n u hy' (by rw [List.size_toArray]; omega)) ⟨e, ?_⟩
  refine ⟨y, _, I.lset (its' := its.dropLast) hH e ?_ r.dropLast ?_, ru, q⟩
  · show its.toArray.eraseIdxIfInBounds (its.toArray.size - 1) = its.dropLast.toArray
    rw [List.size_toArray, List.eraseIdxIfInBounds_toArray, erase_last]
  · rw [List.length_dropLast]
    omega
def rPopAt : V → List V → Hp → VK → Prop := fun x vs H Q => ∃ l xs i k y, x = .ref l ∧ vs = [.int i] ∧ H l = some (.lst xs) ∧ -(2 ^ 63) ≤ i ∧ i < 2 ^ 63 ∧ seqIndex? i xs.length = some k ∧ xs[k]? = some y ∧ Q y (upd H l (.lst (xs.eraseIdx k)))
theorem mt_popAt : MtM X "list.pop" rPopAt := by
  intro pins s σ H x vs v us Q I rx rv h
  obtain ⟨l, xs, i, k, y, rfl, rfl, hH, h1, h2, hk, hy, q⟩ := h
  cases rx
  obtain ⟨u, rfl, ru⟩ := rv.one
  obtain ⟨t, rfl⟩ := ru
  obtain ⟨z, its, n, r, hl, e⟩ := I.lstM hH
  obtain ⟨w, hw, rw'⟩ := r.get hy
  refine call_meets F.slot_list_pop ⟨_, e, rfl⟩ F.entry_list_pop (F.args_list_pop_2 _ _)
    (MeetsSeq.list_pop_at l its.toArray n i t k w (fitsIndex_both h1 h2) (by rw [List.size_toArray, ← hl]; exact hk) (by rw [← Array.getElem?_toList]; exact hw) (by rw [List.size_toArray]; omega)) ⟨e, ?_⟩
  refine ⟨y, _, I.lset (its' := its.eraseIdx k) hH e ?_ (r.eraseIdx k) ?_, rw', q⟩
  · show its.toArray.eraseIdxIfInBounds k = (its.eraseIdx k).toArray
    rw [List.eraseIdxIfInBounds_toArray]
  · have := len_erase xs k
    omega
def rReverse : V → List V → Hp → VK → Prop := fun x vs H Q => ∃ l xs, x = .ref l ∧ vs = [] ∧ H l = some (.lst xs) ∧ Q .non (upd H l (.lst xs.reverse))
theorem mt_reverse : MtM X "list.reverse" rReverse := by
  intro pins s σ H x vs v us Q I rx rv h
  obtain ⟨l, xs, rfl, rfl, hH, q⟩ := h
  cases rx
  have hus := rv.zero
  subst hus
  obtain ⟨z, its, n, r, hl, e⟩ := I.lstM hH
  refine call_meets F.slot_list_reverse ⟨_, e, rfl⟩ F.entry_list_reverse (F.args_list_reverse_1 _) (AutoSeq1.list_reverse_list_0 l its.toArray n (by rw [List.size_toArray]; omega)) ⟨e, ?_⟩
  refine ⟨.non, _, I.lset (its' := its.reverse) hH e (by simp) r.reverse ?_, rfl, q⟩
  rw [List.length_reverse]
  omega
def rClear : V → List V → Hp → VK → Prop := fun x vs H Q => ∃ l xs, x = .ref l ∧ vs = [] ∧ H l = some (.lst xs) ∧ Q .non (upd H l (.lst []))
/-! ### list + list, list += list, list * int -/
def rCat : R2 := fun x y H Q => ∃ l b xs zs, x = .ref l ∧ y = .ref b ∧ H l = some (.lst xs) ∧ H b = some (.lst zs) ∧ xs.length + zs.length ≤ sizeLine ∧ ∀ p, H p = none → Q (.ref p) (upd H p (.lst (xs ++ zs)))
theorem op_cat : OpR X (binaryOp .Add) rCat := by
  intro pins s σ H x y v u Q I rx ry h
  obtain ⟨l, b, xs, zs, rfl, rfl, hH, hB, hz, q⟩ := h
  cases rx
  cases ry
  obtain ⟨z, its, n, r, hl, e⟩ := I.lstM hH
  obtain ⟨z2, its2, n2, r2, hl2, e2⟩ := I.lstM hB
  refine PySem.P.add_list e e2 ?_ (by rw [List.size_toArray, List.size_toArray]; omega)
  have ea : its.toArray ++ its2.toArray = (its ++ its2).toArray := by simp
  rw [ea]
  exact ⟨.ref _, _, I.lnew (t' := s.toks) (r.append r2) (by rw [List.length_append]; omega), rfl, q _ I.fresh⟩
/-- a list times an int (a negative one is nothing) -/
def rRep : R2 := fun x y H Q => ∃ l k xs, x = .ref l ∧ y = .int k ∧ H l = some (.lst xs) ∧ -(2 ^ 63) ≤ k ∧ k < 2 ^ 63 ∧ xs.length * k.toNat ≤ sizeLine ∧
  ∀ p, H p = none → Q (.ref p) (upd H p (.lst (List.replicate k.toNat xs).flatten))
/-! ### del xs[i] -/
end
/-! ### xs[a:b] = ys -/
section
variable {prog : Program} {w : World} {A : Around} {E : Value → Shared → Prop} {s : Shared}
set_option maxRecDepth 100000 in
end
section
variable {X : Cx}
end
end L2
namespace Att
open PySem PySem.W PySem.Calls PyProof.Rows
/-! ### the script -/
theorem ints_of_wellAll {P : Params} {h : Heap} : ∀ (ns : List Int) (vs : List Value), WellAll P h vs (ns.map WData.int) → IntsAre vs ns := by
  intro ns
  induction ns with
  | nil =>
    intro vs w
    rw [List.map_nil] at w
    cases w
    exact .nil
  | cons n ns ih =>
    intro vs w
    rw [List.map_cons] at w
    cases w with
    | cons a b =>
      cases a
      exact .cons _ _ (ih _ b)
theorem script_of {l : OpenLaw} {n : Nat} (hn : l.most = some n) {P : Params} {h : Heap} {args : List WData} {vals : List Value}
    (hpre : l.row.toRowW.claim.pre args = true) (hwl : WellAll P h vals args) :
    ∃ a vs ns, vals = [Value.ref a] ∧ args = [WData.list (ns.map WData.int)] ∧ h.get? a = some { cls := .type "list", data := .seq vs.toArray } ∧ IntsAre vs ns ∧ ns.length ≤ n := by
  have hsh : WShape.hasAll [] args [.list .int] = true := (pre_splitW hpre).1
  have hc : l.pre.holds [] { args := args } = true := (pre_splitW hpre).2
  obtain ⟨d, r, rfl, h1, h2⟩ := hasAllW_cons hsh
  obtain rfl := hasAllW_nil h2
  obtain ⟨xs, rfl, h3⟩ := hasW_list h1
  obtain ⟨ns, rfl⟩ := items_int h3
  have hlen : ns.length ≤ n := by
    unfold OpenLaw.pre at hc
    have h4 : (WTm.not (.lt (.lit (.int (n : Int))) (.len (.arg 0)))).holds [] { args := [.list (ns.map .int)] } = true := by
      have h4 := (holds_andW hc).1
      rw [hn] at h4
      exact h4
    have h5 := condW_of h4 (w_not (w_lt w_lit (w_len_list (w_arg rfl))))
    rw [List.length_map] at h5
    refine Nat.le_of_not_lt fun q => ?_
    have q' : (n : Int) < ((ns.length : Nat) : Int) := by omega
    first
      | (rw [decide_eq_true q'] at h5; exact absurd h5 (by decide))
      | (simp at h5; omega)
  cases hwl with
  | cons w1 w2 =>
    cases w2
    cases w1 with
    | list ho hall => exact ⟨_, _, ns, rfl, rfl, ho, ints_of_wellAll ns _ hall, hlen⟩
theorem post_true (l : OpenLaw) (args : List WData) : l.row.toRowW.claim.post args (.bool true) args = true :=
  postW_of (r := l.row.toRowW) (X := (true == true))
    (show WShape.has [] (.bool true) .bool = true by first | rfl | decide | simp [WShape.has, WShape.arms, WShape.armsAll])
    (show (WTm.eq .res (.lit (.bool true))).value [] { args := args, res := some (.bool true), after := args } = some (.bool (true == true)) from w_eq_bool (w_res rfl) w_lit) rfl
/-! ### the attachment: holds_open's last premise (the goal 'hc' behind k_head) from a wpAny of the law's body -/
/-- the same from a codeAny of the CALL (for a layer whose function contracts speak of calls) -/
theorem attach_call {l : OpenLaw} {n : Nat} {q : Program} {loose : List Str} {XP : (Str → Option Value) → Heap → Prop} {YP : World → Heap → Prop} {d : DefRec}
    (hn : l.most = some n) (hdf : d.params.defaults = [])
    (call : ∀ (w : World) (s₀ s₁ : Shared) (mg mb : Str → Option Value) (fa : Addr) (o : Obj) (pm cd doc : Value) (a : Addr) (vs : List Value) (ns : List Int),
      Ground q loose [] XP w s₀ mg mb s₁.heap → YP w s₁.heap →
      s₁.heap.get? fa = some o → o.data = .func (docDef d.name d.params d.body d.scope pm cd doc) → s₁.heap.CodeRec cd d.name → mg d.name = some (.ref fa) →
      s₁.heap.get? a = some { cls := .type "list", data := .seq vs.toArray } → IntsAre vs ns → ns.length ≤ n → s₁.gens = #[] →
      codeAny (model l.prog w) callerA (.call (.ref fa) ⟨[.ref a], []⟩) (fun r s' => r = .ok (.ret (.bool true)) ∧ OldK s₁.heap s'.heap ∧ s'.os = s₁.os ∧ AllBare s'.gens) s₁) :
    WalkO q loose XP YP l.row.toRowW d [] (fun f vs => PySem.call f vs) := by
  intro w s₀ s₁ mg mb G Y fa o pm cd doc dV kV ho hd hcd hD hmg hg args vals as hpre hlay hrd hwl hlo
  obtain rfl : dV = .none := Dflts.none hD hdf
  obtain rfl : kV = .none := Dflts.noKw hD
  obtain ⟨a, vs, ns, rfl, rfl, hobj, hints, hlen⟩ := script_of hn hpre hwl
  refine enter_call (codeAny_mono (call w s₀ s₁ mg mb fa o pm cd doc a vs ns G Y ho (fd_plain hd) hcd hmg hobj hints hlen hg) fun r s' hq => ?_)
  obtain ⟨rfl, h2, h3, h4⟩ := hq
  exact ⟨.inl ⟨.bool true, .bool true, [], rfl, fun _ => rfl, .bool true, post_true l _, fun _ => ⟨List.Pairwise.nil, fun _ hm => (nomatch hm)⟩⟩, h2, h3, h4⟩
/-! ### rules over ANY heap (no ledger) from facts about the written part K: the library's own take a ledger (News) for what they write -/
section
variable {prog : Program} {w : World} {A : Around} {E : Value → Shared → Prop} {s : Shared} {K : Frag}
/-! the whole heap as the ledger: makes every rule that writes through a ledger a rule over any heap -/
def noObjs (h : Heap) : Heap := { h with objs := #[] }
def ledger (h : Heap) (L d : Addr) : List (Addr × Obj) := (List.range h.objs.size).filterMap fun a => if a = L ∨ a = d then none else (h.get? a).map fun o => (a, o)
end
end Att
namespace L2
open PySem PySem.Spec PyProof.Rows
theorem vals_ints : ∀ {vs : List Value} {ns : List Int}, IntsAre vs ns → Vals (ns.map V.int) vs
  | _, _, .nil => .nil
  | _, _, .cons n t h => .cons ⟨t, rfl⟩ (vals_ints h)
/-- nothing is tracked but the script, known to the object (or it is an object of the module) -/
def Only (H : Hp) : Prop := ∀ b, H b = none ∨ ∃ o xs, H b = some (.frz o (.lst xs))
/-- THE HEAD: the law's promise, at the heap behind the top. F, the promise of the law's def, may use that base is part of the heap (so K.In base, base.Ns mainGlobals mg stand in Mod) -/
theorem law_call {P : Program} {w : World} {K : PySem.W.Frag} {mg mb : Str → Option Value} {CX : CXT} {k : Nat} {fa a : Addr} {fd : FuncData} {x : Str} {sp : Sp} {s₁ : Shared} {vs : List Value} {ns : List Int}
    (KX : K.In s₁.heap) (hns : s₁.heap.Ns mainGlobals mg) (hb : s₁.heap.Ns builtinsNs mb) (hbb : ∀ x : Str, x ≠ "__name__" → mb x = bootBuiltins x) (hlim : s₁.heap.NoLimit) (hg : s₁.gens = #[])
    (ha : s₁.heap.get? a = some { cls := .type "list", data := .seq vs.toArray }) (hi : IntsAre vs ns) (hl : ns.length ≤ sizeLine) (hr : Room k callerA)
    (F : ∀ base : Heap, K.In base → base.Ns mainGlobals mg → FnOk P w K mg base CX k fa fd [x] sp) (hbind : ∀ (s : Shared) (u : Value), BindsTo s fd ⟨[u], []⟩ [(x, u)])
    (hsp : ∀ H : Hp, Only H → SqL K H a (ns.map V.int) → sp [.ref a] H (fun v _ => v = .bl true) fun _ _ _ => False)
    (hCX : ∀ H e s', CX [] H s₁ (fun _ _ _ => False) e s' → False) :
    codeAny (model P w) callerA (.call (.ref fa) ⟨[.ref a], []⟩) (fun r s' => r = .ok (.ret (.bool true)) ∧ OldK s₁.heap s'.heap ∧ s'.os = s₁.os ∧ AllBare s'.gens) s₁ := by
  have rv := vals_ints hi
  have lenV := hi.length
  -- from an abstract heap in which nothing but the script may be tracked
  have core : ∀ H : Hp, Only H → SqL K H a (ns.map V.int) → HOk P w H s₁.heap → (∀ b, H b ≠ none → b = a) → (H a ≠ none → K.lookup a = none) →
      codeAny (model P w) callerA (.call (.ref fa) ⟨[.ref a], []⟩) (fun r s' => r = .ok (.ret (.bool true)) ∧ OldK s₁.heap s'.heap ∧ s'.os = s₁.os ∧ AllBare s'.gens) s₁ := by
    intro H hO hS hok hA hK
    have base_of : ∀ {b : Addr} {o : Obj}, s₁.heap.get? b = some o → H b = none → (hidT s₁.heap H).get? b = some o := fun e n => hidT_get e n
    have noA : ∀ {b : Addr} {o : Obj} {es : Array DictEntry} {ep : Nat}, s₁.heap.get? b = some o → o.data = .dict es ep → H b = none := fun {b o es ep} e d => by
      cases q : H b with
      | none => rfl
      | some u =>
        have e' : b = a := hA b (by rw [q]; simp)
        subst e'
        rw [ha] at e; cases e
        have d' : Data.seq vs.toArray _ = Data.dict es ep := d
        cases d'
    have nsK : ∀ {b : Addr} {m : Str → Option Value}, s₁.heap.Ns b m → (hidT s₁.heap H).Ns b m := fun {b m} ⟨o, es, ep, e, d, r⟩ => ⟨o, es, ep, base_of e (noA e d), d, r⟩
    have hKb : K.In (hidT s₁.heap H) := fun b o e => base_of (KX b o e) (by
      cases q : H b with
      | none => rfl
      | some u =>
        have e' : b = a := hA b (by rw [q]; simp)
        subst e'
        rw [hK (by rw [q]; simp)] at e; cases e)
    have hM : Mod K mg (hidT s₁.heap H) := ⟨hKb, nsK hns, ⟨mb, nsK hb, hbb⟩, let ⟨mc, h1, h2⟩ := hlim; ⟨mc, nsK h1, h2⟩⟩
    have e0 : Env0 P w K mg (hidT s₁.heap H) callerA [] s₁ H := ⟨rfl, hM, fun b o e => of_hidT e, Nat.le_of_eq (hidT_size _ _), trivial, fun b hb => absurd (show b ∈ ([] : List Addr) from hb) (by simp), hok, .of_eq hg⟩
    refine codeAny_mono ((F _ hKb (nsK hns)).run callerA [] s₁ H ⟨[.ref a], []⟩ [.ref a] [.ref a] _ _ hr e0 (hbind s₁ (.ref a)) (.cons rfl .nil) (hsp H hO hS)) fun r s' h => ?_
    cases r with
    | error e => exact (hCX H e s' h).elim
    | ok fl =>
      cases fl with
      | next => exact False.elim h
      | brk => exact False.elim h
      | cont => exact False.elim h
      | ret u =>
        obtain ⟨v, H', os, bare, un, hok', r', q⟩ := h
        have q' : v = .bl true := q
        subst q'
        obtain rfl : u = Value.bool true := r'
        refine ⟨rfl, OldK.of_keep fun b o e => ?_, os, bare⟩
        cases q : H b with
        | none => exact un.keep b o e q (by intro z; exact absurd (show b ∈ ([] : List Addr) from z) (by simp)) (by simp)
        | some u =>
          rcases hO b with z | ⟨ob, xs, z⟩
          · rw [q] at z; cases z
          · have z2 := un.frzs b ob _ z
            obtain ⟨e1, _⟩ := hok b _ z
            obtain ⟨e2, _⟩ := hok' b _ z2
            rw [e] at e1; cases e1
            exact e2
  cases hk : K.lookup a with
  | some o =>
    -- the script is one of the module's own objects
    have e := KX a o hk
    rw [ha] at e
    cases e
    refine core (fun _ => none) (fun _ => .inl rfl) (.inr ⟨_, vs.toArray, _, hk, rfl, rfl, rfl, by rw [List.size_toArray, lenV]; exact hl, by simpa using rv⟩) (fun b u z => by have z' : (none : Option HO) = some u := z; cases z') (fun b z => absurd rfl z) fun z => absurd rfl z
  | none =>
    refine core (fun b => if b = a then some (.frz { cls := .type "list", data := .seq vs.toArray } (.lst (ns.map V.int))) else none) (fun b => ?_) (.inl (.inr ⟨{ cls := .type "list", data := .seq vs.toArray }, if_pos rfl⟩)) (fun b u z => ?_) (fun b z => ?_) fun _ => hk
    · by_cases hb : b = a
      · exact .inr ⟨_, _, if_pos hb⟩
      · exact .inl (if_neg hb)
    · by_cases hb : b = a
      · have z' := (if_pos hb).symm.trans z
        cases z'
        subst hb
        exact ⟨ha, by rw [List.length_map]; exact hl, vs, _, rv, ha⟩
      · have z' := (if_neg hb).symm.trans z
        cases z'
    · by_cases hb : b = a
      · exact hb
      · exact absurd (if_neg hb) z
end L2
namespace L2
open PySem PySem.Spec PyProof.Rows
abbrev KOf {K : PySem.W.Frag} {h : Heap} (_ : K.In h) : PySem.W.Frag := K
/-- the goal that k_head leaves (case hc), from the law's promise. F gives the function object fd (K's own) once, then the promise over every base -/
theorem walk_of {l : PySem.W.OpenLaw} {n k : Nat} {q : Program} {loose : List Str} {XP : (Str → Option Value) → Heap → Prop} {YP : World → Heap → Prop} {d : DefRec} {K : Params → PySem.W.Frag} {CX : World → CXT} {sp : World → Sp} {x : Str}
    (hn : l.most = some n) (hn2 : n ≤ sizeLine) (hdf : d.params.defaults = []) (hr : Room k callerA)
    (hY : ∀ (w : World) (h : Heap), YP w h → (K w.params).In h)
    (F : ∀ (w : World) (mg : Str → Option Value) (fa : Addr) (h : Heap), (K w.params).In h → h.Ns mainGlobals mg → mg d.name = some (.ref fa) →
      ∃ fd : FuncData, (∀ (s : Shared) (u : Value), BindsTo s fd ⟨[u], []⟩ [(x, u)]) ∧
        ∀ base : Heap, (K w.params).In base → base.Ns mainGlobals mg → FnOk l.prog w (K w.params) mg base (CX w) k fa fd [x] (sp w))
    (hsp : ∀ (w : World) (H : Hp) (a : Addr) (ns : List Int), ns.length ≤ n → Only H → SqL (K w.params) H a (ns.map V.int) → sp w [.ref a] H (fun v _ => v = .bl true) fun _ _ _ => False)
    (hCX : ∀ (w : World) (H : Hp) (s : Shared) (e : Value) (s' : Shared), CX w [] H s (fun _ _ _ => False) e s' → False) :
    PySem.W.WalkO q loose XP YP l.row.toRowW d [] (fun f vs => PySem.call f vs) := by
  refine Att.attach_call hn hdf fun w s₀ s₁ mg mb fa o pm cd doc a vs ns G Y ho hd hcd hmg hobj hints hlen hg => ?_
  have KX := hY w _ Y
  obtain ⟨fd, hb, hF⟩ := F w mg fa _ KX G.T.g hmg
  exact law_call KX G.T.g G.T.b G.T.builtins G.T.nolimit hg hobj hints (Nat.le_trans hlen hn2) hr hF hb (fun H hO hS => hsp w H a ns hlen hO hS) fun H e s' => hCX w H s₁ e s'
end L2
/- THE LAST THEOREM (shape; LID, My.* are yours):
   My.Adr: a structure of the addresses that your layer names (classes, functions); My.Txt K t: a structure (Prop) of the equations over K;
   My.txt_mk : {K} {implicit addresses ..} (e1 : nsIn K mainGlobals "law" = some (some (.ref f))) (e2 : K.lookup f = some ⟨oc, od, .func (fnOf "law" "law" params body scope dV kV doc pm an cdv ct), sl⟩) (e3 : codeIn K cdv "law" = true) .. : ∃ t, My.Txt K t
set_option maxRecDepth 100000 in
set_option maxHeartbeats 0 in
theorem PySem.Challenge.cw_LID_holds : PySem.Challenge.rw_LID.Holds := by
  w_on; o_law; k_head; (case hw => w_witness2)
  k_fill
  refine L2.walk_of (l := PySem.Challenge.rw_LID) (n := 63) (k := 40) (x := "script") (CX := fun w => ..) (sp := fun _ => My.sp_law) rfl (by decide) rfl ⟨rfl, by decide, by decide⟩ (fun w h Y => PySem.W.kIn_of Y) ?F ?S ?C
  case F =>
    intro w mg fa h KX G hmg
    have T : ∃ t, My.Txt (L2.KOf KX) t := by
      dsimp only [L2.KOf]                          -- K must stand as «<heap const> w.params» for k_is
      refine' My.txt_mk ?e1 ?e2 ?e3 ..
      (case e1 => PySem.W.k_is)                    -- in the order: a name -> its address -> its object -> its parts
      (case e2 => PySem.W.k_is)
      ..
    obtain ⟨t, T⟩ := T
    have e0 := hmg.symm.trans (PySem.W.mg_of KX G T.law)
    cases e0                                       -- fa is the law's own address
    exact ⟨_, fun s u => .of_eq rfl, fun base kb nb => My.law_fn T kb nb⟩     -- if «.of_eq rfl» comes too early: refine' ⟨_, ?b, fun base kb nb => My.law_fn T kb nb⟩; exact fun s u => .of_eq rfl
  case S => exact fun w H a ns hl hO hS => ..
  case C => exact ..
(the tactic k_is has no namespace: write k_is) -/
/-! SHORT WORDS over the layer: a def of the text, its body, what a loop and a test want. -/
namespace L2
open PySem PySem.Spec PyProof.Rows
/-! ### the text by places -/
/-- the j-th statement of a class's body -/
def inClass (s : Stmt) (j : Nat) : Stmt := match s with
  | .ClassDef _ _ _ body _ _ _ _ _ _ _ => body.getD j (.Pass ⟨0, 0, 0, 0⟩)
  | _ => .Pass ⟨0, 0, 0, 0⟩
def defArgs (s : Stmt) : Arguments := match s with
  | .FunctionDef _ a _ _ _ _ _ _ _ _ => a
  | _ => { posonlyargs := [], args := [], vararg := none, kwonlyargs := [], kw_defaults := [], kwarg := none, defaults := [] }
def defBody (s : Stmt) : List Stmt := match s with
  | .FunctionDef _ _ b _ _ _ _ _ _ _ => b
  | _ => []
def defScope (s : Stmt) : Scope := match s with
  | .FunctionDef _ _ _ _ _ _ sc _ _ _ => sc
  | _ => { kind := .function, names := [], isGenerator := false, isCoroutine := false }
/-! ### no exception leaves a def -/
abbrev CX0 : CXT := fun _ _ _ _ _ _ => False
abbrev E0 : XK := fun _ _ _ => False
theorem pass0 {X : Cx} : Passes CX0 X E0 := fun _ _ _ _ _ _ _ h => h.elim
/-! ### a def (or method) of the text as it stands behind the top -/
structure Fun (K : PySem.W.Frag) (x qual : Str) (st : Stmt) (f : Addr) (fd : FuncData) : Prop where
  ex : ∃ (oc : Value) (od : Option Addr) (kV doc pm : Value) (an : Option Addr) (cdv ct : Value) (osl : Array (Option Value)),
    fd = PySem.W.fnOf x qual (defArgs st) (defBody st) (defScope st) .none kV doc pm an cdv ct ∧ K.lookup f = some ⟨oc, od, .func fd, osl⟩ ∧ PySem.W.codeIn K cdv qual = true
  kp : PySem.W.keepIn K (.ref f) = true
section
variable {P : Program} {w : World} {K : PySem.W.Frag} {mg : Str → Option Value} {base : Heap}
/-- THE RULE for a def: its body as a term of rules, and the reading of that term -/
theorem Fun.ok {x qual : Str} {st : Stmt} {f : Addr} {fd : FuncData} {N ps : List Str} {k : Nat} {sp : Sp} (F : Fun K x qual st f fd) (S : FnScope N ps (defScope st)) (len : ∀ vs H Q E, sp vs H Q E → vs.length = ps.length)
    (hbody : ∀ (cdv : Value) (A : Around) (outer : List Env) (s : Shared) (H : Hp) (vs : List V) (Q : VK) (E : XK), Room k (A.deeper (envOfC qual (defScope st) s.heap.objs.size f cdv)) → sp vs H Q E →
      ∃ t, PSs (cxOf CX0 P w K mg base N qual (defScope st) f cdv A outer s H E).nox (defBody st) t ∧ t { nx := fun _ H' => Q .non H', rt := Q } (start N vs) H) : FnOk P w K mg base CX0 (k + 1) f fd ps sp := by
  obtain ⟨oc, od, kV, doc, pm, an, cdv, ct, osl, rfl, lk, hcd⟩ := F.ex
  refine fn_of lk hcd S len fun A outer s H vs Q E hr hsp => ?_
  obtain ⟨t, h, q⟩ := hbody cdv A outer s H vs Q E hr hsp
  exact ⟨t, h.nox, q⟩
/-- how its arguments bind (no defaults): h is «fun _ _ _ _ _ _ us hl => match us, hl with | [_, _], _ => rfl», one _ a parameter -/
theorem Fun.binds {x qual : Str} {st : Stmt} {f : Addr} {fd : FuncData} {ps : List Str} (F : Fun K x qual st f fd)
    (h : ∀ (kV doc pm : Value) (an : Option Addr) (cdv ct : Value) (us : List Value), us.length = ps.length → bindArgs (PySem.W.fnOf x qual (defArgs st) (defBody st) (defScope st) .none kV doc pm an cdv ct) ⟨us, []⟩ = pure (ps.zip us)) : Binds K fd ps [] := by
  obtain ⟨oc, od, kV, doc, pm, an, cdv, ct, osl, rfl, lk, hcd⟩ := F.ex
  exact .all (h kV doc pm an cdv ct)
theorem fun_mk {x qual : Str} {st : Stmt} {f : Addr} {oc : Value} {od an : Option Addr} {osl : Array (Option Value)} {kV doc pm cdv ct : Value} (l : K.lookup f = some ⟨oc, od, .func (PySem.W.fnOf x qual (defArgs st) (defBody st) (defScope st) .none kV doc pm an cdv ct), osl⟩)
    (c : PySem.W.codeIn K cdv qual = true) (k : PySem.W.keepIn K (.ref f) = true) : Fun K x qual st f (PySem.W.fnOf x qual (defArgs st) (defBody st) (defScope st) .none kV doc pm an cdv ct) := ⟨⟨oc, od, kV, doc, pm, an, cdv, ct, osl, rfl, l, c⟩, k⟩
end
theorem hu_of {A : Around} {k : Nat} (hr : Room k A) : A.units + 1 < cLine := Nat.lt_of_le_of_lt (Nat.add_le_add_left (by decide : 1 ≤ 64) _) hr.units
theorem small1000 {n : Nat} (h : n ≤ 1000) : n < sizeLine := Nat.lt_of_le_of_lt h (by decide)
/-! ### expressions in short: the name that stands in the i-th slot -/
section
variable {X : Cx}
theorem pv (i : Nat) {x : Str} {pos : Pos} (hN : X.N[i]? = some x := by rfl) (hv : Vis X.env.scope x := by first | exact Or.inl rfl | exact Or.inr (Or.inl rfl) | exact Or.inr (Or.inr rfl)) (hd : (x == ("__debug__" : Str)) = false := by decide)
    (hcd : (x == ("__classdict__" : Str)) = false := by decide) : PE X (.Name x pos) (tVar i) := pe_var hN hv hd hcd
end
/-! ### tests -/
theorem iteF {A B : Prop} (h : B) : if false = true then A else B := by
  rw [if_neg Bool.false_ne_true]
  exact h
theorem iteT {A B : Prop} (h : A) : if true = true then A else B := by
  rw [if_pos rfl]
  exact h
theorem ite2 {c A B : Prop} [Decidable c] (h1 : c → A) (h2 : ¬ c → B) : if c then A else B := by
  by_cases h : c
  · rw [if_pos h]
    exact h1 h
  · rw [if_neg h]
    exact h2 h
theorem iteNS {c A B : Prop} [Decidable c] (hc : c) (h : B) : if (!decide c) = true then A else B := by
  rw [decide_eq_true hc]
  exact iteF h
/-! ### heaps -/
/-- all that was tracked is as it was -/
def Same (H H' : Hp) : Prop := ∀ b o, H b = some o → H' b = some o
theorem Same.refl (H : Hp) : Same H H := fun _ _ h => h
theorem Same.trans {H H1 H2 : Hp} (a : Same H H1) (b : Same H1 H2) : Same H H2 := fun c o h => b c o (a c o h)
theorem Same.free {H H' : Hp} (e : Same H H') {l : Addr} (h : H' l = Option.none) : H l = Option.none := by
  cases q : H l with
  | none => rfl
  | some o =>
    rw [e l o q] at h
    cases h
theorem Same.seq {K : PySem.W.Frag} {H H' : Hp} {a : Addr} {xs : List V} (e : Same H H') (h : SqL K H a xs) : SqL K H' a xs := by
  rcases h with (h | ⟨o, h⟩) | h
  · exact .inl (.inl (e _ _ h))
  · exact .inl (.inr ⟨o, e _ _ h⟩)
  · exact .inr h
end L2
set_option Elab.async false
set_option linter.all false
set_option maxRecDepth 100000
namespace L2
open PySem PySem.Spec PyProof.Rows
/-! ### lists of pairs as tables -/
section
variable {κ : Type} [DecidableEq κ]
def valV (kvs : List (κ × V)) (k : κ) : Option V := (kvs.find? fun kv => decide (kv.1 = k)).map (·.2)
/-- in its place, or at the end -/
def putK (kvs : List (κ × V)) (k : κ) (v : V) : List (κ × V) :=
  if (kvs.any fun kv => decide (kv.1 = k)) = true then kvs.map (fun kv => if kv.1 = k then (kv.1, v) else kv) else kvs ++ [(k, v)]
def dropK (kvs : List (κ × V)) (k : κ) : List (κ × V) := kvs.filter fun kv => decide (kv.1 ≠ k)
theorem valV_pos {p : κ × V} {r : List (κ × V)} {k : κ} (e : p.1 = k) : valV (p :: r) k = some p.2 := by simp [valV, List.find?_cons, e]
theorem valV_neg {p : κ × V} {r : List (κ × V)} {k : κ} (e : ¬ p.1 = k) : valV (p :: r) k = valV r k := by simp [valV, List.find?_cons, e]
theorem valV_any (k : κ) : ∀ kvs : List (κ × V), (kvs.any fun kv => decide (kv.1 = k)) = (valV kvs k).isSome
  | [] => rfl
  | p :: r => by
    rw [List.any_cons]
    by_cases e : p.1 = k
    · simp only [valV_pos e, decide_eq_true e, Bool.true_or, Option.isSome_some]
    · rw [valV_neg e, decide_eq_false e, Bool.false_or]; exact valV_any k r
theorem length_putK (kvs : List (κ × V)) (k : κ) (v : V) : (putK kvs k v).length ≤ kvs.length + 1 := by
  unfold putK
  split
  · rw [List.length_map]; omega
  · rw [List.length_append, List.length_cons, List.length_nil]; omega
theorem putK_new {kvs : List (κ × V)} {k : κ} (v : V) (h : valV kvs k = none) : putK kvs k v = kvs ++ [(k, v)] := by
  unfold putK
  rw [valV_any, h]
  exact if_neg (by decide)
theorem RelO.isSome_eq {o : Option V} {u : Option Value} (r : RelO o u) : o.isSome = u.isSome := by
  cases o with
  | none => cases u with
    | none => rfl
    | some _ => exact (show False from r).elim
  | some _ => cases u with
    | none => exact (show False from r).elim
    | some _ => rfl
theorem RelO.getD {o : Option V} {u : Option Value} {d : V} {d' : Value} (r : RelO o u) (rd : RelV d d') : RelV (o.getD d) (u.getD d') := by
  cases o with
  | none => cases u with
    | none => exact rd
    | some _ => exact (show False from r).elim
  | some _ => cases u with
    | none => exact (show False from r).elim
    | some _ => exact r
/-- raw tables of the same keys -/
theorem KV.val {kvs : List (κ × V)} {vs : List (κ × Value)} (r : KV kvs vs) (k : κ) : RelO (valV kvs k) (valueAt vs k) := by
  unfold KV at r
  induction r with
  | nil => exact True.intro
  | @cons p q ps qs h t ih =>
    obtain ⟨h1, h2⟩ := h
    by_cases e : p.1 = k
    · have e' : q.1 = k := h1.symm.trans e
      have b : valueAt (q :: qs) k = some q.2 := by simp [valueAt, List.find?_cons, e']
      rw [valV_pos e, b]; exact h2
    · have e' : ¬ q.1 = k := fun z => e (h1.trans z)
      have b : valueAt (q :: qs) k = valueAt qs k := by simp [valueAt, List.find?_cons, e']
      rw [valV_neg e, b]; exact ih
theorem KV.any {kvs : List (κ × V)} {vs : List (κ × Value)} (r : KV kvs vs) (k : κ) : (kvs.any fun kv => decide (kv.1 = k)) = vs.any fun kv => decide (kv.1 = k) := by
  unfold KV at r
  induction r with
  | nil => rfl
  | cons h t ih => rw [List.any_cons, List.any_cons, ih, h.1]
theorem KV.repl {kvs : List (κ × V)} {vs : List (κ × Value)} (r : KV kvs vs) (k : κ) {y : V} {u : Value} (ry : RelV y u) :
    KV (kvs.map fun kv => if kv.1 = k then (kv.1, y) else kv) (vs.map fun kv => if kv.1 = k then (kv.1, u) else kv) := by
  unfold KV at r ⊢
  induction r with
  | nil => exact .nil
  | @cons p q ps qs h t ih =>
    rw [List.map_cons, List.map_cons]
    refine .cons ?_ ih
    obtain ⟨h1, h2⟩ := h
    by_cases e : p.1 = k
    · rw [if_pos e, if_pos (h1.symm.trans e)]; exact ⟨h1, ry⟩
    · rw [if_neg e, if_neg (fun z => e (h1.trans z))]; exact ⟨h1, h2⟩
theorem KV.put {kvs : List (κ × V)} {vs : List (κ × Value)} (r : KV kvs vs) (k : κ) {y : V} {u : Value} (ry : RelV y u) : KV (putK kvs k y) (stored vs k u) := by
  unfold putK stored
  rw [r.any k]
  by_cases e : (vs.any fun kv => decide (kv.1 = k)) = true
  · rw [if_pos e, if_pos e]; exact r.repl k ry
  · rw [if_neg e, if_neg e]; exact Paired.snoc r ⟨rfl, ry⟩
theorem KV.drop {kvs : List (κ × V)} {vs : List (κ × Value)} (r : KV kvs vs) (k : κ) : KV (dropK kvs k) (without vs k) := by
  unfold KV at r ⊢
  unfold dropK without
  induction r with
  | nil => exact .nil
  | @cons p q ps qs h t ih =>
    obtain ⟨h1, h2⟩ := h
    rw [List.filter_cons, List.filter_cons]
    by_cases e : p.1 = k
    · have a : ¬ decide (p.1 ≠ k) = true := by simp [e]
      have b : ¬ decide (q.1 ≠ k) = true := by simp [h1.symm.trans e]
      rw [if_neg a, if_neg b]; exact ih
    · have e' : ¬ q.1 = k := fun z => e (h1.trans z)
      have a : decide (p.1 ≠ k) = true := by simp [e]
      have b : decide (q.1 ≠ k) = true := by simp [e']
      rw [if_pos a, if_pos b]; exact .cons ⟨h1, h2⟩ ih
theorem KV.keys {kvs : List (κ × V)} {vs : List (κ × Value)} (r : KV kvs vs) : kvs.map (·.1) = vs.map (·.1) := by
  unfold KV at r
  induction r with
  | nil => rfl
  | cons h t ih => rw [List.map_cons, List.map_cons, ih, h.1]
theorem KV.length {kvs : List (κ × V)} {vs : List (κ × Value)} (r : KV kvs vs) : kvs.length = vs.length := Paired.length r
theorem dropK_le (kvs : List (κ × V)) (k : κ) : (dropK kvs k).length ≤ kvs.length := List.length_filter_le _ _
end
/-! ### a tracked dict, its keys ints and texts or tuples of these -/
theorem kV_is {P : Program} {w : World} {k : Key} {u : Value} (r : RelV (kV k) u) : (mixKind P w).is k u = true := by
  cases k with
  | inl i => obtain ⟨t, e⟩ := (show ∃ t, u = Value.int i t from r); subst e; exact mixKind_int P w i t
  | inr x => obtain ⟨t, e⟩ := (show ∃ t, u = Value.str x t from r); subst e; exact mixKind_str P w x t
theorem items_are {P : Program} {w : World} : ∀ {ks : List Key} {us : List Value}, Vals (ks.map kV) us → ItemsAre (mixKind P w) ks us
  | [], _, r => by rw [List.map_nil] at r; cases r; exact .nil
  | k :: ks, _, r => by
    rw [List.map_cons] at r
    cases r with
    | cons h t => exact .cons (kV_is h) (items_are t)
/-- raw entries of a dict with tuple keys -/
abbrev KT (H : Hp) : List (List Key × V) → List (List Key × Addr × Value) → Prop := Paired fun p q => p.1 = q.1 ∧ H q.2.1 = some (.tup (p.1.map kV)) ∧ RelV p.2 q.2.2
theorem KT.val {H : Hp} {kvs : List (List Key × V)} {xs : List (List Key × Addr × Value)} (r : KT H kvs xs) (k : List Key) : RelO (valV kvs k) ((atKey xs k).map (·.2)) := by
  induction r with
  | nil => exact True.intro
  | @cons p q ps qs h t ih =>
    obtain ⟨h1, _, h2⟩ := h
    by_cases e : p.1 = k
    · have e' : q.1 = k := h1.symm.trans e
      have b : atKey (q :: qs) k = some q.2 := by simp [atKey, List.find?_cons, e']
      rw [valV_pos e, b]; exact h2
    · have e' : ¬ q.1 = k := fun z => e (h1.trans z)
      have b : atKey (q :: qs) k = atKey qs k := by simp [atKey, List.find?_cons, e']
      rw [valV_neg e, b]; exact ih
theorem KT.repl {H : Hp} {kvs : List (List Key × V)} {xs : List (List Key × Addr × Value)} (r : KT H kvs xs) (k : List Key) {y : V} {u : Value} (ry : RelV y u) :
    KT H (kvs.map fun kv => if kv.1 = k then (kv.1, y) else kv) (xs.map (putAt k u)) := by
  induction r with
  | nil => exact .nil
  | @cons p q ps qs h t ih =>
    rw [List.map_cons, List.map_cons]
    refine .cons ?_ ih
    obtain ⟨h1, h2, h3⟩ := h
    unfold putAt
    by_cases e : p.1 = k
    · rw [if_pos e, if_pos (h1.symm.trans e)]; exact ⟨h1, h2, ry⟩
    · rw [if_neg e, if_neg (fun z => e (h1.trans z))]; exact ⟨h1, h2, h3⟩
theorem KT.put {H : Hp} {kvs : List (List Key × V)} {xs : List (List Key × Addr × Value)} (r : KT H kvs xs) (k : List Key) {b : Addr} {y : V} {u : Value} (hb : H b = some (.tup (k.map kV))) (ry : RelV y u) :
    KT H (putK kvs k y) (storedH xs k b u) := by
  have e : (kvs.any fun kv => decide (kv.1 = k)) = (atKey xs k).isSome := by
    rw [valV_any, (r.val k).isSome_eq, Option.isSome_map]
  unfold putK storedH
  rw [e]
  by_cases q : (atKey xs k).isSome = true
  · rw [if_pos q, if_pos q]; exact r.repl k ry
  · rw [if_neg q, if_neg q]; exact Paired.snoc r ⟨rfl, hb, ry⟩
theorem KT.keeps {H H' : Hp} {kvs : List (List Key × V)} {xs : List (List Key × Addr × Value)} (r : KT H kvs xs) (ht : ∀ b ys, H b = some (.tup ys) → H' b = some (.tup ys)) : KT H' kvs xs :=
  Paired.mapP r fun _ _ z => ⟨z.1, ht _ _ z.2.1, z.2.2⟩
section
variable {P : Program} {w : World} {H : Hp} {h : Heap} {a : Addr}
theorem rd_of {u : HO} (ok : HOk P w H h) (e : Rd H a u) : ObjOk P w H h a u := e.ok ok
theorem dk_rd {kvs : List (Key × V)} (ok : HOk P w H h) (e : Rd H a (.dK kvs)) : kvs.length ≤ sizeLine ∧ (a == sysModules) = false ∧ ∃ vs, KV kvs vs ∧ h.DictOf (mixKind P w) a vs :=
  show ObjOk P w H h a (.dK kvs) from rd_of ok e
theorem dk_of {kvs : List (Key × V)} (ok : HOk P w H h) (e : H a = some (.dK kvs)) : kvs.length ≤ sizeLine ∧ (a == sysModules) = false ∧ ∃ vs, KV kvs vs ∧ h.DictOf (mixKind P w) a vs := dk_rd ok (.inl e)
/-- a tracked tuple of ints and texts is a key -/
theorem key_of {ks : List Key} (ok : HOk P w H h) (e : H a = some (.tup (ks.map kV))) : (tupleKind (mixKind P w)).is h ks a := by
  obtain ⟨_, its, r, o, h1, h2, n, h3⟩ := (show ObjOk P w H h a (.tup (ks.map kV)) from ok a _ e)
  exact ⟨o, its.toArray, n, h1, h2, h3, by simpa using items_are r⟩
theorem dt_rd {kvs : List (List Key × V)} (ok : HOk P w H h) (e : Rd H a (.dT kvs)) : kvs.length ≤ sizeLine ∧ (a == sysModules) = false ∧
    ∃ xs, KT H kvs xs ∧ h.DictOfH (tupleKind (mixKind P w)) a xs := by
  obtain ⟨z, y, xs, r, o, es, ep, h1, h2, h3, h4, h5⟩ := (show ObjOk P w H h a (.dT kvs) from rd_of ok e)
  refine ⟨z, y, xs, r, o, es, ep, h1, h2, h3, h4, fun x hx => ?_, h5⟩
  have all : ∀ {l : List (List Key × V)} {m : List (List Key × Addr × Value)}, KT H l m → ∀ x ∈ m, (tupleKind (mixKind P w)).is h x.1 x.2.1 := by
    intro l m q
    induction q with
    | nil => intro x hx; exact nomatch hx
    | @cons p q ps qs hq t ih =>
      intro x hx
      rcases List.mem_cons.mp hx with e | hx
      · subst e
        exact key_of ok (by rw [← hq.1]; exact hq.2.1)
      · exact ih x hx
  exact all r x hx
theorem dt_of {kvs : List (List Key × V)} (ok : HOk P w H h) (e : H a = some (.dT kvs)) : kvs.length ≤ sizeLine ∧ (a == sysModules) = false ∧
    ∃ xs, KT H kvs xs ∧ h.DictOfH (tupleKind (mixKind P w)) a xs := dt_rd ok (.inl e)
end
/-- what the dict at a holds at the key y -/
def DGet (H : Hp) (a : Addr) (y : V) (r : Option V) : Prop :=
  (∃ kvs k, Rd H a (.dK kvs) ∧ y = kV k ∧ r = valV kvs k) ∨ ∃ kvs k b, Rd H a (.dT kvs) ∧ y = .ref b ∧ H b = some (.tup (k.map kV)) ∧ r = valV kvs k
/-- the heap behind a[y] = v -/
def DPut (H : Hp) (a : Addr) (y v : V) (H' : Hp) : Prop :=
  (∃ kvs k, H a = some (.dK kvs) ∧ y = kV k ∧ kvs.length < sizeLine ∧ H' = upd H a (.dK (putK kvs k v))) ∨
  ∃ kvs k b, H a = some (.dT kvs) ∧ y = .ref b ∧ H b = some (.tup (k.map kV)) ∧ kvs.length < sizeLine ∧ H' = upd H a (.dT (putK kvs k v))
theorem DGet.k {H : Hp} {a : Addr} {kvs : List (Key × V)} {k : Key} (e : H a = some (.dK kvs)) : DGet H a (kV k) (valV kvs k) := .inl ⟨kvs, k, .inl e, rfl, rfl⟩
theorem DGet.t {H : Hp} {a b : Addr} {kvs : List (List Key × V)} {k : List Key} (e : H a = some (.dT kvs)) (eb : H b = some (.tup (k.map kV))) : DGet H a (.ref b) (valV kvs k) := .inr ⟨kvs, k, b, .inl e, rfl, eb, rfl⟩
theorem DPut.k {H : Hp} {a : Addr} {kvs : List (Key × V)} {k : Key} {v : V} (e : H a = some (.dK kvs)) (hl : kvs.length < sizeLine) : DPut H a (kV k) v (upd H a (.dK (putK kvs k v))) := .inl ⟨kvs, k, e, rfl, hl, rfl⟩
theorem DPut.t {H : Hp} {a b : Addr} {kvs : List (List Key × V)} {k : List Key} {v : V} (e : H a = some (.dT kvs)) (eb : H b = some (.tup (k.map kV))) (hl : kvs.length < sizeLine) :
    DPut H a (.ref b) v (upd H a (.dT (putK kvs k v))) := .inr ⟨kvs, k, b, e, rfl, eb, hl, rfl⟩
section
variable {X : Cx} {pins : List (Addr × Obj)} {σ : St} {H : Hp} {s : Shared} {a : Addr} {y v : V} {u r : Value} {o : Option V} {A : Around} {E : Value → Shared → Prop}
theorem Inv.big (I : Inv X pins σ H s) : sysModules < s.heap.objs.size := by
  have h : mainGlobals < s.heap.objs.size := (I.mod.glob.keeps I.bk).lt
  exact Nat.lt_trans (by decide) h
/-- d[y], there -/
theorem d_getItem {Q : Value → Shared → Prop} (hu : A.units + 1 < cLine) (I : Inv X pins σ H s) (g : DGet H a y (some v)) (ry : RelV y u) (h : ∀ w' s', Inv X pins σ H s' → RelV v w' → Q w' s') :
    wpAny (model X.prog X.w) A (getItem (.ref a) u) Q E s := by
  rcases g with ⟨kvs, k, e, ey, l⟩ | ⟨kvs, k, b, e, ey, eb, l⟩
  · subst ey
    obtain ⟨z, hd, vs, rel, dd⟩ := dk_rd I.hok e
    obtain ⟨w', hw, rw'⟩ := RelO.some_of (v := v) (o := valueAt vs k) (by rw [l]; exact rel.val k)
    exact wpAny_getItem_of (kV_is ry) dd.mapOf hw (h w' _ (I.tok _) rw')
  · subst ey
    cases (show u = Value.ref b from ry)
    obtain ⟨z, hd, xs, rel, dd⟩ := dt_rd I.hok e
    obtain ⟨w', hw, rw'⟩ := RelO.some_of (v := v) (o := (atKey xs k).map (·.2)) (by rw [l]; exact rel.val k)
    obtain ⟨p, hp, hp2⟩ := Option.map_eq_some_iff.mp hw
    refine wpAny_getItem_heap (tupleKind_room_in1 hu) (key_of I.hok eb) dd hp ?_
    rw [hp2]
    exact h w' _ (I.tok _) rw'
/-- a dict's object is replaced -/
theorem d_write {h' : Heap} {t' : Nat} {ob : HO} (I : Inv X pins σ H s) (mu : Mut (H a)) (hs : Heap.SameBut a s.heap h') (he : ∃ q, h'.get? a = some q) (new : ObjOk X.prog X.w (upd H a ob) h' a ob) :
    Inv X pins σ (upd H a ob) { s with heap := h', toks := t' } :=
  I.write (x := a) (e := a) mu (.inl rfl) (fun b q hb z => (hs.2 b hb).trans z) he new
theorem dk_new {P : Program} {w : World} {H' : Hp} {h' : Heap} {kvs : List (Key × V)} {vs : List (Key × Value)} (z : kvs.length ≤ sizeLine) (hd : (a == sysModules) = false) (rel : KV kvs vs) (dd : h'.DictOf (mixKind P w) a vs) :
    ObjOk P w H' h' a (.dK kvs) := ⟨z, hd, vs, rel, dd⟩
/-- d[y] = v -/
theorem d_setItem {H' : Hp} {Q : Unit → Shared → Prop} (hu : A.units + 1 < cLine) (I : Inv X pins σ H s) (g : DPut H a y v H') (ry : RelV y u) (rv : RelV v r) (h : ∀ s', Inv X pins σ H' s' → Q () s') :
    wpAny (model X.prog X.w) A (setItem (.ref a) u r) Q E s := by
  rcases g with ⟨kvs, k, e, ey, l, eH⟩ | ⟨kvs, k, b, e, ey, eb, l, eH⟩
  · subst ey eH
    obtain ⟨z, hd, vs, rel, dd⟩ := dk_of I.hok e
    have hz : vs.length ≤ sizeLine := by rw [← rel.length]; exact z
    have hl : (putK kvs k v).length ≤ sizeLine := by have := length_putK kvs k v; omega
    refine wpAny_setItem_pairs (hsz := hz) (kV_is ry) dd fun h' dd' hs => h _ ?_
    have he : ∃ q, h'.get? a = some q := let ⟨q, _, _, hq, _⟩ := dd'; ⟨q, hq⟩
    exact d_write I (by rw [e]; exact True.intro) hs he (dk_new hl hd (rel.put k rv) dd')
  · subst ey eH
    cases (show u = Value.ref b from ry)
    obtain ⟨z, hd, xs, rel, dd⟩ := dt_of I.hok e
    have hz : xs.length ≤ sizeLine := by rw [← Paired.length rel]; exact z
    have hl : (putK kvs k v).length ≤ sizeLine := by have := length_putK kvs k v; omega
    refine wpAny_setItem_heap (hsz := hz) (tupleKind_room_in1 hu) (key_of I.hok eb) dd fun h' dd' hs => h _ ?_
    obtain ⟨q, es, ep, hq, h2, h3, h4, _, h5⟩ := dd'
    refine d_write I (by rw [e]; exact True.intro) hs ⟨q, hq⟩ ⟨hl, hd, _, (rel.put k eb rv).keeps fun c ys ec => ?_, q, es, ep, hq, h2, h3, h4, h5⟩
    rw [upd_ne (ne_of ec e (fun z => nomatch z))]
    exact ec
end
section
variable {X : Cx} {pins : List (Addr × Obj)} {σ : St} {H : Hp} {s : Shared} {a : Addr} {kvs : List (Key × V)} {k : Key} {u : Value} {A : Around} {E : Value → Shared → Prop}
/-- d.pop(k[, x]), there -/
theorem d_pop {v : V} {more : List Value} {Q : Value → Shared → Prop} (I : Inv X pins σ H s) (e : H a = some (.dK kvs)) (ry : RelV (kV k) u) (l : valV kvs k = some v) (hm : more = [] ∨ ∃ x, more = [x])
    (h : ∀ w' s', Inv X pins σ (upd H a (.dK (dropK kvs k))) s' → RelV v w' → Q w' s') : wpAny (model X.prog X.w) A (call (.builtin "dict.pop") (.ref a :: u :: more)) Q E s := by
  obtain ⟨z, hd, vs, rel, dd⟩ := dk_of I.hok e
  obtain ⟨w', hw, rw'⟩ := RelO.some_of (v := v) (o := valueAt vs k) (by rw [← l]; exact rel.val k)
  have hp : (keyPart u).isSome = true := by
    cases k with
    | inl i => obtain ⟨t, q⟩ := (show ∃ t, u = Value.int i t from ry); subst q; rfl
    | inr x => obtain ⟨t, q⟩ := (show ∃ t, u = Value.str x t from ry); subst q; rfl
  have ha : argsOk "dict.pop" ⟨.ref a :: u :: more, []⟩ := by
    rcases hm with q | ⟨x, q⟩
    · subst q; exact PySem.F.args_dict_pop_2 _ _
    · subst q; exact PySem.F.args_dict_pop_3 _ _ _
  refine call_meetsIn PySem.F.slot_dict_pop dd.typeIs PySem.F.entry_dict_pop ha (meets_dict_pop_there (mixKind X.prog X.w) a (kV_is ry) more hm hp)
    ⟨vs, w', dd, by rw [← rel.length]; exact z, hw, fun h' dd' hs => h w' _ ?_ rw'⟩
  have he : ∃ q, h'.get? a = some q := let ⟨q, _, _, hq, _⟩ := dd'; ⟨q, hq⟩
  exact d_write I (by rw [e]; exact True.intro) hs he (dk_new (Nat.le_trans (dropK_le kvs k) z) hd (rel.drop k) dd')
/-- len(d) -/
theorem d_len {Q : Value → Shared → Prop} (I : Inv X pins σ H s) (e : Rd H a (.dK kvs)) (h : ∀ t s', Inv X pins σ H s' → Q (.int kvs.length t) s') : wpAny (model X.prog X.w) A (call (.builtin "len") [.ref a]) Q E s := by
  obtain ⟨z, hd, vs, rel, dd⟩ := dk_rd I.hok e
  refine call_len_dict hd dd (by rw [← rel.length]; rw [sizeLine_eq] at z; omega) ?_
  rw [← rel.length]
  exact h _ _ (I.tok _)
end
/-! ### readings and rules -/
/-- the element of a subscription, not a slice -/
def NoSl (i : Expr) : Prop := ∀ ov iv, subscripted i false ov iv = operate [ov, iv] (getItem ov iv)
theorem subD_of {prog : Program} {w : World} {A : Around} {E : Value → Shared → Prop} {s : Shared} {env : Env} {value slice : Expr} {pos : Pos} {T id : String} {Q : Value → Shared → Prop}
    (hl : typeLookup (.type T) "__getitem__" = pure (some (.builtin id))) (hs : NoSl slice)
    (h : wpAny (model prog w) A (eval value env) (fun o s₁ => wpAny (model prog w) A (eval slice env) (fun i s₂ => s₂.TypeIs o T ∧ wpAny (model prog w) A (getItem o i) Q E s₂) E s₁) E s) :
    wpAny (model prog w) A (eval (.Subscript value slice pos) env) Q E s := by
  refine Subscript_ (wpAny_mono h (fun o s₁ h₁ => wpAny_mono h₁ (fun i s₂ h₂ => ?_) fun _ _ x => x) fun _ _ x => x)
  obtain ⟨hT, h₂⟩ := h₂
  unfold subscriptTail
  refine wpAny_bind ?_
  rw [getitemInPython_of_ne hT.not_modules]
  refine wpAny_bind (wpAny_specialOf hT hl ?_)
  have fin : wpAny (model prog w) A (subscripted slice false o i) (fun r s₃ => wpAny (model prog w) A (letTemporaryGo value o r >>= fun _ => pure r) Q E s₃) E s₂ := by
    rw [hs o i]
    exact wpAny_operating (wpAny_mono h₂ (fun r s₃ h₃ => wpAny_bind (wpAny_letTemporaryGo (wpAny_pure h₃))) fun _ _ x => x)
  first
    | exact wpAny_pure (wpAny_bind fin)
    | exact wpAny_bind (wpAny_pure (wpAny_bind fin))
    | exact wpAny_bind fin
theorem dict_typeIs {X : Cx} {pins : List (Addr × Obj)} {σ : St} {H : Hp} {s : Shared} {a : Addr} {y : V} {o : Option V} (I : Inv X pins σ H s) (g : DGet H a y o) : s.TypeIs (.ref a) "dict" := by
  rcases g with ⟨kvs, k, e, _, _⟩ | ⟨kvs, k, b, e, _, _, _⟩
  · obtain ⟨_, _, vs, _, dd⟩ := dk_rd I.hok e
    exact dd.typeIs
  · obtain ⟨_, _, xs, _, dd⟩ := dt_rd I.hok e
    exact dd.typeIs
/-- d[y] -/
def tDGet (td ty : TE) : TE := fun σ H Q => td σ H fun x H1 => ty σ H1 fun y H2 => ∃ a v, x = .ref a ∧ DGet H2 a y (some v) ∧ Q v H2
/-- y in d, y not in d -/
def tDIn (ty td : TE) : TE := fun σ H Q => ty σ H fun y H1 => td σ H1 fun x H2 => ∃ a o, x = .ref a ∧ DGet H2 a y o ∧ Q (.bl o.isSome) H2
def tDNotIn (ty td : TE) : TE := fun σ H Q => ty σ H fun y H1 => td σ H1 fun x H2 => ∃ a o, x = .ref a ∧ DGet H2 a y o ∧ Q (.bl (!o.isSome)) H2
/-- d[y] = v -/
def sDPut (td ty tv : TE) : TS := fun D σ H => tv σ H fun v H1 => td σ H1 fun x H2 => ty σ H2 fun y H3 => ∃ a H4, x = .ref a ∧ DPut H3 a y v H4 ∧ D.nx σ H4
/-- d[y] op= v -/
def sDAug (td ty tv : TE) (rd : V → V → Hp → VK → Prop) : TS := fun D σ H => td σ H fun x H1 => ty σ H1 fun y H2 => ∃ a v, x = .ref a ∧ DGet H2 a y (some v) ∧
  tv σ H2 fun y2 H3 => rd v y2 H3 fun z H4 => ∃ H5, DPut H4 a y z H5 ∧ D.nx σ H5
/-- del d[y] -/
def sDDel (td ty : TE) : TS := fun D σ H => td σ H fun x H1 => ty σ H1 fun y H2 => ∃ a kvs k, x = .ref a ∧ H2 a = some (.dK kvs) ∧ y = kV k ∧ (valV kvs k).isSome = true ∧ D.nx σ (upd H2 a (.dK (dropK kvs k)))
section
variable {X : Cx} {o i e value : Expr} {pos pos' tpos : Pos} {td ty tv : TE}
theorem pe_dget (hu : X.A.units + 1 < cLine) (ho : PE X o td) (hi : PE X i ty) (hs : NoSl i) : PE X (.Subscript o i pos) (tDGet td ty) := by
  intro pins s σ H Q I h
  refine subD_of PySem.F.slot_dict_getitem.lookup hs (thn (ho pins s σ H _ I h) fun u s1 ⟨x, H1, I1, rx, q1⟩ => thn (hi pins s1 σ H1 _ I1 q1) fun iv s2 ⟨y, H2, I2, ry, a, v, ex, g, q2⟩ => ?_)
  subst ex
  obtain rfl : u = Value.ref a := rx
  exact ⟨dict_typeIs I2 g, d_getItem hu I2 g ry fun w' s3 I3 rw' => ⟨v, H2, I3, rw', q2⟩⟩
theorem ps_dput (hu : X.A.units + 1 < cLine) (ho : PE X o td) (hi : PE X i ty) (hv : PE X value tv) (hs : swapsWith value (some (.Subscript o i pos')) pos.line X.env = pure false) :
    PS X (.Assign [.Subscript o i pos'] value pos) (sDPut td ty tv) := by
  intro pins s σ H D I h
  refine wpAny_Assign_Subscript (thn (hv pins s σ H _ I h) fun r s1 ⟨v, H1, I1, rv, q1⟩ => thn (ho pins s1 σ H1 _ I1 q1) fun u s2 ⟨x, H2, I2, rx, q2⟩ => thn (hi pins s2 σ H2 _ I2 q2) fun iv s3 ⟨y, H3, I3, ry, a, H4, ex, g, q3⟩ => ?_) hs
  subst ex
  obtain rfl : u = Value.ref a := rx
  exact d_setItem hu I3 g ry rv fun s4 I4 => ⟨σ, H4, I4, q3⟩
end
/-! ### displays -/
theorem dk_empty {P : Program} {w : World} {H : Hp} (h : Heap) (hb : sysModules < h.objs.size) : ObjOk P w H (h.push { cls := .type "dict", data := .dict #[] }) h.objs.size (.dK []) :=
  ⟨Nat.zero_le _, beq_eq_false_iff_ne.mpr (Ne.symm (Nat.ne_of_lt hb)), [], .nil, Heap.DictOf.new h⟩
/-- {}, to be a dict of the kind that is wanted -/
def tDNewK : TE := fun _ H Q => ∀ p, H p = none → Q (.ref p) (upd H p (.dK []))
def tDNewT : TE := fun _ H Q => ∀ p, H p = none → Q (.ref p) (upd H p (.dT []))
section
variable {X : Cx} {pos : Pos}
theorem pe_dnewK : PE X (.Dict [] [] pos) tDNewK := fun pins s σ H Q I h =>
  wpAny_Dict_empty ⟨.ref s.heap.objs.size, _, I.laid (a := s.heap.objs.size) (o := .dK []) (t' := s.toks) (fun _ _ q => Heap.get?_push_of_some _ q) (Nat.le_refl _) (dk_empty s.heap I.big), rfl, h _ (I.hok.fresh (Nat.le_refl _))⟩
end
/-- the pairs of a display, from the left -/
def tPairs : List (TE × TE) → St → Hp → (List (V × V) → Hp → Prop) → Prop
  | [], _, H, Q => Q [] H
  | (tk, tv) :: r, σ, H, Q => tk σ H fun x H1 => tv σ H1 fun y H2 => tPairs r σ H2 fun ps H3 => Q ((x, y) :: ps) H3
abbrev VV : List (V × V) → List (Value × Value) → Prop := Paired fun p q => RelV p.1 q.1 ∧ RelV p.2 q.2
def PPs (X : Cx) (pos : Pos) (keys : List (Option Expr)) (values : List Expr) (trs : List (TE × TE)) : Prop :=
  ∀ (pins : List (Addr × Obj)) (s : Shared) (σ : St) (H : Hp) (Q : List (V × V) → Hp → Prop), Inv X pins σ H s → tPairs trs σ H Q →
    wpAny (model X.prog X.w) X.A (evalPairs (pairTrees keys values X.env pos)) (fun vs s' => ∃ ps H', Inv X pins σ H' s' ∧ VV ps vs ∧ Q ps H') X.xe s
theorem pps_nil {X : Cx} {pos : Pos} : PPs X pos [] [] [] := fun pins s σ H Q I h => pairTrees_nil_walk ⟨[], H, I, .nil, h⟩
theorem pps_cons {X : Cx} {pos : Pos} {k v : Expr} {ks : List (Option Expr)} {vs : List Expr} {tk tv : TE} {trs : List (TE × TE)} (hk : PE X k tk) (hv : PE X v tv) (hr : PPs X pos ks vs trs) :
    PPs X pos (some k :: ks) (v :: vs) ((tk, tv) :: trs) := fun pins s σ H Q I h =>
  pairTrees_cons_walk (thn (hk pins s σ H _ I h) fun u s1 ⟨x, H1, I1, rx, q1⟩ => thn (hv pins s1 σ H1 _ I1 q1) fun w2 s2 ⟨y, H2, I2, ry, q2⟩ =>
    thn (hr pins s2 σ H2 _ I2 q2) fun ws s3 ⟨ps, H3, I3, rel, q3⟩ => ⟨(x, y) :: ps, H3, I3, .cons ⟨rx, ry⟩ rel, q3⟩)
def mergeK (kvs more : List (Key × V)) : List (Key × V) := more.foldl (fun acc kv => putK acc kv.1 kv.2) kvs
theorem KV.merge : ∀ {more : List (Key × V)} {rs : List (Key × Value)} {kvs : List (Key × V)} {vs : List (Key × Value)}, KV more rs → KV kvs vs → KV (mergeK kvs more) (merged vs rs) := by
  intro more rs kvs vs r
  unfold KV at r
  induction r generalizing kvs vs with
  | nil => intro q; exact q
  | @cons p q ps qs h t ih =>
    intro r0
    have e : KV (putK kvs p.1 p.2) (stored vs q.1 q.2) := by
      have := r0.put p.1 h.2
      rw [← h.1]; exact this
    exact ih e
theorem length_mergeK : ∀ (more kvs : List (Key × V)), (mergeK kvs more).length ≤ kvs.length + more.length
  | [], kvs => by show kvs.length ≤ kvs.length + 0; omega
  | p :: r, kvs => by
    have h1 := length_mergeK r (putK kvs p.1 p.2)
    have h2 := length_putK kvs p.1 p.2
    show (mergeK (putK kvs p.1 p.2) r).length ≤ _
    rw [List.length_cons]; omega
theorem carries_of {P : Program} {w : World} : ∀ {kvs : List (Key × V)} {ws : List (Value × Value)}, VV (kvs.map fun kv => (kV kv.1, kv.2)) ws → ∃ rs, Carries (mixKind P w) ws rs ∧ KV kvs rs
  | [], _, r => by rw [List.map_nil] at r; cases r; exact ⟨[], True.intro, .nil⟩
  | p :: kvs, _, r => by
    rw [List.map_cons] at r
    cases r with
    | @cons a b as bs h t =>
      obtain ⟨rs, c, q⟩ := carries_of (P := P) (w := w) t
      obtain ⟨b1, b2⟩ := b
      exact ⟨(p.1, b2) :: rs, ⟨kV_is h.1, rfl, c⟩, .cons ⟨rfl, h.2⟩ q⟩
/-- {k: v, ..} with keys ints and texts; the new dict stands empty while the pairs are made -/
def tDisp (trs : List (TE × TE)) : TE := fun σ H Q => ∀ p, H p = none → tPairs trs σ (upd H p (.dK [])) fun ps H2 => H2 p = some (.dK []) ∧ ∃ kvs : List (Key × V), ps = kvs.map (fun kv => (kV kv.1, kv.2)) ∧ kvs.length ≤ 15 ∧ Q (.ref p) (upd H2 p (.dK (mergeK [] kvs)))
theorem pe_disp {X : Cx} {pos : Pos} {keys : List (Option Expr)} {values : List Expr} {trs : List (TE × TE)} (h : PPs X pos keys values trs) (hall : keys.all (·.isSome) = true) (hl : keys.length = values.length) (h0 : keys ≠ [])
    (h15 : keys.length ≤ 15) : PE X (.Dict keys values pos) (tDisp trs) := by
  intro pins s σ H Q I q
  have hn := I.hok.fresh (Nat.le_refl s.heap.objs.size)
  have I1 := I.laid (a := s.heap.objs.size) (o := .dK []) (h' := s.heap.push { cls := .type "dict", data := .dict #[] }) (t' := s.toks) (fun _ _ q => Heap.get?_push_of_some _ q) (Nat.le_refl _) (dk_empty s.heap I.big)
  refine wpAny_Dict_walk (knd := mixKind X.prog X.w) hall hl h0 h15 (thn (h pins _ σ _ _ I1 (q _ hn)) fun ws s2 ⟨ps, H2, I2, rel, e, kvs, ep, lk, q2⟩ => ?_)
  subst ep
  obtain ⟨rs, c, rk⟩ := carries_of (P := X.prog) (w := X.w) rel
  obtain ⟨z, hd, vs0, r0, dd⟩ := dk_of I2.hok e
  cases r0
  refine ⟨rs, c, dd, fun h' dd' hs => ⟨.ref s.heap.objs.size, _, ?_, rfl, q2⟩⟩
  have hz : (mergeK [] kvs).length ≤ sizeLine := by
    have h1 := length_mergeK kvs []
    rw [List.length_nil] at h1
    rw [sizeLine_eq]; omega
  have he : ∃ q, h'.get? s.heap.objs.size = some q := let ⟨q, _, _, hq, _⟩ := dd'; ⟨q, hq⟩
  exact d_write I2 (by rw [e]; exact True.intro) hs he (dk_new hz hd (rk.merge .nil) dd')
/-! ### methods -/
/-- a method call o.m(e) of a built-in, with one argument: what must be seen of the text -/
structure M1 (X : Cx) (o : Expr) (m : Str) (apos : Pos) (e : Expr) (cpos : Pos) : Prop where
  base : attributeBase o m X.env (eval o X.env) = eval o X.env
  few : ((backTo cpos (starEach [e] X.env)).all (fun x => !x.1) && (backToKw cpos (keywordEach [] X.env)).all (fun x => x.1.isSome)
    && decide (([e] : List Expr).length + ([] : List Keyword).length + (if ([] : List Keyword).isEmpty then 0 else 1) < 30)) = true
  line : (apos.endLine == cpos.line) = true
  trees : backTo cpos (starEach [e] X.env) = [(false, eval e X.env)]
structure M2 (X : Cx) (o : Expr) (m : Str) (apos : Pos) (e f : Expr) (cpos : Pos) : Prop where
  base : attributeBase o m X.env (eval o X.env) = eval o X.env
  few : ((backTo cpos (starEach [e, f] X.env)).all (fun x => !x.1) && (backToKw cpos (keywordEach [] X.env)).all (fun x => x.1.isSome)
    && decide (([e, f] : List Expr).length + ([] : List Keyword).length + (if ([] : List Keyword).isEmpty then 0 else 1) < 30)) = true
  line : (apos.endLine == cpos.line) = true
  trees : backTo cpos (starEach [e, f] X.env) = [(false, eval e X.env), (false, eval f X.env)]
/-- a is a dict, whatever its keys -/
def IsD (H : Hp) (a : Addr) : Prop := (∃ kvs, Rd H a (.dK kvs)) ∨ ∃ kvs, Rd H a (.dT kvs)
theorem isD_at {X : Cx} {pins : List (Addr × Obj)} {σ : St} {H : Hp} {s : Shared} {a : Addr} (I : Inv X pins σ H s) (d : IsD H a) :
    s.TypeIs (.ref a) "dict" ∧ (∀ b, Value.ref a = .ref b → ∃ ob, s.heap.get? b = some ob ∧ ob.dict = none) ∧ (a == sysModules) = false := by
  rcases d with ⟨kvs, e⟩ | ⟨kvs, e⟩
  · obtain ⟨_, hd, vs, _, dd⟩ := dk_rd I.hok e
    refine ⟨dd.typeIs, fun b q => ?_, hd⟩
    cases q
    obtain ⟨ob, _, _, h1, h2, _⟩ := dd
    exact ⟨ob, h1, h2.2.1⟩
  · obtain ⟨_, hd, xs, _, dd⟩ := dt_rd I.hok e
    refine ⟨dd.typeIs, fun b q => ?_, hd⟩
    cases q
    obtain ⟨ob, _, _, h1, h2, _⟩ := dd
    exact ⟨ob, h1, h2.2.1⟩
section
variable {X : Cx} {pins : List (Addr × Obj)} {σ : St} {H : Hp} {s : Shared} {a : Addr} {y d : V} {u r : Value} {o : Option V} {A : Around} {E : Value → Shared → Prop}
end
def tDGet1 (td ty : TE) : TE := fun σ H Q => td σ H fun x H1 => ∃ a, x = .ref a ∧ IsD H1 a ∧ ty σ H1 fun y H2 => ∃ o, DGet H2 a y o ∧ Q (o.getD .non) H2
def tDGet2 (td ty tx : TE) : TE := fun σ H Q => td σ H fun x H1 => ∃ a, x = .ref a ∧ IsD H1 a ∧ ty σ H1 fun y H2 => tx σ H2 fun z H3 => ∃ o, DGet H3 a y o ∧ Q (o.getD z) H3
/-- d.pop(k): there; d.pop(k, x): there or not -/
def tDPop1 (td ty : TE) : TE := fun σ H Q => td σ H fun x H1 => ∃ a, x = .ref a ∧ IsD H1 a ∧ ty σ H1 fun y H2 => ∃ kvs k v, H2 a = some (.dK kvs) ∧ y = kV k ∧ valV kvs k = some v ∧ Q v (upd H2 a (.dK (dropK kvs k)))
def tDPop2 (td ty tx : TE) : TE := fun σ H Q => td σ H fun x H1 => ∃ a, x = .ref a ∧ IsD H1 a ∧ ty σ H1 fun y H2 => tx σ H2 fun z H3 => ∃ kvs k, H3 a = some (.dK kvs) ∧ y = kV k ∧
  (∀ v, valV kvs k = some v → Q v (upd H3 a (.dK (dropK kvs k)))) ∧ (valV kvs k = none → Q z H3)
section
variable {X : Cx} {o e f : Expr} {apos cpos : Pos} {td ty tx : TE}
theorem pe_dpop1 (ho : PE X o td) (he : PE X e ty) (m : M1 X o "pop" apos e cpos) : PE X (.Call (.Attribute o "pop" apos) [e] [] cpos) (tDPop1 td ty) := by
  intro pins s σ H Q I h
  refine wpAny_Call_method m.base m.few m.line PySem.F.plainAttrs_dict PySem.F.slot_dict_pop PySem.F.type_dict_pop (thn (ho pins s σ H _ I h) fun u s1 ⟨x, H1, I1, rx, a, ex, d, q1⟩ => ?_)
  subst ex
  obtain rfl : u = Value.ref a := rx
  obtain ⟨t1, t2, _⟩ := isD_at I1 d
  refine ⟨t1, t2, ?_⟩
  rw [m.trees]
  refine Calls.callWith_builtin rfl (Calls.evalArgs_plain (Calls.spliced_cons (thn (he pins s1 σ H1 _ I1 q1) fun iv s2 ⟨y, H2, I2, ry, kvs, k, v, ea, ey, l, q2⟩ => Calls.spliced_nil ?_)))
  subst ey
  exact d_pop I2 ea ry l (.inl rfl) fun w' s3 I3 rw' => ⟨v, _, I3, rw', q2⟩
end
/-! ### dict(d): a copy -/
section
variable {X : Cx} {pins : List (Addr × Obj)} {σ : St} {H : Hp} {s : Shared} {a : Addr} {kvs : List (Key × V)} {A : Around} {E : Value → Shared → Prop}
end
section
variable {X : Cx} {pins : List (Addr × Obj)} {σ : St} {H : Hp} {s : Shared} {a : Addr} {y : V} {u : Value} {A : Around} {E : Value → Shared → Prop}
end
end L2
namespace L2
open PySem PySem.Spec PyProof.Rows
section
variable {X : Cx}
/-- len of a dict -/
theorem call_lenD : CallR X (.builtin "len") (fun xs H Q => ∃ a kvs, xs = [V.ref a] ∧ H a = some (.dK kvs) ∧ Q (.int kvs.length) H) := by
  intro pins s σ H xs us Q I r h
  obtain ⟨a, kvs, rfl, ha, q⟩ := h
  obtain ⟨u, rfl, ru⟩ := vals1 r
  cases ru
  exact d_len I (.inl ha) fun t s' I' => ⟨.int kvs.length, H, I', ⟨t, rfl⟩, q⟩
end
end L2
namespace L2
open PySem PySem.Spec PyProof.Rows
/-! ### a dict's pairs: keys that differ -/
section
variable {κ : Type} [DecidableEq κ]
theorem valV_in {kvs : List (κ × V)} {k : κ} {v : V} (h : valV kvs k = some v) : k ∈ kvs.map (·.1) := by
  have q : (kvs.any fun kv => decide (kv.1 = k)) = true := by
    rw [valV_any, h]
    all_goals rfl
  obtain ⟨p, hp, e⟩ := List.any_eq_true.mp q
  exact List.mem_map.mpr ⟨p, hp, of_decide_eq_true e⟩
theorem nd_snoc : ∀ {l : List κ} {k : κ}, l.Nodup → ¬ k ∈ l → (l ++ [k]).Nodup
  | [], k, _, _ => by simp
  | a :: r, k, h, hk => by
    obtain ⟨h1, h2⟩ := List.nodup_cons.mp h
    show (a :: (r ++ [k])).Nodup
    refine List.nodup_cons.mpr ⟨fun m => ?_, nd_snoc h2 fun m => hk (List.mem_cons.mpr (Or.inr m))⟩
    rcases List.mem_append.mp m with q | q
    · exact h1 q
    · exact hk (List.mem_cons.mpr (Or.inl (List.mem_singleton.mp q).symm))
theorem dropK_pos {p : κ × V} {r : List (κ × V)} {k : κ} (e : p.1 = k) : dropK (p :: r) k = dropK r k := by
  unfold dropK
  rw [List.filter_cons, if_neg (by simp [e])]
theorem dropK_neg {p : κ × V} {r : List (κ × V)} {k : κ} (e : ¬ p.1 = k) : dropK (p :: r) k = p :: dropK r k := by
  unfold dropK
  rw [List.filter_cons, if_pos (by simp [e])]
end
end L2
set_option Elab.async false
set_option linter.all false
set_option maxRecDepth 100000
set_option maxHeartbeats 4000000
/-! A list comprehension of one clause, no test: a rule over the hand layer. -/
namespace Rg
open PySem PySem.Spec PyProof.Rows L2
theorem forIn_pure {α β : Type} {f : α → β → Sem (ForInStep β)} (g : α → β → β) :
    ∀ (l : List α) (b : β), (∀ x ∈ l, ∀ c, f x c = pure (ForInStep.yield (g x c))) → forIn l b f = pure (l.foldl (fun c x => g x c) b)
  | [], b, _ => by rw [List.forIn_nil]; rfl
  | x :: r, b, h => by
    rw [List.forIn_cons, h x List.mem_cons_self b, pure_bind]
    show forIn r (g x b) f = _
    rw [forIn_pure g r (g x b) fun y hy c => h y (List.mem_cons_of_mem _ hy) c]
    rfl
/-- the cells that a block closes over -/
def clStep (cells : List (Str × Addr)) (c : List (Str × Addr)) (p : Str × NameKind) : List (Str × Addr) :=
  if (p.2 == NameKind.free) = true then (p.1, (cells.lookup p.1).getD 0) :: c else c
def clOf (cells : List (Str × Addr)) (names : List (Str × NameKind)) : List (Str × Addr) := names.foldl (clStep cells) []
theorem clos_is {scope : Scope} {env : Env} (h : ∀ p ∈ scope.names, p.2 = .free → ∃ c, env.cells.lookup p.1 = some c) :
    closureFor scope env = pure (clOf env.cells scope.names) := by
  unfold closureFor clOf
  dsimp only
  rw [forIn_pure (fun p c => clStep env.cells c p) scope.names [] (fun p hp c => ?_)]
  · rw [pure_bind]
  · obtain ⟨n, k⟩ := p
    unfold clStep
    by_cases hk : k = NameKind.free
    · subst hk
      obtain ⟨a, ha⟩ := h _ hp rfl
      have e : cellOf env n = pure a := by unfold cellOf; rw [ha]
      have hb : (NameKind.free == NameKind.free) = true := by decide
      simp only [hb, if_true, e, pure_bind, ha, Option.getD_some]
    · have hb : (k == NameKind.free) = false := by
        cases k <;> first | rfl | exact absurd rfl hk
      simp only [hb, Bool.false_eq_true, if_false]
theorem kind_free {k : NameKind} (h : (k == NameKind.free) = true) : k = .free := by
  cases k <;> first | rfl | cases h
theorem cl_sub {cells : List (Str × Addr)} : ∀ (names : List (Str × NameKind)) (acc : List (Str × Addr)), (∀ p ∈ names, p.2 = .free → ∃ c, cells.lookup p.1 = some c) →
    (∀ y c, acc.lookup y = some c → cells.lookup y = some c) → ∀ y c, (names.foldl (clStep cells) acc).lookup y = some c → cells.lookup y = some c
  | [], _, _, ha, y, c, h => ha y c h
  | p :: r, acc, hn, ha, y, c, h => by
    refine cl_sub r (clStep cells acc p) (fun q hq => hn q (List.mem_cons_of_mem _ hq)) (fun z d hz => ?_) y c h
    unfold clStep at hz
    by_cases hk : (p.2 == NameKind.free) = true
    · rw [if_pos hk] at hz
      obtain ⟨a, e⟩ := hn p List.mem_cons_self (kind_free hk)
      rw [List.lookup_cons] at hz
      cases hb : z == p.1 with
      | true =>
        rw [hb] at hz
        have ez : z = p.1 := eq_of_beq hb
        rw [e] at hz
        subst ez
        rw [e]
        exact hz
      | false => rw [hb] at hz; exact ha z d hz
    · rw [if_neg hk] at hz
      exact ha z d hz
theorem cl_has {cells : List (Str × Addr)} {y : Str} : ∀ (names : List (Str × NameKind)) (acc : List (Str × Addr)), ((y, NameKind.free) ∈ names ∨ (acc.lookup y).isSome = true) → ((names.foldl (clStep cells) acc).lookup y).isSome = true
  | [], _, h => by
    rcases h with h | h
    · exact absurd h (by simp)
    · exact h
  | p :: r, acc, h => by
    refine cl_has r (clStep cells acc p) ?_
    have key : (acc.lookup y).isSome = true → ((clStep cells acc p).lookup y).isSome = true := fun ha => by
      unfold clStep
      split
      · rw [List.lookup_cons]
        cases hb : y == p.1 with
        | true => rfl
        | false => exact ha
      · exact ha
    rcases h with h | h
    · rcases List.mem_cons.mp h with e | h
      · refine .inr ?_
        rw [← e]
        unfold clStep
        rw [if_pos (show (NameKind.free == NameKind.free) = true by decide), List.lookup_cons]
        simp
      · exact .inl h
    · exact .inr (key h)
/-- what a name's kind becomes in the block -/
theorem look_relabel {env : Env} {k : NameKind} {y : Str} : ∀ {names : List (Str × NameKind)}, names.lookup y = some k →
    (names.map fun (n, k) => if (k == NameKind.free && env.scope.kind == .function && env.kindOf n == some .cell) then (n, NameKind.cell) else (n, k)).lookup y
      = some (if (k == NameKind.free && env.scope.kind == .function && env.kindOf y == some .cell) = true then NameKind.cell else k)
  | [], h => by simp at h
  | (n, j) :: r, h => by
    rw [List.lookup_cons] at h
    rw [List.map_cons]
    cases hb : y == n with
    | true =>
      rw [hb] at h
      have e : y = n := eq_of_beq hb
      subst e
      have ej : j = k := Option.some.inj h
      subst ej
      by_cases hc : (j == NameKind.free && env.scope.kind == .function && env.kindOf y == some .cell) = true
      · simp only [hc, if_true, List.lookup_cons, hb]
      · simp only [hc, List.lookup_cons, hb, if_false, Bool.false_eq_true]
    | false =>
      rw [hb] at h
      have ih := look_relabel (env := env) (names := r) h
      by_cases hc : (j == NameKind.free && env.scope.kind == .function && env.kindOf n == some .cell) = true
      · simp only [hc, if_true, List.lookup_cons, hb]; exact ih
      · simp only [hc, List.lookup_cons, hb, if_false, Bool.false_eq_true]; exact ih
theorem none_relabel {env : Env} {y : Str} : ∀ {names : List (Str × NameKind)}, names.lookup y = none →
    (names.map fun (n, k) => if (k == NameKind.free && env.scope.kind == .function && env.kindOf n == some .cell) then (n, NameKind.cell) else (n, k)).lookup y = none
  | [], _ => rfl
  | (n, j) :: r, h => by
    rw [List.lookup_cons] at h
    rw [List.map_cons]
    cases hb : y == n with
    | true => rw [hb] at h; cases h
    | false =>
      rw [hb] at h
      have ih := none_relabel (env := env) (names := r) h
      by_cases hc : (j == NameKind.free && env.scope.kind == .function && env.kindOf n == some .cell) = true
      · simp only [hc, if_true, List.lookup_cons, hb]; exact ih
      · simp only [hc, List.lookup_cons, hb, if_false, Bool.false_eq_true]; exact ih
theorem relabel_free {scope : Scope} {env : Env} {y : Str} (h : scope.names.lookup y = some .free) : (relabel scope env).names.lookup y = some .cell ∨ (relabel scope env).names.lookup y = some .free := by
  have q := look_relabel (env := env) h
  unfold relabel
  by_cases hc : (NameKind.free == NameKind.free && env.scope.kind == .function && env.kindOf y == some .cell) = true
  · exact .inl (q.trans (by rw [if_pos hc]))
  · exact .inr (q.trans (by rw [if_neg hc]))
theorem free_relabel {scope : Scope} {env : Env} {y : Str} (hn : ∀ z ∈ scope.names, z.2 ≠ .cell) (h : (relabel scope env).names.lookup y = some .cell ∨ (relabel scope env).names.lookup y = some .free) : scope.names.lookup y = some .free := by
  unfold relabel at h
  cases e : scope.names.lookup y with
  | none =>
    have q := none_relabel (env := env) e
    rcases h with h | h
    · exact absurd (q.symm.trans h) (by simp)
    · exact absurd (q.symm.trans h) (by simp)
  | some k =>
    have q := look_relabel (env := env) e
    have hk : k ≠ .cell := hn _ (PySem.mem_of_lookup e)
    by_cases hc : (k == NameKind.free && env.scope.kind == .function && env.kindOf y == some .cell) = true
    · have : (k == NameKind.free) = true := by
        rw [Bool.and_eq_true, Bool.and_eq_true] at hc
        exact hc.1.1
      rw [kind_free this]
    · rw [if_neg hc] at q
      rcases h with h | h
      · exact absurd (Option.some.inj (q.symm.trans h)) hk
      · rw [Option.some.inj (q.symm.trans h)]
/-- the block's names: the loop's, then those of the def that it closes over (with their slots there) -/
def blkN (x : Str) (fr : List (Str × Nat)) : List Str := x :: fr.map (·.1)
def blkS (v : Option V) (fr : List (Str × Nat)) (σ : L2.St) : L2.St := v :: fr.map fun p => (σ[p.2]?).getD none
def blk (X : Cx) (x : Str) (fr : List (Str × Nat)) (scope : Scope) (fp : List Addr) (C : Addr) (s : Shared) (H : Hp) : Cx where
  prog := X.prog
  w := X.w
  K := X.K
  mg := X.mg
  base := X.base
  A := X.A
  N := blkN x fr
  s₀ := s
  H₀ := H
  env := compEnvC scope (clOf X.env.cells scope.names) C X.env
  outer := X.stack
  stack := X.stack
  ex := fp
  fn := fun _ => false
  calm := X.calm
  pn := []
  xe := fun _ _ => False
/-- what must be seen of the text -/
structure LcOk (X : Cx) (x : Str) (fr : List (Str × Nat)) (scope : Scope) : Prop where
  nocell : ∀ y ∈ scope.names, y.2 ≠ .cell
  kind : scope.kind = .function
  nm : ∀ y ∈ scope.names, y.2 = .local → scope.names.lookup y.1 = some .local
  hx : scope.names.lookup x = some .local
  nd : (blkN x fr).Nodup
  free : ∀ y ∈ scope.names, y.2 = .free → X.env.scope.names.lookup y.1 = some .cell ∨ X.env.scope.names.lookup y.1 = some .free
  fr : ∀ p ∈ fr, X.N[p.2]? = some p.1 ∧ scope.names.lookup p.1 = some .free
def tLc (fr : List (Str × Nat)) (wi : TI) (te : TE) : TE := fun σ H Q => wi σ H fun J H1 => ∃ W : Nat → Nat → List V → Hp → Prop, (∃ m, W 0 m [] H1) ∧ ∀ i m ys H, W i m ys H →
  (J.stop i H ∧ ys.length ≤ sizeLine ∧ ∀ p, H p = none → Q (.ref p) (upd H p (.lst ys))) ∨
  (J.go i H ∧ ys.length < sizeLine ∧ ∃ N : V → Hp → Prop, (∀ y H2, N y H2 → ∃ m', m' < m ∧ W (i + 1) m' (ys ++ [y]) H2) ∧ ∀ v H', J.yld i H v H' → te (blkS (some v) fr σ) H' N)
section
variable {prog : Program} {w : World} {A : Around} {R : Result → Shared → Prop} {s : Shared}
theorem lc_loop {elt target iter : Expr} {scope : Scope} {pos : Pos} {it acc : Value} {env : Env} (I : Nat → Shared → Prop)
    (turn : ∀ n t, I n t → wpAny (model prog w) A (pyNext it) (fun r s₁ => match r with
      | none => R (.ok .next) s₁
      | some v => wpAny (model prog w) A (letOwnedTupleGo target it v) (fun _ s₂ => wpAny (model prog w) A (assign target env v) (fun _ s₃ => wpAny (model prog w) A (eval elt env) (fun y s₄ =>
          wpAny (model prog w) A (call (.builtin "list.append") [acc, y]) (fun _ s₅ => ∃ m, m < n ∧ I m s₅) (fun _ _ => False) s₄) (fun _ _ => False) s₃) (fun _ _ => False) s₂) (fun _ _ => False) s₁) (fun _ _ => False) t)
    (n : Nat) (h : I n s) : codeAny (model prog w) A (.compLoop (.ListComp elt [⟨target, iter, [], 0⟩] scope pos) 0 it acc env) R s := by
  refine codeAny_loop rfl I (fun k t hI => ?_) n h
  show wpAny _ _ ((compTurn (.ListComp elt [⟨target, iter, [], 0⟩] scope pos) 0 it acc env).onRaise (fun x => do noteFrame x env; theTreesLotGoes x)) _ _ t
  refine wpAny_noted ?_
  rw [compTurn_list1]
  refine wpAny_bind (wpAny_standAt (wpAny_bind (wpAny_mono (turn k t hI) (fun r s₁ h₁ => ?_) fun _ _ z => z.elim)))
  cases r with
  | none => exact wpAny_pure h₁
  | some v =>
    refine wpAny_bind (wpAny_mono h₁ (fun _ s₂ h₂ => ?_) fun _ _ z => z.elim)
    refine wpAny_bind (wpAny_mono h₂ (fun _ s₃ h₃ => ?_) fun _ _ z => z.elim)
    refine wpAny_bind (wpAny_bind (wpAny_mono h₃ (fun y s₄ h₄ => ?_) fun _ _ z => z.elim))
    refine wpAny_bind (wpAny_mono h₄ (fun _ s₅ h₅ => ?_) fun _ _ z => z.elim)
    exact wpAny_pure (wpAny_pure ⟨rfl, h₅⟩)
end
theorem un_tail {fs ex : List Addr} {H H' : Hp} {h h1 h2 : Heap} {C D : Addr} {o : HO} (u : Un fs ex H H' h h1) (hC : h.objs.size ≤ C) (hD : h.objs.size ≤ D) (hn : H' D = none) (sb : Heap.SameBut C h1 h2) : Un fs ex H (upd H' D o) h h2 where
  keep := fun b ob q n hf hx => (sb.2 b (Nat.ne_of_lt (Nat.lt_of_lt_of_le (Heap.lt_size q) hC))).trans (u.keep b ob q n hf hx)
  slot := fun b ob q n hf hx => by
    obtain ⟨sl, e⟩ := u.slot b ob q n hf hx
    exact ⟨sl, (sb.2 b (Nat.ne_of_lt (Nat.lt_of_lt_of_le (Heap.lt_size q) hC))).trans e⟩
  free := fun b ob q n hx => by
    rw [upd_ne (Nat.ne_of_lt (Nat.lt_of_lt_of_le (Heap.lt_size q) hD))]
    exact u.free b ob q n hx
  there := fun b ob q hx => by
    obtain ⟨o', e⟩ := u.there b ob q hx
    exact ⟨o', (sb.2 b (Nat.ne_of_lt (Nat.lt_of_lt_of_le (Heap.lt_size q) hC))).trans e⟩
  tups := fun b xs q => by
    have z := u.tups b xs q
    rw [upd_ne (ne_of_none z hn)]; exact z
  frzs := fun b ob v q => by
    have z := u.frzs b ob v q
    rw [upd_ne (ne_of_none z hn)]; exact z
  tbls := fun b ps q => by
    obtain ⟨more, z⟩ := u.tbls b ps q
    exact ⟨more, by rw [upd_ne (ne_of_none z hn)]; exact z⟩
section
variable {X : Cx} {elt iter : Expr} {x : Str} {px pos : Pos} {scope : Scope} {fr : List (Str × Nat)} {wi : TI} {te : TE}
theorem pe_lc (hc : X.calm = true) (hi : PI X (.Name x px) iter wi) (S : LcOk X x fr scope) (he : ∀ fp C s H, PE (blk X x fr scope fp C s H) elt te)
    (hs : ∀ v, foldedSetIterable iter X.env v = pure v := by intro _; rfl) : PE X (.ListComp elt [⟨.Name x px, iter, [], 0⟩] scope pos) (tLc fr wi te) := by
  intro pins s σ H Q I h
  have hcell : ∀ p ∈ scope.names, p.2 = .free → ∃ c, X.env.cells.lookup p.1 = some c := fun p hp hk => I.ok.has p.1 (S.free p hp hk)
  have hsub : ∀ y c, (clOf X.env.cells scope.names).lookup y = some c → X.env.cells.lookup y = some c := cl_sub scope.names [] hcell (fun y c z => by simp at z)
  rw [eval_ListComp]
  refine wpAny_comprehension_free (use := none) rfl hs (clos_is hcell) S.kind S.nm ?_
  refine thn (hi pins s σ H _ I h) fun v s1 h1 => thn h1 fun itv s2 h2 => ?_
  obtain ⟨it, fp, tn, J, H2, e, I2, T, st2, f2, W, ⟨m0, w0⟩, turn⟩ := h2
  subst e
  refine wpAny_newObj_type (wpAny_newFunctionEnv S.nocell (by intro y hy; simp at hy) (fun h₁ hns₁ hsb₁ => ?_) S.kind)
  dsimp only at hns₁ hsb₁ ⊢
  generalize hP : s2.heap.push { cls := .type "list", dict := none, data := .seq ([] : List Value).toArray } = P at hns₁ hsb₁ ⊢
  have hC : P.objs.size = s2.heap.objs.size + 1 := by rw [← hP, Heap.size_push]
  have hDC : s2.heap.objs.size ≠ P.objs.size := by rw [hC]; exact Nat.ne_of_lt (Nat.lt_succ_self _)
  have hCle : s2.heap.objs.size ≤ P.objs.size := by rw [hC]; exact Nat.le_succ _
  have lt2 : ∀ b, b < s2.heap.objs.size → b ≠ P.objs.size ∧ b ≠ s2.heap.objs.size := fun b hb => ⟨by rw [hC]; exact Nat.ne_of_lt (Nat.lt_succ_of_lt hb), Nat.ne_of_lt hb⟩
  have old : ∀ b o, s2.heap.get? b = some o → h₁.get? b = some o := fun b o q =>
    (hsb₁.2 b (lt2 b (Heap.lt_size q)).1).trans (Heap.get?_push_of_some _ (by rw [← hP]; exact Heap.get?_push_of_some _ q))
  have hacc : h₁.get? s2.heap.objs.size = some { cls := .type "list", data := .seq ([] : List Value).toArray } :=
    (hsb₁.2 _ hDC).trans (Heap.get?_push_of_some _ (by rw [← hP]; exact Heap.get?_push_size _ rfl))
  have hD2 : H2 s2.heap.objs.size = none := I2.hok.fresh (Nat.le_refl _)
  have hC2 : H2 P.objs.size = none := I2.hok.fresh hCle
  have hfplt : ∀ b ∈ fp, b < s2.heap.objs.size := fun b hb => by
    obtain ⟨o, q, _⟩ := T.obj 0 _ st2 b hb
    exact Heap.lt_size q
  have hstk : ∀ b ∈ frs X.stack, b < s2.heap.objs.size := fun b hb => by
    obtain ⟨_, o, q, _⟩ := I2.stack.mem hb
    exact Heap.lt_size q
  have okY : (blk X x fr scope fp P.objs.size s2 H2).Ok := by
    refine ⟨I2.ok.mod, ?_, I2.ok.glob, I2.ok.blt, hCle, ?_, ?_, ?_, I2.ok.hd, I2.ok.frames, .inl rfl, ?_, I2.bs, Nat.le_trans I2.ok.bsz I2.sz, ?_, ?_, I2.stack, I2.stkFree⟩
    · exact S.kind
    · exact fun y z c h1 h2 => I2.ok.inj y z c (hsub y c h1) (hsub z c h2)
    · intro y hy
      have hf : scope.names.lookup y = some .free := free_relabel S.nocell hy
      exact Option.isSome_iff_exists.mp (cl_has (cells := X.env.cells) (y := y) scope.names [] (.inl (PySem.mem_of_lookup hf)))
    · intro y c hf
      exact absurd (show false = true from hf) (by decide)
    · intro b hb
      obtain ⟨_, _, _, _, f4, _⟩ := f2 b hb
      exact ⟨(lt2 b (hfplt b hb)).1, fun y c q => f4 y c (hsub y c q)⟩
    · intro b o q hb
      obtain ⟨_, _, _, f3, _, _⟩ := f2 b hb
      rcases f3 with z | z
      · exact I2.ok.noex b o q z
      · exact absurd (Nat.lt_of_lt_of_le (Heap.lt_size q) (Nat.le_trans I2.ok.bsz z)) (Nat.lt_irrefl _)
    · intro b hb hz
      obtain ⟨_, f1, f2', _⟩ := f2 b hb
      rcases List.mem_cons.mp (I2.stkSub b hz) with z | z
      · exact f1 z
      · exact f2' z
  -- the start
  let own (us : List Value) (k : Nat) : Addr × Obj := (s2.heap.objs.size, { cls := .type "list", data := .seq us.toArray k })
  have pinD : ∀ (us : List Value) (k : Nat) (t : Shared) (H' : Hp), t.heap.get? s2.heap.objs.size = some { cls := .type "list", data := .seq us.toArray k } → H' s2.heap.objs.size = none →
      t.heap.get? (own us k).1 = some (own us k).2 ∧ H' (own us k).1 = none ∧ (own us k).1 ≠ (blk X x fr scope fp P.objs.size s2 H2).env.locals ∧ (own us k).1 ∉ (blk X x fr scope fp P.objs.size s2 H2).fs ∧ ∀ v, (own us k).2.data ≠ .cell v :=
    fun us k t H' q n => ⟨q, n, hDC, fun z => absurd (hstk _ z) (Nat.lt_irrefl _), fun v z => nomatch z⟩
  have I4 : Inv (blk X x fr scope fp P.objs.size s2 H2) [own [] 0] (blkS none fr σ) H2 { s2 with heap := h₁, toks := s2.toks + ([] : List (Str × Value)).length } := by
    refine ⟨okY, rfl, I2.bare, Un.kept old, ⟨_, hns₁, fun i y v q1 q2 q3 => ?_⟩, fun y c q => ?_, hC2, fun y c q => I2.freeC y c (hsub y c q), fun p hp => ?_, I2.hok.kept old, ?_⟩
    · cases i with
      | zero => exact absurd q2 (by show ¬ (some (none : Option V) = some (some v)); simp)
      | succ j =>
        have q1' : (fr.map (·.1))[j]? = some y := q1
        have q2' : (fr.map fun p => (σ[p.2]?).getD none)[j]? = some (some v) := q2
        rw [List.getElem?_map] at q1' q2'
        cases ef : fr[j]? with
        | none => rw [ef] at q1'; cases q1'
        | some p =>
          rw [ef] at q1' q2'
          have e1 : p.1 = y := Option.some.inj q1'
          have e2 : (σ[p.2]?).getD none = some v := Option.some.inj q2'
          obtain ⟨n1, n2⟩ := S.fr p (List.mem_of_getElem? ef)
          rw [e1] at n1 n2
          have e3 : σ[p.2]? = some (some v) := by
            cases ez : σ[p.2]? with
            | none => rw [ez] at e2; cases e2
            | some z => rw [ez] at e2; exact congrArg some e2
          have kX := S.free _ (PySem.mem_of_lookup n2) rfl
          obtain ⟨m, hm, hl⟩ := I2.loc
          obtain ⟨u, ru, lk⟩ := hl p.2 y v n1 e3 (.inr kX)
          refine ⟨u, ru, .inr ⟨relabel_free n2, ?_⟩⟩
          rcases lk with ⟨k1, _⟩ | ⟨_, c, q, ic⟩
          · have k1' : X.env.scope.names.lookup y = some .local := k1
            rcases kX with kX | kX
            · exact absurd (k1'.symm.trans kX) (by simp)
            · exact absurd (k1'.symm.trans kX) (by simp)
          · obtain ⟨c', hc'⟩ := Option.isSome_iff_exists.mp (cl_has (cells := X.env.cells) (y := y) scope.names [] (.inl (PySem.mem_of_lookup n2)))
            have e4 : c' = c := Option.some.inj ((hsub y c' hc').symm.trans q)
            subst e4
            obtain ⟨oc, g1, g2⟩ := ic
            exact ⟨c', hc', oc, old _ _ g1, g2⟩
    · obtain ⟨z, oc, g1, g2⟩ := I2.cell y c (hsub y c q)
      exact ⟨z, oc, old _ _ g1, g2⟩
    · have e : p = own [] 0 := by simpa [blk] using hp
      subst e
      exact pinD [] 0 { s2 with heap := h₁, toks := s2.toks + ([] : List (Str × Value)).length } H2 hacc hD2
    · show (blkS none fr σ).length = (blkN x fr).length
      unfold blkS blkN
      rw [List.length_cons, List.length_cons, List.length_map, List.length_map]
  have statY : ∀ {H' : Hp} {us : List Value} {k : Nat}, (∀ b ∈ fp, H' b = none) → ∀ b ∈ fp, FpOk (blk X x fr scope fp P.objs.size s2 H2) [own us k] H' b := fun {H' us k} hn b hb => by
    obtain ⟨_, f1, f2', f3, f4, f5⟩ := f2 b hb
    refine ⟨hn b hb, (lt2 b (hfplt b hb)).1, okY.exfs b hb, .inl hb, fun y c q => f4 y c (hsub y c q), fun p hp z => ?_⟩
    have e : p = own us k := by simpa [blk] using hp
    subst e
    exact (lt2 b (hfplt b hb)).2 z.symm
  have hg : PG (blk X x fr scope fp P.objs.size s2 H2) (.Name x px) (gName 0) := pg_name (i := 0) S.nd rfl (.inl (lookup_relabel_local S.hx)) (.inr (lookup_relabel_local S.hx))
  have loop : ∀ s₃ : Shared, s₃ = { s2 with heap := h₁, toks := s2.toks + ([] : List (Str × Value)).length } →
      codeAny (model X.prog X.w) X.A (.compLoop (.ListComp elt [⟨.Name x px, iter, [], 0⟩] scope pos) 0 (.ref it) (.ref s2.heap.objs.size) (compEnvC scope (clOf X.env.cells scope.names) P.objs.size X.env))
        (compPost (model X.prog X.w) X.A X.xe none (EP X pins σ Q) (.ref s2.heap.objs.size) P.objs.size) s₃ := by
    rintro s₃ rfl
    refine lc_loop (fun n t => ∃ i ys us k H', Inv (blk X x fr scope fp P.objs.size s2 H2) [own us k] (blkS none fr σ) H' t ∧ Vals ys us ∧ tn i t.heap ∧ (∀ b ∈ fp, H' b = none) ∧ W i n ys H') ?_ m0
      ⟨0, [], [], 0, H2, I4, .nil, T.keep _ _ _ st2 fun b hb o q => old b o q, fun b hb => (f2 b hb).1, w0⟩
    rintro n t ⟨i, ys, us, k, H', It, rv, st, frs', w1⟩
    have hDn : H' s2.heap.objs.size = none := (It.pin (own us k) (by simp [blk])).2.1
    have hDo : t.heap.get? s2.heap.objs.size = some { cls := .type "list", data := .seq us.toArray k } := (It.pin (own us k) (by simp [blk])).1
    rcases turn i n ys H' w1 with ⟨stop, zl, qn⟩ | ⟨go, zl, N, hN, step⟩
    · refine thn (T.done (blk X x fr scope fp P.objs.size s2 H2) rfl rfl rfl hc i _ t _ H' _ It (statY frs') st stop) fun r t1 ⟨hr, I1⟩ => ?_
      subst hr
      have hDo1 : t1.heap.get? s2.heap.objs.size = some { cls := .type "list", data := .seq us.toArray k } := (I1.pin (own us k) (by simp [blk])).1
      obtain ⟨m, hns, _⟩ := I1.loc
      refine ⟨m, hns, fun h' sb => ⟨.ref s2.heap.objs.size, upd H' s2.heap.objs.size (.lst ys), ?_, rfl, qn _ hDn⟩⟩
      refine I2.call' (ch := fp) I1.os (un_tail I1.base hCle (Nat.le_refl _) hDn sb) ?_ I1.bare fun b hb => ?_
      · intro a o q
        by_cases ha : a = s2.heap.objs.size
        · subst ha
          rw [upd_same] at q
          cases q
          exact ⟨zl, us, k, rv, (sb.2 _ hDC).trans hDo1⟩
        · rw [upd_ne ha] at q
          refine (I1.hok a o q).stay (fun b u hb q' => (sb.2 b ?_).trans q') (fun b z => ?_) fun b xs z => ?_
          · rcases hb with rfl | hb
            · exact ne_of_none q I1.free
            · exact ne_of_none hb I1.free
          · rw [upd_ne (ne_of_none z hDn)]; exact z
          · rw [upd_ne (ne_of_none z hDn)]; exact z
      · obtain ⟨_, f1, _, f3, f4, f5⟩ := f2 b hb
        exact ⟨f3, f1, f4, f5⟩
    · refine thn (T.item (blk X x fr scope fp P.objs.size s2 H2) rfl rfl rfl hc i _ t _ H' _ It (statY frs') st go) fun r t1 ⟨u, hr, h4⟩ => ?_
      subst hr
      refine thn h4 fun _ t2 ⟨v, H5, I5, r5, y5, st5, fr5⟩ => ?_
      have I5' := I5.pinned (statY fr5) (T.obj _ _ st5)
      have hsz : (blkS none fr σ).set 0 (some v) = blkS (some v) fr σ := rfl
      refine thn (hg _ t2 _ H5 v u _ I5' r5 (show gName 0 v (blkS none fr σ) H5 (fun σ' H6 => σ' = blkS (some v) fr σ ∧ H6 = H5) from ⟨hsz, rfl⟩)) fun _ t3 ⟨σ6, H6, I6, e6, e7⟩ => ?_
      subst e6; subst e7
      refine thn (he fp P.objs.size s2 H2 _ t3 _ H6 _ I6 (step v H6 y5)) fun yv t4 ⟨y, H7, I7, r7, n7⟩ => ?_
      obtain ⟨m', hm, w7⟩ := hN y H7 n7
      have hDo4 : t4.heap.get? s2.heap.objs.size = some { cls := .type "list", data := .seq us.toArray k } := (I7.pin (own us k) (by simp [blk])).1
      have hDn4 : H7 s2.heap.objs.size = none := (I7.pin (own us k) (by simp [blk])).2.1
      have hlen : us.length < sizeLine := by rw [← rv.length]; exact zl
      refine call_meets F.slot_list_append ⟨_, hDo4, rfl⟩ F.entry_list_append (F.args_list_append_2 _ _) (PySem.list_append s2.heap.objs.size us.toArray k yv (by rw [List.size_toArray]; omega)) ⟨hDo4, ?_⟩
      have hup := PySem.IsL.update hDo4 (·.push yv)
      have hea : us.toArray.push yv = (us ++ [yv]).toArray := by simp
      rw [hea] at hup
      have pf : ∀ b ∈ fp, ∃ o, t2.heap.get? b = some o ∧ t4.heap.get? b = some o ∧ H7 b = none := fun b hb => by
        obtain ⟨o, q, _⟩ := T.obj _ _ st5 b hb
        have z := I7.pin (b, o) (List.mem_append_right _ (List.mem_append_right _ (mem_pinsAt hb q)))
        exact ⟨o, q, z.1, z.2.1⟩
      have I8 := (I7.pins_of (pins' := []) (fun p hp => absurd hp (by simp))).turned (it := s2.heap.objs.size) (h' := t4.heap.update s2.heap.objs.size (Obj.mapSeq (·.push yv))) (t' := t4.toks)
        (fun b o hb q => (Heap.get?_update_other t4.heap (Obj.mapSeq (·.push yv)) (Ne.symm hb)).trans q) hDn4 hDC (.inr (Nat.le_refl _))
        (fun z c q hz => by
          obtain ⟨_, oc, g1, _⟩ := I2.cell z c (hsub z c q)
          exact absurd (Heap.lt_size g1) (by rw [hz]; exact Nat.lt_irrefl _))
        (fun p hp => absurd (show p ∈ ([] : List (Addr × Obj)) from hp) (by simp))
      have I9 := I8.weak (σ' := blkS none fr σ) (by unfold blkS; rw [List.length_cons, List.length_cons]) (fun j z hz => by
        cases j with
        | zero => exact absurd hz (by show ¬ (some (none : Option V) = some (some z)); simp)
        | succ j => exact hz)
      refine ⟨m', hm, i + 1, ys ++ [y], us ++ [yv], (if ((us ++ [yv]).toArray.size == us.toArray.size) = true then k else k + 1), H7, I9.pins_of fun p hp => ?_, rv.append (.cons r7 .nil), ?_, ?_, w7⟩
      · have e : p = own (us ++ [yv]) (if ((us ++ [yv]).toArray.size == us.toArray.size) = true then k else k + 1) := by simpa using hp
        subst e
        exact pinD _ _ _ H7 hup hDn4
      · refine T.keep _ _ _ st5 fun b hb o q => ?_
        obtain ⟨o', q1, q2, _⟩ := pf b hb
        rw [q] at q1
        cases q1
        exact (Heap.get?_update_other t4.heap (Obj.mapSeq (·.push yv)) (Ne.symm (lt2 b (hfplt b hb)).2)).trans q2
      · exact fun b hb => by
          obtain ⟨_, _, _, q3⟩ := pf b hb
          exact q3
  exact codeAny_compStart_list (loop _ rfl) (T.self X.A 0 _ _ _ (T.keep _ _ _ st2 fun b hb o q => old b o q) (loop _ rfl))
end
end Rg
set_option Elab.async false
set_option linter.all false
set_option maxRecDepth 100000
set_option maxHeartbeats 4000000
/-! Things as data, and how a tracked heap bears them. -/
namespace Rg
open PySem L2
mutual
inductive Th where
  | num (i : Int)
  | word (x : Str)
  | row (l : Ts)
  | dic (l : Ts)
/-- what a row or a record holds, in order (in a row the fields are not looked at) -/
inductive Ts where
  | nil
  | cons (k : Str) (t : Th) (r : Ts)
end
mutual
def Th.size : Th → Nat
  | .num _ => 1
  | .word _ => 1
  | .row l => l.size + 1
  | .dic l => l.size + 1
def Ts.size : Ts → Nat
  | .nil => 0
  | .cons _ t r => t.size + r.size
end
def Ts.len : Ts → Nat
  | .nil => 0
  | .cons _ _ r => r.len + 1
def Ts.keys : Ts → List Str
  | .nil => []
  | .cons k _ r => k :: r.keys
/-- in its place, or at the end -/
def Ts.put (k : Str) (t : Th) : Ts → Ts
  | .nil => .cons k t .nil
  | .cons j u r => if j = k then .cons j t r else .cons j u (r.put k t)
def Ts.app : Ts → Ts → Ts
  | .nil, m => m
  | .cons k t r, m => .cons k t (r.app m)
mutual
/-- within bounds: few things in each row and record, unlike and short fields -/
def Th.Ok : Th → Prop
  | .num _ => True
  | .word x => x.length ≤ 100
  | .row l => l.len ≤ 9 ∧ Ts.Ok l
  | .dic l => l.len ≤ 9 ∧ l.keys.Nodup ∧ Ts.Ok l
def Ts.Ok : Ts → Prop
  | .nil => True
  | .cons k t r => k.length ≤ 100 ∧ Th.Ok t ∧ Ts.Ok r
end
mutual
def Rep (H : Hp) : Th → V → Prop
  | .num i, v => v = .int i
  | .word x, v => v = .str x
  | .row l, v => ∃ a xs, v = .ref a ∧ H a = some (.lst xs) ∧ RepR H l xs
  | .dic l, v => ∃ a kvs, v = .ref a ∧ H a = some (.dK kvs) ∧ RepD H l kvs
def RepR (H : Hp) : Ts → List V → Prop
  | .nil, xs => xs = []
  | .cons _ t r, xs => ∃ y ys, xs = y :: ys ∧ Rep H t y ∧ RepR H r ys
def RepD (H : Hp) : Ts → List (Key × V) → Prop
  | .nil, kvs => kvs = []
  | .cons k t r, kvs => ∃ y ys, kvs = (Sum.inr k, y) :: ys ∧ Rep H t y ∧ RepD H r ys
end
mutual
theorem Rep.mono {H H' : Hp} (e : Same H H') : ∀ {t : Th} {v : V}, Rep H t v → Rep H' t v
  | .num _, _, h => h
  | .word _, _, h => h
  | .row l, _, h => by
    obtain ⟨a, xs, h1, h2, h3⟩ := (h : ∃ a xs, _ = V.ref a ∧ H a = some (.lst xs) ∧ RepR H l xs)
    exact ⟨a, xs, h1, e _ _ h2, RepR.mono e h3⟩
  | .dic l, _, h => by
    obtain ⟨a, kvs, h1, h2, h3⟩ := (h : ∃ a kvs, _ = V.ref a ∧ H a = some (.dK kvs) ∧ RepD H l kvs)
    exact ⟨a, kvs, h1, e _ _ h2, RepD.mono e h3⟩
theorem RepR.mono {H H' : Hp} (e : Same H H') : ∀ {l : Ts} {xs : List V}, RepR H l xs → RepR H' l xs
  | .nil, _, h => h
  | .cons _ t r, _, h => by
    obtain ⟨y, ys, h1, h2, h3⟩ := (h : ∃ y ys, _ = y :: ys ∧ Rep H t y ∧ RepR H r ys)
    exact ⟨y, ys, h1, Rep.mono e h2, RepR.mono e h3⟩
theorem RepD.mono {H H' : Hp} (e : Same H H') : ∀ {l : Ts} {kvs : List (Key × V)}, RepD H l kvs → RepD H' l kvs
  | .nil, _, h => h
  | .cons _ t r, _, h => by
    obtain ⟨y, ys, h1, h2, h3⟩ := (h : ∃ y ys, _ = (Sum.inr _, y) :: ys ∧ Rep H t y ∧ RepD H r ys)
    exact ⟨y, ys, h1, Rep.mono e h2, RepD.mono e h3⟩
end
mutual
theorem Rep.inj {H : Hp} : ∀ {t u : Th} {v : V}, Rep H t v → Rep H u v → t.size = u.size
  | .num _, .num _, _, _, _ => rfl
  | .num _, .word _, _, _, _ => rfl
  | .word _, .num _, _, _, _ => rfl
  | .word _, .word _, _, _, _ => rfl
  | .num i, .row l, v, h, h' => by
    obtain ⟨a, xs, h1, _⟩ := (h' : ∃ a xs, v = V.ref a ∧ H a = some (.lst xs) ∧ RepR H l xs)
    rw [(h : v = .int i)] at h1; cases h1
  | .num i, .dic l, v, h, h' => by
    obtain ⟨a, xs, h1, _⟩ := (h' : ∃ a xs, v = V.ref a ∧ H a = some (.dK xs) ∧ RepD H l xs)
    rw [(h : v = .int i)] at h1; cases h1
  | .word x, .row l, v, h, h' => by
    obtain ⟨a, xs, h1, _⟩ := (h' : ∃ a xs, v = V.ref a ∧ H a = some (.lst xs) ∧ RepR H l xs)
    rw [(h : v = .str x)] at h1; cases h1
  | .word x, .dic l, v, h, h' => by
    obtain ⟨a, xs, h1, _⟩ := (h' : ∃ a xs, v = V.ref a ∧ H a = some (.dK xs) ∧ RepD H l xs)
    rw [(h : v = .str x)] at h1; cases h1
  | .row l, .num i, v, h, h' => by
    obtain ⟨a, xs, h1, _⟩ := (h : ∃ a xs, v = V.ref a ∧ H a = some (.lst xs) ∧ RepR H l xs)
    rw [(h' : v = .int i)] at h1; cases h1
  | .row l, .word x, v, h, h' => by
    obtain ⟨a, xs, h1, _⟩ := (h : ∃ a xs, v = V.ref a ∧ H a = some (.lst xs) ∧ RepR H l xs)
    rw [(h' : v = .str x)] at h1; cases h1
  | .dic l, .num i, v, h, h' => by
    obtain ⟨a, xs, h1, _⟩ := (h : ∃ a xs, v = V.ref a ∧ H a = some (.dK xs) ∧ RepD H l xs)
    rw [(h' : v = .int i)] at h1; cases h1
  | .dic l, .word x, v, h, h' => by
    obtain ⟨a, xs, h1, _⟩ := (h : ∃ a xs, v = V.ref a ∧ H a = some (.dK xs) ∧ RepD H l xs)
    rw [(h' : v = .str x)] at h1; cases h1
  | .row l, .row m, v, h, h' => by
    obtain ⟨a, xs, h1, h2, h3⟩ := (h : ∃ a xs, v = V.ref a ∧ H a = some (.lst xs) ∧ RepR H l xs)
    obtain ⟨b, ys, g1, g2, g3⟩ := (h' : ∃ a xs, v = V.ref a ∧ H a = some (.lst xs) ∧ RepR H m xs)
    rw [h1] at g1; cases g1; rw [h2] at g2; cases g2
    show l.size + 1 = m.size + 1
    rw [RepR.inj h3 g3]
  | .row l, .dic m, v, h, h' => by
    obtain ⟨a, xs, h1, h2, h3⟩ := (h : ∃ a xs, v = V.ref a ∧ H a = some (.lst xs) ∧ RepR H l xs)
    obtain ⟨b, ys, g1, g2, g3⟩ := (h' : ∃ a xs, v = V.ref a ∧ H a = some (.dK xs) ∧ RepD H m xs)
    rw [h1] at g1; cases g1; rw [h2] at g2; cases g2
  | .dic l, .row m, v, h, h' => by
    obtain ⟨a, xs, h1, h2, h3⟩ := (h : ∃ a xs, v = V.ref a ∧ H a = some (.dK xs) ∧ RepD H l xs)
    obtain ⟨b, ys, g1, g2, g3⟩ := (h' : ∃ a xs, v = V.ref a ∧ H a = some (.lst xs) ∧ RepR H m xs)
    rw [h1] at g1; cases g1; rw [h2] at g2; cases g2
  | .dic l, .dic m, v, h, h' => by
    obtain ⟨a, xs, h1, h2, h3⟩ := (h : ∃ a xs, v = V.ref a ∧ H a = some (.dK xs) ∧ RepD H l xs)
    obtain ⟨b, ys, g1, g2, g3⟩ := (h' : ∃ a xs, v = V.ref a ∧ H a = some (.dK xs) ∧ RepD H m xs)
    rw [h1] at g1; cases g1; rw [h2] at g2; cases g2
    show l.size + 1 = m.size + 1
    rw [RepD.inj h3 g3]
theorem RepR.inj {H : Hp} : ∀ {l m : Ts} {xs : List V}, RepR H l xs → RepR H m xs → l.size = m.size
  | .nil, .nil, _, _, _ => rfl
  | .nil, .cons k t r, xs, h, h' => by
    obtain ⟨y, ys, h1, _⟩ := (h' : ∃ y ys, xs = y :: ys ∧ Rep H t y ∧ RepR H r ys)
    rw [(h : xs = [])] at h1; cases h1
  | .cons k t r, .nil, xs, h, h' => by
    obtain ⟨y, ys, h1, _⟩ := (h : ∃ y ys, xs = y :: ys ∧ Rep H t y ∧ RepR H r ys)
    rw [(h' : xs = [])] at h1; cases h1
  | .cons k t r, .cons j u q, xs, h, h' => by
    obtain ⟨y, ys, h1, h2, h3⟩ := (h : ∃ y ys, xs = y :: ys ∧ Rep H t y ∧ RepR H r ys)
    obtain ⟨z, zs, g1, g2, g3⟩ := (h' : ∃ y ys, xs = y :: ys ∧ Rep H u y ∧ RepR H q ys)
    rw [h1] at g1; cases g1
    show t.size + r.size = u.size + q.size
    rw [Rep.inj h2 g2, RepR.inj h3 g3]
theorem RepD.inj {H : Hp} : ∀ {l m : Ts} {xs : List (Key × V)}, RepD H l xs → RepD H m xs → l.size = m.size
  | .nil, .nil, _, _, _ => rfl
  | .nil, .cons k t r, xs, h, h' => by
    obtain ⟨y, ys, h1, _⟩ := (h' : ∃ y ys, xs = (Sum.inr k, y) :: ys ∧ Rep H t y ∧ RepD H r ys)
    rw [(h : xs = [])] at h1; cases h1
  | .cons k t r, .nil, xs, h, h' => by
    obtain ⟨y, ys, h1, _⟩ := (h : ∃ y ys, xs = (Sum.inr k, y) :: ys ∧ Rep H t y ∧ RepD H r ys)
    rw [(h' : xs = [])] at h1; cases h1
  | .cons k t r, .cons j u q, xs, h, h' => by
    obtain ⟨y, ys, h1, h2, h3⟩ := (h : ∃ y ys, xs = (Sum.inr k, y) :: ys ∧ Rep H t y ∧ RepD H r ys)
    obtain ⟨z, zs, g1, g2, g3⟩ := (h' : ∃ y ys, xs = (Sum.inr j, y) :: ys ∧ Rep H u y ∧ RepD H q ys)
    rw [h1] at g1; cases g1
    show t.size + r.size = u.size + q.size
    rw [Rep.inj h2 g2, RepD.inj h3 g3]
end
/-! what is smaller than the thing at a does not reach a -/
mutual
theorem Rep.other {H : Hp} {a : Addr} {o : HO} {n : Nat} (ha : ∀ u, Rep H u (.ref a) → n ≤ u.size) : ∀ {t : Th} {v : V}, t.size < n → Rep H t v → Rep (upd H a o) t v
  | .num _, _, _, h => h
  | .word _, _, _, h => h
  | .row l, v, hn, h => by
    have hh := h
    obtain ⟨b, xs, h1, h2, h3⟩ := (h : ∃ b xs, v = V.ref b ∧ H b = some (.lst xs) ∧ RepR H l xs)
    have hb : b ≠ a := fun z => by
      rw [h1, z] at hh
      exact absurd (ha (.row l) hh) (Nat.not_le.mpr hn)
    exact ⟨b, xs, h1, by rw [upd_ne hb]; exact h2, RepR.other ha (Nat.lt_of_succ_lt (show l.size + 1 < n from hn)) h3⟩
  | .dic l, v, hn, h => by
    have hh := h
    obtain ⟨b, xs, h1, h2, h3⟩ := (h : ∃ b xs, v = V.ref b ∧ H b = some (.dK xs) ∧ RepD H l xs)
    have hb : b ≠ a := fun z => by
      rw [h1, z] at hh
      exact absurd (ha (.dic l) hh) (Nat.not_le.mpr hn)
    exact ⟨b, xs, h1, by rw [upd_ne hb]; exact h2, RepD.other ha (Nat.lt_of_succ_lt (show l.size + 1 < n from hn)) h3⟩
theorem RepR.other {H : Hp} {a : Addr} {o : HO} {n : Nat} (ha : ∀ u, Rep H u (.ref a) → n ≤ u.size) : ∀ {l : Ts} {xs : List V}, l.size < n → RepR H l xs → RepR (upd H a o) l xs
  | .nil, _, _, h => h
  | .cons k t r, xs, hn, h => by
    obtain ⟨y, ys, h1, h2, h3⟩ := (h : ∃ y ys, xs = y :: ys ∧ Rep H t y ∧ RepR H r ys)
    have hn' : t.size + r.size < n := hn
    exact ⟨y, ys, h1, Rep.other ha (by omega) h2, RepR.other ha (by omega) h3⟩
theorem RepD.other {H : Hp} {a : Addr} {o : HO} {n : Nat} (ha : ∀ u, Rep H u (.ref a) → n ≤ u.size) : ∀ {l : Ts} {xs : List (Key × V)}, l.size < n → RepD H l xs → RepD (upd H a o) l xs
  | .nil, _, _, h => h
  | .cons k t r, xs, hn, h => by
    obtain ⟨y, ys, h1, h2, h3⟩ := (h : ∃ y ys, xs = (Sum.inr k, y) :: ys ∧ Rep H t y ∧ RepD H r ys)
    have hn' : t.size + r.size < n := hn
    exact ⟨y, ys, h1, Rep.other ha (by omega) h2, RepD.other ha (by omega) h3⟩
end
def Ts.get (k : Str) : Ts → Option Th
  | .nil => none
  | .cons j t r => if j = k then some t else r.get k
def Ts.ths : Ts → List Th
  | .nil => []
  | .cons _ t r => t :: r.ths
theorem Ts.ths_size : ∀ l : Ts, (l.ths.map Th.size).sum = l.size
  | .nil => rfl
  | .cons _ t r => by
    show (t.size :: r.ths.map Th.size).sum = t.size + r.size
    rw [List.sum_cons, Ts.ths_size r]
theorem Ts.ths_len : ∀ l : Ts, l.ths.length = l.len
  | .nil => rfl
  | .cons _ _ r => congrArg (· + 1) (Ts.ths_len r)
theorem Ts.keys_len : ∀ l : Ts, l.keys.length = l.len
  | .nil => rfl
  | .cons _ _ r => congrArg (· + 1) (Ts.keys_len r)
theorem Ts.ok_mem : ∀ {l : Ts}, l.Ok → ∀ t ∈ l.ths, t.Ok
  | .nil, _, _, h => absurd h (by simp [Ts.ths])
  | .cons k u r, h, t, hm => by
    have h' : k.length ≤ 100 ∧ u.Ok ∧ r.Ok := h
    rcases List.mem_cons.mp (show t ∈ u :: r.ths from hm) with rfl | hm
    · exact h'.2.1
    · exact Ts.ok_mem h'.2.2 t hm
theorem Ts.ok_keys : ∀ {l : Ts}, l.Ok → ∀ k ∈ l.keys, k.length ≤ 100
  | .nil, _, _, h => absurd h (by simp [Ts.keys])
  | .cons j u r, h, k, hm => by
    have h' : j.length ≤ 100 ∧ u.Ok ∧ r.Ok := h
    rcases List.mem_cons.mp (show k ∈ j :: r.keys from hm) with rfl | hm
    · exact h'.1
    · exact Ts.ok_keys h'.2.2 k hm
theorem Ts.get_mem : ∀ {l : Ts} {k : Str}, k ∈ l.keys → ∃ t, l.get k = some t ∧ t ∈ l.ths
  | .nil, _, h => absurd h (by simp [Ts.keys])
  | .cons j u r, k, h => by
    show ∃ t, (if j = k then some u else r.get k) = some t ∧ t ∈ u :: r.ths
    by_cases e : j = k
    · exact ⟨u, by rw [if_pos e], List.mem_cons_self⟩
    · rcases List.mem_cons.mp (show k ∈ j :: r.keys from h) with z | z
      · exact absurd z.symm e
      · obtain ⟨t, h1, h2⟩ := Ts.get_mem z
        exact ⟨t, by rw [if_neg e]; exact h1, List.mem_cons_of_mem _ h2⟩
theorem RepR.len {H : Hp} : ∀ {l : Ts} {xs : List V}, RepR H l xs → xs.length = l.len
  | .nil, xs, h => by rw [(h : xs = [])]; rfl
  | .cons k t r, xs, h => by
    obtain ⟨y, ys, rfl, _, h3⟩ := (h : ∃ y ys, xs = y :: ys ∧ Rep H t y ∧ RepR H r ys)
    exact congrArg (· + 1) (RepR.len h3)
theorem RepD.len {H : Hp} : ∀ {l : Ts} {xs : List (Key × V)}, RepD H l xs → xs.length = l.len
  | .nil, xs, h => by rw [(h : xs = [])]; rfl
  | .cons k t r, xs, h => by
    obtain ⟨y, ys, rfl, _, h3⟩ := (h : ∃ y ys, xs = (Sum.inr k, y) :: ys ∧ Rep H t y ∧ RepD H r ys)
    exact congrArg (· + 1) (RepD.len h3)
theorem RepD.keys {H : Hp} : ∀ {l : Ts} {xs : List (Key × V)}, RepD H l xs → xs.map (·.1) = l.keys.map Sum.inr
  | .nil, xs, h => by rw [(h : xs = [])]; rfl
  | .cons k t r, xs, h => by
    obtain ⟨y, ys, rfl, _, h3⟩ := (h : ∃ y ys, xs = (Sum.inr k, y) :: ys ∧ Rep H t y ∧ RepD H r ys)
    show Sum.inr k :: ys.map (·.1) = Sum.inr k :: r.keys.map Sum.inr
    rw [RepD.keys h3]
theorem RepR.at {H : Hp} : ∀ {l : Ts} {xs : List V}, RepR H l xs → ∀ (i : Nat) (y : V), xs[i]? = some y → ∃ t, l.ths[i]? = some t ∧ Rep H t y
  | .nil, xs, h, i, y, e => by rw [(h : xs = [])] at e; simp at e
  | .cons k t r, xs, h, i, y, e => by
    obtain ⟨z, zs, rfl, h2, h3⟩ := (h : ∃ y ys, xs = y :: ys ∧ Rep H t y ∧ RepR H r ys)
    cases i with
    | zero =>
      have e' : z = y := by simpa using e
      subst e'
      exact ⟨t, rfl, h2⟩
    | succ i =>
      obtain ⟨u, g1, g2⟩ := RepR.at h3 i y (by simpa using e)
      exact ⟨u, by simpa [Ts.ths] using g1, g2⟩
theorem RepD.val {H : Hp} : ∀ {l : Ts} {kvs : List (Key × V)}, RepD H l kvs → ∀ {k : Str} {t : Th}, l.get k = some t → ∃ y, valV kvs (Sum.inr k) = some y ∧ Rep H t y
  | .nil, kvs, h, k, t, e => by cases e
  | .cons j u r, kvs, h, k, t, e => by
    obtain ⟨y, ys, rfl, h2, h3⟩ := (h : ∃ y ys, kvs = (Sum.inr j, y) :: ys ∧ Rep H u y ∧ RepD H r ys)
    have e' : (if j = k then some u else r.get k) = some t := e
    unfold valV
    rw [List.find?_cons]
    by_cases hj : j = k
    · rw [if_pos hj] at e'
      cases e'
      subst hj
      exact ⟨y, by simp, h2⟩
    · rw [if_neg hj] at e'
      obtain ⟨z, g1, g2⟩ := RepD.val h3 e'
      refine ⟨z, ?_, g2⟩
      have hd : decide ((Sum.inr j : Key) = Sum.inr k) = false := decide_eq_false fun q => hj (Sum.inr.inj q)
      simp only [hd]
      exact g1
theorem Th.size_pos (t : Th) : 0 < t.size := by
  cases t with
  | num _ => exact Nat.one_pos
  | word _ => exact Nat.one_pos
  | row l => exact Nat.succ_pos _
  | dic l => exact Nat.succ_pos _
end Rg
set_option Elab.async false
set_option linter.all false
set_option maxRecDepth 100000
set_option maxHeartbeats 4000000
/-! sorted(a record, key = a def of the text that tells (length, word)): a rule over the hand layer -/
namespace Rg
open PySem PySem.W PySem.Spec PyProof.Rows L2
/-- the same code, two built-ins deeper -/
abbrev in2 (X : Cx) : Cx := { X with A := X.A.in1.in1 }
theorem ok_in2 {X : Cx} (o : X.Ok) : (in2 X).Ok := ⟨o.mod, o.kind, o.glob, o.blt, o.above, o.inj, o.has, o.cab, o.hd, o.frames, o.stk, o.exf, o.bs, o.bsz, o.noex, o.exfs, o.funs, o.frf⟩
theorem ok_out2 {X : Cx} (o : (in2 X).Ok) : X.Ok := ⟨o.mod, o.kind, o.glob, o.blt, o.above, o.inj, o.has, o.cab, o.hd, o.frames, o.stk, o.exf, o.bs, o.bsz, o.noex, o.exfs, o.funs, o.frf⟩
theorem inv_in2 {X : Cx} {pins : List (Addr × Obj)} {σ : L2.St} {H : Hp} {s : Shared} (I : Inv X pins σ H s) : Inv (in2 X) pins σ H s :=
  ⟨ok_in2 I.ok, I.os, I.bare, I.base, I.loc, I.cell, I.free, I.freeC, I.pin, I.hok, I.len⟩
theorem inv_out2 {X : Cx} {pins : List (Addr × Obj)} {σ : L2.St} {H : Hp} {s : Shared} (I : Inv (in2 X) pins σ H s) : Inv X pins σ H s :=
  ⟨ok_out2 I.ok, I.os, I.bare, I.base, I.loc, I.cell, I.free, I.freeC, I.pin, I.hok, I.len⟩
/-- what the key tells of a word -/
def keyV (x : Str) : List V := [.int x.length, .str x]
def spKey : Sp := fun vs H Q _ => ∃ x : Str, vs = [.str x] ∧ x.length ≤ 1000 ∧ ∀ p, H p = none → Q (.ref p) (upd H p (.tup (keyV x)))
/-- the keys so far stand in the heap -/
def KeysAre (H : Hp) : List Str → List Value → Prop := Paired fun x u => ∃ p, u = Value.ref p ∧ H p = some (.tup (keyV x))
theorem KeysAre.mono {H H' : Hp} (e : Same H H') {xs : List Str} {us : List Value} (h : KeysAre H xs us) : KeysAre H' xs us :=
  Paired.mapP h fun _ _ ⟨p, h1, h2⟩ => ⟨p, h1, e _ _ h2⟩
theorem KeysAre.snoc {H : Hp} {x : Str} {u : Value} : ∀ {xs : List Str} {us : List Value}, KeysAre H xs us → (∃ p, u = Value.ref p ∧ H p = some (.tup (keyV x))) → KeysAre H (xs ++ [x]) (us ++ [u])
  | _, _, .nil, h => .cons h .nil
  | _, _, .cons r t, h => .cons r (KeysAre.snoc t h)
theorem KeysAre.get {H : Hp} : ∀ {xs : List Str} {us : List Value}, KeysAre H xs us → ∀ i, i < us.length → ∃ x p, us.getD i Value.none = Value.ref p ∧ H p = some (.tup (keyV x))
  | _, _, .nil, i, h => absurd h (Nat.not_lt_zero _)
  | _, _, .cons (a := x) ⟨p, h1, h2⟩ _, 0, _ => ⟨x, p, h1, h2⟩
  | _, _, .cons _ t, i + 1, h => KeysAre.get t i (Nat.lt_of_succ_lt_succ h)
theorem same_new {H : Hp} {p : Addr} (h : H p = none) (o : HO) : Same H (upd H p o) := fun b u q => by rw [upd_ne (ne_of_none q h)]; exact q
section
variable {X : Cx} {pins : List (Addr × Obj)} {σ : L2.St} {H : Hp} {s : Shared}
/-- an untracked record of ours has turned -/
theorem own_turn {b : Addr} {h' : Heap} {t' : Nat} (I : Inv X pins σ H s) (f : FpOk X pins H b) (k : ∀ c o, c ≠ b → s.heap.get? c = some o → h'.get? c = some o) : Inv X pins σ H { s with heap := h', toks := t' } :=
  I.turned k f.1 f.2.1 f.2.2.2.1 f.2.2.2.2.1 f.2.2.2.2.2
/-- .. is pinned -/
theorem own_pin {b : Addr} {o : Obj} (I : Inv X pins σ H s) (f : FpOk X pins H b) (e : s.heap.get? b = some o) (d : ∀ v, o.data ≠ .cell v) : Inv X (pins ++ [(b, o)]) σ H s :=
  I.pins_of fun p hp => (List.mem_append.mp hp).elim (fun z => I.pin p (List.mem_append_right _ z)) fun z => by
    have q : p = (b, o) := by simpa using z
    subst q
    exact ⟨e, f.1, f.2.1, f.2.2.1, d⟩
theorem own_unpin {q : Addr × Obj} (I : Inv X (pins ++ [q]) σ H s) : Inv X pins σ H s := I.pins_of fun p hp => I.pin p (List.mem_append_right _ (List.mem_append_left _ hp))
theorem own_at {b : Addr} {o : Obj} (I : Inv X (pins ++ [(b, o)]) σ H s) : s.heap.get? b = some o ∧ H b = none := by
  have z := I.pin (b, o) (List.mem_append_right _ (List.mem_append_right _ (List.mem_singleton.mpr rfl)))
  exact ⟨z.1, z.2.1⟩
theorem fp_heap {H' : Hp} {b : Addr} (f : FpOk X pins H b) (h : H' b = none) : FpOk X pins H' b := ⟨h, f.2⟩
theorem fp_pin {b c : Addr} {o : Obj} (f : FpOk X pins H b) (h : c ≠ b) : FpOk X (pins ++ [(c, o)]) H b :=
  ⟨f.1, f.2.1, f.2.2.1, f.2.2.2.1, f.2.2.2.2.1, fun p hp => by
    rcases List.mem_append.mp hp with hp | hp
    · exact f.2.2.2.2.2 p (List.mem_append_left _ hp)
    · rcases List.mem_append.mp hp with hp | hp
      · exact f.2.2.2.2.2 p (List.mem_append_right _ hp)
      · have q : p = (c, o) := by simpa using hp
        subst q
        exact h⟩
end
theorem key_kind {P : Program} {w : World} {A : Around} {E : Value → Shared → Prop} {s : Shared} {H : Hp} {xs : List Str} {us : List Value} {Q : SortKind → Shared → Prop} (hok : HOk P w H s.heap) (k : KeysAre H xs us) (hl : 0 < us.length) (h : Q (tuples' true) s) :
    wpAny (model P w) A (keyKind' us.toArray) Q E s := by
  have key : ∀ {xs : List Str} {us : List Value}, KeysAre H xs us → ∃ fs, KatTups s.heap us fs ∧ fs.length = us.length ∧ ∀ v ∈ fs, ∃ (i : Int) (t : Tok), v = Value.int i t := by
    intro xs us k
    induction k with
    | nil => exact ⟨[], KatTups.nil, rfl, fun v hv => absurd hv (by simp)⟩
    | cons r _ ih =>
      obtain ⟨p, rfl, hp⟩ := r
      obtain ⟨fs, h1, h2, h3⟩ := ih
      obtain ⟨_, ws, rw', ⟨oy, ey, cy, ny, dy⟩⟩ := hok p _ hp
      obtain ⟨w1, w2, rfl, ⟨t3, rfl⟩, ⟨t4, rfl⟩⟩ := Vals.two rw'
      refine ⟨_ :: fs, KatTups.cons ey cy dy rfl h1, by rw [List.length_cons, List.length_cons, h2], fun v hv => ?_⟩
      rcases List.mem_cons.mp hv with rfl | hv
      · exact ⟨_, _, rfl⟩
      · exact h3 v hv
  obtain ⟨fs, h1, h2, h3⟩ := key k
  refine kat_kind (T := .type "int") h1 (by omega) (fun v hv => ?_) (by decide) (by rw [show (Value.type "int" != Value.type "tuple") = true by decide]; exact h)
  obtain ⟨i, t, rfl⟩ := h3 v hv
  exact fun A Q E s' _ q => wpAny_typeOf (typeIs_int s' i t) q
section
variable {X : Cx} {pins : List (Addr × Obj)} {σ : L2.St} {H : Hp} {s : Shared} {D f : Addr} {n k : Nat} {vs : List Value} {xs : List Str} {fd : FuncData} {P : PySem.Fin → Shared → Prop} {E : Value → Shared → Prop}
end
end Rg
set_option Elab.async false
set_option linter.all false
set_option maxRecDepth 100000
set_option maxHeartbeats 4000000
/-! What the sort answers, as a function of the words; the order of things, and the keys that tell it -/
namespace Rg
open PySem PySem.W PyProof.Rows
def kasRun {α : Type} (lt : Nat → Nat → Bool) : KasT α → α
  | .ret a => a
  | .ask i j k => kasRun lt (k (lt i j))
theorem kasRun_ok {α : Type} {lt : Nat → Nat → Bool} {n : Nat} {P : α → Prop} : ∀ {t : KasT α}, KOk n P t → P (kasRun lt t)
  | .ret _, h => h
  | .ask i j k, h => kasRun_ok (t := k (lt i j)) (h.2.2 _)
theorem kasWp_run {α : Type} {lt : Nat → Nat → Bool} {n : Nat} {P : α → Prop} {cmp : Nat → Nat → (Bool → Shared → Prop) → Shared → Prop} {s : Shared} {G : α → Shared → Prop}
    (hc : ∀ i j, i < n → j < n → ∀ C : Bool → Shared → Prop, C (lt i j) s → cmp i j C s) : ∀ {t : KasT α}, KOk n P t → G (kasRun lt t) s → t.kasWp cmp G s
  | .ret a, _, hG => hG
  | .ask i j k, h, hG => hc i j h.1 h.2.1 _ (kasWp_run hc (t := k (lt i j)) (h.2.2 _) hG)
def cmpI (i j : Int) : Ordering := if i = j then .eq else if i < j then .lt else .gt
def cmpS (x y : Str) : Ordering := if x = y then .eq else if x.cps.toList < y.cps.toList then .lt else .gt
def cmpW (x y : Str) : Ordering := (cmpI x.length y.length).then (cmpS x y)
def ltW (x y : Str) : Bool := cmpW x y == .lt
/-- the words in the order in which the sort by (length, word) leaves them -/
def srtP (xs : List Str) : List Nat := if xs.length < 2 then List.range xs.length else (kasRun (fun i j => ltW (xs.getD i Str.empty) (xs.getD j Str.empty)) (kas_sort xs.length)).toList
def srt (xs : List Str) : List Str := (srtP xs).map fun i => xs.getD i Str.empty
theorem srtP_perm (xs : List Str) : (srtP xs).Perm (List.range xs.length) := by
  unfold srtP
  split
  · exact List.Perm.refl _
  · rename_i h
    exact kasRun_ok (P := Pm xs.length) (sort_ok (by omega))
theorem range_getD (xs : List Str) : (List.range xs.length).map (fun i => xs.getD i Str.empty) = xs := by
  apply List.ext_getElem
  · simp
  · intro i q1 q2
    simp [List.getD_eq_getElem?_getD, List.getElem?_eq_getElem q2]
theorem srt_perm (xs : List Str) : (srt xs).Perm xs := by
  have z := (srtP_perm xs).map fun i => xs.getD i Str.empty
  rw [range_getD] at z
  exact z
theorem cmpI_refl (i : Int) : cmpI i i = .eq := by unfold cmpI; rw [if_pos rfl]
theorem cmpI_eq {i j : Int} (h : cmpI i j = .eq) : i = j := by
  unfold cmpI at h
  by_cases e : i = j
  · exact e
  · rw [if_neg e] at h
    by_cases l : i < j
    · rw [if_pos l] at h; cases h
    · rw [if_neg l] at h; cases h
theorem cmpI_swap (i j : Int) : cmpI j i = (cmpI i j).swap := by
  unfold cmpI
  by_cases e : i = j
  · rw [if_pos e, if_pos e.symm]; rfl
  · rw [if_neg e, if_neg (Ne.symm e)]
    by_cases l : i < j
    · rw [if_pos l, if_neg (by omega)]; rfl
    · rw [if_neg l, if_pos (by omega)]; rfl
theorem cmpS_refl (x : Str) : cmpS x x = .eq := by unfold cmpS; rw [if_pos rfl]
theorem cmpS_eq {x y : Str} (h : cmpS x y = .eq) : x = y := by
  unfold cmpS at h
  by_cases e : x = y
  · exact e
  · rw [if_neg e] at h
    by_cases l : x.cps.toList < y.cps.toList
    · rw [if_pos l] at h; cases h
    · rw [if_neg l] at h; cases h
theorem str_ext {x y : Str} (h : x.cps.toList = y.cps.toList) : x = y := by
  obtain ⟨⟨a⟩⟩ := x
  obtain ⟨⟨b⟩⟩ := y
  have e : a = b := h
  rw [e]
theorem cmpS_swap (x y : Str) : cmpS y x = (cmpS x y).swap := by
  unfold cmpS
  by_cases e : x = y
  · rw [if_pos e, if_pos e.symm]; rfl
  · rw [if_neg e, if_neg (Ne.symm e)]
    by_cases l : x.cps.toList < y.cps.toList
    · rw [if_pos l, if_neg (List.lt_asymm l)]; rfl
    · rw [if_neg l]
      have l2 : y.cps.toList < x.cps.toList := Classical.byContradiction fun n => e (str_ext (List.le_antisymm n l))
      rw [if_pos l2]; rfl
theorem then_swap (a b : Ordering) : (a.then b).swap = a.swap.then b.swap := by cases a <;> rfl
theorem then_eq {a b : Ordering} (h : a.then b = .eq) : a = .eq ∧ b = .eq := by cases a <;> cases b <;> first | exact ⟨rfl, rfl⟩ | cases h
theorem then_assoc (a b c : Ordering) : (a.then b).then c = a.then (b.then c) := by cases a <;> rfl
theorem cmpW_refl (x : Str) : cmpW x x = .eq := by unfold cmpW; rw [cmpI_refl, cmpS_refl]; rfl
theorem cmpW_swap (x y : Str) : cmpW y x = (cmpW x y).swap := by unfold cmpW; rw [then_swap, ← cmpI_swap, ← cmpS_swap]
/-- what a thing is, without what it holds -/
inductive Own where
  | num (i : Int)
  | word (x : Str)
  | row
  | dic
def Own.sort : Own → Int
  | .num _ => 0
  | .word _ => 1
  | .row => 2
  | .dic => 3
def neg (i : Int) : Int := if i < 0 then 1 else 0
def Own.in1 : Own → Own → Ordering
  | .num i, .num j => (cmpI i.natAbs j.natAbs).then (cmpI (neg i) (neg j))
  | .word x, .word y => cmpW x y
  | _, _ => .eq
def Own.cmp (a b : Own) : Ordering := (cmpI a.sort b.sort).then (a.in1 b)
theorem own_swap (a b : Own) : b.cmp a = (a.cmp b).swap := by
  unfold Own.cmp
  rw [then_swap, ← cmpI_swap]
  congr 1
  cases a <;> cases b <;> first | rfl | (unfold Own.in1; rw [then_swap, ← cmpI_swap, ← cmpI_swap]) | exact cmpW_swap _ _
theorem own_refl (a : Own) : a.cmp a = .eq := by
  unfold Own.cmp
  rw [cmpI_refl]
  cases a <;> first | rfl | exact cmpW_refl _ | (show Ordering.eq.then ((cmpI _ _).then (cmpI _ _)) = .eq; rw [cmpI_refl, cmpI_refl]; rfl)
/-- numbers by their distance from 0, then the one above -/
theorem num_in1 (i j : Int) : (Own.num i).in1 (.num j) = (cmpI i.natAbs j.natAbs).then (cmpI j i) := by
  show (cmpI i.natAbs j.natAbs).then (cmpI (neg i) (neg j)) = _
  unfold cmpI neg
  by_cases h : (i.natAbs : Int) = j.natAbs
  · rw [if_pos h]
    show (if (if i < 0 then (1 : Int) else 0) = (if j < 0 then (1 : Int) else 0) then Ordering.eq else if (if i < 0 then (1 : Int) else 0) < (if j < 0 then (1 : Int) else 0) then .lt else .gt) = (if j = i then Ordering.eq else if j < i then .lt else .gt)
    by_cases h1 : i < 0 <;> by_cases h2 : j < 0
    · rw [if_pos h1, if_pos h2, if_pos rfl, if_pos (by omega)]
    · rw [if_pos h1, if_neg h2, if_neg (by decide), if_neg (by decide), if_neg (by omega), if_neg (by omega)]
    · rw [if_neg h1, if_pos h2, if_neg (by decide), if_pos (by decide), if_neg (by omega), if_pos (by omega)]
    · rw [if_neg h1, if_neg h2, if_pos rfl, if_pos (by omega)]
  · rw [if_neg h]
    by_cases l : (i.natAbs : Int) < j.natAbs
    · rw [if_pos l]; rfl
    · rw [if_neg l]; rfl
structure Kt where
  f : Str
  n : Nat
  own : Own
def Kt.cmp (a b : Kt) : Ordering := (cmpW a.f b.f).then ((cmpI a.n b.n).then (a.own.cmp b.own))
theorem kt_swap (a b : Kt) : b.cmp a = (a.cmp b).swap := by unfold Kt.cmp; rw [then_swap, then_swap, ← cmpW_swap, ← cmpI_swap, ← own_swap]
def cmpL : List Kt → List Kt → Ordering
  | [], [] => .eq
  | [], _ :: _ => .lt
  | _ :: _, [] => .gt
  | a :: l, b :: m => (a.cmp b).then (cmpL l m)
theorem cmpL_swap : ∀ l m : List Kt, cmpL m l = (cmpL l m).swap
  | [], [] => rfl
  | [], _ :: _ => rfl
  | _ :: _, [] => rfl
  | a :: l, b :: m => by unfold cmpL; rw [then_swap, ← kt_swap, cmpL_swap l m]
def Th.own : Th → Own
  | .num i => .num i
  | .word x => .word x
  | .row _ => .row
  | .dic _ => .dic
mutual
/-- the order of things (their fields in order already) -/
def ordT : Th → Th → Ordering
  | .num i, b => (cmpI (1 : Nat) b.size).then ((Own.num i).cmp b.own)
  | .word x, b => (cmpI (1 : Nat) b.size).then ((Own.word x).cmp b.own)
  | .row l, b => (cmpI (l.size + 1 : Nat) b.size).then ((Own.row.cmp b.own).then (match b with | .row m => ordS l m | _ => .eq))
  | .dic l, b => (cmpI (l.size + 1 : Nat) b.size).then ((Own.dic.cmp b.own).then (match b with | .dic m => ordS l m | _ => .eq))
def ordS : Ts → Ts → Ordering
  | .nil, _ => .eq
  | .cons k t r, m => match m with
    | .nil => .eq
    | .cons k' t' r' => (cmpW k k').then ((ordT t t').then (ordS r r'))
end
mutual
def keyT : Str → Th → List Kt
  | f, .num i => [⟨f, 1, .num i⟩]
  | f, .word x => [⟨f, 1, .word x⟩]
  | f, .row l => ⟨f, l.size + 1, .row⟩ :: keyS l
  | f, .dic l => ⟨f, l.size + 1, .dic⟩ :: keyS l
def keyS : Ts → List Kt
  | .nil => []
  | .cons k t r => keyT k t ++ keyS r
end
theorem ordT_size {a b : Th} (h : ordT a b = .eq) : a.size = b.size := by
  cases a <;> (unfold ordT at h; have z := cmpI_eq (then_eq h).1; exact Int.ofNat.inj z)
theorem size_pos (t : Th) : 1 ≤ t.size := by cases t <;> (unfold Th.size; omega)
mutual
theorem key_cmp : ∀ (a : Th) (f g : Str) (b : Th) (R S : List Kt), cmpL (keyT f a ++ R) (keyT g b ++ S) = (cmpW f g).then ((ordT a b).then (cmpL R S))
  | .num i, f, g, b, R, S => by
    cases b <;> (unfold keyT ordT; show (Kt.cmp _ _).then _ = _; unfold Kt.cmp)
    · simp only [then_assoc, List.nil_append]; rfl
    · simp only [then_assoc, List.nil_append]; rfl
    · simp only [then_assoc]
      cases cmpW f g <;> rfl
    · simp only [then_assoc]
      cases cmpW f g <;> rfl
  | .word x, f, g, b, R, S => by
    cases b <;> (unfold keyT ordT; show (Kt.cmp _ _).then _ = _; unfold Kt.cmp)
    · simp only [then_assoc, List.nil_append]; rfl
    · simp only [then_assoc, List.nil_append]; rfl
    · simp only [then_assoc]
      cases cmpW f g <;> rfl
    · simp only [then_assoc]
      cases cmpW f g <;> rfl
  | .row l, f, g, b, R, S => by
    cases b with
    | num j =>
      unfold keyT ordT; show (Kt.cmp _ _).then _ = _; unfold Kt.cmp
      simp only [then_assoc]
      cases cmpW f g <;> first | rfl | (show (cmpI _ _).then _ = (cmpI _ _).then _; cases cmpI _ _ <;> rfl)
    | word y =>
      unfold keyT ordT; show (Kt.cmp _ _).then _ = _; unfold Kt.cmp
      simp only [then_assoc]
      cases cmpW f g <;> first | rfl | (show (cmpI _ _).then _ = (cmpI _ _).then _; cases cmpI _ _ <;> rfl)
    | row m =>
      unfold keyT ordT; show (Kt.cmp _ _).then (cmpL (keyS l ++ R) (keyS m ++ S)) = _; unfold Kt.cmp
      simp only [then_assoc]
      cases cmpW f g <;> try rfl
      show (cmpI (l.size + 1 : Nat) (m.size + 1 : Nat)).then _ = (cmpI (l.size + 1 : Nat) (m.size + 1 : Nat)).then _
      cases e : cmpI ((l.size + 1 : Nat) : Int) ((m.size + 1 : Nat) : Int) <;> try rfl
      have hz : l.size = m.size := by have z := cmpI_eq e; omega
      exact keyS_cmp l m R S hz
    | dic m =>
      unfold keyT ordT; show (Kt.cmp _ _).then _ = _; unfold Kt.cmp
      simp only [then_assoc]
      cases cmpW f g <;> first | rfl | (show (cmpI _ _).then _ = (cmpI _ _).then _; cases cmpI _ _ <;> rfl)
  | .dic l, f, g, b, R, S => by
    cases b with
    | num j =>
      unfold keyT ordT; show (Kt.cmp _ _).then _ = _; unfold Kt.cmp
      simp only [then_assoc]
      cases cmpW f g <;> first | rfl | (show (cmpI _ _).then _ = (cmpI _ _).then _; cases cmpI _ _ <;> rfl)
    | word y =>
      unfold keyT ordT; show (Kt.cmp _ _).then _ = _; unfold Kt.cmp
      simp only [then_assoc]
      cases cmpW f g <;> first | rfl | (show (cmpI _ _).then _ = (cmpI _ _).then _; cases cmpI _ _ <;> rfl)
    | row m =>
      unfold keyT ordT; show (Kt.cmp _ _).then _ = _; unfold Kt.cmp
      simp only [then_assoc]
      cases cmpW f g <;> first | rfl | (show (cmpI _ _).then _ = (cmpI _ _).then _; cases cmpI _ _ <;> rfl)
    | dic m =>
      unfold keyT ordT; show (Kt.cmp _ _).then (cmpL (keyS l ++ R) (keyS m ++ S)) = _; unfold Kt.cmp
      simp only [then_assoc]
      cases cmpW f g <;> try rfl
      show (cmpI (l.size + 1 : Nat) (m.size + 1 : Nat)).then _ = (cmpI (l.size + 1 : Nat) (m.size + 1 : Nat)).then _
      cases e : cmpI ((l.size + 1 : Nat) : Int) ((m.size + 1 : Nat) : Int) <;> try rfl
      have hz : l.size = m.size := by have z := cmpI_eq e; omega
      exact keyS_cmp l m R S hz
theorem keyS_cmp : ∀ (l m : Ts) (R S : List Kt), l.size = m.size → cmpL (keyS l ++ R) (keyS m ++ S) = (ordS l m).then (cmpL R S)
  | .nil, .nil, R, S, _ => by unfold keyS ordS; rfl
  | .nil, .cons k t r, R, S, h => by
    have z := size_pos t
    have h' : 0 = t.size + r.size := h
    omega
  | .cons k t r, .nil, R, S, h => by
    have z := size_pos t
    have h' : t.size + r.size = 0 := h
    omega
  | .cons k t r, .cons k' t' r', R, S, h => by
    have h' : t.size + r.size = t'.size + r'.size := h
    unfold keyS ordS
    rw [List.append_assoc, List.append_assoc, key_cmp t k k' t' (keyS r ++ R) (keyS r' ++ S), then_assoc, then_assoc]
    cases cmpW k k' <;> try rfl
    show (ordT t t').then _ = (ordT t t').then _
    cases e : ordT t t' <;> try rfl
    have z := ordT_size e
    exact keyS_cmp r r' R S (by omega)
end
/-- the keys are ordered as the things are -/
theorem ord_by_key (a b : Th) : cmpL (keyT Str.empty a) (keyT Str.empty b) = ordT a b := by
  have z := key_cmp a Str.empty Str.empty b [] []
  rw [List.append_nil, List.append_nil, cmpW_refl] at z
  rw [z]
  show (ordT a b).then .eq = ordT a b
  cases ordT a b <;> rfl
theorem ordT_swap (a b : Th) : ordT b a = (ordT a b).swap := by rw [← ord_by_key, ← ord_by_key, cmpL_swap]
end Rg
set_option Elab.async false
set_option linter.all false
set_option maxRecDepth 100000
set_option maxHeartbeats 4000000
/-! list(reversed(a list)); a walk over a record; the rule of sorted -/
namespace Rg
open PySem PySem.W PySem.Spec PyProof.Rows L2
theorem rev_nolen : typeLookup (.type "list_reverseiterator") "__len__" = pure none := by
  rw [typeLookup_type, builtinLookup_eq_fast]
  kernel_rfl
theorem rev_hasHint : typeLookup (.type "list_reverseiterator") "__length_hint__" = pure (some (.builtin "list_reverseiterator.__length_hint__")) := by
  rw [typeLookup_type, builtinLookup_eq_fast]
  kernel_rfl
section
variable {prog : Program} {w : World} {A : Around} {E : Value → Shared → Prop} {s : Shared}
theorem rev_hint {r : Addr} {Q : Bool → Shared → Prop} (hT : s.TypeIs (.ref r) "list_reverseiterator") (h : Q false s) : wpAny (model prog w) A (Builtin.List.listLengthHint (.ref r)) Q E s := by
  unfold Builtin.List.listLengthHint
  refine wpAny_bind (wpAny_specialOf hT rev_nolen ?_)
  show wpAny _ _ (specialOf (Value.ref r) (Str.ofString "__length_hint__") >>= _) _ _ s
  refine wpAny_bind (wpAny_specialOf hT rev_hasHint ?_)
  generalize hid : ("list_reverseiterator.__length_hint__" : String) = id0
  wp_delta
  rw [show splitId id0 = some ("list_reverseiterator", "__length_hint__") from by subst hid; decide +kernel]
  subst hid
  refine wpAny_bind (wpAny_isInstance (b := true) hT (by rw [isSubtype_type]; kernel_rfl) ?_)
  exact wpAny_pure h
theorem rev_items {items acc : Array Value} (h : ItemsOf (fun i v => items[items.size - 1 - i]? = some v) acc items.size) : acc.toList = items.toList.reverse := by
  obtain ⟨h1, h2⟩ := h
  apply List.ext_getElem?
  intro j
  by_cases hj : j < acc.size
  · have e := h2 j acc[j] (by simp [hj])
    rw [Array.getElem?_toList, Array.getElem?_eq_getElem hj, List.getElem?_reverse (by rw [Array.length_toList, ← h1]; exact hj), Array.length_toList, Array.getElem?_toList]
    exact e.symm
  · rw [List.getElem?_eq_none (by rw [Array.length_toList]; omega), List.getElem?_eq_none (by rw [List.length_reverse, Array.length_toList]; omega)]
theorem rev_extend {R : Result → Shared → Prop} {it l S : Addr} {items : Array Value} {res : Value} {c₀ : Nat} (hh : A.handled = none) (hit : s.heap.IsRevIter it l ((items.size : Int) - 1)) (hl : s.heap.IsList l items) (hli : l ≠ it) (hSl : S ≠ l) (hSi : S ≠ it)
    (hS : s.heap.get? S = some { cls := .type "list", data := .seq #[] c₀ }) (hn : items.size ≤ sizeLine)
    (hR : ∀ h' tk acc c, (∀ b o, b ≠ S → b ≠ it → s.heap.get? b = some o → h'.get? b = some o) → h'.get? S = some { cls := .type "list", dict := none, data := .seq acc c, slots := #[] } → acc.toList = items.toList.reverse → R (.ok (.ret res)) { s with heap := h', toks := tk }) :
    wpAny (model prog w) A.in1 (Builtin.List.listExtendWith (.ref S) (.ref it) res)
      (fun fin s' => match fin with | .done f => R (.ok f) s' | .again c' => c'.quiet = true ∧ codeAny (model prog w) A c' R s') (fun e s' => R (.error e) s') s := by
  have W := Walks.listRev (prog := prog) (w := w) (A := A.in1) hh it l hli items
  have hSf : S ∉ [it, l] := by
    intro z
    rcases List.mem_cons.mp z with z | z
    · exact hSi z
    · exact hSl (List.mem_singleton.mp z)
  have h0 : ((items.size : Int) - 1 - ((0 : Nat) : Int)) = (items.size : Int) - 1 := by omega
  have h1 : Builtin.List.listSameRef (.ref S) (.ref it) = false := by simp [Builtin.List.listSameRef, hSi]
  unfold Builtin.List.listExtendWith
  refine wpAny_bind (wpAny_typeOf hit.typeIs ?_)
  rw [if_neg (by rw [h1]; decide)]
  refine wpAny_bind (wpAny_pyIter_revIter hit ?_)
  refine wpAny_bind (wpAny_holding (rev_hint hit.typeIs ?_))
  rw [if_neg (by decide)]
  refine wpAny_pure ⟨plainId_quiet PySem.F.plain_extend_loop _, codeAny_extend_loopS W.toS hn S hSf res items.size 0 s #[] c₀ rfl (Nat.zero_le _) ⟨Nat.zero_le _, by rw [h0]; exact hit, hl⟩ hS (ItemsOf.nil _) fun s' acc c hm hS' hacc => ?_⟩
  rw [Moved.eq_with hm]
  refine hR s'.heap s'.toks acc c (fun b o hb hb2 q => hm.heap b o (fun z => ?_) q) hS' (rev_items hacc)
  rcases List.mem_cons.mp z with z | z
  · exact hb z
  · exact hb2 (List.mem_singleton.mp z)
theorem rev_init {R : Result → Shared → Prop} {it l S : Addr} {items : Array Value} (hh : A.handled = none) (hit : s.heap.IsRevIter it l ((items.size : Int) - 1)) (hl : s.heap.IsList l items) (hli : l ≠ it) (hSl : S ≠ l) (hSi : S ≠ it)
    (hS : s.heap.get? S = some { cls := .type "list", data := .seq #[] }) (hn : items.size ≤ sizeLine)
    (hR : ∀ h' tk acc c, (∀ b o, b ≠ S → b ≠ it → s.heap.get? b = some o → h'.get? b = some o) → h'.get? S = some { cls := .type "list", dict := none, data := .seq acc c, slots := #[] } → acc.toList = items.toList.reverse → R (.ok (.ret .none)) { s with heap := h', toks := tk }) :
    wpAny (model prog w) A.in1 (Builtin.«list.__init__» ⟨[.ref S, .ref it], []⟩)
      (fun fin s' => match fin with | .done f => R (.ok f) s' | .again c' => c'.quiet = true ∧ codeAny (model prog w) A c' R s') (fun e s' => R (.error e) s') s := by
  show wpAny _ _ (do let old ← Builtin.List.listItems (.ref S); Builtin.List.listUpdate (.ref S) (fun _ => #[]); letGo old.toList.reverse; Builtin.List.listExtendWith (.ref S) (.ref it) .none) _ _ s
  refine wpAny_bind (listItems_at hS rfl ?_)
  refine wpAny_bind (listUpdate_at hS rfl ?_ (Nat.zero_le _) (Nat.zero_le _))
  have hS₂ := Heap.get?_update_self (Obj.mapSeq (fun _ => (#[] : Array Value))) hS rfl
  have oth : ∀ b o, b ≠ S → s.heap.get? b = some o → (s.heap.update S (Obj.mapSeq (fun _ => (#[] : Array Value)))).get? b = some o := fun b o hb q => (Heap.get?_update_other _ _ (Ne.symm hb)).trans q
  obtain ⟨ol, el, rl⟩ := hl
  refine wpAny_bind (wpAny_letGo ?_)
  refine rev_extend (items := items) hh (hit.at fun o q => oth _ o (Ne.symm hSi) q) ⟨ol, oth _ _ (Ne.symm hSl) el, rl⟩ hli hSl hSi hS₂ hn fun h' tk acc c hk hS' hacc => ?_
  exact hR h' tk acc c (fun b o hb hb2 q => hk b o hb hb2 (oth b o hb q)) hS' hacc
theorem rev_call {Q : Value → Shared → Prop} {it l : Addr} {items : Array Value} (hh : A.handled = none) (hit : s.heap.IsRevIter it l ((items.size : Int) - 1)) (hl : s.heap.IsList l items) (hli : l ≠ it) (hn : items.size ≤ sizeLine)
    (hQ : ∀ h' tk acc c, (∀ b o, b ≠ it → s.heap.get? b = some o → h'.get? b = some o) → h'.get? s.heap.objs.size = some { cls := .type "list", dict := none, data := .seq acc c, slots := #[] } → acc.toList = items.toList.reverse → Q (.ref s.heap.objs.size) { s with heap := h', toks := tk }) :
    wpAny (model prog w) A (call (.type "list") [.ref it]) Q E s := by
  refine callType_codes (Q₁ := fun obj s₁ => obj = .ref s.heap.objs.size ∧ s₁ = { s with heap := s.heap.push { cls := .type "list", data := .seq #[] } }) PySem.F.called_list (PySem.F.typeCall_list_1 _) PySem.F.entry_list_init (code_list_new _ ⟨rfl, rfl⟩) fun obj s₁ h₁ => ?_
  obtain ⟨rfl, rfl⟩ := h₁
  have hS : (s.heap.push { cls := .type "list", data := .seq #[] }).get? s.heap.objs.size = some { cls := .type "list", data := .seq #[] } := Heap.get?_push_size _ rfl
  obtain ⟨oi, ei, _⟩ := id hit
  obtain ⟨ol, el, rl⟩ := id hl
  refine ⟨⟨_, hS, rfl⟩, PySem.F.args_list_init_2 _ _, rev_init (A := A.in1) (items := items) hh (hit.at fun o q => Heap.get?_push_of_some _ q) ⟨ol, Heap.get?_push_of_some _ el, rl⟩ hli (Nat.ne_of_gt (Heap.lt_size el)) (Nat.ne_of_gt (Heap.lt_size ei)) hS hn (fun h' tk acc c hk hS' hacc => ?_)⟩
  exact ⟨rfl, hQ h' tk acc c (fun b o hb q => hk b o (Nat.ne_of_lt (Heap.lt_size q)) hb (Heap.get?_push_of_some _ q)) hS' hacc⟩
end
section
variable {X : Cx} {pins : List (Addr × Obj)} {σ : L2.St} {H : Hp} {s : Shared} {D : Addr}
/-- an object of ours is tracked from here on -/
theorem inv_track {o : HO} (I : Inv X pins σ H s) (f : FpOk X pins H D) (hz : X.s₀.heap.objs.size ≤ D) (ok : ObjOk X.prog X.w (upd H D o) s.heap D o) : Inv X pins σ (upd H D o) s := by
  obtain ⟨f0, f1, f2, f3, f4, f5⟩ := f
  refine ⟨I.ok, I.os, I.bare, un_tail I.base hz hz f0 (.refl D s.heap), I.loc, I.cell, by rw [upd_ne (Ne.symm f1)]; exact I.free, fun y c q => by rw [upd_ne (f4 y c q)]; exact I.freeC y c q, fun p hp => ?_, fun a u q => ?_, I.len⟩
  · obtain ⟨z1, z2, z3⟩ := I.pin p hp
    exact ⟨z1, by rw [upd_ne (f5 p hp)]; exact z2, z3⟩
  · by_cases ha : a = D
    · subst ha
      rw [upd_same] at q
      cases q
      exact ok
    · rw [upd_ne ha] at q
      exact (I.hok a u q).stay (fun b v _ q' => q') (fun b z => by rw [upd_ne (ne_of_none z f0)]; exact z) fun b xs z => by rw [upd_ne (ne_of_none z f0)]; exact z
end
section
variable {X : Cx} {e : Expr} {te : TE} {p p2 pos pos2 : Pos}
theorem pe_listrev (hc : X.calm = true) (hg : Gl X "list") (hm : X.mg "list" = none) (hg2 : Gl X "reversed") (hm2 : X.mg "reversed" = none) (he : PE X e te) (h0 : starEach [e] X.env = [(false, eval e X.env)] := by rfl)
    (h1 : starEach [.Call (.Name "reversed" p2) [e] [] pos2] X.env = [(false, eval (.Call (.Name "reversed" p2) [e] [] pos2) X.env)] := by rfl) :
    PE X (.Call (.Name "list" p) [.Call (.Name "reversed" p2) [e] [] pos2] [] pos) (fun σ H Q => te σ H fun x H1 => ∃ a xs, x = .ref a ∧ SqL X.K H1 a xs ∧ ∀ p, H1 p = none → Q (.ref p) (upd H1 p (.lst xs.reverse))) := by
  intro pins s σ H Q I h
  refine wpAny_Call_Name_kw (ld_blt I hg hm boot_list ?_)
  refine PyProof.Rows.callWith_type1 ?_ (by rw [h1]; rfl) rfl
  rw [h1]
  show wpAny _ _ (spliced ((false, eval (.Call (.Name "reversed" p2) [e] [] pos2) X.env) :: backTo pos [])) _ _ s
  refine Calls.spliced_cons ?_
  refine wpAny_Call_Name_kw (ld_blt I hg2 hm2 boot_reversed ?_)
  refine PyProof.Rows.callWith_type1 ?_ (by rw [h0]; rfl) rfl
  rw [h0]
  show wpAny _ _ (spliced ((false, eval e X.env) :: backTo pos2 [])) _ _ s
  refine Calls.spliced_cons (thn (he pins s σ H _ I h) fun u s1 ⟨x, H1, I1, ru, a, xs, ex, hq, q⟩ => ?_)
  subst ex
  cases ru
  refine Calls.spliced_nil ?_
  obtain ⟨its, rv, pl, hz⟩ := I1.list hq
  refine call_reversed_list pl.isList ?_
  refine Calls.spliced_nil ?_
  have hl := rv.length
  have hil : its.toArray.size ≤ sizeLine := by rw [List.size_toArray, ← hl]; exact hz
  have I2 : Inv X pins σ H1 { s1 with heap := s1.heap.push (revObj a ((its.toArray.size : Int) - 1)), toks := s1.toks } := I1.kept fun b o z => Heap.get?_push_of_some _ z
  have fI : FpOk X pins H1 s1.heap.objs.size := I1.fpOk (Nat.le_refl _) (I1.hok.fresh (Nat.le_refl _))
  have pl' : (s1.heap.push (revObj a ((its.toArray.size : Int) - 1))).IsList a its.toArray := by
    obtain ⟨ol, el, rl⟩ := pl.isList
    exact ⟨ol, Heap.get?_push_of_some _ el, rl⟩
  have hai : a ≠ s1.heap.objs.size := by
    obtain ⟨ol, el, rl⟩ := pl.isList
    exact Nat.ne_of_lt (Heap.lt_size el)
  refine rev_call (items := its.toArray) (I.ok.hd hc) ⟨_, Heap.get?_push_size _ rfl, rfl, rfl⟩ pl' hai hil fun h' tk acc c hk hD hacc => ?_
  have I3 := own_turn (h' := h') (t' := tk) I2 fI fun c' o hc' z => hk c' o hc' z
  have fD : FpOk X pins H1 (s1.heap.push (revObj a ((its.toArray.size : Int) - 1))).objs.size := I2.fpOk (Nat.le_refl _) (I2.hok.fresh (Nat.le_refl _))
  refine ⟨.ref _, upd H1 _ (.lst xs.reverse), inv_track I3 fD I2.sz ?_, rfl, q _ fD.1⟩
  refine ⟨by rw [List.length_reverse]; exact hz, its.reverse, c, Vals.reverse rv, ?_⟩
  have ea : acc = its.reverse.toArray := by
    apply Array.toList_inj.mp
    rw [hacc]
  rw [ea] at hD
  exact hD
end
end Rg
namespace Rg
open PySem PySem.W PySem.Spec PyProof.Rows L2
/-! ### sorted -/
def CallKR (X : Cx) (id : String) (ks : List Str) (r : List V → List V → Hp → VK → Prop) : Prop :=
  ∀ (pins : List (Addr × Obj)) (s : Shared) (σ : L2.St) (H : Hp) (vs zs : List V) (us ws : List Value) (Q : VK), Inv X pins σ H s → Vals vs us → Vals zs ws → r vs zs H Q →
    wpAny (model X.prog X.w) X.A (call (.builtin id) us (ks.zip ws)) (EP X pins σ Q) X.xe s
section
variable {X : Cx} {x : Str} {id : String} {ks : List Str} {r : List V → List V → Hp → VK → Prop} {e : Expr} {es : List Expr} {kws : List Keyword} {t tk : TA} {p pos : Pos}
theorem pe_callBK (hc : CallKR X id ks r) (hg : Gl X x) (hm : X.mg x = none) (hv : bootBuiltins x = some (.builtin id)) (ha : PA X (e :: es) t) (hkw : PK X kws tk) (hks : (backToKw pos (keywordEach kws X.env)).filterMap (·.1) = ks := by rfl)
    (hn : x ≠ "__name__" := by decide) (hdb : (x == ("__debug__" : Str)) = false := by decide)
    (he : backTo pos (starEach (e :: es) X.env) = (false, eval e X.env) :: backTo pos (starEach es X.env) := by rfl) (hplain : (backTo pos (starEach (e :: es) X.env)).any (·.1) = false := by rfl)
    (hall : (backToKw pos (keywordEach kws X.env)).all (·.1.isSome) = true := by rfl) (hkn : (backToKw pos (keywordEach kws X.env)).any (·.1.isNone) = false := by rfl) :
    PE X (.Call (.Name x p) (e :: es) kws pos) (fun σ H Q => t σ H fun vs H1 => tk σ H1 fun zs H2 => r vs zs H2 Q) := by
  intro pins s σ H Q I h
  refine wpAny_Call_Name_kw (ld_blt I hg hm hv ?_ hn hdb)
  refine callWith_kw (thn (ha pos pins s σ H _ I h) fun us s1 ⟨vs, H1, I1, r1, q1⟩ => thn (hkw pos pins s1 σ H1 _ I1 q1) fun ws s2 ⟨zs, H2, I2, rz, q2⟩ => ?_) he hplain hall hkn
  rw [hks]
  exact hc pins s2 σ H2 vs zs us ws Q I2 r1 rz q2
end
/-- the fields of a record in some order -/
def rSortD (f : Addr) : List V → List V → Hp → VK → Prop := fun vs zs H Q => ∃ a kvs, vs = [.ref a] ∧ zs = [.ref f] ∧ H a = some (.dK kvs) ∧ kvs.length < 64 ∧ (∃ xs : List Str, kvs.map (·.1) = xs.map Sum.inr ∧ (∀ x ∈ xs, x.length ≤ 1000) ∧
  ∀ (q : Addr) (H' : Hp) (ys : List Str), Same H H' → H' q = some (.lst (ys.map V.str)) → ys.Perm xs → Q (.ref q) H')
section
variable {X : Cx} {f : Addr} {k : Nat} {fd : FuncData}
end
end Rg
set_option Elab.async false
set_option linter.all false
set_option maxRecDepth 100000
set_option maxHeartbeats 4000000
/-! sorted(a record, key = (length, word)): just srt of its fields; sorted(a record): some order of its fields -/
namespace Rg
open PySem PySem.W PySem.Spec PyProof.Rows L2
theorem KeysAre.getAt {H : Hp} : ∀ {xs : List Str} {us : List Value}, KeysAre H xs us → ∀ i, i < us.length → ∃ p, us.getD i Value.none = Value.ref p ∧ H p = some (.tup (keyV (xs.getD i Str.empty)))
  | _, _, .nil, i, h => absurd h (Nat.not_lt_zero _)
  | _, _, .cons (a := x) ⟨p, h1, h2⟩ _, 0, _ => ⟨p, h1, h2⟩
  | _, _, .cons _ t, i + 1, h => KeysAre.getAt t i (Nat.lt_of_succ_lt_succ h)
theorem key_ltW {P : Program} {w : World} {A : Around} {E : Value → Shared → Prop} {s : Shared} {H : Hp} {x y : Str} {p q : Addr} {C : Bool → Shared → Prop} (hok : HOk P w H s.heap) (hp : H p = some (.tup (keyV x))) (hq : H q = some (.tup (keyV y))) (h : C (ltW x y) s) :
    wpAny (model P w) A (keyLt' (tuples' true) (.ref p) (.ref q)) C E s := by
  obtain ⟨_, us, ru, ⟨ox, ex, cx, nx, dx⟩⟩ := hok p _ hp
  obtain ⟨_, ws, rw', ⟨oy, ey, cy, ny, dy⟩⟩ := hok q _ hq
  obtain ⟨u1, u2, rfl, ⟨t1, rfl⟩, ⟨t2, rfl⟩⟩ := Vals.two ru
  obtain ⟨w1, w2, rfl, ⟨t3, rfl⟩, ⟨t4, rfl⟩⟩ := Vals.two rw'
  refine kat_lt ex dx ey dy ?_
  refine kat_cons (SeqAt.EqAt.int_int _ _ _ _ P w _ _ ?_)
  refine kat_go (fun e1 => kat_yes ?_) (fun e1 => kat_no (oneLt_int ?_))
  · have z1 : ((x.length : Nat) : Int) = ((y.length : Nat) : Int) := beq_iff_eq.mp e1
    refine kat_cons (SeqAt.EqAt.str_str _ _ _ _ P w _ _ ?_)
    refine kat_go (fun e2 => kat_yes (kat_nil ?_)) (fun e2 => kat_no (kat_one _ _ (lt_str (show W.BoolBack _ (Value.bool _) _ from ?_))))
    · have z2 : x = y := beq_iff_eq.mp e2
      subst z2
      have z3 : ltW x x = false := by unfold ltW; rw [cmpW_refl]; rfl
      rw [z3] at h
      exact h
    · have z2 : ¬ x = y := beq_eq_false_iff_ne.mp e2
      have z3 : ltW x y = decide (x.cps.toList < y.cps.toList) := by
        unfold ltW cmpW cmpI cmpS
        rw [if_pos z1, if_neg z2]
        by_cases l : x.cps.toList < y.cps.toList
        · rw [if_pos l, decide_eq_true l]; rfl
        · rw [if_neg l, decide_eq_false l]; rfl
      rw [z3] at h
      exact h
  · have z1 : ¬ ((x.length : Nat) : Int) = ((y.length : Nat) : Int) := beq_eq_false_iff_ne.mp e1
    have z3 : ltW x y = decide (((x.length : Nat) : Int) < ((y.length : Nat) : Int)) := by
      unfold ltW cmpW cmpI
      rw [if_neg z1]
      by_cases l : ((x.length : Nat) : Int) < ((y.length : Nat) : Int)
      · rw [if_pos l, decide_eq_true l]; rfl
      · rw [if_neg l, decide_eq_false l]; rfl
    rw [z3] at h
    exact h
section
variable {X : Cx} {pins : List (Addr × Obj)} {σ : L2.St} {H : Hp} {s : Shared} {D f : Addr} {n k : Nat} {vs : List Value} {xs : List Str} {fd : FuncData} {wd : Str} {sp : Sp} {P : PySem.Fin → Shared → Prop} {E : Value → Shared → Prop}
/-- the list is emptied while the keys are told; then it stands in order -/
theorem sort_tree2 (I : Inv X pins σ H s) (hD : s.heap.get? D = some (seqObj "list" vs.toArray n)) (fD : FpOk X pins H D) (rv : Vals (xs.map V.str) vs) (hx : ∀ x ∈ xs, x.length ≤ 1000) (h64 : xs.length < 64) (hne : ∀ e s, X.xe e s → False)
    (F : FnOk X.prog X.w X.K X.mg X.base CX0 k f fd [wd] sp) (hsp : ∀ (H' : Hp) (vs : List V) (Q : VK) (E : XK), Same H H' → spKey vs H' Q E → sp vs H' Q E) (hr : Room k X.A) (hb : Binds X.K fd [wd] [])
    (h : ∀ (s' : Shared) (H' : Hp) (us' : List Value) (n' : Nat), Inv X pins σ H' s' → Same H H' → H' D = none → s'.heap.get? D = some (seqObj "list" (List.toArray us') n') → Vals ((srt xs).map V.str) us' → P (.done (.ret .none)) s') :
    wpAny (model X.prog X.w) X.A (ksk_tree D (.ref f) false) P E s := by
  have hlen : xs.length = vs.length := by rw [← rv.length, List.length_map]
  have hz : vs.length ≤ sizeLine := by rw [← hlen, sizeLine_eq]; omega
  unfold ksk_tree
  refine wpAny_bind (listItems_at hD rfl ?_)
  refine wpAny_bind (listUpdate_at hD rfl ?_ (by rw [List.size_toArray]; exact hz) (Nat.zero_le _))
  obtain ⟨e1, ho1⟩ : ∃ e1, (s.heap.update D (Obj.mapSeq fun _ => (#[] : Array Value))).get? D = some (seqObj "list" #[] e1) := ⟨_, get?_update_seq hD fun _ => #[]⟩
  have I1 : Inv X pins σ H { s with heap := s.heap.update D (Obj.mapSeq fun _ => (#[] : Array Value)), toks := s.toks } :=
    own_turn I fD fun c o hc q => (Heap.get?_update_other _ _ (Ne.symm hc)).trans q
  refine wpAny_bind (seqEpoch_at ho1 rfl ?_)
  refine wpAny_bind (wpAny_newTuple ?_ (by show vs.length ≤ _; exact hz))
  refine wpAny_bind (wpAny_newList ?_ (Nat.zero_le _))
  refine wpAny_holding ?_
  generalize hg : s.heap.update D (Obj.mapSeq fun _ => (#[] : Array Value)) = g1 at I1 ho1 ⊢
  have I2 : Inv X pins σ H { s with heap := g1.push { cls := .type "tuple", data := .seq vs.toArray }, toks := s.toks } := I1.kept (fun b o q => Heap.get?_push_of_some _ q)
  generalize hg2 : g1.push { cls := .type "tuple", data := .seq vs.toArray } = g2 at I2 ⊢
  have ho2 : g2.get? D = some (seqObj "list" #[] e1) := by rw [← hg2]; exact Heap.get?_push_of_some _ ho1
  have I3 : Inv X pins σ H { s with heap := g2.push { cls := .type "list", data := .seq ([] : List Value).toArray }, toks := s.toks } := I2.kept (fun b o q => Heap.get?_push_of_some _ q)
  have fK : FpOk X pins H g2.objs.size := I2.fpOk (Nat.le_refl _) (I2.hok.fresh (Nat.le_refl _))
  have hDK : D ≠ g2.objs.size := Nat.ne_of_lt (Heap.lt_size ho2)
  have ho3 : (g2.push { cls := .type "list", data := .seq ([] : List Value).toArray }).get? D = some (seqObj "list" #[] e1) := Heap.get?_push_of_some _ ho2
  have hk3 : (g2.push { cls := .type "list", data := .seq ([] : List Value).toArray }).get? g2.objs.size = some (seqObj "list" (List.toArray ([] : List Value)) 0) := Heap.get?_push_size _ rfl
  have I4 : Inv X (pins ++ [(D, seqObj "list" #[] e1)] ++ [(g2.objs.size, seqObj "list" (List.toArray ([] : List Value)) 0)]) σ H { s with heap := g2.push { cls := .type "list", data := .seq ([] : List Value).toArray }, toks := s.toks } :=
    own_pin (own_pin I3 fD ho3 (fun v z => nomatch z)) (fp_pin fK hDK) hk3 (fun v z => nomatch z)
  generalize hkS : g2.objs.size = kS at fK hDK hk3 I4 ⊢
  -- the rest, from the state with the keys' list
  unfold ksk_rest
  refine wpAny_bind (wpAny_rule ?_)
  rw [← Array.forIn_toList]
  refine wpAny_bind (ksk_fold (fun i t => ∃ ks c H', Inv X (pins ++ [(D, seqObj "list" #[] e1)] ++ [(kS, seqObj "list" (List.toArray ks) c)]) σ H' t ∧ Same H H' ∧ KeysAre H' (xs.take i) ks) vs.toArray.toList 0 _ ⟨[], 0, H, I4, Same.refl H, .nil⟩ ?_ ?_)
  · rintro i v t hv ⟨ks, c, H', It, sm, kk⟩
    rw [Nat.zero_add] at kk ⊢
    have hv' : vs[i]? = some v := by simpa using hv
    have hi : i < xs.length := by rw [hlen]; exact (List.getElem?_eq_some_iff.mp hv').1
    obtain ⟨u, hu, ru⟩ := rv.get (x := .str xs[i]) (i := i) (by rw [List.getElem?_map, List.getElem?_eq_getElem hi]; rfl)
    rw [hv'] at hu
    cases hu
    have hkl : ks.length < 64 := by
      have := Paired.length kk
      rw [List.length_take] at this
      omega
    refine wpAny_bind (wpAny_attempt (wpAny_mono (run_fn F hr hb .nil pass0 It (.cons ru .nil) (Q := fun y H2 => ∃ p, y = .ref p ∧ H' p = none ∧ H2 = upd H' p (.tup (keyV xs[i])))
      (hsp _ _ _ _ sm ⟨xs[i], rfl, hx _ (List.getElem_mem hi), fun p hp => ⟨p, rfl, hp, rfl⟩⟩)) (fun r t1 hq => ?_) fun e t1 hq => (hne e t1 hq).elim))
    obtain ⟨y, H2, I5, r5, p, rfl, hp, rfl⟩ := hq
    cases r5
    have hk5 := own_at I5
    have I6 := own_unpin I5
    have f6 : FpOk X (pins ++ [(D, seqObj "list" #[] e1)]) (upd H' p (.tup (keyV xs[i]))) kS := fp_heap (fp_pin fK hDK) hk5.2
    refine wpAny_bind (listUpdate_at hk5.1 rfl ?_ (by rw [List.size_toArray, sizeLine_eq]; omega) (Nat.le_trans (Nat.le_of_eq (Array.size_push ..)) (by rw [List.size_toArray, sizeLine_eq]; omega)))
    have hup := get?_update_seq hk5.1 (·.push (Value.ref p))
    have ea : (List.toArray ks).push (Value.ref p) = List.toArray (ks ++ [Value.ref p]) := by simp
    rw [ea] at hup
    have I7 := own_pin (own_turn (h' := t1.heap.update kS (Obj.mapSeq (·.push (Value.ref p)))) (t' := t1.toks) I6 f6 fun c' o hc q => (Heap.get?_update_other _ _ (Ne.symm hc)).trans q) f6 hup (fun v z => nomatch z)
    have sm2 : Same H' (upd H' p (.tup (keyV xs[i]))) := same_new hp _
    refine wpAny_pure ⟨rfl, _, _, _, I7, sm.trans sm2, ?_⟩
    have et : xs.take (i + 1) = xs.take i ++ [xs[i]] := List.take_succ_eq_append_getElem hi
    rw [et]
    exact KeysAre.snoc (kk.mono sm2) ⟨p, rfl, upd_same⟩
  · rintro t ⟨ks, c, H', It, sm, kk⟩
    rw [Nat.zero_add] at kk
    have efull : xs.take vs.toArray.toList.length = xs := List.take_of_length_le (by simp [hlen])
    rw [efull] at kk
    have hkl : ks.length = vs.length := by rw [← hlen]; exact (Paired.length kk).symm
    have hk5 := own_at It
    have hD5 := own_at (own_unpin It)
    -- the end, by the places in order
    have fin : ∀ (st : SortSt) (p : List Nat), p = srtP xs → (arrOf st).map (·.2) = List.toArray (p.map fun i => vs.getD i Value.none) → failedOf st = none → wpAny (model X.prog X.w) X.A (ksk_tail D false e1 (.ref kS) st) P E t := by
      intro st p hps hst hf
      have hp : p.Perm (List.range vs.length) := by rw [hps, ← hlen]; exact srtP_perm xs
      unfold ksk_tail
      try dsimp only
      rw [hst]
      refine wpAny_bind (listUpdate_at hk5.1 rfl ?_ (by rw [List.size_toArray, sizeLine_eq]; omega) (Nat.zero_le _))
      have f6 : FpOk X (pins ++ [(D, seqObj "list" #[] e1)]) H' kS := fp_heap (fp_pin fK hDK) hk5.2
      have I7 := own_turn (h' := t.heap.update kS (Obj.mapSeq fun _ => (#[] : Array Value))) (t' := t.toks) (own_unpin It) f6 fun c' o hc q => (Heap.get?_update_other _ _ (Ne.symm hc)).trans q
      have hD7 := own_at I7
      refine wpAny_bind (wpAny_letGo ?_)
      refine wpAny_bind (seqEpoch_at hD7.1 rfl ?_)
      have hpl : (List.toArray (p.map fun i => vs.getD i Value.none)).size = vs.length := by rw [List.size_toArray, List.length_map, hp.length_eq, List.length_range]
      have hif : (if false = true then (List.toArray (p.map fun i => vs.getD i Value.none)).reverse else List.toArray (p.map fun i => vs.getD i Value.none)) = List.toArray (p.map fun i => vs.getD i Value.none) := by simp
      rw [hif]
      refine wpAny_bind (listUpdate_at hD7.1 rfl ?_ (Nat.zero_le _) (by rw [hpl]; omega))
      rw [hf]
      simp only [bne_self_eq_false, Bool.false_eq_true, if_false]
      have f8 : FpOk X pins H' D := fp_heap fD hD5.2
      have I8 := own_turn (h' := (t.heap.update kS (Obj.mapSeq fun _ => (#[] : Array Value))).update D (Obj.mapSeq fun _ => List.toArray (p.map fun i => vs.getD i Value.none))) (t' := t.toks) (own_unpin I7) f8 fun c' o hc q => (Heap.get?_update_other _ _ (Ne.symm hc)).trans q
      have hup := get?_update_seq hD7.1 (fun _ => List.toArray (p.map fun i => vs.getD i Value.none))
      refine wpAny_pure (h _ H' (p.map fun i => vs.getD i Value.none) _ I8 sm hD5.2 hup ?_)
      have hlt : ∀ i ∈ p, i < vs.length := fun i hi => List.mem_range.mp (hp.mem_iff.mp hi)
      have es : srt xs = p.map fun i => xs.getD i Str.empty := by rw [hps]; rfl
      rw [es]
      clear hp hst hpl hif hup I8 hps es
      induction p with
      | nil => exact .nil
      | cons i r ih =>
        have hi := hlt i List.mem_cons_self
        have hi' : i < xs.length := by rw [hlen]; exact hi
        obtain ⟨u, hu, ru⟩ := rv.get (x := .str xs[i]) (i := i) (by rw [List.getElem?_map, List.getElem?_eq_getElem hi']; rfl)
        refine .cons ?_ (ih fun j hj => hlt j (List.mem_cons_of_mem _ hj))
        have e2 : vs.getD i Value.none = u := by rw [List.getD_eq_getElem?_getD, hu]; rfl
        have e3 : xs.getD i Str.empty = xs[i] := by rw [List.getD_eq_getElem?_getD, List.getElem?_eq_getElem hi']; rfl
        show L2.RelV (V.str (xs.getD i Str.empty)) (vs.getD i Value.none)
        rw [e2, e3]
        exact ru
    refine wpAny_bind (listItems_at hk5.1 rfl ?_)
    unfold ksk_end
    try dsimp only
    by_cases h2 : vs.length < 2
    · have hs2 : vs.toArray.size < 2 := by rw [List.size_toArray]; exact h2
      simp only [hs2, if_true, Bool.false_eq_true, if_false]
      refine wpAny_bind (wpAny_pure ?_)
      refine wpAny_bind (wpAny_pure ?_)
      refine fin _ (List.range vs.length) (by unfold srtP; rw [if_pos (by omega), hlen]) ?_ rfl
      show (((List.toArray ks).zip vs.toArray).map (·.2)) = _
      apply Array.toList_inj.mp
      rw [Array.toList_map, ksk_zip, List.map_snd_zip (by rw [hkl]; exact Nat.le_refl _)]
      apply List.ext_getElem
      · simp
      · intro i q1 q2
        simp [List.getD_eq_getElem?_getD, List.getElem?_eq_getElem q1]
    · have hs2 : ¬ vs.toArray.size < 2 := by rw [List.size_toArray]; exact h2
      simp only [hs2, if_false, Bool.false_eq_true]
      refine wpAny_bind (key_kind It.hok kk (by omega) ?_)
      refine wpAny_bind (wpAny_mono (kat_run (ks := ks) (vs := vs) (κ := tuples' true) (Q := fun st' s' => s' = t ∧ ∃ p : Array Nat, p.toList = srtP xs ∧ arrOf st' = p.map (kas_item (ks.toArray.zip vs.toArray)) ∧ failedOf st' = none)
        (G := fun p s' => s' = t ∧ p.toList = srtP xs) hkl (by omega) (by omega) (fun p st' s' _ a2 a3 a4 => ⟨a4.1, p, a4.2, a2, a3⟩) (kasWp_run (lt := fun i j => ltW (xs.getD i Str.empty) (xs.getD j Str.empty)) (fun i j hi hj C hC => ?_) (sort_ok (by omega)) ⟨rfl, by unfold srtP; rw [if_neg (by omega), hlen]⟩)) ?_ fun _ _ x => x)
      · obtain ⟨p1, e1', q1⟩ := kk.getAt i (by rw [hkl]; exact hi)
        obtain ⟨p2, e2', q2⟩ := kk.getAt j (by rw [hkl]; exact hj)
        show wpAny _ _ (keyLt' _ (ks.getD i Value.none) (ks.getD j Value.none)) _ _ _
        rw [e1', e2']
        exact key_ltW It.hok q1 q2 hC
      · rintro ⟨⟨⟩, st'⟩ s' ⟨rfl, p, hp, har, hf⟩
        exact fin st' p.toList hp (kat_snds hkl har) hf
end
/-- the fields of a record in some order -/
def rSortW (sp : Sp) (f : Addr) : List V → List V → Hp → VK → Prop := fun vs zs H Q => ∃ a kvs, vs = [.ref a] ∧ zs = [.ref f] ∧ H a = some (.dK kvs) ∧ (∀ (H' : Hp) (vs : List V) (Q : VK) (E : XK), Same H H' → spKey vs H' Q E → sp vs H' Q E) ∧ kvs.length < 64 ∧ (∃ xs : List Str, kvs.map (·.1) = xs.map Sum.inr ∧ (∀ x ∈ xs, x.length ≤ 1000) ∧
  ∀ (q : Addr) (H' : Hp), Same H H' → H' q = some (.lst ((srt xs).map V.str)) → Q (.ref q) H')
section
variable {X : Cx} {f : Addr} {k : Nat} {fd : FuncData} {wd : Str} {sp : Sp}
theorem call_sortW (hc : X.calm = true) (hne : ∀ e s, X.xe e s → False) (F : FnOk X.prog X.w X.K X.mg X.base CX0 k f fd [wd] sp) (hr : Room (k + 1 + 1) X.A) (hb : Binds X.K fd [wd] []) : CallKR X "sorted" [Str.ofString "key"] (rSortW sp f) := by
  intro pins s σ H vs zs us ws Q I rv rz h
  obtain ⟨a, kvs, rfl, rfl, ha, hsp, h64, xs, hkeys, hx, q⟩ := h
  obtain ⟨u, rfl, ru⟩ := vals1 rv
  obtain ⟨u2, rfl, ru2⟩ := vals1 rz
  cases ru
  cases ru2
  obtain ⟨zl, hd, dvs, rel, dd⟩ := dk_of I.hok ha
  obtain ⟨ep, dat⟩ := dd.dictAt
  have hlen := rel.length
  have hkv : kvs.map (·.1) = dvs.map (·.1) := rel.keys
  show wpAny _ _ (call (.builtin "sorted") [.ref a] [(Str.ofString "key", .ref f)]) _ _ s
  refine call_function_entry_kw kind_sorted plain_sorted entry_sorted (ksk_s1 _ _) ?_
  unfold Builtin.«sorted»
  refine wpAny_bind (m := checkCount "sorted" 1 1 _) (wpAny_pure ?_)
  refine wpAny_bind (kdu_collect (kdl_dict hd) (show X.A.in1.handled = none from I.ok.hd hc) dat (by rw [← hlen]; exact zl) fun h1 tk acc hk items => ?_)
  have I1 : Inv X pins σ H { s with heap := h1, toks := tk } := I.kept hk
  have hacc : acc.toList.length = kvs.length := by rw [Array.length_toList, items.1, hlen]
  have hxl : xs.length = kvs.length := by
    have z := congrArg List.length hkeys
    rw [List.length_map, List.length_map] at z
    exact z.symm
  have rvs : Vals (xs.map V.str) acc.toList := by
    have key : ∀ (l : List Str) (m : List Value), l.length = m.length → (∀ (j : Nat) (x : Str) (v : Value), l[j]? = some x → m[j]? = some v → ∃ t, v = Value.str x t) → Vals (l.map V.str) m := by
      intro l
      induction l with
      | nil => intro m hm _; cases m with
        | nil => exact .nil
        | cons _ _ => simp at hm
      | cons x l ih => intro m hm hj; cases m with
        | nil => simp at hm
        | cons v m => exact .cons (hj 0 x v rfl rfl) (ih m (by simpa using hm) fun j y w h1 h2 => hj (j + 1) y w (by simpa using h1) (by simpa using h2))
    refine key xs acc.toList (by omega) fun j x v q1 q2 => ?_
    obtain ⟨k', y, e1, e2⟩ := items.2 j v (by rw [← Array.getElem?_toList]; exact q2)
    have e3 : (dvs.map (·.1))[j]? = some k' := by rw [List.getElem?_map, e1]; rfl
    rw [← hkv, hkeys, List.getElem?_map, q1] at e3
    have e4 : Sum.inr x = k' := Option.some.inj e3
    subst e4
    exact Value.isStrOf_shape (x := x) (v := v) e2
  refine wpAny_bind (wpAny_newList ?_ (by rw [hacc]; exact zl))
  have I2 : Inv X pins σ H { s with heap := h1.push { cls := .type "list", data := .seq acc.toList.toArray }, toks := tk } := I1.kept fun b o z => Heap.get?_push_of_some _ z
  have fD : FpOk X pins H h1.objs.size := I1.fpOk (Nat.le_refl _) (I1.hok.fresh (Nat.le_refl _))
  have hD : (h1.push { cls := .type "list", data := .seq acc.toList.toArray }).get? h1.objs.size = some (seqObj "list" (List.toArray acc.toList) 0) := Heap.get?_push_size _ rfl
  refine wpAny_bind (wpAny_holding (wpAny_call_entry_kw slot_list_sort ⟨_, hD, rfl⟩ entry_list_sort ?body (ksk_l1 _ _)))
  case body =>
    show wpAny (model X.prog X.w) X.A.in1.in1 (Builtin.«list.sort» ⟨[.ref h1.objs.size], [(Str.ofString "key", .ref f)]⟩) _ _ _
    rw [ksk_t1]
    refine sort_tree2 (X := in2 X) (inv_in2 I2) hD fD rvs hx (by omega) hne F hsp hr.in1.in1 hb fun s' H' us' n' I' sm hn' hD' rv' => ?_
    refine ⟨_, rfl, wpAny_pure ⟨_, rfl, ?_⟩⟩
    have fD' : FpOk X pins H' h1.objs.size := ⟨hn', fD.2⟩
    refine ⟨.ref h1.objs.size, upd H' h1.objs.size (.lst ((srt xs).map V.str)), inv_track (inv_out2 I') fD' I1.sz ?_, rfl, q _ _ (sm.trans (same_new hn' _)) upd_same⟩
    refine ⟨by rw [List.length_map, (srt_perm xs).length_eq, hxl]; exact zl, us', n', rv', hD'⟩
end
end Rg
set_option Elab.async false
set_option linter.all false
set_option maxRecDepth 100000
set_option maxHeartbeats 4000000
/-! lambda: its code goes into the table of the def around it once, then it is found there -/
namespace Rg
open PySem PySem.W PySem.Spec PyProof.Rows L2
/-- the code of a lambda, the lambda itself -/
def codeO (c' : Addr) (q : Str) : HO := .ext fun h => h.CodeRec (.ref c') q
def funO (f c' : Addr) (q : Str) (params : Arguments) (body : PySem.Expr) (scope : Scope) : HO := .ext fun h => ∃ pm ctv, h.get? f = some (kla_obj "<lambda>" q params body scope [] pm c' ctv)
/-- what is known of __builtins__ in the top's names -/
def BM (mg : Str → Option Value) (h : Heap) : Prop := ∃ bm ob, mg "__builtins__" = some (.ref bm) ∧ bm ≠ builtinsNs ∧ h.get? bm = some ob ∧ ob.cls = .type "module" ∧ ob.dict = some builtinsNs ∧ ob.data = .plain
/-- all but tables stays -/
def SameX (H H' : Hp) : Prop := ∀ b o, H b = some o → (∀ ps, o ≠ .tbl ps) → H' b = some o
theorem Same.x {H H' : Hp} (h : Same H H') : SameX H H' := fun b o e _ => h b o e
theorem SameX.refl (H : Hp) : SameX H H := fun _ _ e _ => e
theorem SameX.trans {H H1 H2 : Hp} (a : SameX H H1) (b : SameX H1 H2) : SameX H H2 := fun c o e n => b c o (a c o e n) n
/-- the table of the def: empty, or the lambda's code is in it -/
def TabOk (P : Addr) (pos : Pos) (q : Str) (H : Hp) : Prop := H P = some (.tbl #[]) ∨ ∃ c', H P = some (.tbl #[rawInt pos.line, rawInt pos.col, .ref c']) ∧ H c' = some (codeO c' q)
theorem TabOk.mono {P : Addr} {pos : Pos} {q : Str} {H H' : Hp} (h : TabOk P pos q H) (e : Same H H') : TabOk P pos q H' := by
  rcases h with h | ⟨c', h1, h2⟩
  · exact .inl (e _ _ h)
  · exact .inr ⟨c', e _ _ h1, e _ _ h2⟩
theorem codeO_ok {P : Program} {w : World} {H : Hp} {h : Heap} {c' : Addr} {q : Str} (hr : h.CodeRec (.ref c') q) : ObjOk P w H h c' (codeO c' q) := by
  obtain ⟨c₂, oc, vs, t, e2, hoc, hd, hv⟩ := hr
  cases e2
  refine ⟨⟨_, oc, vs, t, rfl, hoc, hd, hv⟩, ⟨oc, hoc⟩, fun h1 h2 ⟨c₂, oc, vs, t, e2, hoc, hd, hv⟩ k => ?_⟩
  cases e2
  exact ⟨_, oc, vs, t, rfl, k _ hoc, hd, hv⟩
theorem funO_ok {P : Program} {w : World} {H : Hp} {h : Heap} {f c' : Addr} {q : Str} {params : Arguments} {body : PySem.Expr} {scope : Scope} {pm ctv : Value} (e : h.get? f = some (kla_obj "<lambda>" q params body scope [] pm c' ctv)) :
    ObjOk P w H h f (funO f c' q params body scope) :=
  ⟨⟨pm, ctv, e⟩, ⟨_, e⟩, fun h1 h2 ⟨pm, ctv, e⟩ k => ⟨pm, ctv, k _ e⟩⟩
section
variable {X : Cx} {params : Arguments} {body : PySem.Expr} {scope : Scope} {pos : Pos} {c P : Addr} {q : Str}
def tLam (P : Addr) (pos : Pos) (q : Str) (params : Arguments) (body : PySem.Expr) (scope : Scope) : TE := fun σ H Q => TabOk P pos q H ∧ ∀ (f c' : Addr) (H' : Hp), SameX H H' → H' f = some (funO f c' q params body scope) → H' c' = some (codeO c' q) → TabOk P pos q H' → Q (.ref f) H'
theorem pe_lambda (hcode : X.env.code = .ref c) (hglob : X.env.globals = mainGlobals) (hC : CodeHd X.base c P) (hB : BM X.mg X.base) (hq : X.env.qual ++ "<lambda>" = q)
    (hcl : closureFor scope X.env = pure [] := by rfl) (hdef : defaultsOf params X.env = ([], []) := by rfl) :
    PE X (.Lambda params body scope pos) (tLam P pos q params body scope) := by
  intro pins s σ H Q I h
  obtain ⟨tab, q1⟩ := h
  have old : ∀ b o, X.base.get? b = some o → s.heap.get? b = some o ∧ H b = none := fun b o e => I.bs b o e
  have hP0 : ∃ ps, H P = some (.tbl ps) := by
    rcases tab with h | ⟨c', h, _⟩
    · exact ⟨_, h⟩
    · exact ⟨_, h⟩
  obtain ⟨ps, hP⟩ := hP0
  have hPh : s.heap.get? P = some (tabObj ps) := I.hok P _ hP
  have hgs : s.heap.Ns mainGlobals X.mg := I.ok.mod.glob.keeps fun b o e => (old b o e).1
  obtain ⟨bm, ob, b1, b2, b3, b4, b5, b6⟩ := hB
  have hgP : mainGlobals ≠ P := fun z => by
    obtain ⟨o, es, ep, e, hd, _⟩ := I.ok.mod.glob
    have := (old _ _ e).2
    rw [z, hP] at this; cases this
  have hbP : bm ≠ P := fun z => by
    have := (old _ _ b3).2
    rw [z, hP] at this; cases this
  have hbG : bm ≠ mainGlobals := fun z => by
    obtain ⟨o, es, ep, e, hd, _⟩ := I.ok.mod.glob
    rw [z, e] at b3; cases b3; rw [hd] at b6; cases b6
  have hBA : s.heap.BuiltinsAt X.mg P := ⟨bm, ob, b1, b2, hbG, hbP, (old _ _ b3).1, b4, b5, b6⟩
  have hCs : CodeHd s.heap c P := hC.keeps fun b o e => (old b o e).1
  refine kla_eval hdef ?_
  rw [hq]
  rcases tab with h0 | ⟨c', h0, hc'⟩
  · rw [hP] at h0
    cases h0
    refine kla_makeFunction (mg := X.mg) hcl hglob hgs hcode hCs hPh trivial rfl hgP hBA fun c' ctv h' tk hx hge hlt hrec htb => ?_
    have hf : h'.objs.size ≠ c' := Nat.ne_of_gt hlt
    have hPs : P < s.heap.objs.size := Heap.lt_size hPh
    have hPc : P ≠ c' := Nat.ne_of_lt (Nat.lt_of_lt_of_le hPs hge)
    have hle : s.heap.objs.size ≤ h'.objs.size := Nat.le_trans hge (Nat.le_of_lt hlt)
    have hPf : P ≠ h'.objs.size := Nat.ne_of_lt (Nat.lt_of_lt_of_le hPs hle)
    have nf : H h'.objs.size = none := I.hok.fresh hle
    have nc : H c' = none := I.hok.fresh hge
    have htb' : h'.get? P = some (tabObj #[rawInt pos.line, rawInt pos.col, .ref c']) := by simpa using htb
    let H' : Hp := upd (upd (upd H P (.tbl #[rawInt pos.line, rawInt pos.col, .ref c'])) c' (codeO c' q)) h'.objs.size (funO h'.objs.size c' q params body scope)
    have eP : H' P = some (.tbl #[rawInt pos.line, rawInt pos.col, .ref c']) := by show upd _ _ _ P = _; rw [upd_ne hPf, upd_ne hPc, upd_same]
    have ec : H' c' = some (codeO c' q) := by show upd _ _ _ c' = _; rw [upd_ne (Ne.symm hf), upd_same]
    have ef : H' h'.objs.size = some (funO h'.objs.size c' q params body scope) := upd_same
    have eo : ∀ b, b ≠ P → b ≠ c' → b ≠ h'.objs.size → H' b = H b := fun b n1 n2 n3 => by show upd _ _ _ b = _; rw [upd_ne n3, upd_ne n2, upd_ne n1]
    have tr : ∀ b u, H b = some u → b ≠ c' ∧ b ≠ h'.objs.size := fun b u e => ⟨ne_of_none e nc, ne_of_none e nf⟩
    have push : ∀ b o, b ≠ P → s.heap.get? b = some o → (h'.push (kla_obj "<lambda>" q params body scope [] ((X.mg "__name__").getD .none) c' ctv)).get? b = some o := fun b o n e => Heap.get?_push_of_some _ (hx b o n e)
    have I2 : Inv X pins σ H' { s with heap := h'.push (kla_obj "<lambda>" q params body scope [] ((X.mg "__name__").getD .none) c' ctv), gens := s.gens, drawn := s.drawn, toks := tk } := by
      refine I.step (ch := []) (fun _ z => nomatch z) (fun b o _ _ _ e n => push b o (fun z => by rw [z, hP] at n; cases n) e) (fun b o _ _ _ e n => ⟨o.slots, push b o (fun z => by rw [z, hP] at n; cases n) e⟩) (fun b o _ e n => ?_) (fun b o _ e => ?_)
        (fun b xs e => ?_) (fun b o u e => ?_) (fun b qs e => ?_) (fun m hm => ?_) (fun b u e => ?_) I.bare
      · have lb := Heap.lt_size e
        rw [eo b (fun z => by rw [z, hP] at n; cases n) (Nat.ne_of_lt (Nat.lt_of_lt_of_le lb hge)) (Nat.ne_of_lt (Nat.lt_of_lt_of_le lb hle))]
        exact n
      · by_cases z : b = P
        · rw [z]; exact ⟨_, Heap.get?_push_of_some _ htb'⟩
        · exact ⟨o, push b o z e⟩
      · rw [eo b (fun z => by rw [z, hP] at e; cases e) (tr b _ e).1 (tr b _ e).2]; exact e
      · rw [eo b (fun z => by rw [z, hP] at e; cases e) (tr b _ e).1 (tr b _ e).2]; exact e
      · by_cases z : b = P
        · rw [z, hP] at e
          cases e
          exact ⟨#[rawInt pos.line, rawInt pos.col, .ref c'], by rw [z, eP]; simp⟩
        · exact ⟨#[], by rw [eo b z (tr b _ e).1 (tr b _ e).2, e]; simp⟩
      · obtain ⟨o, es, ep, ho, r⟩ := hm
        have hL : X.env.locals ≠ P := fun z => by have := I.free; rw [z, hP] at this; cases this
        exact ⟨o, es, ep, push _ o hL ho, r⟩
      · by_cases z1 : b = h'.objs.size
        · rw [z1, ef] at e
          cases e
          rw [z1]
          exact funO_ok (Heap.get?_push_size _ rfl)
        · by_cases z2 : b = c'
          · rw [z2, ec] at e
            cases e
            rw [z2]
            obtain ⟨c₂, oc, vs, t, e2, hoc, hd, hv⟩ := hrec
            cases e2
            exact codeO_ok ⟨_, oc, vs, t, rfl, Heap.get?_push_of_some _ hoc, hd, hv⟩
          · by_cases z3 : b = P
            · rw [z3, eP] at e
              cases e
              rw [z3]
              exact Heap.get?_push_of_some _ htb'
            · rw [eo b z3 z2 z1] at e
              refine (I.hok b u e).stay (fun d v hd' g => ?_) (fun d g => ?_) fun d xs g => ?_
              · refine push d v (fun z => ?_) g
                rcases hd' with k | k
                · exact z3 (by rw [← k, z])
                · rw [z, hP] at k; cases k
              · rw [eo d (fun z => by rw [z, hP] at g; cases g) (tr d _ g).1 (tr d _ g).2]; exact g
              · rw [eo d (fun z => by rw [z, hP] at g; cases g) (tr d _ g).1 (tr d _ g).2]; exact g
    exact ⟨.ref h'.objs.size, H', I2, rfl, q1 _ c' H' (fun b o e n => by rw [eo b (fun z => by rw [z, hP] at e; cases e; exact n _ rfl) (tr b _ e).1 (tr b _ e).2]; exact e) ef ec (.inr ⟨c', eP, ec⟩)⟩
  · rw [hP] at h0
    cases h0
    have hrec : s.heap.CodeRec (.ref c') q := (I.hok c' _ hc').1
    refine kla_makeFunctionHit (mg := X.mg) hcl hglob hgs hcode hCs hPh ?_ (cv := .ref c') ?_ hBA fun ctv h' tk hk hsz => ?_
    · exact trivial
    · simp [codeAmong, rawInt]
    have nf : H h'.objs.size = none := I.hok.fresh hsz
    refine ⟨.ref h'.objs.size, _, I.laid (t' := tk) (fun b o e => Heap.get?_push_of_some _ (hk b o e)) hsz (funO_ok (Heap.get?_push_size _ rfl)), rfl, q1 _ c' _ (Same.x (same_new nf _)) upd_same ?_ ?_⟩
    · rw [upd_ne (ne_of_none hc' nf)]; exact hc'
    · exact TabOk.mono (.inr ⟨c', hP, hc'⟩) (same_new nf _)
end
/-- the data of a lambda, its module's name and its closure's tuple apart -/
abbrev lamFd (c' : Addr) (q : Str) (params : Arguments) (body : PySem.Expr) (scope : Scope) : FuncData := kla_fn "<lambda>" q params body scope [] .none (.ref c') .none
/-- a lambda, by its body -/
theorem fn_lam {CX : CXT} {P : Program} {w : World} {K : PySem.W.Frag} {mg : Str → Option Value} {base : Heap} {k : Nat} {f c' : Addr} {q : Str} {params : Arguments} {body : PySem.Expr} {scope : Scope} {N ps : List Str} {sp : Sp}
    (S : FnScope N ps scope) (len : ∀ vs H Q E, sp vs H Q E → vs.length = ps.length)
    (hbody : ∀ (A : Around) (outer : List Env) (s : Shared) (H : Hp) (vs : List V) (Q : VK) (E : XK), Room k (A.deeper (envOfC q scope s.heap.objs.size f (.ref c'))) → sp vs H Q E →
      ∃ t, PE (cxOf CX P w K mg base N q scope f (.ref c') A outer s H E) body t ∧ t (start N vs) H Q) :
    FnOk P w K mg base CX (k + 1) f (lamFd c' q params body scope) ps (fun vs H Q E => H f = some (funO f c' q params body scope) ∧ H c' = some (codeO c' q) ∧ sp vs H Q E) := by
  refine ⟨fun vs H Q E h => len vs H Q E h.2.2, fun A outer s H args us vs Q E hr e0 hb r hsp => ?_⟩
  obtain ⟨hf, hc, hsp⟩ := hsp
  have hl := len _ _ _ _ hsp
  have lim : s.heap.NoLimit := e0.mod.nolimit.keeps fun b o e => (e0.bs b o e).1
  have hkind : ∀ y ∈ ps.zip us, scope.names.lookup y.1 = some .local ∨ (scope.names.lookup y.1 = some .cell ∧ ((cellsFrom (s.heap.objs.size + 1) scope.names []).lookup y.1).isSome = true) := fun ⟨n, v⟩ hy => by
    rcases S.par n (List.of_mem_zip hy).1 with q | q
    · exact .inl q
    · exact .inr ⟨q, PySem.W.cellsFrom_some _ _ _ (.inl q)⟩
  obtain ⟨pm, ctv, ho⟩ := (e0.hok f _ hf).1
  have hrec : s.heap.CodeRec (.ref c') q := (e0.hok c' _ hc).1
  have hb' : BindsTo s (kla_fn "<lambda>" q params body scope [] pm (.ref c') ctv) args (ps.zip us) := fun M A E Q hq => hb M A E Q hq
  refine kla_callFunE hr.depth ho rfl S.co S.gen rfl hrec (hb' _ _ _ _ ?_)
  refine wpAny_newFunctionEnv_cells S.kind hkind fun env he s1 x => ?_
  subst he
  refine ⟨lim.keeps x.toInCall.keep, kla_codeExpr ?_⟩
  obtain ⟨t, ht, hq⟩ := hbody A outer s H vs Q E (hr.deeper _) hsp
  have I : Inv (cxOf CX P w K mg base N q scope f (.ref c') A outer s H E) [] (start N vs) H s1 := inv_start S hr.hd e0 hl r x
  refine wpAny_mono (ht [] s1 (start N vs) H _ I hq) (fun u s' hs => ?_) fun e s' hs => hs
  obtain ⟨v, H', J, rv, q⟩ := hs
  exact ⟨v, H', J.os, J.bare, J.base, J.hok, rv, q⟩
end Rg
set_option Elab.async false
set_option linter.all false
set_option maxRecDepth 100000
set_option maxHeartbeats 4000000
/-! the head of a law one of whose defs makes a lambda: its table is borne from the start on -/
namespace Rg
open PySem PySem.W PySem.Spec PyProof.Rows L2
def Only2 (P : Addr) (H : Hp) : Prop := H P = some (.tbl #[]) ∧ ∀ b, b ≠ P → H b = none ∨ ∃ o xs, H b = some (.frz o (.lst xs))
theorem law_call2 {P : Program} {w : World} {K : PySem.W.Frag} {mg mb : Str → Option Value} {CX : CXT} {k : Nat} {fa a c Pt : Addr} {fd : FuncData} {x : Str} {sp : Sp} {s₁ : Shared} {vs : List Value} {ns : List Int}
    (KX : K.In s₁.heap) (hns : s₁.heap.Ns mainGlobals mg) (hb : s₁.heap.Ns builtinsNs mb) (hbb : ∀ x : Str, x ≠ "__name__" → mb x = bootBuiltins x) (hlim : s₁.heap.NoLimit) (hg : s₁.gens = #[])
    (hbm : BM mg s₁.heap) (hPk : K.lookup Pt = none) (hPt : s₁.heap.TableAt c Pt #[])
    (ha : s₁.heap.get? a = some { cls := .type "list", data := .seq vs.toArray }) (hi : IntsAre vs ns) (hl : ns.length ≤ sizeLine) (hr : Room k callerA)
    (F : ∀ base : Heap, K.In base → base.Ns mainGlobals mg → BM mg base → FnOk P w K mg base CX k fa fd [x] sp) (hbind : ∀ (s : Shared) (u : Value), BindsTo s fd ⟨[u], []⟩ [(x, u)])
    (hsp : ∀ H : Hp, Only2 Pt H → SqL K H a (ns.map V.int) → sp [.ref a] H (fun v _ => v = .bl true) fun _ _ _ => False)
    (hCX : ∀ H e s', CX [] H s₁ (fun _ _ _ => False) e s' → False) :
    codeAny (model P w) callerA (.call (.ref fa) ⟨[.ref a], []⟩) (fun r s' => r = .ok (.ret (.bool true)) ∧ OldK s₁.heap s'.heap ∧ s'.os = s₁.os ∧ AllBare s'.gens) s₁ := by
  have rv := vals_ints hi
  have lenV := hi.length
  have hPg : s₁.heap.get? Pt = some { cls := .none, data := .fields #[] } := hPt.2
  have hPa : Pt ≠ a := fun z => by
    rw [z, ha] at hPg
    cases hPg
  have core : ∀ H : Hp, Only2 Pt H → SqL K H a (ns.map V.int) → HOk P w H s₁.heap → (∀ b, H b ≠ none → b = a ∨ b = Pt) → (H a ≠ none → K.lookup a = none) →
      codeAny (model P w) callerA (.call (.ref fa) ⟨[.ref a], []⟩) (fun r s' => r = .ok (.ret (.bool true)) ∧ OldK s₁.heap s'.heap ∧ s'.os = s₁.os ∧ AllBare s'.gens) s₁ := by
    intro H hO hS hok hA hK
    have base_of : ∀ {b : Addr} {o : Obj}, s₁.heap.get? b = some o → H b = none → (hidT s₁.heap H).get? b = some o := fun e n => hidT_get e n
    have noA : ∀ {b : Addr} {o : Obj}, s₁.heap.get? b = some o → (∀ xs n, o.data ≠ .seq xs n) → (∀ xs, o.data ≠ .fields xs) → H b = none := fun {b o} e d1 d2 => by
      cases q : H b with
      | none => rfl
      | some u =>
        rcases hA b (by rw [q]; simp) with e' | e'
        · subst e'
          rw [ha] at e; cases e
          exact absurd rfl (d1 _ _)
        · subst e'
          rw [hPg] at e; cases e
          exact absurd rfl (d2 _)
    have nsK : ∀ {b : Addr} {m : Str → Option Value}, s₁.heap.Ns b m → (hidT s₁.heap H).Ns b m := fun {b m} ⟨o, es, ep, e, d, r⟩ => ⟨o, es, ep, base_of e (noA e (fun xs n z => by rw [d] at z; cases z) fun xs z => by rw [d] at z; cases z), d, r⟩
    have hKb : K.In (hidT s₁.heap H) := fun b o e => base_of (KX b o e) (by
      cases q : H b with
      | none => rfl
      | some u =>
        rcases hA b (by rw [q]; simp) with e' | e'
        · subst e'
          rw [hK (by rw [q]; simp)] at e; cases e
        · subst e'
          rw [hPk] at e; cases e)
    have hBb : BM mg (hidT s₁.heap H) := by
      obtain ⟨bm, ob, b1, b2, b3, b4, b5, b6⟩ := hbm
      exact ⟨bm, ob, b1, b2, base_of b3 (noA b3 (fun xs n z => by rw [b6] at z; cases z) fun xs z => by rw [b6] at z; cases z), b4, b5, b6⟩
    have hM : Mod K mg (hidT s₁.heap H) := ⟨hKb, nsK hns, ⟨mb, nsK hb, hbb⟩, let ⟨mc, h1, h2⟩ := hlim; ⟨mc, nsK h1, h2⟩⟩
    have e0 : Env0 P w K mg (hidT s₁.heap H) callerA [] s₁ H := ⟨rfl, hM, fun b o e => of_hidT e, Nat.le_of_eq (hidT_size _ _), trivial, fun b hb => absurd (show b ∈ ([] : List Addr) from hb) (by simp), hok, .of_eq hg⟩
    refine codeAny_mono ((F _ hKb (nsK hns) hBb).run callerA [] s₁ H ⟨[.ref a], []⟩ [.ref a] [.ref a] _ _ hr e0 (hbind s₁ (.ref a)) (.cons rfl .nil) (hsp H hO hS)) fun r s' h => ?_
    cases r with
    | error e => exact (hCX H e s' h).elim
    | ok fl =>
      cases fl with
      | next => exact False.elim h
      | brk => exact False.elim h
      | cont => exact False.elim h
      | ret u =>
        obtain ⟨v, H', os, bare, un, hok', r', q⟩ := h
        have q' : v = .bl true := q
        subst q'
        obtain rfl : u = Value.bool true := r'
        refine ⟨rfl, ⟨fun b o e => ?_, fun b o e => un.there b o e (by simp)⟩, os, bare⟩
        cases q : H b with
        | none => exact .inl (un.keep b o e q (by intro z; exact absurd (show b ∈ ([] : List Addr) from z) (by simp)) (by simp))
        | some u =>
          by_cases hbP : b = Pt
          · subst hbP
            obtain ⟨more, e2⟩ := un.tbls b _ hO.1
            have e3 : s'.heap.get? b = some { cls := .none, data := .fields (#[] ++ more) } := hok' b _ e2
            rw [hPg] at e; cases e
            exact .inr (.inl ⟨hPt.isCodeTable, rfl, #[], more, rfl, e3⟩)
          · rcases hO.2 b hbP with z | ⟨ob, xs, z⟩
            · rw [q] at z; cases z
            · have z2 := un.frzs b ob _ z
              obtain ⟨e1, _⟩ := hok b _ z
              obtain ⟨e2, _⟩ := hok' b _ z2
              rw [e] at e1; cases e1
              exact .inl e2
  have okP : ∀ H : Hp, ObjOk P w H s₁.heap Pt (.tbl #[]) := fun H => hPg
  cases hk : K.lookup a with
  | some o =>
    have e := KX a o hk
    rw [ha] at e
    cases e
    refine core (fun b => if b = Pt then some (.tbl #[]) else none) ⟨if_pos rfl, fun b hb => .inl (if_neg hb)⟩ (.inr ⟨_, vs.toArray, _, hk, rfl, rfl, rfl, by rw [List.size_toArray, lenV]; exact hl, by simpa using rv⟩) (fun b u z => ?_) (fun b z => ?_) fun z => absurd (if_neg (Ne.symm hPa)) z
    · by_cases hb : b = Pt
      · have z' := (if_pos hb).symm.trans z
        cases z'
        subst hb
        exact okP _
      · have z' := (if_neg hb).symm.trans z
        cases z'
    · by_cases hb : b = Pt
      · exact .inr hb
      · exact absurd (if_neg hb) z
  | none =>
    refine core (fun b => if b = Pt then some (.tbl #[]) else if b = a then some (.frz { cls := .type "list", data := .seq vs.toArray } (.lst (ns.map V.int))) else none) ⟨if_pos rfl, fun b hb => ?_⟩ (.inl (.inr ⟨{ cls := .type "list", data := .seq vs.toArray }, ?_⟩)) (fun b u z => ?_) (fun b z => ?_) fun _ => hk
    · by_cases hb2 : b = a
      · exact .inr ⟨_, _, (if_neg hb).trans (if_pos hb2)⟩
      · exact .inl ((if_neg hb).trans (if_neg hb2))
    · exact (if_neg (Ne.symm hPa)).trans (if_pos rfl)
    · by_cases hb : b = Pt
      · have z' := (if_pos hb).symm.trans z
        cases z'
        subst hb
        exact okP _
      · have z' := (if_neg hb).symm.trans z
        by_cases hb2 : b = a
        · have z2 := (if_pos hb2).symm.trans z'
          cases z2
          subst hb2
          exact ⟨ha, by rw [List.length_map]; exact hl, vs, _, rv, ha⟩
        · have z2 := (if_neg hb2).symm.trans z'
          cases z2
    · by_cases hb : b = Pt
      · exact .inr hb
      · by_cases hb2 : b = a
        · exact .inl hb2
        · exact absurd ((if_neg hb).trans (if_neg hb2)) z
theorem walk_of2 {l : PySem.W.OpenLaw} {n k : Nat} {q : Program} {loose : List Str} {XP : (Str → Option Value) → Heap → Prop} {YP : World → Heap → Prop} {d : DefRec} {K : Params → PySem.W.Frag} {CX : World → CXT} {sp : World → Sp} {x : Str} {c Pt : Addr}
    (hn : l.most = some n) (hn2 : n ≤ sizeLine) (hdf : d.params.defaults = []) (hr : Room k callerA)
    (hY : ∀ (w : World) (h : Heap), YP w h → (K w.params).In h ∧ h.get? Pt = some (tabObj #[])) (hPk : ∀ w : World, (K w.params).lookup Pt = none) (hC : ∀ w : World, codeHdIn (K w.params) c Pt = true)
    (F : ∀ (w : World) (mg : Str → Option Value) (fa : Addr) (h : Heap), (K w.params).In h → h.Ns mainGlobals mg → mg d.name = some (.ref fa) →
      ∃ fd : FuncData, (∀ (s : Shared) (u : Value), BindsTo s fd ⟨[u], []⟩ [(x, u)]) ∧
        ∀ base : Heap, (K w.params).In base → base.Ns mainGlobals mg → BM mg base → FnOk l.prog w (K w.params) mg base (CX w) k fa fd [x] (sp w))
    (hsp : ∀ (w : World) (H : Hp) (a : Addr) (ns : List Int), ns.length ≤ n → Only2 Pt H → SqL (K w.params) H a (ns.map V.int) → sp w [.ref a] H (fun v _ => v = .bl true) fun _ _ _ => False)
    (hCX : ∀ (w : World) (H : Hp) (s : Shared) (e : Value) (s' : Shared), CX w [] H s (fun _ _ _ => False) e s' → False) :
    PySem.W.WalkO q loose XP YP l.row.toRowW d [] (fun f vs => PySem.call f vs) := by
  refine Att.attach_call hn hdf fun w s₀ s₁ mg mb fa o pm cd doc a vs ns G Y ho hd hcd hmg hobj hints hlen hg => ?_
  obtain ⟨KX, hT⟩ := hY w _ Y
  obtain ⟨fd, hb, hF⟩ := F w mg fa _ KX G.T.g hmg
  exact law_call2 KX G.T.g G.T.b G.T.builtins G.T.nolimit hg G.T.bmain (hPk w) ((codeHd_of_K KX (hC w)).tab hT) hobj hints (Nat.le_trans hlen hn2) hr hF hb (fun H hO hS => hsp w H a ns hlen hO hS) fun H e s' => hCX w H s₁ e s'
end Rg
set_option Elab.async false
set_option linter.all false
set_option maxRecDepth 100000
set_option maxHeartbeats 4000000
/-! sorted(a record): its fields in some order -/
namespace Rg
open PySem PySem.W PySem.Spec PyProof.Rows L2
section
variable {X : Cx} {pins : List (Addr × Obj)} {σ : L2.St} {H : Hp} {s : Shared} {D : Addr} {n : Nat} {vs : List Value} {xs : List Str} {P : PySem.Fin → Shared → Prop} {E : Value → Shared → Prop}
theorem sort_plain (I : Inv X pins σ H s) (hD : s.heap.get? D = some (seqObj "list" vs.toArray n)) (fD : FpOk X pins H D) (rv : Vals (xs.map V.str) vs) (h64 : xs.length < 64)
    (h : ∀ (s' : Shared) (ys : List Str) (us' : List Value) (n' : Nat), Inv X pins σ H s' → H D = none → s'.heap.get? D = some (seqObj "list" (List.toArray us') n') → Vals (ys.map V.str) us' → ys.Perm xs → P (.done (.ret .none)) s') :
    wpAny (model X.prog X.w) X.A (Builtin.«list.sort» ⟨[.ref D], []⟩) P E s := by
  have hlen : xs.length = vs.length := by rw [← rv.length, List.length_map]
  have hz : vs.length ≤ sizeLine := by rw [← hlen, sizeLine_eq]; omega
  rw [list_sort_plain]
  refine wpAny_bind (listItems_at hD rfl ?_)
  refine wpAny_bind (listUpdate_at hD rfl ?_ (by rw [List.size_toArray]; exact hz) (Nat.zero_le _))
  obtain ⟨e1, ho1⟩ : ∃ e1, (s.heap.update D (Obj.mapSeq fun _ => (#[] : Array Value))).get? D = some (seqObj "list" #[] e1) := ⟨_, get?_update_seq hD fun _ => #[]⟩
  have I1 : Inv X pins σ H { s with heap := s.heap.update D (Obj.mapSeq fun _ => (#[] : Array Value)), toks := s.toks } :=
    own_turn I fD fun c o hc q => (Heap.get?_update_other _ _ (Ne.symm hc)).trans q
  refine wpAny_bind (seqEpoch_at ho1 rfl ?_)
  refine wpAny_bind (wpAny_newTuple ?_ (by show vs.length ≤ _; exact hz))
  refine wpAny_bind (wpAny_newList ?_ (Nat.zero_le _))
  refine wpAny_holding ?_
  generalize hg : s.heap.update D (Obj.mapSeq fun _ => (#[] : Array Value)) = g1 at I1 ho1 ⊢
  have I2 : Inv X pins σ H { s with heap := g1.push { cls := .type "tuple", data := .seq vs.toArray }, toks := s.toks } := I1.kept (fun b o q => Heap.get?_push_of_some _ q)
  generalize hg2 : g1.push { cls := .type "tuple", data := .seq vs.toArray } = g2 at I2 ⊢
  have ho2 : g2.get? D = some (seqObj "list" #[] e1) := by rw [← hg2]; exact Heap.get?_push_of_some _ ho1
  have I3 : Inv X pins σ H { s with heap := g2.push { cls := .type "list", data := .seq ([] : List Value).toArray }, toks := s.toks } := I2.kept (fun b o q => Heap.get?_push_of_some _ q)
  have ho3 : (g2.push { cls := .type "list", data := .seq ([] : List Value).toArray }).get? D = some (seqObj "list" #[] e1) := Heap.get?_push_of_some _ ho2
  generalize g2.push { cls := .type "list", data := .seq ([] : List Value).toArray } = g3 at I3 ho3 ⊢
  dsimp only
  have fin : ∀ (st : SortSt) (p : List Nat), p.Perm (List.range vs.length) → (arrOf st).map (·.2) = List.toArray (p.map fun i => vs.getD i Value.none) → failedOf st = none →
      wpAny (model X.prog X.w) X.A (do
        let sorted := (arrOf st).map (·.2)
        let touched := (← seqEpoch D) != e1
        Builtin.List.listUpdate (.ref D) fun _ => sorted
        if let some e := failedOf st then rule "list.sort.comparison-raised"; throw e
        if touched then rule "list.sort.modified"; raiseError "ValueError" "list modified during sort"
        ret .none) P E { s with heap := g3, toks := s.toks } := by
    intro st p hp hst hf
    dsimp only
    rw [hst]
    have hpl : (List.toArray (p.map fun i => vs.getD i Value.none)).size = vs.length := by rw [List.size_toArray, List.length_map, hp.length_eq, List.length_range]
    refine wpAny_bind (seqEpoch_at ho3 rfl ?_)
    refine wpAny_bind (listUpdate_at ho3 rfl ?_ (Nat.zero_le _) (by rw [hpl]; omega))
    rw [hf]
    simp only [bne_self_eq_false, Bool.false_eq_true, if_false]
    have I8 := own_turn (h' := g3.update D (Obj.mapSeq fun _ => List.toArray (p.map fun i => vs.getD i Value.none))) (t' := s.toks) I3 fD fun c' o hc q => (Heap.get?_update_other _ _ (Ne.symm hc)).trans q
    have hup := get?_update_seq ho3 (fun _ => List.toArray (p.map fun i => vs.getD i Value.none))
    refine wpAny_pure (h _ (p.map fun i => xs.getD i Str.empty) (p.map fun i => vs.getD i Value.none) _ I8 fD.1 hup ?_ ?_)
    · have hlt : ∀ i ∈ p, i < vs.length := fun i hi => List.mem_range.mp (hp.mem_iff.mp hi)
      clear hp hst hpl hup I8
      induction p with
      | nil => exact .nil
      | cons i r ih =>
        have hi := hlt i List.mem_cons_self
        have hi' : i < xs.length := by rw [hlen]; exact hi
        obtain ⟨u, hu, ru⟩ := rv.get (x := .str xs[i]) (i := i) (by rw [List.getElem?_map, List.getElem?_eq_getElem hi']; rfl)
        refine .cons ?_ (ih fun j hj => hlt j (List.mem_cons_of_mem _ hj))
        have e2 : vs.getD i Value.none = u := by rw [List.getD_eq_getElem?_getD, hu]; rfl
        have e3 : xs.getD i Str.empty = xs[i] := by rw [List.getD_eq_getElem?_getD, List.getElem?_eq_getElem hi']; rfl
        show L2.RelV (V.str (xs.getD i Str.empty)) (vs.getD i Value.none)
        rw [e2, e3]
        exact ru
    · have z := hp.map fun i => xs.getD i Str.empty
      rw [← hlen, range_getD] at z
      exact z
  by_cases h2 : vs.length < 2
  · have hs2 : vs.toArray.size < 2 := by rw [List.size_toArray]; exact h2
    rw [if_pos hs2, if_pos hs2]
    refine wpAny_bind (wpAny_pure ?_)
    refine wpAny_bind (wpAny_pure ?_)
    refine fin _ (List.range vs.length) (List.Perm.refl _) ?_ rfl
    show (vs.toArray.zip vs.toArray).map (·.2) = _
    apply Array.toList_inj.mp
    rw [Array.toList_map, ksk_zip, List.map_snd_zip (Nat.le_refl _)]
    apply List.ext_getElem
    · simp
    · intro i q1 q2
      simp [List.getD_eq_getElem?_getD, List.getElem?_eq_getElem q1]
  · have hs2 : ¬ vs.toArray.size < 2 := by rw [List.size_toArray]; exact h2
    rw [if_neg hs2, if_neg hs2]
    have wds : ∀ v ∈ vs, ∃ x t, v = Value.str x t := fun v hv => by
      obtain ⟨i, hi, rfl⟩ := List.getElem_of_mem hv
      have hi' : i < xs.length := by omega
      obtain ⟨u, hu, ru⟩ := rv.get (x := .str xs[i]) (i := i) (by rw [List.getElem?_map, List.getElem?_eq_getElem hi']; rfl)
      rw [List.getElem?_eq_getElem hi] at hu
      cases hu
      obtain ⟨t, e⟩ := ru
      exact ⟨_, t, e⟩
    refine wpAny_bind (kas_kind (T := .type "str") (by omega) (fun v hv => ?_) (by decide) (by decide) ?_)
    · obtain ⟨x, t, rfl⟩ := wds v hv
      exact fun A Q E s' _ q => wpAny_typeOf (typeIs_str s' x t) q
    have est : SortSt.mk' oneType' (vs.toArray.zip vs.toArray) #[] 7 none = kas_st oneType' (pairsOf vs) (List.toArray (List.range vs.length)) := by
      have e := kas_range (pairsOf vs)
      rw [pairsOf_size] at e
      show SortSt.mk' oneType' (pairsOf vs) #[] 7 none = SortSt.mk' oneType' ((List.toArray (List.range vs.length)).map (kas_item (pairsOf vs))) #[] 7 none
      rw [e]
    have run := kas_runs (prog := X.prog) (w := X.w) (A := X.A) (κ := oneType') (it := pairsOf vs) (E := E) (s := { s with heap := g3, toks := s.toks }) (Q := fun _ st' s' => s' = { s with heap := g3, toks := s.toks } ∧ ∃ p : Array Nat, Pm vs.length p ∧ arrOf st' = p.map (kas_item (pairsOf vs)) ∧ failedOf st' = none)
      (G := fun p s' => s' = { s with heap := g3, toks := s.toks } ∧ Pm vs.length p) (by omega) (by omega) (fun p' st' s' a1 a2 a3 a4 => ⟨a4.1, p', a4.2, a2, a3⟩) (kasWp_ok (fun i j hi hj C hC => ?_) (fun p hp => ⟨rfl, hp⟩) (sort_ok (by omega)))
    · rw [← est] at run
      refine wpAny_bind (wpAny_mono run ?_ fun _ _ e => e)
      rintro ⟨⟨⟩, st'⟩ s' ⟨rfl, p, hp, har, hf⟩
      refine fin st' p.toList hp ?_ hf
      apply Array.toList_inj.mp
      rw [har, Array.map_map, Array.toList_map]
      exact List.map_congr_left fun i _ => by show (kas_item (pairsOf vs) i).2 = _; rw [kas_item_eq]
    · unfold kas_cmp
      rw [kas_item_eq, kas_item_eq]
      have hgi : ∀ i, i < vs.length → vs.getD i Value.none ∈ vs := fun i hi => by
        rw [List.getD_eq_getElem?_getD, List.getElem?_eq_getElem hi]
        exact List.getElem_mem hi
      obtain ⟨x, t, e⟩ := wds _ (hgi i hi)
      obtain ⟨y, t', e'⟩ := wds _ (hgi j hj)
      show wpAny _ _ (keyLt' oneType' (vs.getD i Value.none) (vs.getD j Value.none)) _ _ _
      rw [e, e']
      exact kas_lt_str (hC _)
end
def rSortP : List V → Hp → VK → Prop := fun vs H Q => ∃ (a : Addr) (kvs : List (Key × V)), vs = [.ref a] ∧ H a = some (.dK kvs) ∧ kvs.length < 64 ∧ ∃ xs : List Str, kvs.map (·.1) = xs.map Sum.inr ∧
  ∀ (q : Addr) (ys : List Str), H q = none → ys.Perm xs → Q (.ref q) (upd H q (.lst (ys.map V.str)))
section
variable {X : Cx}
theorem call_sortP (hc : X.calm = true) : CallR X (.builtin "sorted") rSortP := by
  intro pins s σ H vs us Q I rv h
  obtain ⟨a, kvs, rfl, ha, h64, xs, hkeys, q⟩ := h
  obtain ⟨u, rfl, ru⟩ := vals1 rv
  cases ru
  obtain ⟨zl, hd, dvs, rel, dd⟩ := dk_of I.hok ha
  obtain ⟨ep, dat⟩ := dd.dictAt
  have hlen := rel.length
  have hkv : kvs.map (·.1) = dvs.map (·.1) := rel.keys
  refine Calls.call_function_entry kind_sorted plain_sorted entry_sorted (args_sorted1 _) ?_
  unfold Builtin.«sorted»
  refine wpAny_bind (m := checkCount "sorted" 1 1 _) (wpAny_pure ?_)
  refine wpAny_bind (kdu_collect (kdl_dict hd) (show X.A.in1.handled = none from I.ok.hd hc) dat (by rw [← hlen]; exact zl) fun h1 tk acc hk items => ?_)
  have I1 : Inv X pins σ H { s with heap := h1, toks := tk } := I.kept hk
  have hacc : acc.toList.length = kvs.length := by rw [Array.length_toList, items.1, hlen]
  have hxl : xs.length = kvs.length := by
    have z := congrArg List.length hkeys
    rw [List.length_map, List.length_map] at z
    exact z.symm
  have rvs : Vals (xs.map V.str) acc.toList := by
    have key : ∀ (l : List Str) (m : List Value), l.length = m.length → (∀ (j : Nat) (x : Str) (v : Value), l[j]? = some x → m[j]? = some v → ∃ t, v = Value.str x t) → Vals (l.map V.str) m := by
      intro l
      induction l with
      | nil => intro m hm _; cases m with
        | nil => exact .nil
        | cons _ _ => simp at hm
      | cons x l ih => intro m hm hj; cases m with
        | nil => simp at hm
        | cons v m => exact .cons (hj 0 x v rfl rfl) (ih m (by simpa using hm) fun j y w h1 h2 => hj (j + 1) y w (by simpa using h1) (by simpa using h2))
    refine key xs acc.toList (by omega) fun j x v q1 q2 => ?_
    obtain ⟨k', y, e1, e2⟩ := items.2 j v (by rw [← Array.getElem?_toList]; exact q2)
    have e3 : (dvs.map (·.1))[j]? = some k' := by rw [List.getElem?_map, e1]; rfl
    rw [← hkv, hkeys, List.getElem?_map, q1] at e3
    have e4 : Sum.inr x = k' := Option.some.inj e3
    subst e4
    exact Value.isStrOf_shape (x := x) (v := v) e2
  refine wpAny_bind (wpAny_newList ?_ (by rw [hacc]; exact zl))
  have I2 : Inv X pins σ H { s with heap := h1.push { cls := .type "list", data := .seq acc.toList.toArray }, toks := tk } := I1.kept fun b o z => Heap.get?_push_of_some _ z
  have fD : FpOk X pins H h1.objs.size := I1.fpOk (Nat.le_refl _) (I1.hok.fresh (Nat.le_refl _))
  have hD : (h1.push { cls := .type "list", data := .seq acc.toList.toArray }).get? h1.objs.size = some (seqObj "list" (List.toArray acc.toList) 0) := Heap.get?_push_size _ rfl
  refine wpAny_bind (wpAny_holding (wpAny_call_entry slot_list_sort ⟨_, hD, rfl⟩ entry_list_sort ?body (args_list_sort _)))
  case body =>
    refine sort_plain (X := in2 X) (inv_in2 I2) hD fD rvs (by omega) fun s' ys us' n' I' hn' hD' rv' pm => ?_
    refine ⟨_, rfl, wpAny_pure ⟨_, rfl, ?_⟩⟩
    have fD' : FpOk X pins H h1.objs.size := ⟨hn', fD.2⟩
    refine ⟨.ref h1.objs.size, upd H h1.objs.size (.lst (ys.map V.str)), inv_track (inv_out2 I') fD' I1.sz ?_, rfl, q _ ys hn' pm⟩
    refine ⟨by rw [List.length_map, pm.length_eq, hxl]; exact zl, us', n', rv', hD'⟩
end
end Rg
set_option Elab.async false
set_option linter.all false
set_option maxRecDepth 100000
set_option maxHeartbeats 4000000
/-! A thing with its fields in order; the things within it one after another, their sizes told from the end on -/
namespace Rg
open PySem
def Ts.fld (k : Str) : Ts → Th
  | .nil => .num 0
  | .cons j t r => if j = k then t else r.fld k
def Ts.ofL : List (Str × Th) → Ts
  | [] => .nil
  | p :: r => .cons p.1 p.2 (Ts.ofL r)
def Ts.toL : Ts → List (Str × Th)
  | .nil => []
  | .cons k t r => (k, t) :: r.toL
theorem fld_get : ∀ (l : Ts) {k : Str}, k ∈ l.keys → l.get k = some (l.fld k)
  | .nil, k, h => by cases h
  | .cons j t r, k, h => by
    unfold Ts.get Ts.fld
    by_cases e : j = k
    · simp [e]
    · have h' : k ∈ j :: r.keys := h
      rcases List.mem_cons.mp h' with z | z
      · exact absurd z.symm e
      · simp [e, fld_get r z]
theorem toL_ofL : ∀ l : List (Str × Th), (Ts.ofL l).toL = l
  | [] => rfl
  | p :: r => by unfold Ts.ofL Ts.toL; rw [toL_ofL r]
theorem toL_len : ∀ l : Ts, l.toL.length = l.len
  | .nil => rfl
  | .cons k t r => by unfold Ts.toL Ts.len; rw [List.length_cons, toL_len r]
theorem toL_keys : ∀ l : Ts, l.toL.map (·.1) = l.keys
  | .nil => rfl
  | .cons k t r => by unfold Ts.toL Ts.keys; rw [List.map_cons, toL_keys r]
theorem keys_len (l : Ts) : l.keys.length = l.len := by rw [← toL_keys, List.length_map, toL_len]
theorem toL_size : ∀ l : Ts, l.size = (l.toL.map fun p => p.2.size).sum
  | .nil => rfl
  | .cons k t r => by unfold Ts.toL Ts.size; rw [List.map_cons, List.sum_cons, toL_size r]
mutual
/-- the fields in order, in rows none -/
def nrm : Th → Th
  | .num i => .num i
  | .word x => .word x
  | .row l => .row (nrmR l)
  | .dic l => .dic (Ts.ofL ((srt l.keys).map fun k => (k, (nrmS l).fld k)))
def nrmR : Ts → Ts
  | .nil => .nil
  | .cons _ t r => .cons Str.empty (nrm t) (nrmR r)
def nrmS : Ts → Ts
  | .nil => .nil
  | .cons k t r => .cons k (nrm t) (nrmS r)
end
theorem nrm_own (t : Th) : (nrm t).own = t.own := by cases t <;> (unfold nrm; rfl)
theorem nrmS_get : ∀ (l : Ts) {k : Str}, k ∈ l.keys → (nrmS l).fld k = nrm (l.fld k)
  | .nil, k, h => by cases h
  | .cons j t r, k, h => by
    unfold nrmS Ts.fld
    by_cases e : j = k
    · rw [if_pos e, if_pos e]
    · rw [if_neg e, if_neg e]
      have h' : k ∈ j :: r.keys := h
      rcases List.mem_cons.mp h' with z | z
      · exact absurd z.symm e
      · exact nrmS_get r z
theorem nrmR_toL : ∀ l : Ts, (nrmR l).toL = l.toL.map fun p => (Str.empty, nrm p.2)
  | .nil => by unfold nrmR; rfl
  | .cons k t r => by unfold nrmR Ts.toL; rw [List.map_cons, nrmR_toL r]
/-- what a thing holds, in order -/
def kids : Th → List (Str × Th)
  | .row l => l.toL.map fun p => (Str.empty, p.2)
  | .dic l => (srt l.keys).map fun k => (k, l.fld k)
  | _ => []
/-- what a thing in order holds -/
def kidsN : Th → List (Str × Th)
  | .row l => l.toL
  | .dic l => l.toL
  | _ => []
theorem kids_nrm (t : Th) : kidsN (nrm t) = (kids t).map fun p => (p.1, nrm p.2) := by
  cases t with
  | num i => unfold nrm; rfl
  | word x => unfold nrm; rfl
  | row l =>
    show (nrmR l).toL = (l.toL.map fun p => (Str.empty, p.2)).map _
    rw [nrmR_toL, List.map_map]
    rfl
  | dic l =>
    show (Ts.ofL ((srt l.keys).map fun k => (k, (nrmS l).fld k))).toL = ((srt l.keys).map fun k => (k, l.fld k)).map _
    rw [toL_ofL, List.map_map]
    refine List.map_congr_left fun k hk => ?_
    show (k, (nrmS l).fld k) = (k, nrm (l.fld k))
    rw [nrmS_get l ((srt_perm l.keys).mem_iff.mp hk)]
theorem get_all : ∀ (l : Ts), l.keys.Nodup → l.keys.map (fun k => (k, l.fld k)) = l.toL
  | .nil, _ => rfl
  | .cons j t r, h => by
    obtain ⟨h1, h2⟩ := List.nodup_cons.mp (show (j :: r.keys).Nodup from h)
    show (j, (Ts.cons j t r).fld j) :: r.keys.map (fun k => (k, (Ts.cons j t r).fld k)) = (j, t) :: r.toL
    have e : (Ts.cons j t r).fld j = t := by unfold Ts.fld; rw [if_pos rfl]
    rw [e, ← get_all r h2]
    congr 1
    refine List.map_congr_left fun k hk => ?_
    show (k, (Ts.cons j t r).fld k) = (k, r.fld k)
    have e2 : (Ts.cons j t r).fld k = r.fld k := by show (if j = k then t else r.fld k) = r.fld k; rw [if_neg (fun z => h1 (by rw [z]; exact hk))]
    rw [e2]
theorem kids_perm {l : Ts} (h : l.keys.Nodup) : (kids (.dic l)).Perm l.toL := by
  have z := (srt_perm l.keys).map fun k => (k, l.fld k)
  rw [get_all l h] at z
  exact z
theorem kids_size {t : Th} (h : t.Ok) : t.size = 1 + ((kids t).map fun p => p.2.size).sum := by
  cases t with
  | num i => rfl
  | word x => rfl
  | row l =>
    show l.size + 1 = 1 + ((l.toL.map fun p => (Str.empty, p.2)).map fun p => p.2.size).sum
    rw [List.map_map, toL_size, Nat.add_comm]
    rfl
  | dic l =>
    have p := ((kids_perm (l := l) h.2.1).map fun p => p.2.size).sum_nat
    show l.size + 1 = 1 + ((kids (.dic l)).map fun p => p.2.size).sum
    rw [p, toL_size, Nat.add_comm]
theorem toL_ok : ∀ {l : Ts}, l.Ok → ∀ p ∈ l.toL, p.2.Ok ∧ p.1.length ≤ 100
  | .nil, _, p, h => by cases h
  | .cons k t r, ok, p, h => by
    have ok' : k.length ≤ 100 ∧ Th.Ok t ∧ Ts.Ok r := ok
    rcases List.mem_cons.mp h with z | z
    · rw [z]; exact ⟨ok'.2.1, ok'.1⟩
    · exact toL_ok ok'.2.2 p z
theorem kids_ok {t : Th} (h : t.Ok) : ∀ p ∈ kids t, p.2.Ok ∧ p.1.length ≤ 100 := by
  cases t with
  | num i => intro p hp; cases hp
  | word x => intro p hp; cases hp
  | row l =>
    intro p hp
    obtain ⟨q, h1, rfl⟩ := List.mem_map.mp hp
    exact ⟨(toL_ok h.2 q h1).1, by show Str.empty.length ≤ 100; decide⟩
  | dic l => exact fun p hp => toL_ok h.2.2 p ((kids_perm h.2.1).mem_iff.mp hp)
theorem le_sum : ∀ {l : List Nat} {a : Nat}, a ∈ l → a ≤ l.sum
  | [], _, h => by cases h
  | b :: r, a, h => by
    rw [List.sum_cons]
    rcases List.mem_cons.mp h with z | z
    · omega
    · have := le_sum z
      omega
theorem kids_lt {t : Th} (h : t.Ok) : ∀ p ∈ kids t, p.2.size < t.size := fun p hp => by
  have z := kids_size h
  have y : p.2.size ≤ ((kids t).map fun p => p.2.size).sum := le_sum (List.mem_map.mpr ⟨p, hp, rfl⟩)
  omega
theorem kids_len {t : Th} (h : t.Ok) : (kids t).length ≤ 9 := by
  cases t with
  | num i => exact Nat.zero_le _
  | word x => exact Nat.zero_le _
  | row l => show (l.toL.map _).length ≤ 9; rw [List.length_map, toL_len]; exact h.1
  | dic l => show ((srt l.keys).map _).length ≤ 9; rw [List.length_map, (srt_perm l.keys).length_eq, keys_len]; exact h.1
theorem nrmS_keys : ∀ l : Ts, (nrmS l).keys = l.keys
  | .nil => rfl
  | .cons k t r => by show k :: (nrmS r).keys = k :: r.keys; rw [nrmS_keys r]
mutual
theorem nrm_size : ∀ t : Th, t.Ok → (nrm t).size = t.size
  | .num i, _ => rfl
  | .word x, _ => rfl
  | .row l, h => by
    show (nrmR l).size + 1 = l.size + 1
    rw [nrmR_size l h.2]
  | .dic l, h => by
    show (Ts.ofL ((srt l.keys).map fun k => (k, (nrmS l).fld k))).size + 1 = l.size + 1
    rw [toL_size, toL_ofL]
    have e1 : ((srt l.keys).map fun k => (k, (nrmS l).fld k)).Perm (nrmS l).toL := by
      have z := (srt_perm l.keys).map fun k => (k, (nrmS l).fld k)
      rw [← nrmS_keys l] at z ⊢
      rw [get_all (nrmS l) (by rw [nrmS_keys]; exact h.2.1)] at z
      exact z
    rw [(e1.map fun p => p.2.size).sum_nat, ← toL_size, nrmS_size l h.2.2]
theorem nrmR_size : ∀ l : Ts, l.Ok → (nrmR l).size = l.size
  | .nil, _ => rfl
  | .cons k t r, h => by
    have h' : k.length ≤ 100 ∧ Th.Ok t ∧ Ts.Ok r := h
    show (nrm t).size + (nrmR r).size = t.size + r.size
    rw [nrm_size t h'.2.1, nrmR_size r h'.2.2]
theorem nrmS_size : ∀ l : Ts, l.Ok → (nrmS l).size = l.size
  | .nil, _ => rfl
  | .cons k t r, h => by
    have h' : k.length ≤ 100 ∧ Th.Ok t ∧ Ts.Ok r := h
    show (nrm t).size + (nrmS r).size = t.size + r.size
    rw [nrm_size t h'.2.1, nrmS_size r h'.2.2]
end
mutual
/-- the thing and all things within it, each ahead of what it holds -/
def pre : Str → Th → List (Str × Th)
  | f, .num i => [(f, .num i)]
  | f, .word x => [(f, .word x)]
  | f, .row l => (f, .row l) :: preS l
  | f, .dic l => (f, .dic l) :: preS l
def preS : Ts → List (Str × Th)
  | .nil => []
  | .cons k t r => pre k t ++ preS r
end
theorem preS_flat : ∀ l : Ts, preS l = l.toL.flatMap fun p => pre p.1 p.2
  | .nil => rfl
  | .cons k t r => by
    show pre k t ++ preS r = ((k, t) :: r.toL).flatMap _
    rw [List.flatMap_cons, preS_flat r]
theorem pre_eq (f : Str) (t : Th) : pre f t = (f, t) :: (kidsN t).flatMap fun p => pre p.1 p.2 := by
  cases t with
  | num i => rfl
  | word x => rfl
  | row l => show (f, Th.row l) :: preS l = _; rw [preS_flat]; rfl
  | dic l => show (f, Th.dic l) :: preS l = _; rw [preS_flat]; rfl
def ktOf (p : Str × Th) : Kt := ⟨p.1, p.2.size, p.2.own⟩
mutual
theorem key_pre : ∀ (t : Th) (f : Str), keyT f t = (pre f t).map ktOf
  | .num i, f => rfl
  | .word x, f => rfl
  | .row l, f => by show _ :: keyS l = _ :: (preS l).map ktOf; rw [keyS_pre l]; rfl
  | .dic l, f => by show _ :: keyS l = _ :: (preS l).map ktOf; rw [keyS_pre l]; rfl
theorem keyS_pre : ∀ l : Ts, keyS l = (preS l).map ktOf
  | .nil => rfl
  | .cons k t r => by show keyT k t ++ keyS r = (pre k t ++ preS r).map ktOf; rw [List.map_append, key_pre t k, keyS_pre r]
end
mutual
theorem pre_len : ∀ (t : Th) (f : Str), (pre f t).length = t.size
  | .num i, f => rfl
  | .word x, f => rfl
  | .row l, f => by show (preS l).length + 1 = l.size + 1; rw [preS_len l]
  | .dic l, f => by show (preS l).length + 1 = l.size + 1; rw [preS_len l]
theorem preS_len : ∀ l : Ts, (preS l).length = l.size
  | .nil => rfl
  | .cons k t r => by show (pre k t ++ preS r).length = t.size + r.size; rw [List.length_append, pre_len t k, preS_len r]
end
/-- sizes that wait, from the end on -/
def stk : List (Str × Th) → List Nat
  | [] => []
  | p :: r => (1 + ((stk r).take (kidsN p.2).length).sum) :: (stk r).drop (kidsN p.2).length
def Good : List (Str × Th) → Prop
  | [] => True
  | p :: r => (kidsN p.2).length ≤ (stk r).length ∧ Good r
mutual
theorem stk_pre : ∀ (t : Th) (f : Str) (R : List (Str × Th)), stk (pre f t ++ R) = t.size :: stk R
  | .num i, f, R => rfl
  | .word x, f, R => rfl
  | .row l, f, R => by
    show (1 + ((stk (preS l ++ R)).take l.toL.length).sum) :: (stk (preS l ++ R)).drop l.toL.length = (l.size + 1) :: stk R
    have z : (l.toL.map fun p => p.2.size).length = l.toL.length := List.length_map _
    rw [stk_preS l R, ← z, List.take_left, List.drop_left, ← toL_size, Nat.add_comm]
  | .dic l, f, R => by
    show (1 + ((stk (preS l ++ R)).take l.toL.length).sum) :: (stk (preS l ++ R)).drop l.toL.length = (l.size + 1) :: stk R
    have z : (l.toL.map fun p => p.2.size).length = l.toL.length := List.length_map _
    rw [stk_preS l R, ← z, List.take_left, List.drop_left, ← toL_size, Nat.add_comm]
theorem stk_preS : ∀ (l : Ts) (R : List (Str × Th)), stk (preS l ++ R) = (l.toL.map fun p => p.2.size) ++ stk R
  | .nil, R => rfl
  | .cons k t r, R => by
    show stk ((pre k t ++ preS r) ++ R) = t.size :: ((r.toL.map fun p => p.2.size) ++ stk R)
    rw [List.append_assoc, stk_pre t k, stk_preS r R]
end
mutual
theorem good_pre : ∀ (t : Th) (f : Str) (R : List (Str × Th)), Good R → Good (pre f t ++ R)
  | .num i, f, R, h => ⟨Nat.zero_le _, h⟩
  | .word x, f, R, h => ⟨Nat.zero_le _, h⟩
  | .row l, f, R, h => ⟨by show l.toL.length ≤ (stk (preS l ++ R)).length; rw [stk_preS l R, List.length_append, List.length_map]; exact Nat.le_add_right _ _, good_preS l R h⟩
  | .dic l, f, R, h => ⟨by show l.toL.length ≤ (stk (preS l ++ R)).length; rw [stk_preS l R, List.length_append, List.length_map]; exact Nat.le_add_right _ _, good_preS l R h⟩
theorem good_preS : ∀ (l : Ts) (R : List (Str × Th)), Good R → Good (preS l ++ R)
  | .nil, R, h => h
  | .cons k t r, R, h => by
    show Good ((pre k t ++ preS r) ++ R)
    rw [List.append_assoc]
    exact good_pre t k _ (good_preS r R h)
end
/-- the sizes that are told -/
def szs : List (Str × Th) → List Nat
  | [] => []
  | p :: r => (stk (p :: r)).headD 0 :: szs r
mutual
theorem szs_pre : ∀ (t : Th) (f : Str) (R : List (Str × Th)), szs (pre f t ++ R) = ((pre f t).map fun p => p.2.size) ++ szs R
  | .num i, f, R => rfl
  | .word x, f, R => rfl
  | .row l, f, R => by
    show (stk (pre f (.row l) ++ R)).headD 0 :: szs (preS l ++ R) = (l.size + 1) :: (((preS l).map fun p => p.2.size) ++ szs R)
    rw [stk_pre, szs_preS l R]
    rfl
  | .dic l, f, R => by
    show (stk (pre f (.dic l) ++ R)).headD 0 :: szs (preS l ++ R) = (l.size + 1) :: (((preS l).map fun p => p.2.size) ++ szs R)
    rw [stk_pre, szs_preS l R]
    rfl
theorem szs_preS : ∀ (l : Ts) (R : List (Str × Th)), szs (preS l ++ R) = ((preS l).map fun p => p.2.size) ++ szs R
  | .nil, R => rfl
  | .cons k t r, R => by
    show szs ((pre k t ++ preS r) ++ R) = ((pre k t ++ preS r).map fun p => p.2.size) ++ szs R
    rw [List.append_assoc, szs_pre t k, szs_preS r R, List.map_append, List.append_assoc]
end
theorem szs_all (t : Th) (f : Str) : szs (pre f t) = (pre f t).map fun p => p.2.size := by
  have z := szs_pre t f []
  rw [List.append_nil] at z
  rw [z]
  exact List.append_nil _
theorem good_all (t : Th) (f : Str) : Good (pre f t) := by
  have z := good_pre t f [] trivial
  rw [List.append_nil] at z
  exact z
end Rg
set_option Elab.async false
set_option linter.all false
set_option maxRecDepth 100000
set_option maxHeartbeats 4000000
/-! == and != of two lists whose items are alike, over one program and one world -/
namespace Rg
open PySem PySem.SeqAt
open AutoSeq1 (wpAny_loadPart')
open MeetsSeq MeetsSeq2 MeetsSeq3 SeqRoads2
/-- == of the two says True, and all stays -/
def EqIn (P : Program) (w : World) (A : Around) (s : Shared) (y x : Value) : Prop :=
  ∀ (E : Value → Shared → Prop) (Q : Bool → Shared → Prop), Q true s → wpAny (model P w) A (eqBool y x) Q E s
theorem EqIn.of {P : Program} {w : World} {A : Around} {s : Shared} {y x : Value} (h : EqAt A s y x true) : EqIn P w A s y x := fun E Q q => h P w E Q q
theorem EqIn.refs {P : Program} {w : World} {A : Around} {s : Shared} {l b : Addr} (h : ∀ (E : Value → Shared → Prop) (Q : Value → Shared → Prop), Q (.bool true) s → wpAny (model P w) A (richCompare .Eq (.ref l) (.ref b)) Q E s) : EqIn P w A s (.ref l) (.ref b) := by
  intro E Q q
  by_cases e : l = b
  · subst e
    exact EqAt.same (.ref l) P w E Q q
  · unfold eqBool
    refine wpAny_holding ?_
    refine wpAny_ite_split (fun hab => absurd (by have z := eq_of_beq hab; injection z) e) (fun _ => ?_)
    exact wpAny_bind (h E _ (wpAny_truthy_bool q))
section
variable {P : Program} {w : World} {l b : Addr} {items items2 : Array Value} {n n2 : Nat} {dd dd2 : Option Addr} {sl sl2 : Array (Option Value)}
def LSpec (P : Program) (w : World) (l b : Addr) (items items2 : Array Value) (n n2 : Nat) (dd dd2 : Option Addr) (sl sl2 : Array (Option Value)) (r : Bool) : Spec := fun A R s =>
  s.heap.get? l = some { cls := .type "list", dict := dd, data := .seq items n, slots := sl } ∧ s.heap.get? b = some { cls := .type "list", dict := dd2, data := .seq items2 n2, slots := sl2 } ∧
    (∀ j (h1 : j < items.size) (h2 : j < items2.size), EqIn P w A.in1 s items[j] items2[j]) ∧ R (.ok (.ret (.bool r))) s
theorem loop_eq (hsz : items.size = items2.size) (k : Nat) : ∀ i : Nat, items.size - i = k → MeetsIn P w (Builtin.«list.__eq__.loop» ⟨[.ref l, .ref b, rawInt i, rawInt 2], []⟩) (LSpec P w l b items items2 n n2 dd dd2 sl sl2 true) := by
  induction k with
  | zero =>
    intro i hk A R s h
    obtain ⟨hp, g, d, tk, os⟩ := s
    obtain ⟨hl, hb, he, h⟩ := h
    wp_walk using wpAny_loadPart' hl, wpAny_loadPart' hb
    have g1 : items[((i : Nat) : Int).toNat]? = none := by simp; omega
    have g2 : items2[((i : Nat) : Int).toNat]? = none := by simp; omega
    rw [g1, g2]
    wp_walk using wpAny_loadPart' hl, wpAny_loadPart' hb
    show R (.ok (.ret (.bool (items.size == items2.size)))) _
    rw [hsz]
    simpa using h
  | succ k ih =>
    intro i hk A R s h
    obtain ⟨hp, g, d, tk, os⟩ := s
    obtain ⟨hl, hb, he, h⟩ := h
    wp_walk using wpAny_loadPart' hl, wpAny_loadPart' hb
    have q1 : i < items.size := by omega
    have q2 : i < items2.size := by omega
    have g1 : items[((i : Nat) : Int).toNat]? = some items[i] := by simp [q1]
    have g2 : items2[((i : Nat) : Int).toNat]? = some items2[i] := by simp [q2]
    have hc : ((i : Int) + 1) = ((i + 1 : Nat) : Int) := by omega
    rw [g1, g2]
    refine wpAny_bind (he i q1 q2 _ _ ?_)
    wp_walk
    rw [hc]
    refine ⟨plainId_quiet plain_eq_loop _, codeAny_builtin entry_eq_loop ?_⟩
    rw [Around.under_plainId plain_eq_loop _]
    exact ih (i + 1) (by omega) A R _ ⟨hl, hb, he, h⟩
theorem list_eqIn (hsz : items.size = items2.size) : MeetsIn P w (Builtin.«list.__eq__» ⟨[.ref l, .ref b], []⟩) (LSpec P w l b items items2 n n2 dd dd2 sl sl2 true) := by
  intro A R s h
  obtain ⟨hp, g, d, tk, os⟩ := s
  obtain ⟨hl, hb, he, h⟩ := h
  have f3 := AutoSeq1.sub_list_list
  have hne : ¬ (items.size != items2.size) = true := by simp [hsz]
  wp_walk using wpAny_loadPart' hl, wpAny_loadPart' hb
  refine ⟨plainId_quiet plain_eq_loop _, codeAny_builtin entry_eq_loop ?_⟩
  rw [Around.under_plainId plain_eq_loop _]
  exact loop_eq hsz _ 0 rfl A R _ ⟨hl, hb, he, h⟩
end
section
variable {P : Program} {w : World} {A : Around} {E : Value → Shared → Prop} {s : Shared} {l b : Addr} {items items2 : Array Value} {Q : Value → Shared → Prop}
theorem rc_lists (hl : s.heap.IsList l items) (hb : s.heap.IsList b items2) (hsz : items.size = items2.size) (hu : A.units < cLine) (he : ∀ j (h1 : j < items.size) (h2 : j < items2.size), EqIn P w A.in1 s items[j] items2[j]) (h : Q (.bool true) s) :
    wpAny (model P w) A (richCompare .Eq (.ref l) (.ref b)) Q E s := by
  obtain ⟨⟨cls, dd, data, sl⟩, ho, hc, n, hd⟩ := id hl
  obtain ⟨⟨cls2, dd2, data2, sl2⟩, ho2, hc2, n2, hd2⟩ := id hb
  simp only at hc hd hc2 hd2
  subst hc hd hc2 hd2
  refine wpAny_richCompare_same_room (op := .Eq) (T := "list") ⟨_, ho, rfl⟩ ⟨_, ho2, rfl⟩ F.slot_list_eq (call_meetsIn F.slot_list_eq ⟨_, ho, rfl⟩ F.entry_list_eq (F.args_list_eq_2 _ _) (list_eqIn hsz) ⟨ho, ho2, he, ?_⟩) hu
  exact ⟨(fun x => nomatch x), h⟩
end
end Rg
set_option Elab.async false
set_option linter.all false
set_option maxRecDepth 100000
set_option maxHeartbeats 4000000
/-! == and < of tuples and lists, by the first place at which they are unlike -/
namespace Rg
open PySem PySem.SeqAt
open AutoSeq1 (wpAny_loadPart')
open MeetsSeq MeetsSeq2 MeetsSeq3 SeqRoads2
def LtAt (A : Around) (s : Shared) (u v : Value) (b : Bool) : Prop :=
  ∀ (prog : Program) (w : World) (E : Value → Shared → Prop) (Q : Value → Shared → Prop), Q (.bool b) s → wpAny (model prog w) A (richCompare .Lt u v) Q E s
def SeqLt (A : Around) (s : Shared) : List Value → List Value → Bool → Prop
  | [], [], r => r = false
  | [], _ :: _, r => r = true
  | _ :: _, [], r => r = false
  | x :: xs, y :: ys, r => (EqAt A s x y true ∧ SeqLt A s xs ys r) ∨ (EqAt A s x y false ∧ LtAt A s x y r)
def SeqEq (A : Around) (s : Shared) : List Value → List Value → Bool → Prop
  | [], [], r => r = true
  | [], _ :: _, r => r = false
  | _ :: _, [], r => r = false
  | x :: xs, y :: ys, r => (EqAt A s x y true ∧ SeqEq A s xs ys r) ∨ (EqAt A s x y false ∧ r = false)
section
variable {l b : Addr} {items items2 : Array Value} {n n2 : Nat} {dd dd2 : Option Addr} {sl sl2 : Array (Option Value)} {r : Bool}
theorem tuple_ltS : Meets (Builtin.«tuple.__lt__» ⟨[.ref l, .ref b], []⟩)
      (fun A R s => s.heap.get? l = some { cls := .type "tuple", dict := dd, data := .seq items n, slots := sl } ∧ s.heap.get? b = some { cls := .type "tuple", dict := dd2, data := .seq items2 n2, slots := sl2 } ∧
        SeqLt A.in1 s items.toList items2.toList r ∧ R (.ok (.ret (.bool r))) s) :=
  .of_wp fun prog w A R s h => by
    obtain ⟨hp, g, d, tk, os⟩ := s; obtain ⟨hl, hb, hS, h⟩ := h
    have f2 := AutoSeq1.sub_tuple_tuple
    wp_walk using wpAny_loadPart' hl, wpAny_loadPart' hb, wpAny_forIn_list _ (fun rest b s' => b.1 = none ∧ s' = ⟨hp, g, d, tk, os⟩ ∧ ∃ (vs ws : List Value), rest = vs.zip ws ∧
      SeqLt A.in1 ⟨hp, g, d, tk, os⟩ vs ws r ∧ vs.length + items2.size = ws.length + items.size) _
    case turn =>
      rintro ⟨y, x⟩ rest b s' ⟨hb', rfl, vs, ws, hz, hS, hlen⟩
      cases vs with
      | nil => rw [List.zip_nil_left] at hz; cases hz
      | cons a vs =>
        cases ws with
        | nil => rw [List.zip_nil_right] at hz; cases hz
        | cons c ws =>
          rw [List.zip_cons_cons] at hz
          injection hz with hyx hrest
          injection hyx with hy hx
          subst hy hx
          simp only [List.length_cons] at hlen
          rcases (show (EqAt A.in1 ⟨hp, g, d, tk, os⟩ y x true ∧ SeqLt A.in1 ⟨hp, g, d, tk, os⟩ vs ws r) ∨ (EqAt A.in1 ⟨hp, g, d, tk, os⟩ y x false ∧ LtAt A.in1 ⟨hp, g, d, tk, os⟩ y x r) from hS) with ⟨he, hS⟩ | ⟨he, hS⟩
          · refine wpAny_bind (he prog w _ _ ?_)
            wp_walk
            exact ⟨rfl, rfl, _, _, hrest, hS, by omega⟩
          · refine wpAny_bind (he prog w _ _ ?_)
            have hri := hS prog w
            wp_walk using hri
            exact ⟨_, rfl, h⟩
    case fin =>
      rintro ⟨b1, b2⟩ s' ⟨hb', rfl, vs, ws, hz, hS, hlen⟩
      simp only at hb'
      subst hb'
      have hv : r = decide (items.size < items2.size) := by
        cases vs with
        | nil =>
          cases ws with
          | nil =>
            simp only [List.length_nil] at hlen
            exact (show r = false from hS).trans (decide_eq_false (by omega)).symm
          | cons c ws =>
            simp only [List.length_nil, List.length_cons] at hlen
            exact (show r = true from hS).trans (decide_eq_true (by omega)).symm
        | cons a vs =>
          cases ws with
          | nil =>
            simp only [List.length_nil, List.length_cons] at hlen
            exact (show r = false from hS).trans (decide_eq_false (by omega)).symm
          | cons c ws =>
            rw [List.zip_cons_cons] at hz
            cases hz
      rw [hv] at h
      wp_walk
      exact ⟨_, rfl, by simpa [Builtin.Tuple.tupleCompareSizes] using h⟩
    case h =>
      exact ⟨rfl, rfl, items.toList, items2.toList, rfl, hS, by rw [Array.length_toList, Array.length_toList]; omega⟩
theorem tuple_eqS : Meets (Builtin.«tuple.__eq__» ⟨[.ref l, .ref b], []⟩)
      (fun A R s => s.heap.get? l = some { cls := .type "tuple", dict := dd, data := .seq items n, slots := sl } ∧ s.heap.get? b = some { cls := .type "tuple", dict := dd2, data := .seq items2 n2, slots := sl2 } ∧
        SeqEq A.in1 s items.toList items2.toList r ∧ R (.ok (.ret (.bool r))) s) :=
  .of_wp fun prog w A R s h => by
    obtain ⟨hp, g, d, tk, os⟩ := s; obtain ⟨hl, hb, hS, h⟩ := h
    have f2 := AutoSeq1.sub_tuple_tuple
    wp_walk using wpAny_loadPart' hl, wpAny_loadPart' hb, wpAny_forIn_list _ (fun rest b s' => b.1 = none ∧ s' = ⟨hp, g, d, tk, os⟩ ∧ ∃ (vs ws : List Value), rest = vs.zip ws ∧
      SeqEq A.in1 ⟨hp, g, d, tk, os⟩ vs ws r ∧ vs.length + items2.size = ws.length + items.size) _
    case turn =>
      rintro ⟨y, x⟩ rest b s' ⟨hb', rfl, vs, ws, hz, hS, hlen⟩
      cases vs with
      | nil => rw [List.zip_nil_left] at hz; cases hz
      | cons a vs =>
        cases ws with
        | nil => rw [List.zip_nil_right] at hz; cases hz
        | cons c ws =>
          rw [List.zip_cons_cons] at hz
          injection hz with hyx hrest
          injection hyx with hy hx
          subst hy hx
          simp only [List.length_cons] at hlen
          rcases (show (EqAt A.in1 ⟨hp, g, d, tk, os⟩ y x true ∧ SeqEq A.in1 ⟨hp, g, d, tk, os⟩ vs ws r) ∨ (EqAt A.in1 ⟨hp, g, d, tk, os⟩ y x false ∧ r = false) from hS) with ⟨he, hS⟩ | ⟨he, hS⟩
          · refine wpAny_bind (he prog w _ _ ?_)
            wp_walk
            exact ⟨rfl, rfl, _, _, hrest, hS, by omega⟩
          · refine wpAny_bind (he prog w _ _ ?_)
            rw [hS] at h
            wp_walk
            exact ⟨_, rfl, h⟩
    case fin =>
      rintro ⟨b1, b2⟩ s' ⟨hb', rfl, vs, ws, hz, hS, hlen⟩
      simp only at hb'
      subst hb'
      have hv : r = (items.size == items2.size) := by
        cases vs with
        | nil =>
          cases ws with
          | nil =>
            simp only [List.length_nil] at hlen
            exact (show r = true from hS).trans (beq_iff_eq.mpr (by omega)).symm
          | cons c ws =>
            simp only [List.length_nil, List.length_cons] at hlen
            exact (show r = false from hS).trans (beq_eq_false_iff_ne.mpr (by omega)).symm
        | cons a vs =>
          cases ws with
          | nil =>
            simp only [List.length_nil, List.length_cons] at hlen
            exact (show r = false from hS).trans (beq_eq_false_iff_ne.mpr (by omega)).symm
          | cons c ws =>
            rw [List.zip_cons_cons] at hz
            cases hz
      rw [hv] at h
      wp_walk
      exact ⟨_, rfl, by simpa [Builtin.Tuple.tupleCompareSizes] using h⟩
    case h =>
      exact ⟨rfl, rfl, items.toList, items2.toList, rfl, hS, by rw [Array.length_toList, Array.length_toList]; omega⟩
theorem loop_ltS (k : Nat) : ∀ i : Nat, items.size - i = k → i ≤ items.size → i ≤ items2.size → Meets (Builtin.«list.__eq__.loop» ⟨[.ref l, .ref b, rawInt i, rawInt 0], []⟩)
      (fun A R s => s.heap.get? l = some { cls := .type "list", dict := dd, data := .seq items n, slots := sl } ∧ s.heap.get? b = some { cls := .type "list", dict := dd2, data := .seq items2 n2, slots := sl2 } ∧
        SeqLt A.in1 s (items.toList.drop i) (items2.toList.drop i) r ∧ R (.ok (.ret (.bool r))) s) := by
  have ends : ∀ (A : Around) (s : Shared) (i : Nat), i ≤ items.size → i ≤ items2.size → (items.size ≤ i ∨ items2.size ≤ i) → SeqLt A s (items.toList.drop i) (items2.toList.drop i) r → r = decide (items.size < items2.size) := by
    intro A s i h1 h2 h3 hS
    by_cases z1 : items.size ≤ i
    · have d1 : items.toList.drop i = [] := List.drop_of_length_le (by rw [Array.length_toList]; omega)
      rw [d1] at hS
      by_cases z2 : items2.size ≤ i
      · have d2 : items2.toList.drop i = [] := List.drop_of_length_le (by rw [Array.length_toList]; omega)
        rw [d2] at hS
        rw [decide_eq_false (by omega)]
        exact hS
      · have d2 : items2.toList.drop i = items2.toList[i]'(by rw [Array.length_toList]; omega) :: items2.toList.drop (i + 1) := List.drop_eq_getElem_cons _
        rw [d2] at hS
        rw [decide_eq_true (by omega)]
        exact hS
    · have d1 : items.toList.drop i = items.toList[i]'(by rw [Array.length_toList]; omega) :: items.toList.drop (i + 1) := List.drop_eq_getElem_cons _
      have d2 : items2.toList.drop i = [] := List.drop_of_length_le (by rw [Array.length_toList]; omega)
      rw [d1, d2] at hS
      rw [decide_eq_false (by omega)]
      exact hS
  induction k with
  | zero =>
    intro i hk k1 k2 prog w A R s h
    obtain ⟨hp, g, d, tk, os⟩ := s; obtain ⟨hl, hb, hS, h⟩ := h
    rw [ends _ _ i k1 k2 (by omega) hS] at h
    wp_walk using wpAny_loadPart' hl, wpAny_loadPart' hb
    have g1 : items[((i : Nat) : Int).toNat]? = none := by simp; omega
    rw [g1]
    cases q : items2[((i : Nat) : Int).toNat]? with
    | none =>
      wp_walk using wpAny_loadPart' hl, wpAny_loadPart' hb
      exact h
    | some y =>
      wp_walk using wpAny_loadPart' hl, wpAny_loadPart' hb
      exact h
  | succ k ih =>
    intro i hk k1 k2 prog w A R s h
    obtain ⟨hp, g, d, tk, os⟩ := s; obtain ⟨hl, hb, hS, h⟩ := h
    have hlt : i < items.size := by omega
    have hi1 : items[((i : Nat) : Int).toNat]? = some items[i] := by simp [hlt]
    by_cases hlt2 : i < items2.size
    · have d1 : items.toList.drop i = items[i] :: items.toList.drop (i + 1) := by
        rw [List.drop_eq_getElem_cons (by rw [Array.length_toList]; exact hlt), Array.getElem_toList]
      have d2 : items2.toList.drop i = items2[i] :: items2.toList.drop (i + 1) := by
        rw [List.drop_eq_getElem_cons (by rw [Array.length_toList]; exact hlt2), Array.getElem_toList]
      rw [d1, d2] at hS
      have hi2 : items2[((i : Nat) : Int).toNat]? = some items2[i] := by simp [hlt2]
      have hc : ((i : Int) + 1) = ((i + 1 : Nat) : Int) := by omega
      wp_walk using wpAny_loadPart' hl, wpAny_loadPart' hb
      rw [hi1, hi2]
      rcases (show (EqAt A.in1 ⟨hp, g, d, tk, os⟩ items[i] items2[i] true ∧ SeqLt A.in1 ⟨hp, g, d, tk, os⟩ (items.toList.drop (i + 1)) (items2.toList.drop (i + 1)) r) ∨ (EqAt A.in1 ⟨hp, g, d, tk, os⟩ items[i] items2[i] false ∧ LtAt A.in1 ⟨hp, g, d, tk, os⟩ items[i] items2[i] r) from hS) with ⟨he, hS⟩ | ⟨he, hS⟩
      · refine wpAny_bind (he prog w _ _ ?_)
        wp_walk
        rw [hc]
        refine ⟨plainId_quiet plain_eq_loop _, codeAny_builtin entry_eq_loop ?_⟩
        rw [Around.under_plainId plain_eq_loop _]
        exact ih (i + 1) (by omega) (by omega) (by omega) prog w A R _ ⟨hl, hb, hS, h⟩
      · refine wpAny_bind (he prog w _ _ ?_)
        have hri := hS prog w
        wp_walk using wpAny_loadPart' hl, wpAny_loadPart' hb
        rw [hi1, hi2]
        wp_walk using hri
        exact h
    · rw [ends _ _ i k1 k2 (by omega) hS] at h
      wp_walk using wpAny_loadPart' hl, wpAny_loadPart' hb
      have hi2 : items2[((i : Nat) : Int).toNat]? = none := by simp; omega
      rw [hi1, hi2]
      wp_walk using wpAny_loadPart' hl, wpAny_loadPart' hb
      exact h
theorem loop_eqS (hsz : items.size = items2.size) (k : Nat) : ∀ i : Nat, items.size - i = k → i ≤ items.size → Meets (Builtin.«list.__eq__.loop» ⟨[.ref l, .ref b, rawInt i, rawInt 2], []⟩)
      (fun A R s => s.heap.get? l = some { cls := .type "list", dict := dd, data := .seq items n, slots := sl } ∧ s.heap.get? b = some { cls := .type "list", dict := dd2, data := .seq items2 n2, slots := sl2 } ∧
        SeqEq A.in1 s (items.toList.drop i) (items2.toList.drop i) r ∧ R (.ok (.ret (.bool r))) s) := by
  induction k with
  | zero =>
    intro i hk k1 prog w A R s h
    obtain ⟨hp, g, d, tk, os⟩ := s; obtain ⟨hl, hb, hS, h⟩ := h
    have d1 : items.toList.drop i = [] := List.drop_of_length_le (by rw [Array.length_toList]; omega)
    have d2 : items2.toList.drop i = [] := List.drop_of_length_le (by rw [Array.length_toList]; omega)
    rw [d1, d2] at hS
    rw [(show r = true from hS)] at h
    wp_walk using wpAny_loadPart' hl, wpAny_loadPart' hb
    have g1 : items[((i : Nat) : Int).toNat]? = none := by simp; omega
    have g2 : items2[((i : Nat) : Int).toNat]? = none := by simp; omega
    rw [g1, g2]
    wp_walk using wpAny_loadPart' hl, wpAny_loadPart' hb
    show R (.ok (.ret (.bool (items.size == items2.size)))) _
    rw [hsz]
    simpa using h
  | succ k ih =>
    intro i hk k1 prog w A R s h
    obtain ⟨hp, g, d, tk, os⟩ := s; obtain ⟨hl, hb, hS, h⟩ := h
    have hlt : i < items.size := by omega
    have hlt2 : i < items2.size := by omega
    have hi1 : items[((i : Nat) : Int).toNat]? = some items[i] := by simp [hlt]
    have d1 : items.toList.drop i = items[i] :: items.toList.drop (i + 1) := by
      rw [List.drop_eq_getElem_cons (by rw [Array.length_toList]; exact hlt), Array.getElem_toList]
    have d2 : items2.toList.drop i = items2[i] :: items2.toList.drop (i + 1) := by
      rw [List.drop_eq_getElem_cons (by rw [Array.length_toList]; exact hlt2), Array.getElem_toList]
    rw [d1, d2] at hS
    have hi2 : items2[((i : Nat) : Int).toNat]? = some items2[i] := by simp [hlt2]
    have hc : ((i : Int) + 1) = ((i + 1 : Nat) : Int) := by omega
    wp_walk using wpAny_loadPart' hl, wpAny_loadPart' hb
    rw [hi1, hi2]
    rcases (show (EqAt A.in1 ⟨hp, g, d, tk, os⟩ items[i] items2[i] true ∧ SeqEq A.in1 ⟨hp, g, d, tk, os⟩ (items.toList.drop (i + 1)) (items2.toList.drop (i + 1)) r) ∨ (EqAt A.in1 ⟨hp, g, d, tk, os⟩ items[i] items2[i] false ∧ r = false) from hS) with ⟨he, hS⟩ | ⟨he, hS⟩
    · refine wpAny_bind (he prog w _ _ ?_)
      wp_walk
      rw [hc]
      refine ⟨plainId_quiet plain_eq_loop _, codeAny_builtin entry_eq_loop ?_⟩
      rw [Around.under_plainId plain_eq_loop _]
      exact ih (i + 1) (by omega) (by omega) prog w A R _ ⟨hl, hb, hS, h⟩
    · refine wpAny_bind (he prog w _ _ ?_)
      rw [hS] at h
      wp_walk using wpAny_loadPart' hl, wpAny_loadPart' hb
      rw [hi1, hi2]
      wp_walk
      exact h
theorem list_ltS : Meets (Builtin.«list.__lt__» ⟨[.ref l, .ref b], []⟩)
      (fun A R s => s.heap.get? l = some { cls := .type "list", dict := dd, data := .seq items n, slots := sl } ∧ s.heap.get? b = some { cls := .type "list", dict := dd2, data := .seq items2 n2, slots := sl2 } ∧
        SeqLt A.in1 s items.toList items2.toList r ∧ R (.ok (.ret (.bool r))) s) := by
  intro prog w A R s h
  obtain ⟨hp, g, d, tk, os⟩ := s; obtain ⟨hl, hb, hS, h⟩ := h
  have f3 := AutoSeq1.sub_list_list
  wp_walk using wpAny_loadPart' hl, wpAny_loadPart' hb
  refine ⟨plainId_quiet plain_eq_loop _, codeAny_builtin entry_eq_loop ?_⟩
  rw [Around.under_plainId plain_eq_loop _]
  exact loop_ltS _ 0 rfl (Nat.zero_le _) (Nat.zero_le _) prog w A R _ ⟨hl, hb, hS, h⟩
theorem list_eqS (hsz : items.size = items2.size) : Meets (Builtin.«list.__eq__» ⟨[.ref l, .ref b], []⟩)
      (fun A R s => s.heap.get? l = some { cls := .type "list", dict := dd, data := .seq items n, slots := sl } ∧ s.heap.get? b = some { cls := .type "list", dict := dd2, data := .seq items2 n2, slots := sl2 } ∧
        SeqEq A.in1 s items.toList items2.toList r ∧ R (.ok (.ret (.bool r))) s) := by
  intro prog w A R s h
  obtain ⟨hp, g, d, tk, os⟩ := s; obtain ⟨hl, hb, hS, h⟩ := h
  have f3 := AutoSeq1.sub_list_list
  have hne : ¬ (items.size != items2.size) = true := by simp [hsz]
  wp_walk using wpAny_loadPart' hl, wpAny_loadPart' hb
  refine ⟨plainId_quiet plain_eq_loop _, codeAny_builtin entry_eq_loop ?_⟩
  rw [Around.under_plainId plain_eq_loop _]
  exact loop_eqS hsz _ 0 rfl (Nat.zero_le _) prog w A R _ ⟨hl, hb, hS, h⟩
end
theorem seqEq_lens {A : Around} {s : Shared} {r : Bool} : ∀ {xs ys : List Value}, SeqEq A s xs ys r → xs.length ≠ ys.length → r = false
  | [], [], _, h => absurd rfl h
  | [], _ :: _, h, _ => h
  | _ :: _, [], h, _ => h
  | x :: xs, y :: ys, h, n => by
    rcases (show (EqAt A s x y true ∧ SeqEq A s xs ys r) ∨ (EqAt A s x y false ∧ r = false) from h) with ⟨_, z⟩ | ⟨_, z⟩
    · exact seqEq_lens z (fun e => n (by rw [List.length_cons, List.length_cons, e]))
    · exact z
/-- the two are so ordered, and all stays -/
def ElC (A : Around) (s : Shared) (u v : Value) (c : Ordering) : Prop := EqAt A s u v (c == .eq) ∧ (c ≠ .eq → LtAt A s u v (c == .lt))
def SeqC (A : Around) (s : Shared) (us vs : List Value) (c : Ordering) : Prop := SeqEq A s us vs (c == .eq) ∧ SeqLt A s us vs (c == .lt)
section
variable {A : Around} {s : Shared}
theorem SeqC.nil : SeqC A s [] [] .eq := ⟨rfl, rfl⟩
theorem SeqC.less {y : Value} {ys : List Value} : SeqC A s [] (y :: ys) .lt := ⟨rfl, rfl⟩
theorem SeqC.more {x : Value} {xs : List Value} : SeqC A s (x :: xs) [] .gt := ⟨rfl, rfl⟩
theorem SeqC.cons {x y : Value} {xs ys : List Value} {c d : Ordering} (h : ElC A s x y c) (t : c = .eq → SeqC A s xs ys d) : SeqC A s (x :: xs) (y :: ys) (c.then d) := by
  cases c with
  | eq => exact ⟨.inl ⟨h.1, (t rfl).1⟩, .inl ⟨h.1, (t rfl).2⟩⟩
  | lt => exact ⟨.inr ⟨h.1, rfl⟩, .inr ⟨h.1, h.2 (by decide)⟩⟩
  | gt => exact ⟨.inr ⟨h.1, rfl⟩, .inr ⟨h.1, h.2 (by decide)⟩⟩
theorem ElC.int (a c : Int) (t u : Tok) : ElC A s (.int a t) (.int c u) (cmpI a c) := by
  have e1 : (a == c) = (cmpI a c == .eq) := by
    unfold cmpI
    by_cases h : a = c
    · rw [if_pos h, h]; simp
    · rw [if_neg h, beq_eq_false_iff_ne.mpr h]
      by_cases l : a < c
      · rw [if_pos l]; rfl
      · rw [if_neg l]; rfl
  refine ⟨by rw [← e1]; exact EqAt.int_int a t c u, fun hn => ?_⟩
  have e2 : decide (a < c) = (cmpI a c == .lt) := by
    unfold cmpI
    by_cases h : a = c
    · rw [if_pos h, h]; simp
    · rw [if_neg h]
      by_cases l : a < c
      · rw [if_pos l, decide_eq_true l]; rfl
      · rw [if_neg l, decide_eq_false l]; rfl
  rw [← e2]
  exact fun prog w E Q q => HT.rcLt_int A s a t c u prog w E Q q
theorem ElC.str (a c : Str) (t u : Tok) : ElC A s (.str a t) (.str c u) (cmpS a c) := by
  have e1 : (a == c) = (cmpS a c == .eq) := by
    unfold cmpS
    by_cases h : a = c
    · rw [if_pos h, h]; simp
    · rw [if_neg h, beq_eq_false_iff_ne.mpr h]
      by_cases l : a.cps.toList < c.cps.toList
      · rw [if_pos l]; rfl
      · rw [if_neg l]; rfl
  refine ⟨by rw [← e1]; exact EqAt.str_str a t c u, fun hn => ?_⟩
  have e2 : decide (a.cps.toList < c.cps.toList) = (cmpS a c == .lt) := by
    unfold cmpS
    by_cases h : a = c
    · rw [if_pos h, h, decide_eq_false (List.lt_irrefl _)]; rfl
    · rw [if_neg h]
      by_cases l : a.cps.toList < c.cps.toList
      · rw [if_pos l, decide_eq_true l]; rfl
      · rw [if_neg l, decide_eq_false l]; rfl
  rw [← e2]
  exact fun prog w E Q q => (PyProof.Rows.lt_str q : wpAny (model prog w) A (compareOp .Lt (.str a t) (.str c u)) Q E s)
theorem rcEq_tup {l b : Addr} {us vs : List Value} {c : Ordering} (hl : s.heap.IsTuple l us.toArray) (hb : s.heap.IsTuple b vs.toArray) (hu : A.units < cLine) (h : SeqC A.in1 s us vs c) : RcAt A s (.ref l) (.ref b) (c == .eq) := fun prog w E Q q => by
  obtain ⟨⟨cls, dd, data, sl⟩, ho, hc, n, hd⟩ := id hl
  obtain ⟨⟨cls2, dd2, data2, sl2⟩, ho2, hc2, n2, hd2⟩ := id hb
  simp only at hc hd hc2 hd2
  subst hc hd hc2 hd2
  exact richCompare_meets_room (op := .Eq) ⟨_, ho, rfl⟩ ⟨_, ho2, rfl⟩ PySem.F.slot_tuple_eq PySem.F.entry_tuple_eq (PySem.F.args_tuple_eq_2 _ _) (tuple_eqS (items := us.toArray) (items2 := vs.toArray))
    ⟨ho, ho2, h.1, (fun x => nomatch x), q⟩ hu
theorem ElC.tup {l b : Addr} {us vs : List Value} {c : Ordering} (hl : s.heap.IsTuple l us.toArray) (hb : s.heap.IsTuple b vs.toArray) (hu : A.units < cLine) (h : SeqC A.in1 s us vs c) (he : l = b → c = .eq) : ElC A s (.ref l) (.ref b) c := by
  refine ⟨?_, fun _ => ?_⟩
  · by_cases e : l = b
    · rw [he e, e]
      exact EqAt.same _
    · exact EqAt.of_refs e (rcEq_tup hl hb hu h)
  · intro prog w E Q q
    obtain ⟨⟨cls, dd, data, sl⟩, ho, hc, n, hd⟩ := id hl
    obtain ⟨⟨cls2, dd2, data2, sl2⟩, ho2, hc2, n2, hd2⟩ := id hb
    simp only at hc hd hc2 hd2
    subst hc hd hc2 hd2
    exact richCompare_meets_room (op := .Lt) ⟨_, ho, rfl⟩ ⟨_, ho2, rfl⟩ PySem.F.slot_tuple_lt PySem.F.entry_tuple_lt (PySem.F.args_tuple_lt_2 _ _) (tuple_ltS (items := us.toArray) (items2 := vs.toArray))
      ⟨ho, ho2, h.2, (fun x => nomatch x), q⟩ hu
theorem rcEq_list {l b : Addr} {us vs : List Value} {c : Ordering} (hl : s.heap.IsList l us.toArray) (hb : s.heap.IsList b vs.toArray) (hu : A.units < cLine) (h : SeqC A.in1 s us vs c) : RcAt A s (.ref l) (.ref b) (c == .eq) := by
  by_cases hz : us.length = vs.length
  · intro prog w E Q q
    obtain ⟨⟨cls, dd, data, sl⟩, ho, hc, n, hd⟩ := id hl
    obtain ⟨⟨cls2, dd2, data2, sl2⟩, ho2, hc2, n2, hd2⟩ := id hb
    simp only at hc hd hc2 hd2
    subst hc hd hc2 hd2
    exact richCompare_meets_room (op := .Eq) ⟨_, ho, rfl⟩ ⟨_, ho2, rfl⟩ PySem.F.slot_list_eq PySem.F.entry_list_eq (PySem.F.args_list_eq_2 _ _) (list_eqS (items := us.toArray) (items2 := vs.toArray) (by simpa using hz))
      ⟨ho, ho2, h.1, (fun x => nomatch x), q⟩ hu
  · rw [seqEq_lens h.1 hz]
    exact RcAt.lists_lengths hl hb (by simpa using hz) hu
theorem rcLt_list {l b : Addr} {us vs : List Value} {c : Ordering} (hl : s.heap.IsList l us.toArray) (hb : s.heap.IsList b vs.toArray) (hu : A.units < cLine) (h : SeqC A.in1 s us vs c) : LtAt A s (.ref l) (.ref b) (c == .lt) := fun prog w E Q q => by
  obtain ⟨⟨cls, dd, data, sl⟩, ho, hc, n, hd⟩ := id hl
  obtain ⟨⟨cls2, dd2, data2, sl2⟩, ho2, hc2, n2, hd2⟩ := id hb
  simp only at hc hd hc2 hd2
  subst hc hd hc2 hd2
  exact richCompare_meets_room (op := .Lt) ⟨_, ho, rfl⟩ ⟨_, ho2, rfl⟩ PySem.F.slot_list_lt PySem.F.entry_list_lt (PySem.F.args_list_lt_2 _ _) (list_ltS (items := us.toArray) (items2 := vs.toArray))
    ⟨ho, ho2, h.2, (fun x => nomatch x), q⟩ hu
end
end Rg
set_option Elab.async false
set_option linter.all false
set_option maxRecDepth 100000
set_option maxHeartbeats 4000000
/-! a walk over a record: it stands still meanwhile; short forms for comprehensions and walks -/
namespace Rg
open PySem PySem.W PySem.Spec PyProof.Rows L2
section
variable {X : Cx} {pins pins1 : List (Addr × Obj)} {σ σ1 : L2.St} {H H1 : Hp} {s s1 : Shared} {a : Addr} {o : Obj} {kvs : List (Key × V)}
theorem freeze (I : Inv X pins σ H s) (ha : H a = some (.dK kvs)) (ho : s.heap.get? a = some o) : Inv X pins σ (upd H a (.frz o (.dK kvs))) s := by
  have tr : ∀ b u, H b = some u → u ≠ .dK kvs → upd H a (.frz o (.dK kvs)) b = some u := fun b u q d => by rw [upd_ne (ne_of q ha d)]; exact q
  have un : Un X.fs [] H (upd H a (.frz o (.dK kvs))) s.heap s.heap := by
    refine ⟨fun b ob q n _ _ => q, fun b ob q n _ _ => ⟨ob.slots, q⟩, fun b ob q n _ => ?_, fun b ob q _ => ⟨ob, q⟩, fun b xs q => tr b _ q (fun z => by cases z), fun b ob u q => tr b _ q (fun z => by cases z), fun b ps q => ⟨#[], ?_⟩⟩
    · rw [upd_ne (fun z => by rw [z, ha] at n; cases n)]
      exact n
    · rw [tr b _ q (fun z => by cases z)]
      simp
  refine I.un (h' := s.heap) (t' := s.toks) un fun b u q => ?_
  by_cases hb : b = a
  · subst hb
    rw [upd_same] at q
    cases q
    exact ⟨ho, (I.hok b _ ha).stay (fun _ _ _ z => z) (fun c z => tr c _ z (fun y => by cases y)) fun c xs z => tr c _ z (fun y => by cases y)⟩
  · rw [upd_ne hb] at q
    exact (I.hok b u q).stay (fun _ _ _ z => z) (fun c z => tr c _ z (fun y => by cases y)) fun c xs z => tr c _ z (fun y => by cases y)
theorem thaw (I1 : Inv X pins1 σ1 H1 s1) (ha : H1 a = some (.dK kvs)) (I : Inv X pins σ H s) (hf : H a = some (.frz o (.dK kvs))) : Inv X pins σ (upd H a (.dK kvs)) s := by
  have tr : ∀ b u, H b = some u → u ≠ .frz o (.dK kvs) → upd H a (.dK kvs) b = some u := fun b u q d => by rw [upd_ne (ne_of q hf d)]; exact q
  have nn : ∀ b, H b = none → upd H a (.dK kvs) b = none := fun b n => by
    rw [upd_ne (fun z => by rw [z, hf] at n; cases n)]
    exact n
  have un : Un X.fs X.ex X.H₀ (upd H a (.dK kvs)) X.s₀.heap s.heap := by
    refine ⟨I.base.keep, I.base.slot, fun b ob q n hx => nn b (I.base.free b ob q n hx), I.base.there, fun b xs q => tr b _ (I.base.tups b xs q) (fun z => by cases z), fun b ob u q => ?_, fun b ps q => ?_⟩
    · have z := I.base.frzs b ob u q
      have z1 := I1.base.frzs b ob u q
      rw [upd_ne (fun e => by rw [e, ha] at z1; cases z1)]
      exact z
    · obtain ⟨more, z⟩ := I.base.tbls b ps q
      exact ⟨more, tr b _ z (fun y => by cases y)⟩
  refine ⟨I.ok, I.os, I.bare, un, I.loc, I.cell, nn _ I.free, fun y c q => nn c (I.freeC y c q), fun p hp => ?_, fun b u q => ?_, I.len⟩
  · obtain ⟨z1, z2, z3⟩ := I.pin p hp
    exact ⟨z1, nn _ z2, z3⟩
  · by_cases hb : b = a
    · subst hb
      rw [upd_same] at q
      cases q
      have z : s.heap.get? b = some o ∧ ObjOk X.prog X.w H s.heap b (.dK kvs) := I.hok b _ hf
      exact z.2.stay (fun _ _ _ z => z) (fun c z => tr c _ z (fun y => by cases y)) fun c xs z => tr c _ z (fun y => by cases y)
    · rw [upd_ne hb] at q
      exact (I.hok b u q).stay (fun _ _ _ z => z) (fun c z => tr c _ z (fun y => by cases y)) fun c xs z => tr c _ z (fun y => by cases y)
end
/-- the fields of a record that stands still -/
def Itk (a : Addr) (o : Obj) (kvs : List (Key × V)) : It :=
  ⟨fun i H => i < kvs.length ∧ H a = some (.frz o (.dK kvs)), fun i H x H' => H' = H ∧ ∃ kv, kvs[i]? = some kv ∧ x = kV kv.1, fun i H => kvs.length ≤ i ∧ H a = some (.frz o (.dK kvs))⟩
def iDict (tl : TE) : TI := fun σ H R => tl σ H fun x H1 => ∃ a kvs, x = .ref a ∧ H1 a = some (.dK kvs) ∧ ∀ o, R (Itk a o kvs) (upd H1 a (.frz o (.dK kvs)))
theorem kV_of {P : Program} {w : World} {k : Key} {u : Value} (h : (mixKind P w).is k u = true) : RelV (kV k) u := by
  rcases keyIs_shape (k := k) (v := u) h with ⟨i, t, rfl, rfl⟩ | ⟨x, t, rfl, rfl⟩
  · exact ⟨t, rfl⟩
  · exact ⟨t, rfl⟩
theorem turn_dict {P : Program} {w : World} {K : PySem.W.Frag} {tg : Expr} {a it : Addr} {o : Obj} {es : Array DictEntry} {ep : Nat} {kvs : List (Key × V)} (hd : o.data = .dict es ep) :
    Turn P w K tg (Itk a o kvs) [it] it (fun i h => h.IsKeyIter it a i kvs.length ep) where
  mem := by simp
  obj := fun i h st b hb => by
    have e : b = it := by simpa using hb
    subst e
    obtain ⟨ob, e, c, d⟩ := st
    exact ⟨ob, e, fun v z => by rw [d] at z; cases z⟩
  keep := fun i h h' st k => st.at fun ob e => k it (by simp) ob e
  item := by
    intro X hP hw hK hc i pins s σ H E I hf st hg
    subst hP hw hK
    obtain ⟨hi, hz⟩ := hg
    obtain ⟨ho, _, hsm, dvs, rel, ob, es', ep', ho', hx, hd', r1⟩ := (show s.heap.get? a = some o ∧ ObjOk X.prog X.w H s.heap a (.dK kvs) from I.hok a _ hz)
    rw [ho] at ho'
    cases ho'
    rw [hd] at hd'
    cases hd'
    have hlen := rel.length
    obtain ⟨f0, f1, f2, f3, f4, f5⟩ := hf it (by simp)
    obtain ⟨⟨k, y⟩, hk⟩ : ∃ p, dvs[i]? = some p := ⟨dvs[i]'(by omega), List.getElem?_eq_getElem (by omega)⟩
    have st' : s.heap.IsKeyIter it a i dvs.length ep := by rw [← hlen]; exact st
    refine wpAny_pyNext_dict_item (knd := mixKind X.prog X.w) st' ⟨o, es, ho, hx, hd, r1⟩ hk fun key h' hkey hit' sb => ?_
    have I1 : Inv X pins σ H { s with heap := h' } := I.turned (t' := s.toks) (fun b ob hb e => (sb.2 b hb).trans e) f0 f1 f3 f4 f5
    obtain ⟨o2, e2, c2, d2⟩ := id hit'
    have ekv : (kvs.map (·.1))[i]? = some k := by rw [rel.keys, List.getElem?_map, hk]; rfl
    rw [List.getElem?_map] at ekv
    cases eq : kvs[i]? with
    | none => rw [eq] at ekv; cases ekv
    | some kv =>
      rw [eq] at ekv
      have ek : kv.1 = k := Option.some.inj ekv
      refine ⟨key, rfl, go_of (s := { s with heap := h' }) e2 c2 d2 (by decide) ⟨kV kv.1, H, I1, ?_, ⟨rfl, kv, eq, rfl⟩, ?_, fun b hb => (hf b hb).1⟩⟩
      · rw [ek]
        exact kV_of hkey
      · rw [hlen]
        exact hit'
  done := by
    intro X hP hw hK hc i pins s σ H E I hf st hg
    subst hP hw hK
    obtain ⟨hi, hz⟩ := hg
    obtain ⟨ho, _, hsm, dvs, rel, ob, es', ep', ho', hx, hd', r1⟩ := (show s.heap.get? a = some o ∧ ObjOk X.prog X.w H s.heap a (.dK kvs) from I.hok a _ hz)
    rw [ho] at ho'
    cases ho'
    rw [hd] at hd'
    cases hd'
    have hlen := rel.length
    obtain ⟨f0, f1, f2, f3, f4, f5⟩ := hf it (by simp)
    have st' : s.heap.IsKeyIter it a i dvs.length ep := by rw [← hlen]; exact st
    exact wpAny_pyNext_dict_end (knd := mixKind X.prog X.w) (I.ok.hd hc) st' ⟨o, es, ho, hx, hd, r1⟩ (List.getElem?_eq_none (by omega)) fun h' eb => ⟨rfl, I.turned (t' := s.toks) (fun b ob hb e => eb b ob hb e) f0 f1 f3 f4 f5⟩
  self := fun _ _ _ _ _ st h => wpAny_pyIter_keyiter st h
theorem pi_dict {X : Cx} {tg l : Expr} {tl : TE} (hl : PE X l tl) : PI X tg l (iDict tl) := by
  intro pins s σ H R I h
  refine thn (hl pins s σ H _ I h) fun v s1 ⟨x, H1, I1, r1, q1⟩ => ?_
  obtain ⟨a, kvs, e, ha, q⟩ := q1
  subst e
  cases r1
  obtain ⟨zl, hsm, dvs, rel, o, es, ep, ho, hx, hd, rr⟩ := dk_of I1.hok ha
  refine wpAny_pyIter_dict (knd := mixKind X.prog X.w) hsm ⟨o, es, ho, hx, hd, rr⟩ ?_
  have I2 : Inv X pins σ H1 { s1 with heap := s1.heap.push { cls := .type "dict_keyiterator", data := .fields #[.ref a, .int 0 0, .int dvs.length 0, .int ep 0] }, toks := s1.toks } := I1.kept fun b ob z => Heap.get?_push_of_some _ z
  have I3 := freeze (o := o) I2 ha (Heap.get?_push_of_some _ ho)
  refine ⟨s1.heap.objs.size, [s1.heap.objs.size], _, _, _, rfl, I3, turn_dict (kvs := kvs) hd, ⟨_, Heap.get?_push_size _ rfl, rfl, by rw [rel.length]; rfl⟩, fun b hb => ?_, q o⟩
  have e : b = s1.heap.objs.size := by simpa using hb
  subst e
  have hn : H1 s1.heap.objs.size = none := I1.hok.fresh (Nat.le_refl _)
  exact I1.fpOk (Nat.le_refl _) (by rw [upd_ne (fun z => by rw [z, ha] at hn; cases hn)]; exact hn)
/-! ### the record thaws behind the loop -/
def tThaw (t : TS) : TS := fun D σ H => ∃ a kvs, H a = some (.dK kvs) ∧ t { nx := fun σ' H' => ∃ o, H' a = some (.frz o (.dK kvs)) ∧ D.nx σ' (upd H' a (.dK kvs)), rt := fun v H' => ∃ o, H' a = some (.frz o (.dK kvs)) ∧ D.rt v (upd H' a (.dK kvs)), bk := fun _ _ => False, ct := fun _ _ => False } σ H
theorem ps_thaw {X : Cx} {st : Stmt} {t : TS} (h : PS X st t) : PS X st (tThaw t) := by
  intro pins s σ H D I hw
  obtain ⟨a, kvs, ha, hw⟩ := hw
  refine thn (h pins s σ H _ I hw) fun f s' q => ?_
  cases f with
  | next =>
    obtain ⟨σ', H', I', o, z, q⟩ := q
    exact ⟨σ', _, thaw I ha I' z, q⟩
  | brk =>
    obtain ⟨σ', H', I', q⟩ := q
    exact False.elim q
  | cont =>
    obtain ⟨σ', H', I', q⟩ := q
    exact False.elim q
  | ret u =>
    obtain ⟨v, σ', H', I', r, o, z, q⟩ := q
    exact ⟨v, σ', _, thaw I ha I' z, r, q⟩
def eThaw (t : TE) : TE := fun σ H Q => ∃ a kvs, H a = some (.dK kvs) ∧ t σ H fun v H' => ∃ o, H' a = some (.frz o (.dK kvs)) ∧ Q v (upd H' a (.dK kvs))
/-! ### the forms one uses -/
theorem for_dict {a : Addr} {o : Obj} {kvs : List (Key × V)} {g : TG} {tb : TS} {D : Ends} {σ : L2.St} {H : Hp} (Pv : Nat → L2.St → Hp → Prop) (h0 : Pv 0 σ H) (hl : ∀ i σ H, i ≤ kvs.length → Pv i σ H → H a = some (.frz o (.dK kvs)))
    (hs : ∀ i kv σ H, kvs[i]? = some kv → Pv i σ H → g (kV kv.1) σ H fun σ2 H2 => tb { D with nx := Pv (i + 1), ct := Pv (i + 1), bk := D.nx } σ2 H2) (hd : ∀ σ H, Pv kvs.length σ H → D.nx σ H) :
    ∃ W : Nat → Nat → L2.St → Hp → Prop, (∃ m, W 0 m σ H) ∧ ∀ i m σ H, W i m σ H →
      ((Itk a o kvs).stop i H ∧ D.nx σ H) ∨ ((Itk a o kvs).go i H ∧ ∃ N : L2.St → Hp → Prop, (∀ σ' H', N σ' H' → ∃ m', m' < m ∧ W (i + 1) m' σ' H') ∧ ∀ x H', (Itk a o kvs).yld i H x H' → g x σ H' fun σ2 H2 => tb { D with nx := N, ct := N, bk := D.nx } σ2 H2) := by
  refine ⟨fun i m σ H => m = kvs.length - i ∧ i ≤ kvs.length ∧ Pv i σ H, ⟨kvs.length, by simp, Nat.zero_le _, h0⟩, ?_⟩
  rintro i m σ H ⟨rfl, hi, p⟩
  have q := hl i σ H hi p
  by_cases hlt : i < kvs.length
  · refine .inr ⟨⟨hlt, q⟩, Pv (i + 1), fun σ' H' p' => ⟨kvs.length - (i + 1), by omega, rfl, hlt, p'⟩, fun x H' y => ?_⟩
    obtain ⟨rfl, kv, ek, rfl⟩ := y
    exact hs i kv σ _ ek p
  · have e : i = kvs.length := by omega
    subst e
    exact .inl ⟨⟨Nat.le_refl _, q⟩, hd σ H p⟩
section
variable {fr : List (Str × Nat)} {te : TE} {σ : L2.St} {H : Hp} {Q : VK}
/-- a comprehension over a list that the block leaves as it is -/
theorem lc_list {K : PySem.W.Frag} {a : Addr} {xs : List V} (Pv : Nat → List V → Hp → Prop) (hz : xs.length ≤ sizeLine) (h0 : Pv 0 [] H) (hl : ∀ i ys H, i ≤ xs.length → Pv i ys H → SqL K H a xs ∧ ys.length = i)
    (hs : ∀ i x ys H, xs[i]? = some x → Pv i ys H → te (blkS (some x) fr σ) H fun y H2 => Pv (i + 1) (ys ++ [y]) H2) (hd : ∀ ys H, Pv xs.length ys H → ∀ p, H p = none → Q (.ref p) (upd H p (.lst ys))) :
    ∃ W : Nat → Nat → List V → Hp → Prop, (∃ m, W 0 m [] H) ∧ ∀ i m ys H, W i m ys H → ((Itl K a).stop i H ∧ ys.length ≤ sizeLine ∧ ∀ p, H p = none → Q (.ref p) (upd H p (.lst ys))) ∨
      ((Itl K a).go i H ∧ ys.length < sizeLine ∧ ∃ N : V → Hp → Prop, (∀ y H2, N y H2 → ∃ m', m' < m ∧ W (i + 1) m' (ys ++ [y]) H2) ∧ ∀ v H', (Itl K a).yld i H v H' → te (blkS (some v) fr σ) H' N) := by
  refine ⟨fun i m ys H => m = xs.length - i ∧ i ≤ xs.length ∧ Pv i ys H, ⟨xs.length, by simp, Nat.zero_le _, h0⟩, ?_⟩
  rintro i m ys H ⟨rfl, hi, p⟩
  obtain ⟨q, hy⟩ := hl i ys H hi p
  by_cases hlt : i < xs.length
  · refine .inr ⟨⟨xs, xs[i], q, by simp [hlt]⟩, by omega, fun y H2 => Pv (i + 1) (ys ++ [y]) H2, fun y H2 p' => ⟨xs.length - (i + 1), by omega, rfl, hlt, p'⟩, fun x H' y => ?_⟩
    obtain ⟨rfl, y⟩ := y
    exact hs i x ys _ (y xs q) p
  · have e : i = xs.length := by omega
    subst e
    exact .inl ⟨⟨xs, q, Nat.le_refl _⟩, by omega, hd ys H p⟩
theorem lc_range {lo : Int} {n : Nat} (Pv : Nat → List V → Hp → Prop) (hz : n ≤ sizeLine) (h0 : Pv 0 [] H) (hl : ∀ i ys H, i ≤ n → Pv i ys H → ys.length = i)
    (hs : ∀ i ys H, i < n → Pv i ys H → te (blkS (some (.int (lo + i))) fr σ) H fun y H2 => Pv (i + 1) (ys ++ [y]) H2) (hd : ∀ ys H, Pv n ys H → ∀ p, H p = none → Q (.ref p) (upd H p (.lst ys))) :
    ∃ W : Nat → Nat → List V → Hp → Prop, (∃ m, W 0 m [] H) ∧ ∀ i m ys H, W i m ys H → ((Itr lo n).stop i H ∧ ys.length ≤ sizeLine ∧ ∀ p, H p = none → Q (.ref p) (upd H p (.lst ys))) ∨
      ((Itr lo n).go i H ∧ ys.length < sizeLine ∧ ∃ N : V → Hp → Prop, (∀ y H2, N y H2 → ∃ m', m' < m ∧ W (i + 1) m' (ys ++ [y]) H2) ∧ ∀ v H', (Itr lo n).yld i H v H' → te (blkS (some v) fr σ) H' N) := by
  refine ⟨fun i m ys H => m = n - i ∧ i ≤ n ∧ Pv i ys H, ⟨n, by simp, Nat.zero_le _, h0⟩, ?_⟩
  rintro i m ys H ⟨rfl, hi, p⟩
  have hy := hl i ys H hi p
  by_cases hlt : i < n
  · refine .inr ⟨hlt, by omega, fun y H2 => Pv (i + 1) (ys ++ [y]) H2, fun y H2 p' => ⟨n - (i + 1), by omega, rfl, hlt, p'⟩, fun x H' y => ?_⟩
    obtain ⟨rfl, rfl⟩ := y
    exact hs i ys _ hlt p
  · have e : i = n := by omega
    subst e
    exact .inl ⟨Nat.le_refl _, by omega, hd ys H p⟩
end
end Rg
set_option Elab.async false
set_option linter.all false
set_option maxRecDepth 100000
set_option maxHeartbeats 4000000
/-! == and != of two dicts with the same keys whose values are alike -/
namespace Rg
open PySem PySem.SeqAt
section
variable {P : Program} {w : World} {K : Type} [DecidableEq K] {knd : KeyKind P w K} {A : Around} {E : Value → Shared → Prop} {s : Shared} {a b : Addr} {ka kb : List (K × Value)}
/-- each pair of the one is found in the other -/
def Hits (P : Program) (w : World) (A : Around) (s : Shared) (kb : List (K × Value)) (l : List (K × Value)) : Prop := ∀ k v, (k, v) ∈ l → ∃ y, valueAt kb k = some y ∧ EqIn P w A s v y
theorem same_pairs {nm : String} {Q : Bool → Shared → Prop} (ha : (a == sysModules) = false) (hb : (b == sysModules) = false) (da : s.heap.DictOf knd a ka) (db : s.heap.DictOf knd b kb) (hlen : ka.length = kb.length) (hits : Hits P w A s kb ka) (h : Q true s) :
    wpAny (model P w) A (Builtin.Dict.samePairs nm a b) Q E s := by
  obtain ⟨oa, es, ep, hoa, _, hda, hka, hpa, _⟩ := da
  obtain ⟨ob, fs, ep2, hob, _, hdb, hkb, hpb, _⟩ := db
  have hla : ka.length = es.size := by
    rw [← hpa.length]
    exact Array.length_toList
  have hlb : kb.length = fs.size := by
    rw [← hpb.length]
    exact Array.length_toList
  have hsz : es.size = fs.size := by omega
  have hfind : ∀ k, findBy knd.is fs k = valueAt kb k := fun k => by
    rw [← hpb.find k]
    clear hlb hpb hkb hdb hob hsz
    obtain ⟨l⟩ := fs
    simp [findBy]
  unfold Builtin.Dict.samePairs Builtin.Dict.showsAll
  rw [if_neg (show ¬ (a == sysModules) = true by rw [ha]; decide), if_neg (show ¬ (b == sysModules) = true by rw [hb]; decide)]
  refine wpAny_bind (wpAny_pure ?_)
  refine wpAny_bind (wpAny_pure ?_)
  refine wpAny_bind (wpAny_dictEntries hoa hda ?_)
  dsimp only
  refine wpAny_bind (wpAny_dictEntries hob hdb ?_)
  rw [if_neg (by rw [hsz]; simp)]
  refine wpAny_bind (wpAny_dictEpoch hoa hda ?_)
  refine wpAny_bind ?_
  rw [Std.Legacy.Range.forIn_eq_forIn_range']
  simp only [Std.Legacy.Range.size, Nat.sub_zero, Nat.add_sub_cancel, Nat.div_one]
  refine wpAny_forIn_list _ (fun rest q t => t = s ∧ q = (none, ()) ∧ ∃ i, rest = List.range' i (es.size - i) ∧ i ≤ es.size) _ ?_ ?_ _ _ ⟨rfl, rfl, 0, by simp, Nat.zero_le _⟩
  · rintro x rest q t ⟨rfl, rfl, i, hr, hi⟩
    have hlt : i < es.size := by
      rcases Nat.lt_or_ge i es.size with z | z
      · exact z
      · rw [Nat.sub_eq_zero_of_le z] at hr; simp at hr
    obtain ⟨rfl, hrest⟩ : x = i ∧ rest = List.range' (i + 1) (es.size - (i + 1)) := by
      have e : es.size - i = (es.size - (i + 1)) + 1 := by omega
      rw [e, List.range'_succ] at hr
      injection hr with z1 z2
      exact ⟨z1, z2⟩
    refine wpAny_bind (wpAny_dictEntries hoa hda ?_)
    rw [Array.getElem?_eq_getElem hlt]
    have hlt' : x < ka.length := by rw [hla]; exact hlt
    obtain ⟨k, v, hkv⟩ : ∃ k v, ka[x] = (k, v) := ⟨_, _, rfl⟩
    obtain ⟨hkey, hval⟩ := hpa.get? (i := x) (e := es[x]) (k := k) (v := v) (by rw [Array.getElem?_toList, Array.getElem?_eq_getElem hlt]) (by rw [List.getElem?_eq_getElem hlt', hkv])
    obtain ⟨k', hk', hh⟩ := hka es[x] (Array.getElem_mem hlt)
    have ekk : k' = k := knd.inj _ _ _ hk' hkey
    rw [ekk] at hh
    obtain ⟨y, hy, he⟩ := hits k v (by rw [← hkv]; exact List.getElem_mem hlt')
    show wpAny _ _ (holding [es[x].key, es[x].val] _ >>= _) _ _ _
    rw [hh]
    refine wpAny_bind (wpAny_holding (wpAny_bind (wpAny_dictFind_of hkey hob hdb hkb ?_)))
    cases hj : fs.findIdx? fun e => knd.is k e.key with
    | none =>
      have hn : valueAt kb k = none := by rw [← hfind k, findBy_of_findIdx?, hj]
      rw [hn] at hy
      cases hy
    | some j =>
      obtain ⟨hjlt, _, _⟩ := Array.findIdx?_eq_some_iff_getElem.mp hj
      have hv' : valueAt kb k = some fs[j].val := by
        rw [← hfind k, findBy_of_findIdx?, hj]
        simp [Array.getElem?_eq_getElem hjlt]
      refine wpAny_bind (wpAny_dictEntries hob hdb ?_)
      rw [Array.getElem?_eq_getElem hjlt]
      have ey : fs[j].val = y := Option.some.inj (hv'.symm.trans hy)
      rw [← ey, ← hval] at he
      refine wpAny_holding (he _ _ ?_)
      show wpAny _ _ (if (!true) = true then _ else _) _ _ _
      rw [if_neg (by decide)]
      refine wpAny_bind (wpAny_dictEpoch hoa hda ?_)
      rw [if_neg (by simp)]
      exact wpAny_pure ⟨rfl, rfl, x + 1, hrest, hlt⟩
  · rintro q t ⟨rfl, rfl, i, hr, hi⟩
    exact wpAny_pure h
theorem rc_dicts {Q : Value → Shared → Prop} (ha : (a == sysModules) = false) (hb : (b == sysModules) = false) (da : s.heap.DictOf knd a ka) (db : s.heap.DictOf knd b kb) (hlen : ka.length = kb.length) (hu : A.units < cLine) (hits : Hits P w A.in1 s kb ka) (h : Q (.bool true) s) :
    wpAny (model P w) A (richCompare .Eq (.ref a) (.ref b)) Q E s := by
  refine wpAny_richCompare_same_room (op := .Eq) da.typeIs db.typeIs F.slot_dict_eq (wpAny_call_entry F.slot_dict_eq da.typeIs F.entry_dict_eq ?_ (F.args_dict_eq_2 _ _)) hu
  show wpAny _ _ (Builtin.Dict.dictSlotArgs "__eq__" ⟨[.ref a, .ref b], []⟩ >>= _) _ _ s
  refine wpAny_bind ?_
  unfold Builtin.Dict.dictSlotArgs
  refine wpAny_bind (wpAny_notOrdered_dict da.typeIs ?_)
  show wpAny _ _ (pure (Value.ref a, Value.ref b)) _ _ s
  refine wpAny_pure ?_
  refine wpAny_bind (wpAny_isInstance (T := "dict") db.typeIs F.sub_dict_dict ?_)
  simp only [Bool.not_true, Bool.false_eq_true, if_false]
  refine wpAny_bind (wpAny_pure ?_)
  refine wpAny_bind (wpAny_pure ?_)
  refine wpAny_bind (same_pairs ha hb da db hlen hits ?_)
  refine wpAny_pure ⟨_, rfl, ⟨(fun x => nomatch x), ?_⟩⟩
  simpa using h
end
end Rg
set_option Elab.async false
set_option linter.all false
set_option maxRecDepth 100000
set_option maxHeartbeats 4000000
/-! two things that are borne alike are alike by == -/
namespace Rg
open PySem PySem.SeqAt L2
theorem valueAt_cons {K : Type} [DecidableEq K] {k j : K} {v : Value} {r : List (K × Value)} : valueAt ((j, v) :: r) k = if j = k then some v else valueAt r k := by
  unfold valueAt
  by_cases h : j = k
  · simp [h]
  · simp [h]
section
variable {P : Program} {w : World} {H : Hp} {s : Shared} (hok : HOk P w H s.heap)
include hok
mutual
theorem rep_eq : ∀ (t : Th) {v v' : V} {u u' : Value} {A : Around}, Rep H t v → Rep H t v' → L2.RelV v u → L2.RelV v' u' → t.Ok → A.units + t.size < cLine → EqIn P w A s u u'
  | .num i, v, v', u, u', A, h, h', r, r', _, _ => by
    rw [(h : v = .int i)] at r
    rw [(h' : v' = .int i)] at r'
    obtain ⟨t1, rfl⟩ := r
    obtain ⟨t2, rfl⟩ := r'
    have z := EqAt.int_int (A := A) (s := s) i t1 i t2
    rw [beq_self_eq_true] at z
    exact EqIn.of z
  | .word x, v, v', u, u', A, h, h', r, r', _, _ => by
    rw [(h : v = .str x)] at r
    rw [(h' : v' = .str x)] at r'
    obtain ⟨t1, rfl⟩ := r
    obtain ⟨t2, rfl⟩ := r'
    have z := EqAt.str_str (A := A) (s := s) x t1 x t2
    rw [beq_self_eq_true] at z
    exact EqIn.of z
  | .row l, v, v', u, u', A, h, h', r, r', ok, hu => by
    obtain ⟨a, xs, rfl, h2, h3⟩ := (h : ∃ a xs, v = V.ref a ∧ H a = some (.lst xs) ∧ RepR H l xs)
    obtain ⟨b, ys, rfl, g2, g3⟩ := (h' : ∃ a xs, v' = V.ref a ∧ H a = some (.lst xs) ∧ RepR H l xs)
    cases r
    cases r'
    obtain ⟨_, its, n, rv, e1⟩ := hok a _ h2
    obtain ⟨_, jts, m, rw', e2⟩ := hok b _ g2
    have hu' : A.units + (l.size + 1) < cLine := hu
    have key := repR_eq (A := A.in1) l h3 g3 rv rw' ok.2 (by show A.units + 1 + l.size < cLine; omega)
    have hl : its.length = jts.length := by rw [← rv.length, ← rw'.length, h3.len, g3.len]
    refine EqIn.refs fun E Q q => rc_lists (items := its.toArray) (items2 := jts.toArray) ⟨_, e1, rfl, n, rfl⟩ ⟨_, e2, rfl, m, rfl⟩ (by simpa using hl) (by omega) (fun j h1 h2' => ?_) q
    simpa using key j (by simpa using h1) (by simpa using h2')
  | .dic l, v, v', u, u', A, h, h', r, r', ok, hu => by
    obtain ⟨a, kvs, rfl, h2, h3⟩ := (h : ∃ a xs, v = V.ref a ∧ H a = some (.dK xs) ∧ RepD H l xs)
    obtain ⟨b, kws, rfl, g2, g3⟩ := (h' : ∃ a xs, v' = V.ref a ∧ H a = some (.dK xs) ∧ RepD H l xs)
    cases r
    cases r'
    obtain ⟨_, sa, vs, rv, d1⟩ := dk_of hok h2
    obtain ⟨_, sb, ws, rw', d2⟩ := dk_of hok g2
    have hu' : A.units + (l.size + 1) < cLine := hu
    have key := repD_eq (A := A.in1) l h3 g3 rv rw' ok.2.1 ok.2.2 (by show A.units + 1 + l.size < cLine; omega)
    have hl : vs.length = ws.length := by rw [← rv.length, ← rw'.length, h3.len, g3.len]
    exact EqIn.refs fun E Q q => rc_dicts sa sb d1 d2 hl (by omega) key q
theorem repR_eq : ∀ (l : Ts) {xs ys : List V} {us ws : List Value} {A : Around}, RepR H l xs → RepR H l ys → Vals xs us → Vals ys ws → l.Ok → A.units + l.size < cLine → ∀ (j : Nat) (h1 : j < us.length) (h2 : j < ws.length), EqIn P w A s us[j] ws[j]
  | .nil, xs, ys, us, ws, A, h, h', r, r', _, _, j, h1, h2 => by
    rw [(h : xs = [])] at r
    cases r
    exact absurd h1 (Nat.not_lt_zero _)
  | .cons k t q, xs, ys, us, ws, A, h, h', r, r', ok, hu, j, h1, h2 => by
    obtain ⟨y, yr, rfl, a1, a2⟩ := (h : ∃ y ys, xs = y :: ys ∧ Rep H t y ∧ RepR H q ys)
    obtain ⟨z, zr, rfl, b1, b2⟩ := (h' : ∃ y ys', ys = y :: ys' ∧ Rep H t y ∧ RepR H q ys')
    cases r with
    | cons r rr =>
      cases r' with
      | cons r' rr' =>
        have hu' : A.units + (t.size + q.size) < cLine := hu
        cases j with
        | zero => exact rep_eq t a1 b1 r r' ok.2.1 (by omega)
        | succ j => exact repR_eq q a2 b2 rr rr' ok.2.2 (by omega) j (Nat.lt_of_succ_lt_succ h1) (Nat.lt_of_succ_lt_succ h2)
theorem repD_eq : ∀ (l : Ts) {xs ys : List (Key × V)} {us ws : List (Key × Value)} {A : Around}, RepD H l xs → RepD H l ys → KV xs us → KV ys ws → l.keys.Nodup → l.Ok → A.units + l.size < cLine → Hits P w A s ws us
  | .nil, xs, ys, us, ws, A, h, h', r, r', _, _, _, k, v, hm => by
    rw [(h : xs = [])] at r
    cases r
    exact absurd hm (by simp)
  | .cons k t q, xs, ys, us, ws, A, h, h', r, r', nd, ok, hu, k', v, hm => by
    obtain ⟨y, yr, rfl, a1, a2⟩ := (h : ∃ y ys, xs = (Sum.inr k, y) :: ys ∧ Rep H t y ∧ RepD H q ys)
    obtain ⟨z, zr, rfl, b1, b2⟩ := (h' : ∃ y ys', ys = (Sum.inr k, y) :: ys' ∧ Rep H t y ∧ RepD H q ys')
    have nd' : (k :: q.keys).Nodup := nd
    obtain ⟨n1, n2⟩ := List.nodup_cons.mp nd'
    have hk := L2.KV.keys r
    cases r with
    | @cons p1 p2 l1 l2 r rr =>
      cases r' with
      | @cons p3 p4 l3 l4 r' rr' =>
        obtain ⟨c1, c2⟩ := p2
        obtain ⟨d1, d2⟩ := p4
        have e1 : Sum.inr k = c1 := r.1
        have e2 : Sum.inr k = d1 := r'.1
        subst e1
        subst e2
        have hu' : A.units + (t.size + q.size) < cLine := hu
        rw [valueAt_cons]
        rcases List.mem_cons.mp hm with e | hm
        · cases e
          exact ⟨d2, by rw [if_pos rfl], rep_eq t a1 b1 r.2 r'.2 ok.2.1 (by omega)⟩
        · have hne : ¬ (Sum.inr k : Key) = k' := fun e => by
            have z1 : k' ∈ l2.map (·.1) := List.mem_map.mpr ⟨_, hm, rfl⟩
            have z2 : yr.map (·.1) = l2.map (·.1) := L2.KV.keys rr
            rw [← z2, a2.keys, ← e] at z1
            obtain ⟨k2, z3, z4⟩ := List.mem_map.mp z1
            cases z4
            exact n1 z3
          rw [if_neg hne]
          exact repD_eq q a2 b2 rr rr' n2 ok.2.2 (by omega) k' v hm
end
end
end Rg
set_option Elab.async false
set_option linter.all false
set_option maxRecDepth 100000
set_option maxHeartbeats 4000000
namespace Rg
open PySem L2
/-- the name of a thing's type -/
def Th.ty : Th → String
  | .num _ => "int"
  | .word _ => "str"
  | .row _ => "list"
  | .dic _ => "dict"
theorem Rep.ty {K : PySem.W.Frag} {H : Hp} : ∀ {t : Th} {v : V}, Rep H t v → TyOf K H v (.type t.ty)
  | .num i, v, h => by rw [(h : v = .int i)]; exact .int i
  | .word x, v, h => by rw [(h : v = .str x)]; exact .str x
  | .row l, v, h => by
    obtain ⟨a, xs, rfl, h2, _⟩ := (h : ∃ a xs, v = V.ref a ∧ H a = some (.lst xs) ∧ RepR H l xs)
    exact .lst h2
  | .dic l, v, h => by
    obtain ⟨a, xs, rfl, h2, _⟩ := (h : ∃ a xs, v = V.ref a ∧ H a = some (.dK xs) ∧ RepD H l xs)
    exact .dK h2
section
variable (K : PySem.W.Frag)
theorem kit_int_list : PySem.W.kitOne K (.type "int") (.type "list") = some false := by kernel_rfl
theorem kit_str_list : PySem.W.kitOne K (.type "str") (.type "list") = some false := by kernel_rfl
theorem kit_dict_list : PySem.W.kitOne K (.type "dict") (.type "list") = some false := by kernel_rfl
theorem kit_list_list : PySem.W.kitOne K (.type "list") (.type "list") = some true := by kernel_rfl
theorem kit_int_dict : PySem.W.kitOne K (.type "int") (.type "dict") = some false := by kernel_rfl
theorem kit_str_dict : PySem.W.kitOne K (.type "str") (.type "dict") = some false := by kernel_rfl
theorem kit_list_dict : PySem.W.kitOne K (.type "list") (.type "dict") = some false := by kernel_rfl
theorem kit_dict_dict : PySem.W.kitOne K (.type "dict") (.type "dict") = some true := by kernel_rfl
theorem kit_int_int : PySem.W.kitOne K (.type "int") (.type "int") = some true := by kernel_rfl
theorem kit_int_bool : PySem.W.kitOne K (.type "int") (.type "bool") = some false := by kernel_rfl
end
end Rg
namespace Rg
open PySem PySem.Spec PyProof.Rows L2
def isL : Th → Bool
  | .row _ => true
  | _ => false
def isD : Th → Bool
  | .dic _ => true
  | _ => false
theorem kit_list (K : PySem.W.Frag) : ∀ t : Th, PySem.W.kitOne K (.type t.ty) (.type "list") = some (isL t)
  | .num _ => kit_int_list K
  | .word _ => kit_str_list K
  | .row _ => kit_list_list K
  | .dic _ => kit_dict_list K
theorem kit_dict (K : PySem.W.Frag) : ∀ t : Th, PySem.W.kitOne K (.type t.ty) (.type "dict") = some (isD t)
  | .num _ => kit_int_dict K
  | .word _ => kit_str_dict K
  | .row _ => kit_list_dict K
  | .dic _ => kit_dict_dict K
def rIsi (K : PySem.W.Frag) : List V → Hp → VK → Prop := fun xs H Q => ∃ x n t b, xs = [x, .ty n] ∧ TyOf K H x t ∧ PySem.W.kitOne K t (.type n) = some b ∧ Q (.bl b) H
theorem call_isi {X : Cx} : CallR X (.builtin "isinstance") (rIsi X.K) := by
  intro pins s σ H xs us Q I r h
  obtain ⟨x, n, t, b, rfl, ty, e, q⟩ := h
  obtain ⟨u, w', rfl, ru, rw'⟩ := vals2 r
  cases rw'
  exact isinst_ok I ru ty e fun tk => ⟨.bl b, H, I.tok tk, rfl, q⟩
/-- what must be seen of a comprehension's scope, written out -/
structure LcSt (x : Str) (fr : List (Str × Nat)) (scope sc : Scope) (N : List Str) : Prop where
  nocell : ∀ y ∈ scope.names, y.2 ≠ .cell
  kind : scope.kind = .function
  nm : ∀ y ∈ scope.names, y.2 = .local → scope.names.lookup y.1 = some .local
  hx : scope.names.lookup x = some .local
  nd : (blkN x fr).Nodup
  free : ∀ y ∈ scope.names, y.2 = .free → sc.names.lookup y.1 = some .cell ∨ sc.names.lookup y.1 = some .free
  fr : ∀ p ∈ fr, N[p.2]? = some p.1 ∧ scope.names.lookup p.1 = some .free
theorem LcSt.ok {X : Cx} {x : Str} {fr : List (Str × Nat)} {scope sc : Scope} {N : List Str} (S : LcSt x fr scope sc N) (h1 : X.env.scope = sc) (h2 : X.N = N) : LcOk X x fr scope := by
  subst h1
  subst h2
  exact ⟨S.nocell, S.kind, S.nm, S.hx, S.nd, S.free, S.fr⟩
/-- tuples stay -/
def TupsStay (H H' : Hp) : Prop := ∀ p xs, H p = some (.tup xs) → H' p = some (.tup xs)
theorem tups_of {H H' : Hp} (e : Same H H') : TupsStay H H' := fun p xs h => e p _ h
theorem TupsStay.lst {H : Hp} {a : Addr} {xs : List V} {o : HO} (h : H a = some (.lst xs)) : TupsStay H (upd H a o) := fun p ys q => by
  rw [upd_ne (ne_of q h (fun z => by cases z))]
  exact q
theorem TupsStay.trans {H H1 H2 : Hp} (a : TupsStay H H1) (b : TupsStay H1 H2) : TupsStay H H2 := fun p xs h => b p xs (a p xs h)
/-- the things that the tuples of a list bear, one by one: the tuples stand in H, the things in H0 -/
abbrev PartsAre (H0 H : Hp) : List V → List Th → Prop := Paired fun v c => ∃ p k y, v = V.ref p ∧ H p = some (.tup [.str k, y]) ∧ Rep H0 c y
theorem PartsAre.mono {H0 H H' : Hp} (e : TupsStay H H') {vs : List V} {cs : List Th} (h : PartsAre H0 H vs cs) : PartsAre H0 H' vs cs := Paired.mapP h fun _ _ ⟨p, k, y, h1, h2, h3⟩ => ⟨p, k, y, h1, e _ _ h2, h3⟩
theorem PartsAre.app {H0 H : Hp} : ∀ {vs ws : List V} {cs ds : List Th}, PartsAre H0 H vs cs → PartsAre H0 H ws ds → PartsAre H0 H (vs ++ ws) (cs ++ ds)
  | _, _, _, _, .nil, h => h
  | _, _, _, _, .cons r t, h => .cons r (PartsAre.app t h)
theorem PartsAre.rev {H0 H : Hp} {vs : List V} {cs : List Th} (h : PartsAre H0 H vs cs) : PartsAre H0 H vs.reverse cs.reverse := by
  induction h with
  | nil => exact .nil
  | cons r _ ih =>
    rw [List.reverse_cons, List.reverse_cons]
    exact PartsAre.app ih (.cons r .nil)
theorem PartsAre.len {H0 H : Hp} {vs : List V} {cs : List Th} (h : PartsAre H0 H vs cs) : vs.length = cs.length := Paired.length h
/-- the last of them -/
theorem paired_last {α β : Type} {F : α → β → Prop} : ∀ {xs : List α} {ys : List β}, Paired F xs ys → xs ≠ [] → ∃ xr x yr y, xs = xr ++ [x] ∧ ys = yr ++ [y] ∧ Paired F xr yr ∧ F x y
  | _, _, .nil, h => absurd rfl h
  | _, _, .cons (a := a) (b := b) r .nil, _ => ⟨[], a, [], b, rfl, rfl, .nil, r⟩
  | _, _, .cons (a := a) (b := b) r (.cons r2 t), _ => by
    obtain ⟨xr, x, yr, y, h1, h2, h3, h4⟩ := paired_last (.cons r2 t) (by simp)
    exact ⟨a :: xr, x, b :: yr, y, by rw [h1]; rfl, by rw [h2]; rfl, .cons r h3, h4⟩
end Rg
set_option Elab.async false
set_option linter.all false
set_option maxRecDepth 100000
set_option maxHeartbeats 4000000
/-! how a tracked heap bears the keys; == and < of lists of them -/
namespace Rg
open PySem PySem.SeqAt L2
def WkRep (H : Hp) (f : Str) (v : V) : Prop := ∃ p, v = .ref p ∧ H p = some (.tup (keyV f))
def OwnV (H : Hp) : Own → List V → Prop
  | .num i, xs => xs = [.int 0, .int (i.natAbs : Nat), .int (neg i)]
  | .word x, xs => ∃ w, xs = [.int 1, w] ∧ WkRep H x w
  | .row, xs => xs = [.int 2]
  | .dic, xs => xs = [.int 3]
def KtRep (H : Hp) (k : Kt) (v : V) : Prop := ∃ p w xs, v = .ref p ∧ H p = some (.tup (w :: .int (k.n : Nat) :: xs)) ∧ WkRep H k.f w ∧ OwnV H k.own xs
abbrev KtsRep (H : Hp) : List V → List Kt → Prop := Paired fun v k => KtRep H k v
theorem WkRep.mono {H H' : Hp} (e : TupsStay H H') {f : Str} {v : V} (h : WkRep H f v) : WkRep H' f v := by
  obtain ⟨p, h1, h2⟩ := h
  exact ⟨p, h1, e _ _ h2⟩
theorem OwnV.mono {H H' : Hp} (e : TupsStay H H') {o : Own} {xs : List V} (h : OwnV H o xs) : OwnV H' o xs := by
  cases o with
  | word x => obtain ⟨w, h1, h2⟩ := h; exact ⟨w, h1, h2.mono e⟩
  | num i => exact h
  | row => exact h
  | dic => exact h
theorem KtRep.mono {H H' : Hp} (e : TupsStay H H') {k : Kt} {v : V} (h : KtRep H k v) : KtRep H' k v := by
  obtain ⟨p, w, xs, h1, h2, h3, h4⟩ := h
  exact ⟨p, w, xs, h1, e _ _ h2, h3.mono e, h4.mono e⟩
theorem WkRep.inj {H : Hp} {f g : Str} {v : V} (h : WkRep H f v) (h' : WkRep H g v) : f = g := by
  obtain ⟨p, h1, h2⟩ := h
  obtain ⟨q, g1, g2⟩ := h'
  rw [h1] at g1; cases g1; rw [h2] at g2
  injection g2 with g2
  injection g2 with g2
  injection g2 with _ g2
  injection g2 with g2 _
  injection g2 with g2
theorem vals_cons {x : V} {xs : List V} {us : List Value} (h : Vals (x :: xs) us) : ∃ u ur, us = u :: ur ∧ L2.RelV x u ∧ Vals xs ur := by
  cases h with
  | cons r rr => exact ⟨_, _, rfl, r, rr⟩
theorem neg_inj {i j : Int} (h1 : (i.natAbs : Int) = j.natAbs) (h2 : neg i = neg j) : i = j := by
  unfold neg at h2
  by_cases a : i < 0 <;> by_cases b : j < 0
  · omega
  · rw [if_pos a, if_neg b] at h2; cases h2
  · rw [if_neg a, if_pos b] at h2; cases h2
  · omega
theorem OwnV.inj {H : Hp} {o o' : Own} {xs : List V} (h : OwnV H o xs) (h' : OwnV H o' xs) : o = o' := by
  cases o with
  | num i =>
    rw [(show xs = [.int 0, .int (i.natAbs : Nat), .int (neg i)] from h)] at h'
    cases o' with
    | num j =>
      have z : [V.int 0, .int (i.natAbs : Nat), .int (neg i)] = [.int 0, .int (j.natAbs : Nat), .int (neg j)] := h'
      injection z with _ z
      injection z with z1 z
      injection z with z2 _
      injection z1 with z1
      injection z2 with z2
      rw [neg_inj z1 z2]
    | word x => obtain ⟨w, z, _⟩ := h'; cases z
    | row => cases (show [V.int 0, .int (i.natAbs : Nat), .int (neg i)] = [.int 2] from h')
    | dic => cases (show [V.int 0, .int (i.natAbs : Nat), .int (neg i)] = [.int 3] from h')
  | word x =>
    obtain ⟨w, rfl, hw⟩ := h
    cases o' with
    | num j => cases (show [V.int 1, w] = [.int 0, .int (j.natAbs : Nat), .int (neg j)] from h')
    | word y =>
      obtain ⟨w', z, hw'⟩ := h'
      injection z with _ z
      injection z with z _
      rw [← z] at hw'
      rw [hw.inj hw']
    | row => cases (show [V.int 1, w] = [.int 2] from h')
    | dic => cases (show [V.int 1, w] = [.int 3] from h')
  | row =>
    rw [(show xs = [.int 2] from h)] at h'
    cases o' with
    | num j => cases (show [V.int 2] = [.int 0, .int (j.natAbs : Nat), .int (neg j)] from h')
    | word y => obtain ⟨w, z, _⟩ := h'; cases z
    | row => rfl
    | dic => cases (show [V.int 2] = [.int 3] from h')
  | dic =>
    rw [(show xs = [.int 3] from h)] at h'
    cases o' with
    | num j => cases (show [V.int 3] = [.int 0, .int (j.natAbs : Nat), .int (neg j)] from h')
    | word y => obtain ⟨w, z, _⟩ := h'; cases z
    | row => cases (show [V.int 3] = [.int 2] from h')
    | dic => rfl
theorem KtRep.inj {H : Hp} {k k' : Kt} {v : V} (h : KtRep H k v) (h' : KtRep H k' v) : k.cmp k' = .eq := by
  obtain ⟨p, w, xs, h1, h2, h3, h4⟩ := h
  obtain ⟨q, w', ys, g1, g2, g3, g4⟩ := h'
  rw [h1] at g1; cases g1
  rw [h2] at g2
  injection g2 with g2
  injection g2 with g2
  injection g2 with e1 g2
  injection g2 with e2 e3
  injection e2 with e2
  rw [← e1] at g3
  rw [← e3] at g4
  unfold Kt.cmp
  rw [h3.inj g3, h4.inj g4, e2, cmpW_refl, cmpI_refl, own_refl]
  rfl
section
variable {P : Program} {w : World} {H : Hp} {s : Shared} {A : Around} (hok : HOk P w H s.heap)
include hok
theorem wk_elc {f g : Str} {v v' : V} {u u' : Value} (h : WkRep H f v) (h' : WkRep H g v') (r : L2.RelV v u) (r' : L2.RelV v' u') (hu : A.units + 1 < cLine) : ElC A s u u' (cmpW f g) := by
  obtain ⟨p, rfl, hp⟩ := h
  obtain ⟨q, rfl, hq⟩ := h'
  cases r
  cases r'
  obtain ⟨_, us, ru, t1⟩ := hok p _ hp
  obtain ⟨_, ws, rw', t2⟩ := hok q _ hq
  obtain ⟨u1, u2, rfl, ⟨k1, rfl⟩, ⟨k2, rfl⟩⟩ := Vals.two ru
  obtain ⟨w1, w2, rfl, ⟨k3, rfl⟩, ⟨k4, rfl⟩⟩ := Vals.two rw'
  refine ElC.tup t1 t2 (by omega) ?_ (fun e => ?_)
  · have z : SeqC A.in1 s [Value.int (f.length : Nat) k1, .str f k2] [.int (g.length : Nat) k3, .str g k4] ((cmpI f.length g.length).then ((cmpS f g).then .eq)) :=
      SeqC.cons (ElC.int _ _ _ _) fun _ => SeqC.cons (ElC.str _ _ _ _) fun _ => SeqC.nil
    have e : (cmpI f.length g.length).then ((cmpS f g).then .eq) = cmpW f g := by
      unfold cmpW
      cases cmpI (f.length : Int) g.length <;> first | rfl | (cases cmpS f g <;> rfl)
    rw [e] at z
    exact z
  · subst e
    rw [hp] at hq
    injection hq with hq
    injection hq with hq
    injection hq with _ hq
    injection hq with hq _
    injection hq with hq
    rw [hq, cmpW_refl]
theorem own_seqc {o o' : Own} {xs ys : List V} {us ws : List Value} (h : OwnV H o xs) (h' : OwnV H o' ys) (r : Vals xs us) (r' : Vals ys ws) (hu : A.units + 1 < cLine) : SeqC A s us ws (o.cmp o') := by
  have ne : ∀ {i j : Int} {t t' : Tok} {us ws : List Value}, (cmpI i j ≠ .eq) → SeqC A s (Value.int i t :: us) (.int j t' :: ws) (cmpI i j) := fun {i j t t' us ws} hn => by
    have z : SeqC A s (Value.int i t :: us) (.int j t' :: ws) ((cmpI i j).then .eq) := SeqC.cons (ElC.int _ _ _ _) fun e => absurd e hn
    have e : (cmpI i j).then .eq = cmpI i j := by cases cmpI i j <;> rfl
    rw [e] at z
    exact z
  have same : ∀ {i : Int} {t t' : Tok} {us ws : List Value} {d : Ordering}, SeqC A s us ws d → SeqC A s (Value.int i t :: us) (.int i t' :: ws) d := fun {i t t' us ws d} h => by
    have z : SeqC A s (Value.int i t :: us) (.int i t' :: ws) ((cmpI i i).then d) := SeqC.cons (ElC.int _ _ _ _) fun _ => h
    rw [cmpI_refl] at z
    exact z
  cases o with
  | num i =>
    rw [(show xs = [.int 0, .int (i.natAbs : Nat), .int (neg i)] from h)] at r
    obtain ⟨u1, ur, rfl, ⟨t1, rfl⟩, rr⟩ := vals_cons r
    cases o' with
    | num j =>
      rw [(show ys = [.int 0, .int (j.natAbs : Nat), .int (neg j)] from h')] at r'
      obtain ⟨w1, wr, rfl, ⟨t2, rfl⟩, rr'⟩ := vals_cons r'
      obtain ⟨u2, u3, rfl, ⟨k1, rfl⟩, ⟨k2, rfl⟩⟩ := Vals.two rr
      obtain ⟨w2, w3, rfl, ⟨k3, rfl⟩, ⟨k4, rfl⟩⟩ := Vals.two rr'
      refine same ?_
      have z : SeqC A s [Value.int (i.natAbs : Nat) k1, .int (neg i) k2] [.int (j.natAbs : Nat) k3, .int (neg j) k4] ((cmpI i.natAbs j.natAbs).then ((cmpI (neg i) (neg j)).then .eq)) :=
        SeqC.cons (ElC.int _ _ _ _) fun _ => SeqC.cons (ElC.int _ _ _ _) fun _ => SeqC.nil
      have e : (cmpI i.natAbs j.natAbs).then ((cmpI (neg i) (neg j)).then .eq) = (Own.num i).in1 (.num j) := by
        show _ = (cmpI i.natAbs j.natAbs).then (cmpI (neg i) (neg j))
        cases cmpI (i.natAbs : Int) j.natAbs <;> first | rfl | (cases cmpI (neg i) (neg j) <;> rfl)
      rw [e] at z
      exact z
    | word y => obtain ⟨w, rfl, _⟩ := h'; obtain ⟨w1, wr, rfl, ⟨t2, rfl⟩, rr'⟩ := vals_cons r'; exact ne (by decide)
    | row => rw [(show ys = [.int 2] from h')] at r'; obtain ⟨w1, wr, rfl, ⟨t2, rfl⟩, rr'⟩ := vals_cons r'; exact ne (by decide)
    | dic => rw [(show ys = [.int 3] from h')] at r'; obtain ⟨w1, wr, rfl, ⟨t2, rfl⟩, rr'⟩ := vals_cons r'; exact ne (by decide)
  | word x =>
    obtain ⟨wx, rfl, hw⟩ := h
    obtain ⟨u1, ur, rfl, ⟨t1, rfl⟩, rr⟩ := vals_cons r
    cases o' with
    | num j => rw [(show ys = [.int 0, .int (j.natAbs : Nat), .int (neg j)] from h')] at r'; obtain ⟨w1, wr, rfl, ⟨t2, rfl⟩, rr'⟩ := vals_cons r'; exact ne (by decide)
    | word y =>
      obtain ⟨wy, rfl, hw'⟩ := h'
      obtain ⟨w1, wr, rfl, ⟨t2, rfl⟩, rr'⟩ := vals_cons r'
      obtain ⟨u2, rfl, k1⟩ := vals1 rr
      obtain ⟨w2, rfl, k2⟩ := vals1 rr'
      refine same ?_
      have z : SeqC A s [u2] [w2] ((cmpW x y).then .eq) := SeqC.cons (wk_elc hok hw hw' k1 k2 hu) fun _ => SeqC.nil
      have e : (cmpW x y).then .eq = (Own.word x).in1 (.word y) := by
        show _ = cmpW x y
        cases cmpW x y <;> rfl
      rw [e] at z
      exact z
    | row => rw [(show ys = [.int 2] from h')] at r'; obtain ⟨w1, wr, rfl, ⟨t2, rfl⟩, rr'⟩ := vals_cons r'; exact ne (by decide)
    | dic => rw [(show ys = [.int 3] from h')] at r'; obtain ⟨w1, wr, rfl, ⟨t2, rfl⟩, rr'⟩ := vals_cons r'; exact ne (by decide)
  | row =>
    rw [(show xs = [.int 2] from h)] at r
    obtain ⟨u1, rfl, ⟨t1, rfl⟩⟩ := vals1 r
    cases o' with
    | num j => rw [(show ys = [.int 0, .int (j.natAbs : Nat), .int (neg j)] from h')] at r'; obtain ⟨w1, wr, rfl, ⟨t2, rfl⟩, rr'⟩ := vals_cons r'; exact ne (by decide)
    | word y => obtain ⟨w, rfl, _⟩ := h'; obtain ⟨w1, wr, rfl, ⟨t2, rfl⟩, rr'⟩ := vals_cons r'; exact ne (by decide)
    | row => rw [(show ys = [.int 2] from h')] at r'; obtain ⟨w1, rfl, ⟨t2, rfl⟩⟩ := vals1 r'; exact same SeqC.nil
    | dic => rw [(show ys = [.int 3] from h')] at r'; obtain ⟨w1, wr, rfl, ⟨t2, rfl⟩, rr'⟩ := vals_cons r'; exact ne (by decide)
  | dic =>
    rw [(show xs = [.int 3] from h)] at r
    obtain ⟨u1, rfl, ⟨t1, rfl⟩⟩ := vals1 r
    cases o' with
    | num j => rw [(show ys = [.int 0, .int (j.natAbs : Nat), .int (neg j)] from h')] at r'; obtain ⟨w1, wr, rfl, ⟨t2, rfl⟩, rr'⟩ := vals_cons r'; exact ne (by decide)
    | word y => obtain ⟨w, rfl, _⟩ := h'; obtain ⟨w1, wr, rfl, ⟨t2, rfl⟩, rr'⟩ := vals_cons r'; exact ne (by decide)
    | row => rw [(show ys = [.int 2] from h')] at r'; obtain ⟨w1, wr, rfl, ⟨t2, rfl⟩, rr'⟩ := vals_cons r'; exact ne (by decide)
    | dic => rw [(show ys = [.int 3] from h')] at r'; obtain ⟨w1, rfl, ⟨t2, rfl⟩⟩ := vals1 r'; exact same SeqC.nil
theorem kt_elc {k k' : Kt} {v v' : V} {u u' : Value} (h : KtRep H k v) (h' : KtRep H k' v') (r : L2.RelV v u) (r' : L2.RelV v' u') (hu : A.units + 2 < cLine) : ElC A s u u' (k.cmp k') := by
  have inj : v = v' → k.cmp k' = .eq := fun e => by rw [← e] at h'; exact h.inj h'
  obtain ⟨p, wv, xs, rfl, hp, hw, ho⟩ := h
  obtain ⟨q, wv', ys, rfl, hq, hw', ho'⟩ := h'
  cases r
  cases r'
  obtain ⟨_, us, ru, t1⟩ := hok p _ hp
  obtain ⟨_, ws, rw', t2⟩ := hok q _ hq
  obtain ⟨u1, ur, rfl, k1, rr⟩ := vals_cons ru
  obtain ⟨u2, ur, rfl, ⟨k2, rfl⟩, rs⟩ := vals_cons rr
  obtain ⟨w1, wr, rfl, k3, rr'⟩ := vals_cons rw'
  obtain ⟨w2, wr, rfl, ⟨k4, rfl⟩, rs'⟩ := vals_cons rr'
  refine ElC.tup t1 t2 (by omega) ?_ (fun e => inj (by rw [e]))
  have hA : A.in1.units = A.units + 1 := rfl
  exact SeqC.cons (wk_elc hok hw hw' k1 k3 (by omega)) fun _ => SeqC.cons (ElC.int _ _ _ _) fun _ => own_seqc hok ho ho' rs rs' (by omega)
theorem kts_seqc : ∀ {ks ks' : List Kt} {xs ys : List V} {us ws : List Value}, KtsRep H xs ks → KtsRep H ys ks' → Vals xs us → Vals ys ws → A.units + 2 < cLine → SeqC A s us ws (cmpL ks ks')
  | _, _, _, _, _, _, .nil, .nil, .nil, .nil, _ => SeqC.nil
  | _, _, _, _, _, _, .nil, .cons _ _, .nil, .cons _ _, _ => SeqC.less
  | _, _, _, _, _, _, .cons _ _, .nil, .cons _ _, .nil, _ => SeqC.more
  | _, _, _, _, _, _, .cons a t, .cons b t', .cons r rr, .cons r' rr', hu => SeqC.cons (kt_elc hok a b r r' hu) fun _ => kts_seqc t t' rr rr' hu
end
/-- == and < of two lists of keys -/
def rKt (f : Ordering → Bool) : V → V → Hp → VK → Prop := fun x y H Q => ∃ a b xs ys ks ks', x = .ref a ∧ y = .ref b ∧ H a = some (.lst xs) ∧ H b = some (.lst ys) ∧ KtsRep H xs ks ∧ KtsRep H ys ks' ∧ Q (.bl (f (cmpL ks ks'))) H
section
variable {X : Cx} {k : Nat}
theorem op_eqK (hr : Room k X.A) : OpR X (compareOp .Eq) (rKt (· == .eq)) := by
  intro pins s σ H x y v u Q I rx ry h
  obtain ⟨a, b, xs, ys, ks, ks', rfl, rfl, ha, hb, r1, r2, q⟩ := h
  have hu : X.A.units + 200 < cLine := by have z := hr.un; omega
  cases rx
  cases ry
  obtain ⟨_, its, n, rv, e1⟩ := I.hok a _ ha
  obtain ⟨_, jts, m, rw', e2⟩ := I.hok b _ hb
  have hA : X.A.in1.units = X.A.units + 1 := rfl
  exact rcEq_list ⟨_, e1, rfl, n, rfl⟩ ⟨_, e2, rfl, m, rfl⟩ (by omega) (kts_seqc I.hok r1 r2 rv rw' (by omega)) _ _ _ _ ⟨.bl _, H, I, rfl, q⟩
theorem op_ltK (hr : Room k X.A) : OpR X (compareOp .Lt) (rKt (· == .lt)) := by
  intro pins s σ H x y v u Q I rx ry h
  obtain ⟨a, b, xs, ys, ks, ks', rfl, rfl, ha, hb, r1, r2, q⟩ := h
  have hu : X.A.units + 200 < cLine := by have z := hr.un; omega
  cases rx
  cases ry
  obtain ⟨_, its, n, rv, e1⟩ := I.hok a _ ha
  obtain ⟨_, jts, m, rw', e2⟩ := I.hok b _ hb
  have hA : X.A.in1.units = X.A.units + 1 := rfl
  exact rcLt_list ⟨_, e1, rfl, n, rfl⟩ ⟨_, e2, rfl, m, rfl⟩ (by omega) (kts_seqc I.hok r1 r2 rv rw' (by omega)) _ _ _ _ ⟨.bl _, H, I, rfl, q⟩
end
end Rg
set_option Elab.async false
set_option linter.all false
set_option maxRecDepth 100000
set_option maxHeartbeats 4000000
/-! A list comprehension over pairs: [e for x, y in ..] -/
namespace Rg
open PySem PySem.W PySem.Spec PyProof.Rows L2
/-- the block's names: the loop's two, then those of the def that it closes over (with their slots there) -/
def blkN2 (x y : Str) (fr : List (Str × Nat)) : List Str := x :: y :: fr.map (·.1)
def blkS2 (v u : Option V) (fr : List (Str × Nat)) (σ : L2.St) : L2.St := v :: u :: fr.map fun p => (σ[p.2]?).getD none
def blk2 (X : Cx) (x y : Str) (fr : List (Str × Nat)) (scope : Scope) (fp : List Addr) (C : Addr) (s : Shared) (H : Hp) : Cx where
  prog := X.prog
  w := X.w
  K := X.K
  mg := X.mg
  base := X.base
  A := X.A
  N := blkN2 x y fr
  s₀ := s
  H₀ := H
  env := compEnvC scope (clOf X.env.cells scope.names) C X.env
  outer := X.stack
  stack := X.stack
  ex := fp
  fn := fun _ => false
  calm := X.calm
  pn := []
  xe := fun _ _ => False
/-- what must be seen of the text -/
structure LcOk2 (X : Cx) (x y : Str) (fr : List (Str × Nat)) (scope : Scope) : Prop where
  nocell : ∀ z ∈ scope.names, z.2 ≠ .cell
  kind : scope.kind = .function
  nm : ∀ z ∈ scope.names, z.2 = .local → scope.names.lookup z.1 = some .local
  hx : scope.names.lookup x = some .local
  hy : scope.names.lookup y = some .local
  nd : (blkN2 x y fr).Nodup
  free : ∀ z ∈ scope.names, z.2 = .free → X.env.scope.names.lookup z.1 = some .cell ∨ X.env.scope.names.lookup z.1 = some .free
  fr : ∀ p ∈ fr, X.N[p.2]? = some p.1 ∧ scope.names.lookup p.1 = some .free
def tLc2 (K : PySem.W.Frag) (fr : List (Str × Nat)) (wi : TI) (te : TE) : TE := fun σ H Q => wi σ H fun J H1 => ∃ W : Nat → Nat → List V → Hp → Prop, (∃ m, W 0 m [] H1) ∧ ∀ i m ys H, W i m ys H →
  (J.stop i H ∧ ys.length ≤ sizeLine ∧ ∀ p, H p = none → Q (.ref p) (upd H p (.lst ys))) ∨
  (J.go i H ∧ ys.length < sizeLine ∧ ∃ N : V → Hp → Prop, (∀ y H2, N y H2 → ∃ m', m' < m ∧ W (i + 1) m' (ys ++ [y]) H2) ∧ ∀ v H', J.yld i H v H' → ∃ a v1 v2, v = .ref a ∧ SqT K H' a [v1, v2] ∧ te (blkS2 (some v1) (some v2) fr σ) H' N)
section
variable {X : Cx} {elt iter : Expr} {x x2 : Str} {px py pt pos : Pos} {kt : Nat} {scope : Scope} {fr : List (Str × Nat)} {wi : TI} {te : TE}
theorem pe_lc2 (hc : X.calm = true) (hi : PI X (.Tuple [.Name x px, .Name x2 py] kt pt) iter wi) (S : LcOk2 X x x2 fr scope) (he : ∀ fp C s H, PE (blk2 X x x2 fr scope fp C s H) elt te)
    (hs : ∀ v, foldedSetIterable iter X.env v = pure v := by intro _; rfl) : PE X (.ListComp elt [⟨.Tuple [.Name x px, .Name x2 py] kt pt, iter, [], 0⟩] scope pos) (tLc2 X.K fr wi te) := by
  intro pins s σ H Q I h
  have hcell : ∀ p ∈ scope.names, p.2 = .free → ∃ c, X.env.cells.lookup p.1 = some c := fun p hp hk => I.ok.has p.1 (S.free p hp hk)
  have hsub : ∀ y c, (clOf X.env.cells scope.names).lookup y = some c → X.env.cells.lookup y = some c := cl_sub scope.names [] hcell (fun y c z => by simp at z)
  rw [eval_ListComp]
  refine wpAny_comprehension_free (use := none) rfl hs (clos_is hcell) S.kind S.nm ?_
  refine thn (hi pins s σ H _ I h) fun v s1 h1 => thn h1 fun itv s2 h2 => ?_
  obtain ⟨it, fp, tn, J, H2, e, I2, T, st2, f2, W, ⟨m0, w0⟩, turn⟩ := h2
  subst e
  refine wpAny_newObj_type (wpAny_newFunctionEnv S.nocell (by intro y hy; simp at hy) (fun h₁ hns₁ hsb₁ => ?_) S.kind)
  dsimp only at hns₁ hsb₁ ⊢
  generalize hP : s2.heap.push { cls := .type "list", dict := none, data := .seq ([] : List Value).toArray } = P at hns₁ hsb₁ ⊢
  have hC : P.objs.size = s2.heap.objs.size + 1 := by rw [← hP, Heap.size_push]
  have hDC : s2.heap.objs.size ≠ P.objs.size := by rw [hC]; exact Nat.ne_of_lt (Nat.lt_succ_self _)
  have hCle : s2.heap.objs.size ≤ P.objs.size := by rw [hC]; exact Nat.le_succ _
  have lt2 : ∀ b, b < s2.heap.objs.size → b ≠ P.objs.size ∧ b ≠ s2.heap.objs.size := fun b hb => ⟨by rw [hC]; exact Nat.ne_of_lt (Nat.lt_succ_of_lt hb), Nat.ne_of_lt hb⟩
  have old : ∀ b o, s2.heap.get? b = some o → h₁.get? b = some o := fun b o q =>
    (hsb₁.2 b (lt2 b (Heap.lt_size q)).1).trans (Heap.get?_push_of_some _ (by rw [← hP]; exact Heap.get?_push_of_some _ q))
  have hacc : h₁.get? s2.heap.objs.size = some { cls := .type "list", data := .seq ([] : List Value).toArray } :=
    (hsb₁.2 _ hDC).trans (Heap.get?_push_of_some _ (by rw [← hP]; exact Heap.get?_push_size _ rfl))
  have hD2 : H2 s2.heap.objs.size = none := I2.hok.fresh (Nat.le_refl _)
  have hC2 : H2 P.objs.size = none := I2.hok.fresh hCle
  have hfplt : ∀ b ∈ fp, b < s2.heap.objs.size := fun b hb => by
    obtain ⟨o, q, _⟩ := T.obj 0 _ st2 b hb
    exact Heap.lt_size q
  have hstk : ∀ b ∈ frs X.stack, b < s2.heap.objs.size := fun b hb => by
    obtain ⟨_, o, q, _⟩ := I2.stack.mem hb
    exact Heap.lt_size q
  have okY : (blk2 X x x2 fr scope fp P.objs.size s2 H2).Ok := by
    refine ⟨I2.ok.mod, ?_, I2.ok.glob, I2.ok.blt, hCle, ?_, ?_, ?_, I2.ok.hd, I2.ok.frames, .inl rfl, ?_, I2.bs, Nat.le_trans I2.ok.bsz I2.sz, ?_, ?_, I2.stack, I2.stkFree⟩
    · exact S.kind
    · exact fun y z c h1 h2 => I2.ok.inj y z c (hsub y c h1) (hsub z c h2)
    · intro y hy
      have hf : scope.names.lookup y = some .free := free_relabel S.nocell hy
      exact Option.isSome_iff_exists.mp (cl_has (cells := X.env.cells) (y := y) scope.names [] (.inl (PySem.mem_of_lookup hf)))
    · intro y c hf
      exact absurd (show false = true from hf) (by decide)
    · intro b hb
      obtain ⟨_, _, _, _, f4, _⟩ := f2 b hb
      exact ⟨(lt2 b (hfplt b hb)).1, fun y c q => f4 y c (hsub y c q)⟩
    · intro b o q hb
      obtain ⟨_, _, _, f3, _, _⟩ := f2 b hb
      rcases f3 with z | z
      · exact I2.ok.noex b o q z
      · exact absurd (Nat.lt_of_lt_of_le (Heap.lt_size q) (Nat.le_trans I2.ok.bsz z)) (Nat.lt_irrefl _)
    · intro b hb hz
      obtain ⟨_, f1, f2', _⟩ := f2 b hb
      rcases List.mem_cons.mp (I2.stkSub b hz) with z | z
      · exact f1 z
      · exact f2' z
  -- the start
  let own (us : List Value) (k : Nat) : Addr × Obj := (s2.heap.objs.size, { cls := .type "list", data := .seq us.toArray k })
  have pinD : ∀ (us : List Value) (k : Nat) (t : Shared) (H' : Hp), t.heap.get? s2.heap.objs.size = some { cls := .type "list", data := .seq us.toArray k } → H' s2.heap.objs.size = none →
      t.heap.get? (own us k).1 = some (own us k).2 ∧ H' (own us k).1 = none ∧ (own us k).1 ≠ (blk2 X x x2 fr scope fp P.objs.size s2 H2).env.locals ∧ (own us k).1 ∉ (blk2 X x x2 fr scope fp P.objs.size s2 H2).fs ∧ ∀ v, (own us k).2.data ≠ .cell v :=
    fun us k t H' q n => ⟨q, n, hDC, fun z => absurd (hstk _ z) (Nat.lt_irrefl _), fun v z => nomatch z⟩
  have I4 : Inv (blk2 X x x2 fr scope fp P.objs.size s2 H2) [own [] 0] (blkS2 none none fr σ) H2 { s2 with heap := h₁, toks := s2.toks + ([] : List (Str × Value)).length } := by
    refine ⟨okY, rfl, I2.bare, Un.kept old, ⟨_, hns₁, fun i y v q1 q2 q3 => ?_⟩, fun y c q => ?_, hC2, fun y c q => I2.freeC y c (hsub y c q), fun p hp => ?_, I2.hok.kept old, ?_⟩
    · match i, q1, q2 with
      | 0, q1, q2 => exact absurd q2 (by show ¬ (some (none : Option V) = some (some v)); simp)
      | 1, q1, q2 => exact absurd q2 (by show ¬ (some (none : Option V) = some (some v)); simp)
      | j + 2, q1, q2 =>
        have q1' : (fr.map (·.1))[j]? = some y := q1
        have q2' : (fr.map fun p => (σ[p.2]?).getD none)[j]? = some (some v) := q2
        rw [List.getElem?_map] at q1' q2'
        cases ef : fr[j]? with
        | none => rw [ef] at q1'; cases q1'
        | some p =>
          rw [ef] at q1' q2'
          have e1 : p.1 = y := Option.some.inj q1'
          have e2 : (σ[p.2]?).getD none = some v := Option.some.inj q2'
          obtain ⟨n1, n2⟩ := S.fr p (List.mem_of_getElem? ef)
          rw [e1] at n1 n2
          have e3 : σ[p.2]? = some (some v) := by
            cases ez : σ[p.2]? with
            | none => rw [ez] at e2; cases e2
            | some z => rw [ez] at e2; exact congrArg some e2
          have kX := S.free _ (PySem.mem_of_lookup n2) rfl
          obtain ⟨m, hm, hl⟩ := I2.loc
          obtain ⟨u, ru, lk⟩ := hl p.2 y v n1 e3 (.inr kX)
          refine ⟨u, ru, .inr ⟨relabel_free n2, ?_⟩⟩
          rcases lk with ⟨k1, _⟩ | ⟨_, c, q, ic⟩
          · have k1' : X.env.scope.names.lookup y = some .local := k1
            rcases kX with kX | kX
            · exact absurd (k1'.symm.trans kX) (by simp)
            · exact absurd (k1'.symm.trans kX) (by simp)
          · obtain ⟨c', hc'⟩ := Option.isSome_iff_exists.mp (cl_has (cells := X.env.cells) (y := y) scope.names [] (.inl (PySem.mem_of_lookup n2)))
            have e4 : c' = c := Option.some.inj ((hsub y c' hc').symm.trans q)
            subst e4
            obtain ⟨oc, g1, g2⟩ := ic
            exact ⟨c', hc', oc, old _ _ g1, g2⟩
    · obtain ⟨z, oc, g1, g2⟩ := I2.cell y c (hsub y c q)
      exact ⟨z, oc, old _ _ g1, g2⟩
    · have e : p = own [] 0 := by simpa [blk2] using hp
      subst e
      exact pinD [] 0 { s2 with heap := h₁, toks := s2.toks + ([] : List (Str × Value)).length } H2 hacc hD2
    · show (blkS2 none none fr σ).length = (blkN2 x x2 fr).length
      unfold blkS2 blkN2
      rw [List.length_cons, List.length_cons, List.length_cons, List.length_cons, List.length_map, List.length_map]
  have statY : ∀ {H' : Hp} {us : List Value} {k : Nat}, (∀ b ∈ fp, H' b = none) → ∀ b ∈ fp, FpOk (blk2 X x x2 fr scope fp P.objs.size s2 H2) [own us k] H' b := fun {H' us k} hn b hb => by
    obtain ⟨_, f1, f2', f3, f4, f5⟩ := f2 b hb
    refine ⟨hn b hb, (lt2 b (hfplt b hb)).1, okY.exfs b hb, .inl hb, fun y c q => f4 y c (hsub y c q), fun p hp z => ?_⟩
    have e : p = own us k := by simpa [blk2] using hp
    subst e
    exact (lt2 b (hfplt b hb)).2 z.symm
  have hg : PG (blk2 X x x2 fr scope fp P.objs.size s2 H2) (.Tuple [.Name x px, .Name x2 py] kt pt) (gTup X.K 2 (gCons (gName 0) (gCons (gName 1) gNil))) := pg_tup hc (pgs_cons (pg_name (i := 0) S.nd rfl (.inl (lookup_relabel_local S.hx)) (.inr (lookup_relabel_local S.hx))) (pgs_cons (pg_name (i := 1) S.nd rfl (.inl (lookup_relabel_local S.hy)) (.inr (lookup_relabel_local S.hy))) pgs_nil))
  have loop : ∀ s₃ : Shared, s₃ = { s2 with heap := h₁, toks := s2.toks + ([] : List (Str × Value)).length } →
      codeAny (model X.prog X.w) X.A (.compLoop (.ListComp elt [⟨.Tuple [.Name x px, .Name x2 py] kt pt, iter, [], 0⟩] scope pos) 0 (.ref it) (.ref s2.heap.objs.size) (compEnvC scope (clOf X.env.cells scope.names) P.objs.size X.env))
        (compPost (model X.prog X.w) X.A X.xe none (EP X pins σ Q) (.ref s2.heap.objs.size) P.objs.size) s₃ := by
    rintro s₃ rfl
    refine lc_loop (fun n t => ∃ i ys us k H', Inv (blk2 X x x2 fr scope fp P.objs.size s2 H2) [own us k] (blkS2 none none fr σ) H' t ∧ Vals ys us ∧ tn i t.heap ∧ (∀ b ∈ fp, H' b = none) ∧ W i n ys H') ?_ m0
      ⟨0, [], [], 0, H2, I4, .nil, T.keep _ _ _ st2 fun b hb o q => old b o q, fun b hb => (f2 b hb).1, w0⟩
    rintro n t ⟨i, ys, us, k, H', It, rv, st, frs', w1⟩
    have hDn : H' s2.heap.objs.size = none := (It.pin (own us k) (by simp [blk2])).2.1
    have hDo : t.heap.get? s2.heap.objs.size = some { cls := .type "list", data := .seq us.toArray k } := (It.pin (own us k) (by simp [blk2])).1
    rcases turn i n ys H' w1 with ⟨stop, zl, qn⟩ | ⟨go, zl, N, hN, step⟩
    · refine thn (T.done (blk2 X x x2 fr scope fp P.objs.size s2 H2) rfl rfl rfl hc i _ t _ H' _ It (statY frs') st stop) fun r t1 ⟨hr, I1⟩ => ?_
      subst hr
      have hDo1 : t1.heap.get? s2.heap.objs.size = some { cls := .type "list", data := .seq us.toArray k } := (I1.pin (own us k) (by simp [blk2])).1
      obtain ⟨m, hns, _⟩ := I1.loc
      refine ⟨m, hns, fun h' sb => ⟨.ref s2.heap.objs.size, upd H' s2.heap.objs.size (.lst ys), ?_, rfl, qn _ hDn⟩⟩
      refine I2.call' (ch := fp) I1.os (un_tail I1.base hCle (Nat.le_refl _) hDn sb) ?_ I1.bare fun b hb => ?_
      · intro a o q
        by_cases ha : a = s2.heap.objs.size
        · subst ha
          rw [upd_same] at q
          cases q
          exact ⟨zl, us, k, rv, (sb.2 _ hDC).trans hDo1⟩
        · rw [upd_ne ha] at q
          refine (I1.hok a o q).stay (fun b u hb q' => (sb.2 b ?_).trans q') (fun b z => ?_) fun b xs z => ?_
          · rcases hb with rfl | hb
            · exact ne_of_none q I1.free
            · exact ne_of_none hb I1.free
          · rw [upd_ne (ne_of_none z hDn)]; exact z
          · rw [upd_ne (ne_of_none z hDn)]; exact z
      · obtain ⟨_, f1, _, f3, f4, f5⟩ := f2 b hb
        exact ⟨f3, f1, f4, f5⟩
    · refine thn (T.item (blk2 X x x2 fr scope fp P.objs.size s2 H2) rfl rfl rfl hc i _ t _ H' _ It (statY frs') st go) fun r t1 ⟨u, hr, h4⟩ => ?_
      subst hr
      refine thn h4 fun _ t2 ⟨v, H5, I5, r5, y5, st5, fr5⟩ => ?_
      have I5' := I5.pinned (statY fr5) (T.obj _ _ st5)
      obtain ⟨va, v1, v2, ev, hva, st6⟩ := step v H5 y5
      refine thn (hg _ t2 _ H5 v u _ I5' r5 (show gTup X.K 2 (gCons (gName 0) (gCons (gName 1) gNil)) v (blkS2 none none fr σ) H5 (fun σ' H6 => σ' = blkS2 (some v1) (some v2) fr σ ∧ H6 = H5) from ⟨va, [v1, v2], ev, hva, rfl, v1, _, rfl, v2, _, rfl, rfl, rfl, rfl⟩)) fun _ t3 ⟨σ6, H6, I6, e6, e7⟩ => ?_
      subst e6; subst e7
      refine thn (he fp P.objs.size s2 H2 _ t3 _ H6 _ I6 st6) fun yv t4 ⟨y, H7, I7, r7, n7⟩ => ?_
      obtain ⟨m', hm, w7⟩ := hN y H7 n7
      have hDo4 : t4.heap.get? s2.heap.objs.size = some { cls := .type "list", data := .seq us.toArray k } := (I7.pin (own us k) (by simp [blk2])).1
      have hDn4 : H7 s2.heap.objs.size = none := (I7.pin (own us k) (by simp [blk2])).2.1
      have hlen : us.length < sizeLine := by rw [← rv.length]; exact zl
      refine call_meets F.slot_list_append ⟨_, hDo4, rfl⟩ F.entry_list_append (F.args_list_append_2 _ _) (PySem.list_append s2.heap.objs.size us.toArray k yv (by rw [List.size_toArray]; omega)) ⟨hDo4, ?_⟩
      have hup := PySem.IsL.update hDo4 (·.push yv)
      have hea : us.toArray.push yv = (us ++ [yv]).toArray := by simp
      rw [hea] at hup
      have pf : ∀ b ∈ fp, ∃ o, t2.heap.get? b = some o ∧ t4.heap.get? b = some o ∧ H7 b = none := fun b hb => by
        obtain ⟨o, q, _⟩ := T.obj _ _ st5 b hb
        have z := I7.pin (b, o) (List.mem_append_right _ (List.mem_append_right _ (mem_pinsAt hb q)))
        exact ⟨o, q, z.1, z.2.1⟩
      have I8 := (I7.pins_of (pins' := []) (fun p hp => absurd hp (by simp))).turned (it := s2.heap.objs.size) (h' := t4.heap.update s2.heap.objs.size (Obj.mapSeq (·.push yv))) (t' := t4.toks)
        (fun b o hb q => (Heap.get?_update_other t4.heap (Obj.mapSeq (·.push yv)) (Ne.symm hb)).trans q) hDn4 hDC (.inr (Nat.le_refl _))
        (fun z c q hz => by
          obtain ⟨_, oc, g1, _⟩ := I2.cell z c (hsub z c q)
          exact absurd (Heap.lt_size g1) (by rw [hz]; exact Nat.lt_irrefl _))
        (fun p hp => absurd (show p ∈ ([] : List (Addr × Obj)) from hp) (by simp))
      have I9 := I8.weak (σ' := blkS2 none none fr σ) (by unfold blkS2; rw [List.length_cons, List.length_cons, List.length_cons, List.length_cons]) (fun j z hz => by
        match j, hz with
        | 0, hz => exact absurd hz (by show ¬ (some (none : Option V) = some (some z)); simp)
        | 1, hz => exact absurd hz (by show ¬ (some (none : Option V) = some (some z)); simp)
        | j + 2, hz => exact hz)
      refine ⟨m', hm, i + 1, ys ++ [y], us ++ [yv], (if ((us ++ [yv]).toArray.size == us.toArray.size) = true then k else k + 1), H7, I9.pins_of fun p hp => ?_, rv.append (.cons r7 .nil), ?_, ?_, w7⟩
      · have e : p = own (us ++ [yv]) (if ((us ++ [yv]).toArray.size == us.toArray.size) = true then k else k + 1) := by simpa using hp
        subst e
        exact pinD _ _ _ H7 hup hDn4
      · refine T.keep _ _ _ st5 fun b hb o q => ?_
        obtain ⟨o', q1, q2, _⟩ := pf b hb
        rw [q] at q1
        cases q1
        exact (Heap.get?_update_other t4.heap (Obj.mapSeq (·.push yv)) (Ne.symm (lt2 b (hfplt b hb)).2)).trans q2
      · exact fun b hb => by
          obtain ⟨_, _, _, q3⟩ := pf b hb
          exact q3
  exact codeAny_compStart_list (loop _ rfl) (T.self X.A 0 _ _ _ (T.keep _ _ _ st2 fun b hb o q => old b o q) (loop _ rfl))
end
end Rg
set_option Elab.async false
set_option linter.all false
set_option maxRecDepth 100000
set_option maxHeartbeats 4000000
/-! A walk over zip of two lists, over reversed of a list -/
namespace Rg
open PySem PySem.W PySem.Spec PyProof.Rows L2
section
variable {X : Cx} {pins : List (Addr × Obj)} {σ : L2.St} {H : Hp} {s : Shared} {h' : Heap}
/-- several objects of an iterator have turned -/
theorem inv_turnedL {t' : Nat} {fp : List Addr} (I : Inv X pins σ H s) (k : ∀ b o, b ∉ fp → s.heap.get? b = some o → h'.get? b = some o) (hf : ∀ b ∈ fp, FpOk X pins H b) : Inv X pins σ H { s with heap := h', toks := t' } := by
  have nit : ∀ b u, H b = some u → b ∉ fp := fun b u e z => by rw [(hf b z).1] at e; cases e
  refine I.step (g' := s.gens) (d' := s.drawn) (ch := fp) (fun b hb => ?_) (fun b o _ _ hc e _ => k b o hc e) (fun b o _ _ hc e _ => ⟨o.slots, k b o hc e⟩) (fun _ _ _ _ n => n)
    (fun b o hc e => ⟨o, k b o hc e⟩) (fun _ _ e => e) (fun _ _ _ e => e) (fun b ps e => ⟨#[], by rw [e]; simp⟩) (fun m hm => ?_) (fun b u e => ?_) I.bare
  · obtain ⟨f0, f1, f2, f3, f4, f5⟩ := hf b hb
    exact ⟨f3, f1, f4, f5⟩
  · obtain ⟨o, es, ep, ho, r⟩ := hm
    exact ⟨o, es, ep, k _ o (fun z => (hf _ z).2.1 rfl) ho, r⟩
  · refine (I.hok b u e).stay (fun c v hc q => k c v ?_ q) (fun _ q => q) fun _ _ q => q
    rcases hc with z | z
    · rw [z]; exact nit b u e
    · exact nit c _ z
end
/-- the pairs of two lists -/
def Itz (K : PySem.W.Frag) (a b : Addr) : It :=
  ⟨fun i H => ∃ xs ys x y, SqL K H a xs ∧ SqL K H b ys ∧ xs[i]? = some x ∧ ys[i]? = some y,
   fun i H v H' => ∃ T x y, v = .ref T ∧ H T = none ∧ H' = upd H T (.tup [x, y]) ∧ (∀ xs, SqL K H a xs → xs[i]? = some x) ∧ ∀ ys, SqL K H b ys → ys[i]? = some y,
   fun i H => ∃ xs ys, SqL K H a xs ∧ SqL K H b ys ∧ min xs.length ys.length = i⟩
theorem turn_zip {P : Program} {w : World} {K : PySem.W.Frag} {elts : List Expr} {kt : Nat} {pos : Pos} (a b z TI TO i1 i2 : Addr) (D : ZipApart z TI TO i1 i2 a b) :
    Turn P w K (.Tuple elts kt pos) (Itz K a b) [z, TI, TO, i1, i2] z (fun i h => IsZip h z TI TO .none ∧ IsPair h TI (.ref i1) (.ref i2) ∧ (∃ a b, IsPair h TO a b) ∧ h.IsListIter i1 a i ∧ h.IsListIter i2 b i) where
  mem := by simp
  obj := fun i h st c hc => by
    obtain ⟨hz, hTI, ⟨u, v, hTO⟩, ⟨o1, e1, c1, d1⟩, ⟨o2, e2, c2, d2⟩⟩ := st
    have e : c = z ∨ c = TI ∨ c = TO ∨ c = i1 ∨ c = i2 := by simpa using hc
    rcases e with rfl | rfl | rfl | rfl | rfl
    · exact ⟨_, hz, fun v z => by cases z⟩
    · exact ⟨_, hTI, fun v z => by cases z⟩
    · exact ⟨_, hTO, fun v z => by cases z⟩
    · exact ⟨_, e1, fun v z => by rw [d1] at z; cases z⟩
    · exact ⟨_, e2, fun v z => by rw [d2] at z; cases z⟩
  keep := fun i h h' st k => by
    obtain ⟨hz, hTI, ⟨u, v, hTO⟩, h1, h2⟩ := st
    exact ⟨k z (by simp) _ hz, k TI (by simp) _ hTI, ⟨u, v, k TO (by simp) _ hTO⟩, h1.at fun o e => k i1 (by simp) o e, h2.at fun o e => k i2 (by simp) o e⟩
  item := by
    intro X hP hw hK hc i pins s σ H E I hf st hg
    subst hP hw hK
    obtain ⟨xs, ys, x, y, hq1, hq2, hx, hy⟩ := hg
    obtain ⟨its, rv, p, hz⟩ := I.list hq1
    obtain ⟨jts, rw', p', hz'⟩ := I.list hq2
    obtain ⟨u, hu, ru⟩ := rv.get hx
    obtain ⟨u', hu', ru'⟩ := rw'.get hy
    obtain ⟨s1, s2, s3, s4, s5⟩ := st
    have W := WalksT.zip2 (prog := X.prog) (w := X.w) (A := X.A) (I.ok.hd hc) z TI TO i1 i2 a b D its.toArray jts.toArray
    have li : i < its.length := (List.getElem?_eq_some_iff.mp hu).1
    have lj : i < jts.length := (List.getElem?_eq_some_iff.mp hu').1
    refine W.item i s _ _ (by rw [List.size_toArray, List.size_toArray]; omega) ⟨s1, s2, s3, s4, s5, p.isList, p'.isList⟩ fun T vals h1 tk hPt hT hTup hMid hk => ?_
    obtain ⟨v1, v2, e1, e2, rfl⟩ := hPt
    have e1' : v1 = u := by
      have z1 : its[i]? = some v1 := by simpa using e1
      exact Option.some.inj (z1.symm.trans hu)
    have e2' : v2 = u' := by
      have z1 : jts[i]? = some v2 := by simpa using e2
      exact Option.some.inj (z1.symm.trans hu')
    subst e1' e2'
    refine ⟨.ref T, rfl, W.go elts kt pos i T { s with heap := h1, toks := tk } _ _ hMid fun h2 st2 hk2 => ?_⟩
    have nw : T ∉ [z, TO, i1, i2] := W.apart i T _ hMid
    have sub4 : ∀ c, c ∉ [z, TI, TO, i1, i2] → c ∉ [z, TO, i1, i2] := fun c hc hz => hc (by simp at hz ⊢; rcases hz with q | q | q | q <;> simp [q])
    have I1 : Inv X pins σ H { s with heap := h2, toks := tk } := inv_turnedL I (fun c o hb e => hk2 c o (sub4 c hb) (hk c o (sub4 c hb) e)) hf
    have hTn : H T = none := I.hok.fresh hT
    have fT : FpOk X pins H T := I.fpOk hT hTn
    have hTup2 : h2.IsTuple T #[v1, v2] := hTup.at fun o e => hk2 T o nw e
    have I2 : Inv X pins σ (upd H T (.tup [x, y])) { s with heap := h2, toks := tk } := inv_track I1 fT (Nat.le_trans I.sz hT) ⟨by show 2 ≤ sizeLine; decide, [v1, v2], .cons ru (.cons ru' .nil), hTup2⟩
    obtain ⟨t1, t2, t3, t4, t5, _, _⟩ := st2
    refine ⟨.ref T, upd H T (.tup [x, y]), I2, rfl, ⟨T, x, y, rfl, hTn, rfl, fun xs' h' => ?_, fun ys' h' => ?_⟩, ⟨t1, t2, t3, t4, t5⟩, fun c hc => ?_⟩
    · rw [I.list_inj h' hq1]; exact hx
    · rw [I.list_inj h' hq2]; exact hy
    · have hne : c ≠ T := fun e => by
        subst e
        obtain ⟨o, q, _⟩ := (show ∃ o, s.heap.get? c = some o ∧ True from by
          obtain ⟨o1, q1, _⟩ := s4
          obtain ⟨o2, q2, _⟩ := s5
          obtain ⟨u, v, q3⟩ := s3
          have e : c = z ∨ c = TI ∨ c = TO ∨ c = i1 ∨ c = i2 := by simpa using hc
          rcases e with rfl | rfl | rfl | rfl | rfl
          · exact ⟨_, s1, trivial⟩
          · exact ⟨_, s2, trivial⟩
          · exact ⟨_, q3, trivial⟩
          · exact ⟨_, q1, trivial⟩
          · exact ⟨_, q2, trivial⟩)
        exact absurd (Heap.lt_size q) (Nat.not_lt.mpr hT)
      rw [upd_ne hne]
      exact (hf c hc).1
  done := by
    intro X hP hw hK hc i pins s σ H E I hf st hg
    subst hP hw hK
    obtain ⟨xs, ys, hq1, hq2, hx⟩ := hg
    obtain ⟨its, rv, p, hz⟩ := I.list hq1
    obtain ⟨jts, rw', p', hz'⟩ := I.list hq2
    obtain ⟨s1, s2, s3, s4, s5⟩ := st
    have W := WalksT.zip2 (prog := X.prog) (w := X.w) (A := X.A) (I.ok.hd hc) z TI TO i1 i2 a b D its.toArray jts.toArray
    have hl := rv.length
    have hl' := rw'.length
    have en : min its.toArray.size jts.toArray.size = i := by rw [List.size_toArray, List.size_toArray, ← hl, ← hl']; exact hx
    refine W.done s _ _ (by rw [en]; exact ⟨s1, s2, s3, s4, s5, p.isList, p'.isList⟩) fun h1 tk hk => ⟨rfl, inv_turnedL I (fun c o hb e => hk c o (fun hz => hb (by simp at hz ⊢; rcases hz with q | q | q | q <;> simp [q])) e) hf⟩
  self := fun _ _ _ _ _ st h => wpAny_pyIter_zip st.1 h
section
variable {X : Cx}
def iZip (K : PySem.W.Frag) (ta : TA) : TI := fun σ H R => ta σ H fun vs H1 => ∃ a b, vs = [.ref a, .ref b] ∧ (∃ xs, SqL K H1 a xs) ∧ (∃ ys, SqL K H1 b ys) ∧ R (Itz K a b) H1
theorem pi_zip {elts : List Expr} {kt : Nat} {pt : Pos} {a b : Expr} {ta : TA} {p pos : Pos} (hg : Gl X "zip") (hm : X.mg "zip" = none) (ha : PA X [a, b] ta) (hs : starEach [a, b] X.env = [(false, eval a X.env), (false, eval b X.env)] := by rfl) (hs2 : starEach [b] X.env = [(false, eval b X.env)] := by rfl) :
    PI X (.Tuple elts kt pt) (.Call (.Name "zip" p) [a, b] [] pos) (iZip X.K ta) := by
  intro pins s σ H R I h
  refine Call_ (ld_blt I hg hm boot_zip (PyProof.Rows.callWith_type1 (thn (ha pos pins s σ H _ I h) fun us s1 ⟨vs, H1, I1, r1, q1⟩ => ?_) (by rw [hs, hs2]) (by rw [hs2]; rfl)))
  obtain ⟨a, b, e, ⟨xs, hq1⟩, ⟨ys, hq2⟩, q⟩ := q1
  subst e
  cases r1 with
  | cons r rr =>
    cases rr with
    | cons r' rr =>
      cases rr
      cases r
      cases r'
      obtain ⟨its, rv, p1, hz⟩ := I1.list hq1
      obtain ⟨jts, rw', p2, hz'⟩ := I1.list hq2
      refine call_zip_2 p1.isList p2.isList fun h' hz hTI hTO hi1 hi2 hsz hk => ?_
      refine wpAny_pyIter_zip hz ?_
      have lt1 : a < s1.heap.objs.size := by obtain ⟨o, e, _⟩ := p1.isList; exact Heap.lt_size e
      have lt2 : b < s1.heap.objs.size := by obtain ⟨o, e, _⟩ := p2.isList; exact Heap.lt_size e
      have I2 : Inv X pins σ H1 { s1 with heap := h' } := I1.kept (t' := s1.toks) hk
      refine ⟨s1.heap.objs.size + 4, [s1.heap.objs.size + 4, s1.heap.objs.size + 2, s1.heap.objs.size + 3, s1.heap.objs.size, s1.heap.objs.size + 1], _, _, H1, rfl, I2, turn_zip a b _ _ _ _ _ (ktu_apart _ _ _ lt1 lt2), ⟨hz, hTI, ⟨_, _, hTO⟩, hi1, hi2⟩, fun c hc => ?_, q⟩
      have hle : s1.heap.objs.size ≤ c := by
        have e : c = s1.heap.objs.size + 4 ∨ c = s1.heap.objs.size + 2 ∨ c = s1.heap.objs.size + 3 ∨ c = s1.heap.objs.size ∨ c = s1.heap.objs.size + 1 := by simpa using hc
        have : ∀ n m : Nat, (c = n + 4 ∨ c = n + 2 ∨ c = n + 3 ∨ c = n ∨ c = n + 1) → n ≤ c := fun n m h => by
          rcases h with h | h | h | h | h <;> (rw [h]; first | exact Nat.le_add_right _ _ | exact Nat.le_refl _)
        exact this _ 0 e
      exact I1.fpOk hle (I1.hok.fresh hle)
end
/-- over the pairs of two lists that the body leaves as they are -/
theorem for_zip {K : PySem.W.Frag} {a b : Addr} {xs ys : List V} {g : TG} {tb : TS} {D : Ends} {σ : L2.St} {H : Hp} (Pv : Nat → L2.St → Hp → Prop) (h0 : Pv 0 σ H) (hl : ∀ i σ H, i ≤ min xs.length ys.length → Pv i σ H → SqL K H a xs ∧ SqL K H b ys)
    (hs : ∀ i x y T σ H, xs[i]? = some x → ys[i]? = some y → H T = none → Pv i σ H → g (.ref T) σ (upd H T (.tup [x, y])) fun σ2 H2 => tb { D with nx := Pv (i + 1), ct := Pv (i + 1), bk := D.nx } σ2 H2) (hd : ∀ σ H, Pv (min xs.length ys.length) σ H → D.nx σ H) :
    ∃ W : Nat → Nat → L2.St → Hp → Prop, (∃ m, W 0 m σ H) ∧ ∀ i m σ H, W i m σ H →
      ((Itz K a b).stop i H ∧ D.nx σ H) ∨ ((Itz K a b).go i H ∧ ∃ N : L2.St → Hp → Prop, (∀ σ' H', N σ' H' → ∃ m', m' < m ∧ W (i + 1) m' σ' H') ∧ ∀ x H', (Itz K a b).yld i H x H' → g x σ H' fun σ2 H2 => tb { D with nx := N, ct := N, bk := D.nx } σ2 H2) := by
  refine ⟨fun i m σ H => m = min xs.length ys.length - i ∧ i ≤ min xs.length ys.length ∧ Pv i σ H, ⟨min xs.length ys.length, by simp, Nat.zero_le _, h0⟩, ?_⟩
  rintro i m σ H ⟨rfl, hi, p⟩
  have q := hl i σ H hi p
  by_cases hlt : i < min xs.length ys.length
  · have l1 : i < xs.length := by omega
    have l2 : i < ys.length := by omega
    refine .inr ⟨⟨xs, ys, xs[i], ys[i], q.1, q.2, by simp [l1], by simp [l2]⟩, Pv (i + 1), fun σ' H' p' => ⟨min xs.length ys.length - (i + 1), by omega, rfl, hlt, p'⟩, fun x H' y => ?_⟩
    obtain ⟨T, u, v, rfl, hT, rfl, e1, e2⟩ := y
    exact hs i u v T σ H (e1 xs q.1) (e2 ys q.2) hT p
  · have e : i = min xs.length ys.length := by omega
    subst e
    exact .inl ⟨⟨xs, ys, q.1, q.2, rfl⟩, hd σ H p⟩
theorem lc_zip {K : PySem.W.Frag} {a b : Addr} {xs ys : List V} {te : TE} {fr : List (Str × Nat)} {σ : L2.St} {H : Hp} {Q : VK} (Pv : Nat → List V → Hp → Prop) (hz : xs.length ≤ sizeLine) (h0 : Pv 0 [] H) (hl : ∀ i zs H, i ≤ min xs.length ys.length → Pv i zs H → SqL K H a xs ∧ SqL K H b ys ∧ zs.length = i)
    (hs : ∀ i x y zs T H, xs[i]? = some x → ys[i]? = some y → H T = none → Pv i zs H → te (blkS2 (some x) (some y) fr σ) (upd H T (.tup [x, y])) fun z H' => Pv (i + 1) (zs ++ [z]) H') (hd : ∀ zs H, Pv (min xs.length ys.length) zs H → ∀ p, H p = none → Q (.ref p) (upd H p (.lst zs))) :
    ∃ W : Nat → Nat → List V → Hp → Prop, (∃ m, W 0 m [] H) ∧ ∀ i m ys H, W i m ys H →
      ((Itz K a b).stop i H ∧ ys.length ≤ sizeLine ∧ ∀ p, H p = none → Q (.ref p) (upd H p (.lst ys))) ∨
      ((Itz K a b).go i H ∧ ys.length < sizeLine ∧ ∃ N : V → Hp → Prop, (∀ y H2, N y H2 → ∃ m', m' < m ∧ W (i + 1) m' (ys ++ [y]) H2) ∧ ∀ v H', (Itz K a b).yld i H v H' → ∃ a v1 v2, v = .ref a ∧ SqT K H' a [v1, v2] ∧ te (blkS2 (some v1) (some v2) fr σ) H' N) := by
  refine ⟨fun i m zs H => m = min xs.length ys.length - i ∧ i ≤ min xs.length ys.length ∧ Pv i zs H, ⟨min xs.length ys.length, by simp, Nat.zero_le _, h0⟩, ?_⟩
  rintro i m zs H ⟨rfl, hi, p⟩
  obtain ⟨q1, q2, q3⟩ := hl i zs H hi p
  by_cases hlt : i < min xs.length ys.length
  · have l1 : i < xs.length := by omega
    have l2 : i < ys.length := by omega
    refine .inr ⟨⟨xs, ys, xs[i], ys[i], q1, q2, by simp [l1], by simp [l2]⟩, by omega, fun z H' => Pv (i + 1) (zs ++ [z]) H', fun z H' p' => ⟨min xs.length ys.length - (i + 1), by omega, rfl, hlt, p'⟩, fun x H' y => ?_⟩
    obtain ⟨T, u, v, rfl, hT, rfl, e1, e2⟩ := y
    exact ⟨T, u, v, rfl, SqT.of upd_same, hs i u v zs T H (e1 xs q1) (e2 ys q2) hT p⟩
  · have e : i = min xs.length ys.length := by omega
    subst e
    exact .inl ⟨⟨xs, ys, q1, q2, rfl⟩, by omega, hd zs H p⟩
end Rg
set_option Elab.async false
set_option linter.all false
set_option maxRecDepth 100000
set_option maxHeartbeats 4000000
/-! reversed in a for; isinstance by a tuple of types; sum; index; list(record.values()); > of numbers and of words -/
namespace Rg
open PySem PySem.W PySem.Spec PyProof.Rows L2
/-- the list at a from the end on -/
def Itv (K : PySem.W.Frag) (a : Addr) (n : Nat) : It :=
  ⟨fun i H => i < n ∧ ∃ xs, SqL K H a xs ∧ xs.length = n, fun i H x H' => H' = H ∧ ∀ xs, SqL K H a xs → xs.length = n → xs.reverse[i]? = some x, fun i H => i = n⟩
theorem turn_rev {P : Program} {w : World} {K : PySem.W.Frag} {tg : Expr} (a it : Addr) (n : Nat) : Turn P w K tg (Itv K a n) [it] it (fun i h => h.IsRevIter it a ((n : Int) - 1 - (i : Int))) where
  mem := by simp
  obj := fun i h st b hb => by
    have e : b = it := by simpa using hb
    subst e
    obtain ⟨o, e, c, d⟩ := st
    exact ⟨o, e, fun v z => by rw [d] at z; cases z⟩
  keep := fun i h h' st k => st.at fun o e => k it (by simp) o e
  item := by
    intro X hP hw hK hc i pins s σ H E I hf st hg
    subst hP hw hK
    obtain ⟨hi, xs, hq, hn⟩ := hg
    obtain ⟨its, rv, p, hz⟩ := I.list hq
    have hlen := rv.length
    have hlt : i < xs.reverse.length := by rw [List.length_reverse]; omega
    have hx : xs.reverse[i]? = some xs.reverse[i] := List.getElem?_eq_getElem hlt
    obtain ⟨u, hu, ru⟩ := (Vals.reverse rv).get hx
    have hu' : its[n - 1 - i]? = some u := by
      rw [List.getElem?_reverse (by omega)] at hu
      rw [← hu]
      congr 1
      omega
    obtain ⟨f0, f1, f2, f3, f4, f5⟩ := hf it (by simp)
    have e1 : ((n : Int) - 1 - (i : Int)) = ((n - 1 - i : Nat) : Int) := by omega
    rw [e1] at st
    refine wpAny_pyNext_rev_item st p.isList (x := u) (by simpa using hu') fun h' st' sb => ?_
    have I1 : Inv X pins σ H { s with heap := h' } := I.turned (t' := s.toks) (fun b o hb e => (sb.2 b hb).trans e) f0 f1 f3 f4 f5
    obtain ⟨o, e, c, d⟩ := id st'
    have e2 : (((n - 1 - i : Nat) : Int) - 1) = ((n : Int) - 1 - ((i + 1 : Nat) : Int)) := by omega
    rw [e2] at st'
    exact ⟨u, rfl, go_of (s := { s with heap := h' }) e c d (by decide) ⟨_, H, I1, ru, ⟨rfl, fun ys hy _ => by rw [I.list_inj hy hq]; exact hx⟩, st', fun b hb => (hf b hb).1⟩⟩
  done := by
    intro X hP hw hK hc i pins s σ H E I hf st hg
    subst hP hw hK
    have hi : i = n := hg
    subst hi
    obtain ⟨f0, f1, f2, f3, f4, f5⟩ := hf it (by simp)
    have e1 : ((i : Int) - 1 - (i : Int)) = -1 := by omega
    rw [e1] at st
    exact wpAny_pyNext_rev_end (I.ok.hd hc) st fun h' eb => ⟨rfl, I.turned (t' := s.toks) (fun b o hb e => eb b o hb e) f0 f1 f3 f4 f5⟩
  self := fun _ _ _ _ _ st h => wpAny_pyIter_revIter st h
section
variable {X : Cx} {tg : Expr}
def iRev (K : PySem.W.Frag) (ta : TA) : TI := fun σ H R => ta σ H fun vs H1 => ∃ a xs, vs = [.ref a] ∧ SqL K H1 a xs ∧ R (Itv K a xs.length) H1
theorem pi_rev {a : Expr} {ta : TA} {p pos : Pos} (hg : Gl X "reversed") (hm : X.mg "reversed" = none) (ha : PA X [a] ta) (hs : starEach [a] X.env = [(false, eval a X.env)] := by rfl) :
    PI X tg (.Call (.Name "reversed" p) [a] [] pos) (iRev X.K ta) := by
  intro pins s σ H R I h
  refine Call_ (ld_blt I hg hm boot_reversed (PyProof.Rows.callWith_type1 (thn (ha pos pins s σ H _ I h) fun us s1 ⟨vs, H1, I1, r1, q1⟩ => ?_) hs rfl))
  obtain ⟨a, xs, e, hq, q⟩ := q1
  subst e
  cases r1 with
  | cons r rr =>
    cases rr
    cases r
    obtain ⟨its, rv, p1, hz⟩ := I1.list hq
    have hl := rv.length
    refine call_reversed_list p1.isList ?_
    have I2 : Inv X pins σ H1 { s1 with heap := s1.heap.push (revObj a ((its.toArray.size : Int) - 1)) } := I1.kept (t' := s1.toks) fun b o z => Heap.get?_push_of_some _ z
    have hit : (s1.heap.push (revObj a ((its.toArray.size : Int) - 1))).IsRevIter s1.heap.objs.size a ((its.toArray.size : Int) - 1) := ⟨_, Heap.get?_push_size _ rfl, rfl, rfl⟩
    refine wpAny_pyIter_revIter hit ?_
    have e1 : ((its.toArray.size : Int) - 1) = ((xs.length : Int) - 1 - ((0 : Nat) : Int)) := by rw [List.size_toArray, ← hl]; omega
    rw [e1] at hit I2 ⊢
    refine ⟨s1.heap.objs.size, [s1.heap.objs.size], _, _, H1, rfl, I2, turn_rev a _ xs.length, hit, fun c hc => ?_, q⟩
    have e : c = s1.heap.objs.size := by simpa using hc
    subst e
    exact I1.fpOk (Nat.le_refl _) (I1.hok.fresh (Nat.le_refl _))
end
theorem for_rev {K : PySem.W.Frag} {a : Addr} {xs : List V} {g : TG} {tb : TS} {D : Ends} {σ : L2.St} {H : Hp} (Pv : Nat → L2.St → Hp → Prop) (h0 : Pv 0 σ H) (hl : ∀ i σ H, i ≤ xs.length → Pv i σ H → SqL K H a xs)
    (hs : ∀ i x σ H, xs.reverse[i]? = some x → Pv i σ H → g x σ H fun σ2 H2 => tb { D with nx := Pv (i + 1), ct := Pv (i + 1), bk := D.nx } σ2 H2) (hd : ∀ σ H, Pv xs.length σ H → D.nx σ H) :
    ∃ W : Nat → Nat → L2.St → Hp → Prop, (∃ m, W 0 m σ H) ∧ ∀ i m σ H, W i m σ H →
      ((Itv K a xs.length).stop i H ∧ D.nx σ H) ∨ ((Itv K a xs.length).go i H ∧ ∃ N : L2.St → Hp → Prop, (∀ σ' H', N σ' H' → ∃ m', m' < m ∧ W (i + 1) m' σ' H') ∧ ∀ x H', (Itv K a xs.length).yld i H x H' → g x σ H' fun σ2 H2 => tb { D with nx := N, ct := N, bk := D.nx } σ2 H2) := by
  refine ⟨fun i m σ H => m = xs.length - i ∧ i ≤ xs.length ∧ Pv i σ H, ⟨xs.length, by simp, Nat.zero_le _, h0⟩, ?_⟩
  rintro i m σ H ⟨rfl, hi, p⟩
  have q := hl i σ H hi p
  by_cases hlt : i < xs.length
  · refine .inr ⟨⟨hlt, xs, q, rfl⟩, Pv (i + 1), fun σ' H' p' => ⟨xs.length - (i + 1), by omega, rfl, hlt, p'⟩, fun x H' y => ?_⟩
    obtain ⟨e, y⟩ := y
    subst e
    exact hs i x σ _ (y xs q rfl) p
  · have e : i = xs.length := by omega
    subst e
    exact .inl ⟨rfl, hd σ H p⟩
/-- isinstance(x, (T1, T2)) -/
def rIsiT (K : PySem.W.Frag) : List V → Hp → VK → Prop := fun xs H Q => ∃ (x : V) (tp : Addr) (ns : List String) (t : Value) (b : Bool), xs = [x, .ref tp] ∧ H tp = some (.tup (ns.map V.ty)) ∧ TyOf K H x t ∧ PySem.W.kitAny K t (ns.map Value.type) = some b ∧ Q (.bl b) H
theorem vals_ty : ∀ {ns : List String} {us : List Value}, Vals (ns.map V.ty) us → us = ns.map Value.type
  | [], _, .nil => rfl
  | n :: r, _, .cons a t => by
    cases a
    rw [vals_ty t]
    rfl
theorem call_isiT {X : Cx} : CallR X (.builtin "isinstance") (rIsiT X.K) := by
  intro pins s σ H xs us Q I r h
  obtain ⟨x, tp, ns, t, b, rfl, htp, ty, e, q⟩ := h
  obtain ⟨u, w', rfl, ru, rw'⟩ := vals2 r
  cases rw'
  obtain ⟨_, its, rv, ⟨o, ho, hc, n, hd⟩⟩ := I.hok tp _ htp
  have ei := vals_ty rv
  subst ei
  obtain ⟨cls, dd, data, sl⟩ := o
  simp only at hc hd
  subst hc hd
  have fin : ∀ tk, EP X pins σ Q (.bool b) { s with toks := tk } := fun tk => ⟨.bl b, H, I.tok tk, rfl, q⟩
  cases ty with
  | non => cases (show u = Value.none from ru); exact PySem.W.kia_tup PySem.W.kitx_none I.kIn True.intro ho e (fun z => nomatch z) fin
  | bl y => cases (show u = Value.bool y from ru); exact PySem.W.kia_tup PySem.W.kitx_bool I.kIn True.intro ho e (fun z => nomatch z) fin
  | int i => obtain ⟨t, q⟩ := (show ∃ t, u = Value.int i t from ru); cases q; exact PySem.W.kia_tup PySem.W.kitx_int I.kIn True.intro ho e (fun z => nomatch z) fin
  | str y => obtain ⟨t, q⟩ := (show ∃ t, u = Value.str y t from ru); cases q; exact PySem.W.kia_tup PySem.W.kitx_str I.kIn True.intro ho e (fun z => nomatch z) fin
  | flt y => obtain ⟨t, q⟩ := (show ∃ t, u = Value.float y t from ru); cases q; exact PySem.W.kia_tup PySem.W.kitx_float I.kIn True.intro ho e (fun z => nomatch z) fin
  | @lst a xs ea =>
    cases (show u = Value.ref a from ru)
    obtain ⟨_, _, n, _, h1⟩ := (show ObjOk X.prog X.w H s.heap a (.lst xs) from I.hok a _ ea)
    exact PySem.W.kia_tup PySem.W.kitx_list I.kIn ⟨_, h1, rfl⟩ ho e (fun z => nomatch z) fin
  | @frz a ob xs ea =>
    cases (show u = Value.ref a from ru)
    obtain ⟨_, _, _, n, _, h1⟩ := (show ObjOk X.prog X.w H s.heap a (.frz ob (.lst xs)) from I.hok a _ ea)
    exact PySem.W.kia_tup PySem.W.kitx_list I.kIn ⟨_, h1, rfl⟩ ho e (fun z => nomatch z) fin
  | @tup a xs ea =>
    cases (show u = Value.ref a from ru)
    obtain ⟨_, _, _, p⟩ := (show ObjOk X.prog X.w H s.heap a (.tup xs) from I.hok a _ ea)
    obtain ⟨o, h1, h2, _⟩ := p
    exact PySem.W.kia_tup PySem.W.kitx_tuple I.kIn ⟨o, h1, h2⟩ ho e (fun z => nomatch z) fin
  | @dK a kvs ea =>
    cases (show u = Value.ref a from ru)
    obtain ⟨_, _, vs, _, p⟩ := (show ObjOk X.prog X.w H s.heap a (.dK kvs) from I.hok a _ ea)
    obtain ⟨o, es, ep, h1, h2, _⟩ := p
    exact PySem.W.kia_tup PySem.W.kitx_dict I.kIn ⟨o, h1, h2.1⟩ ho e (fun z => nomatch z) fin
  | @dT a kvs ea =>
    cases (show u = Value.ref a from ru)
    obtain ⟨_, _, xs, _, o, es, ep, h1, h2, _⟩ := (show ObjOk X.prog X.w H s.heap a (.dT kvs) from I.hok a _ ea)
    exact PySem.W.kia_tup PySem.W.kitx_dict I.kIn ⟨o, h1, h2.1⟩ ho e (fun z => nomatch z) fin
  | @ins a C dx fs ea cl ha hn htk hm =>
    cases (show u = Value.ref a from ru)
    obtain ⟨mA, O, _⟩ := ins_get I.hok ea
    obtain ⟨od, J, _⟩ := O.look
    exact PySem.W.kia_tup (PySem.W.kitx_own (cl.get _) cl.hd ha hn htk hm) I.kIn J ho e (fun z => nomatch z) fin
/-- sum(a list of numbers) -/
theorem ints_of_vals : ∀ {ns : List Int} {us : List Value}, Vals (ns.map V.int) us → IntsAre us ns
  | [], _, .nil => .nil
  | n :: r, _, .cons a t => by
    obtain ⟨k, rfl⟩ := a
    exact .cons n k (ints_of_vals t)
theorem call_sum {X : Cx} (hc : X.calm = true) : CallR X (.builtin "sum") (fun xs H Q => ∃ (a : Addr) (ns : List Int), xs = [.ref a] ∧ H a = some (.lst (ns.map V.int)) ∧ Q (.int ns.sum) H) := by
  intro pins s σ H xs us Q I r h
  obtain ⟨a, ns, rfl, ha, q⟩ := h
  obtain ⟨u, rfl, ru⟩ := vals1 r
  cases ru
  obtain ⟨_, its, n, rv, e⟩ := I.hok a _ ha
  have hi := ints_of_vals rv
  obtain ⟨xs, hx⟩ := hi.allInts.items
  have hl : s.heap.IsList a its.toArray := ⟨_, e, rfl, n, rfl⟩
  have hl' : s.heap.IsList a (intItems xs) := hx ▸ hl
  refine sum_intListG (I.ok.hd hc) hl' fun h' tk t' hk => ?_
  have e1 : ns = xs.toList.map (·.1) := by
    rw [← nums_intItems, ← hx]
    exact (show numsOf its.toArray.toList = ns from hi.numsOf).symm
  have e2 : preSum (numAt xs) xs.size = ns.sum := by
    rw [preSum_eq, List.take_of_length_le (by simp), e1]
  rw [e2]
  exact ⟨.int ns.sum, H, I.kept hk, ⟨t', rfl⟩, q⟩
/-- the place of the first True in a list of truths -/
def rIndexT : V → List V → Hp → VK → Prop := fun x vs H Q => ∃ (l : Addr) (bs : List Bool) (j : Nat), x = .ref l ∧ vs = [.bl true] ∧ H l = some (.lst (bs.map V.bl)) ∧ j < 1000 ∧ bs[j]? = some true ∧ (∀ i, i < j → bs[i]? = some false) ∧ Q (.int (j : Nat)) H
theorem vals_bl : ∀ {bs : List Bool} {us : List Value}, Vals (bs.map V.bl) us → us = bs.map Value.bool
  | [], _, .nil => rfl
  | n :: r, _, .cons a t => by
    cases a
    rw [vals_bl t]
    rfl
theorem mt_indexT {X : Cx} : MtR X "list.index" rIndexT := by
  intro pins s σ H x vs v us Q I rx rv h
  obtain ⟨l, bs, j, rfl, rfl, hl, hj, ht, hf, q⟩ := h
  cases rx
  obtain ⟨u, rfl, ru⟩ := vals1 rv
  cases ru
  obtain ⟨_, its, n, rw', e⟩ := I.hok l _ hl
  have ei := vals_bl rw'
  subst ei
  have hjl : j < bs.length := (List.getElem?_eq_some_iff.mp ht).1
  refine call_meets PySem.F.slot_list_index ⟨_, e, rfl⟩ PySem.F.entry_list_index (PySem.F.args_list_index_2 _ _) (SeqAt.list_indexAt l (bs.map Value.bool).toArray n none #[] (.bool true) (fun v => v == .bool true) j (by simpa using hjl) (by omega) ?_ ?_)
    ⟨e, fun y hy => ?_, ⟨.int j, H, I.tok _, ⟨_, rfl⟩, q⟩⟩
  · have z : bs[j] = true := (List.getElem?_eq_some_iff.mp ht).2
    simp [z]
  · intro m hm hmj
    have z : bs[m]'(by omega) = false := (List.getElem?_eq_some_iff.mp (hf m hmj)).2
    simp [z]
  · have hy' : y ∈ bs.map Value.bool := List.mem_toArray.mp hy
    obtain ⟨b, _, rfl⟩ := List.mem_map.mp hy'
    have z := SeqAt.EqAt.bool_bool (A := X.A.in1) (s := s) b true
    cases b <;> exact z
/-- record.values() -/
def valsView (v a : Addr) : HO := .ext fun h => h.IsValuesView v a
theorem mt_values {X : Cx} : MtR X "dict.values" (fun x vs H Q => ∃ (a : Addr) (kvs : List (Key × V)), x = .ref a ∧ vs = [] ∧ H a = some (.dK kvs) ∧ ∀ v, H v = none → Q (.ref v) (upd H v (valsView v a))) := by
  intro pins s σ H x vs v us Q I rx rv h
  obtain ⟨a, kvs, rfl, rfl, ha, q⟩ := h
  cases rx
  cases rv
  obtain ⟨zl, hd, dvs, rel, dd⟩ := dk_of I.hok ha
  refine call_meetsIn PySem.F.slot_dict_values dd.typeIs PySem.F.entry_dict_values (PySem.F.args_dict_values_1 _) (meets_dict_values (mixKind X.prog X.w) a hd) ⟨⟨dvs, dd⟩, ?_⟩
  have hn : H s.heap.objs.size = none := I.hok.fresh (Nat.le_refl _)
  refine ⟨.ref s.heap.objs.size, _, I.laid (t' := s.toks) (fun b o z => Heap.get?_push_of_some _ z) (Nat.le_refl _) ?_, rfl, q _ hn⟩
  have z : (s.heap.push { cls := .type "dict_values", data := .fields #[.ref a] }).get? s.heap.objs.size = some { cls := .type "dict_values", data := .fields #[.ref a] } := Heap.get?_push_size _ rfl
  exact ⟨⟨_, z, rfl, rfl⟩, ⟨_, z⟩, fun h1 h2 ⟨o, g1, g2⟩ k => ⟨o, k _ g1, g2⟩⟩
theorem call_listV {X : Cx} (hc : X.calm = true) : CallR X (.type "list") (fun xs H Q => ∃ (v a : Addr) (kvs : List (Key × V)), xs = [.ref v] ∧ H v = some (valsView v a) ∧ H a = some (.dK kvs) ∧ ∀ p, H p = none → Q (.ref p) (upd H p (.lst (kvs.map (·.2))))) := by
  intro pins s σ H xs us Q I r h
  obtain ⟨v, a, kvs, rfl, hv, ha, q⟩ := h
  obtain ⟨u, rfl, ru⟩ := vals1 r
  cases ru
  obtain ⟨zl, hd, dvs, rel, dd⟩ := dk_of I.hok ha
  obtain ⟨ep, dat⟩ := dd.dictAt
  have hview : s.heap.IsValuesView v a := (I.hok v _ hv).1
  have hlen := rel.length
  refine kdl_call (kdl_values (knd := mixKind X.prog X.w)) (I.ok.hd hc) ⟨hview, dat⟩ (by rw [← hlen]; exact zl) fun h' tk acc c hk hS items => ?_
  have hn : H s.heap.objs.size = none := I.hok.fresh (Nat.le_refl _)
  have hacc : acc.toList = dvs.map (·.2) := by
    refine kdl_vals_eq acc.toList (by rw [Array.length_toList, items.1]) fun j w' z => ?_
    exact items.2 j w' (by rw [← Array.getElem?_toList]; exact z)
  have rvs : Vals (kvs.map (·.2)) acc.toList := by
    rw [hacc]
    clear items hS dat dd hview hacc hlen q hn ha zl
    induction rel with
    | nil => exact .nil
    | cons r _ ih => exact .cons r.2 ih
  have new : ObjOk X.prog X.w (upd H s.heap.objs.size (.lst (kvs.map (·.2)))) h' s.heap.objs.size (.lst (kvs.map (·.2))) := ⟨by rw [List.length_map]; exact zl, acc.toList, c, rvs, by simpa using hS⟩
  exact ⟨.ref s.heap.objs.size, _, I.laid (t' := tk) hk (Nat.le_refl _) new, rfl, q _ hn⟩
/-- > of two numbers, of two words -/
theorem op_gtV {X : Cx} : OpR X (compareOp .Gt) (fun x y H Q => (∃ i j, x = .int i ∧ y = .int j ∧ Q (.bl (decide (j < i))) H) ∨ ∃ i j : Str, x = .str i ∧ y = .str j ∧ Q (.bl (decide (j.cps.toList < i.cps.toList))) H) := by
  intro pins s σ H x y v u Q I rx ry h
  rcases h with ⟨i, j, rfl, rfl, q⟩ | ⟨i, j, rfl, rfl, q⟩
  · exact op_gt pins s σ H _ _ v u Q I rx ry ⟨i, j, rfl, rfl, q⟩
  · obtain ⟨t, rfl⟩ := rx
    obtain ⟨t', rfl⟩ := ry
    exact (PySem.P.gt_str (fin_bl I q rfl))
end Rg
set_option Elab.async false
set_option linter.all false
set_option maxRecDepth 100000
set_option maxHeartbeats 4000000
/-! what a call has made, apart from what stood before -/
namespace Rg
open PySem L2
def newOf (G H : Hp) : Hp := fun a => if (G a).isSome = true then none else H a
def Dom (G H : Hp) : Prop := ∀ a, G a ≠ none → H a ≠ none
theorem Dom.refl (G : Hp) : Dom G G := fun _ h => h
theorem Dom.trans {G H I : Hp} (a : Dom G H) (b : Dom H I) : Dom G I := fun x h => b x (a x h)
theorem Dom.of {G H : Hp} (e : Same G H) : Dom G H := fun a h => by
  cases q : G a with
  | none => exact absurd q h
  | some o => rw [e a o q]; simp
theorem Dom.upd {G H : Hp} {a : Addr} {o : HO} (d : Dom G H) : Dom G (L2.upd H a o) := fun b h => by
  by_cases e : b = a
  · rw [e, upd_same]; simp
  · rw [upd_ne e]; exact d b h
theorem newOf_some {G H : Hp} {a : Addr} {o : HO} (h : newOf G H a = some o) : G a = none ∧ H a = some o := by
  unfold newOf at h
  cases q : G a with
  | none => rw [q] at h; exact ⟨rfl, h⟩
  | some u => rw [q] at h; cases h
theorem newOf_at {G H : Hp} {a : Addr} {o : HO} (h : G a = none) (h2 : H a = some o) : newOf G H a = some o := by
  unfold newOf
  rw [h]
  exact h2
theorem newOf_sub {G H : Hp} : Same (newOf G H) H := fun _ _ h => (newOf_some h).2
theorem new_same {G Hc H2 H3 : Hp} (d : Dom G Hc) (e : ∀ a o, Hc a = none → H2 a = some o → H3 a = some o) : Same (newOf Hc H2) (newOf G H3) := fun a o h => by
  obtain ⟨h1, h2⟩ := newOf_some h
  have g : G a = none := by
    cases q : G a with
    | none => rfl
    | some u => exact absurd h1 (d a (by rw [q]; simp))
  exact newOf_at g (e a o h1 h2)
def Ts.snoc (k : Str) (t : Th) : Ts → Ts
  | .nil => .cons k t .nil
  | .cons j u r => .cons j u (r.snoc k t)
theorem Ts.snoc_len (k : Str) (t : Th) : ∀ l : Ts, (l.snoc k t).len = l.len + 1
  | .nil => rfl
  | .cons _ _ r => congrArg (· + 1) (Ts.snoc_len k t r)
theorem Ts.snoc_keys (k : Str) (t : Th) : ∀ l : Ts, (l.snoc k t).keys = l.keys ++ [k]
  | .nil => rfl
  | .cons j _ r => congrArg (j :: ·) (Ts.snoc_keys k t r)
theorem Ts.snoc_size (k : Str) (t : Th) : ∀ l : Ts, (l.snoc k t).size = l.size + t.size
  | .nil => by show t.size + 0 = 0 + t.size; omega
  | .cons j u r => by show u.size + (r.snoc k t).size = u.size + r.size + t.size; rw [Ts.snoc_size k t r]; omega
theorem Ts.snoc_ok {k : Str} {t : Th} (hk : k.length ≤ 100) (ht : t.Ok) : ∀ {l : Ts}, l.Ok → (l.snoc k t).Ok
  | .nil, _ => ⟨hk, ht, trivial⟩
  | .cons _ _ r, h => ⟨h.1, h.2.1, Ts.snoc_ok hk ht (l := r) h.2.2⟩
theorem RepR.snoc {H : Hp} {k : Str} {t : Th} {y : V} (ht : Rep H t y) : ∀ {l : Ts} {xs : List V}, RepR H l xs → RepR H (l.snoc k t) (xs ++ [y])
  | .nil, xs, h => by rw [(h : xs = [])]; exact ⟨y, [], rfl, ht, rfl⟩
  | .cons j u r, xs, h => by
    obtain ⟨z, zs, rfl, h2, h3⟩ := (h : ∃ y ys, xs = y :: ys ∧ Rep H u y ∧ RepR H r ys)
    exact ⟨z, zs ++ [y], rfl, h2, RepR.snoc ht h3⟩
theorem RepD.snoc {H : Hp} {k : Str} {t : Th} {y : V} (ht : Rep H t y) : ∀ {l : Ts} {xs : List (Key × V)}, RepD H l xs → RepD H (l.snoc k t) (xs ++ [(Sum.inr k, y)])
  | .nil, xs, h => by rw [(h : xs = [])]; exact ⟨y, [], rfl, ht, rfl⟩
  | .cons j u r, xs, h => by
    obtain ⟨z, zs, rfl, h2, h3⟩ := (h : ∃ y ys, xs = (Sum.inr j, y) :: ys ∧ Rep H u y ∧ RepD H r ys)
    exact ⟨z, zs ++ [(Sum.inr k, y)], rfl, h2, RepD.snoc ht h3⟩
theorem RepD.fresh {H : Hp} {l : Ts} {kvs : List (Key × V)} {k : Str} (h : RepD H l kvs) (hk : ¬ k ∈ l.keys) : valV kvs (Sum.inr k) = none := by
  cases e : valV kvs (Sum.inr k) with
  | none => rfl
  | some v =>
    have z := valV_in e
    rw [h.keys] at z
    obtain ⟨j, z1, z2⟩ := List.mem_map.mp z
    cases z2
    exact absurd z1 hk
theorem atI_mem {α : Type} {xs : List α} {i : Int} (h0 : 0 ≤ i) (h1 : i < (xs.length : Int)) : ∃ v, atI xs i = some v ∧ v ∈ xs := by
  obtain ⟨k, rfl⟩ : ∃ k : Nat, i = (k : Int) := ⟨i.toNat, by omega⟩
  have hk : k < xs.length := by omega
  exact ⟨xs[k], atI_nat (List.getElem?_eq_getElem hk), List.getElem_mem hk⟩
end Rg
set_option Elab.async false
set_option linter.all false
set_option maxRecDepth 100000
set_option maxHeartbeats 4000000
namespace Rg
open PySem L2
/-- a field and a thing; the thing with its fields in order -/
def nP (p : Str × Th) : Str × Th := (p.1, nrm p.2)
def fl (cs : List (Str × Th)) : List (Str × Th) := (cs.reverse.map nP).flatMap fun p => pre p.1 p.2
theorem fl_snoc (cr : List (Str × Th)) (c : Str × Th) : fl (cr ++ [c]) = nP c :: fl (cr ++ (kids c.2).reverse) := by
  unfold fl
  rw [List.reverse_append, List.reverse_append, List.reverse_reverse, List.reverse_singleton, List.singleton_append, List.map_cons, List.flatMap_cons, pre_eq, List.map_append, List.flatMap_append]
  show (nP c :: (kidsN (nrm c.2)).flatMap _) ++ _ = _
  rw [kids_nrm]
  rfl
theorem fl_nil : fl [] = [] := rfl
theorem fl_one (c : Str × Th) : fl [c] = pre c.1 (nrm c.2) := by
  unfold fl
  show (pre c.1 (nrm c.2) ++ []) = _
  rw [List.append_nil]
theorem fl_len : ∀ cs : List (Str × Th), cs.length ≤ (fl cs).length := by
  have key : ∀ l : List (Str × Th), l.length ≤ (l.flatMap fun p => pre p.1 p.2).length := by
    intro l
    induction l with
    | nil => exact Nat.le_refl _
    | cons p r ih =>
      rw [List.flatMap_cons, List.length_append, List.length_cons, pre_len]
      have := size_pos p.2
      omega
  intro cs
  have z := key (cs.reverse.map nP)
  rw [List.length_map, List.length_reverse] at z
  exact z
/-- tuples of a field and a thing, one by one: the tuples stand in H, the things in H0 -/
abbrev PartsN (H0 H : Hp) : List V → List (Str × Th) → Prop := Paired fun v c => ∃ p y, v = V.ref p ∧ H p = some (.tup [.str c.1, y]) ∧ Rep H0 c.2 y
theorem PartsN.mono {H0 H H' : Hp} (e : TupsStay H H') {vs : List V} {cs : List (Str × Th)} (h : PartsN H0 H vs cs) : PartsN H0 H' vs cs := Paired.mapP h fun _ _ ⟨p, y, h1, h2, h3⟩ => ⟨p, y, h1, e _ _ h2, h3⟩
theorem PartsN.app {H0 H : Hp} : ∀ {vs ws : List V} {cs ds : List (Str × Th)}, PartsN H0 H vs cs → PartsN H0 H ws ds → PartsN H0 H (vs ++ ws) (cs ++ ds)
  | _, _, _, _, .nil, h => h
  | _, _, _, _, .cons r t, h => .cons r (PartsN.app t h)
theorem PartsN.rev {H0 H : Hp} {vs : List V} {cs : List (Str × Th)} (h : PartsN H0 H vs cs) : PartsN H0 H vs.reverse cs.reverse := by
  induction h with
  | nil => exact .nil
  | cons r _ ih =>
    rw [List.reverse_cons, List.reverse_cons]
    exact PartsN.app ih (.cons r .nil)
theorem PartsN.len {H0 H : Hp} {vs : List V} {cs : List (Str × Th)} (h : PartsN H0 H vs cs) : vs.length = cs.length := Paired.length h
theorem toL_ths : ∀ l : Ts, l.toL.map (·.2) = l.ths
  | .nil => rfl
  | .cons k t r => by show t :: r.toL.map (·.2) = t :: r.ths; rw [toL_ths r]
theorem same_put {H H' : Hp} {a : Addr} {o : HO} (e : Same H H') (h : H a = none) : Same H (upd H' a o) := fun b u q => by
  rw [upd_ne (ne_of_none q h)]
  exact e b u q
theorem upd_none {H : Hp} {a b : Addr} {o : HO} (h : upd H a o b = none) : b ≠ a ∧ H b = none := by
  by_cases e : b = a
  · rw [e, upd_same] at h
    cases h
  · rw [upd_ne e] at h
    exact ⟨e, h⟩
end Rg
namespace K2
open PySem L2 Rg
def top (i : Nat) : Stmt := PySem.Challenge.pw_recordgate_k02_the_order_of_things.main.body.getD i (.Pass ⟨0, 0, 0, 0⟩)
abbrev sKey : Stmt := top 1
abbrev sKeys : Stmt := top 2
abbrev sParts : Stmt := top 3
abbrev sWalked : Stmt := top 4
abbrev sHeld : Stmt := top 5
abbrev sSizes : Stmt := top 6
abbrev sOwn : Stmt := top 7
abbrev sOrderKey : Stmt := top 8
abbrev sCompared : Stmt := top 9
abbrev sCell : Stmt := top 11
abbrev sMixed : Stmt := top 12
abbrev sNumber : Stmt := top 13
abbrev sWord : Stmt := top 14
abbrev sThing : Stmt := top 15
abbrev sCopied : Stmt := top 16
abbrev sSize : Stmt := top 17
abbrev sSort : Stmt := top 18
abbrev sFirst : Stmt := top 19
abbrev sFlat : Stmt := top 20
abbrev sOrder : Stmt := top 21
abbrev sChRec : Stmt := top 22
abbrev sChanged : Stmt := top 23
abbrev sRight : Stmt := top 24
abbrev sLaw : Stmt := top 25
theorem sum_perm {a b : List Nat} (h : a.Perm b) : a.sum = b.sum := by
  induction h with
  | nil => rfl
  | cons x _ ih => rw [List.sum_cons, List.sum_cons, ih]
  | swap x y l => rw [List.sum_cons, List.sum_cons, List.sum_cons, List.sum_cons]; omega
  | trans _ _ h1 h2 => exact h1.trans h2
theorem small {n : Nat} (h : n ≤ 1000) : n ≤ sizeLine := Nat.le_of_lt (small1000 h)
/-- what is asked of the names of the built-ins -/
structure Blt (mg : Str → Option Value) : Prop where
  len : mg "len" = none
  isi : mg "isinstance" = none
  list : mg "list" = none
  dict : mg "dict" = none
  sorted : mg "sorted" = none
  rev : mg "reversed" = none
  range : mg "range" = none
  int : mg "int" = none
  bool : mg "bool" = none
  str : mg "str" = none
  sum : mg "sum" = none
  zip : mg "zip" = none
  abs : mg "abs" = none
  min : mg "min" = none
section
variable {P : Program} {w : World} {K : PySem.W.Frag} {mg : Str → Option Value} {base : Heap} {f g : Addr} {fd gd : FuncData}
theorem scKey : FnScope ["word"] ["word"] (defScope sKey) := ⟨rfl, rfl, rfl, by decide +kernel, rfl, by decide +kernel, by decide +kernel⟩
theorem ok_key (F : Fun K "word_key" "word_key" sKey f fd) (B : Blt mg) : FnOk P w K mg base CX0 1 f fd ["word"] spKey := by
  refine F.ok scKey (fun vs H Q E h => ?_) (fun cdv A outer s H vs Q E hr h => ?_)
  · obtain ⟨x, rfl, _⟩ := h
    rfl
  obtain ⟨x, rfl, hx, q⟩ := h
  refine ⟨_, pss_one (ps_ret (pe_tup (pa_cons (pe_callB call_len rfl B.len PySem.boot_len (pa_cons (pv 0) pa_nil)) (pa_cons (pv 0) pa_nil)))), ?_⟩
  exact ⟨_, rfl, _, _, rfl, ⟨small hx, rfl⟩, _, rfl, (by show 2 ≤ sizeLine; decide), fun p hp => q p hp⟩
/-- the fields of a record, in order -/
def spKeys : Sp := fun vs H Q _ => ∃ (a : Addr) (kvs : List (Key × V)) (xs : List Str), vs = [.ref a] ∧ H a = some (.dK kvs) ∧ kvs.length < 64 ∧ kvs.map (·.1) = xs.map Sum.inr ∧ (∀ x ∈ xs, x.length ≤ 1000) ∧ ∀ (r : Addr) (H1 : Hp), Same H H1 → H1 r = some (.lst ((srt xs).map V.str)) → Q (.ref r) H1
theorem scKeys : FnScope ["holder"] ["holder"] (defScope sKeys) := ⟨rfl, rfl, rfl, by decide +kernel, rfl, by decide +kernel, by decide +kernel⟩
theorem ok_keys (F : Fun K "keys_of" "keys_of" sKeys f fd) (B : Blt mg) (G : FnOk P w K mg base CX0 1 g gd ["word"] spKey) (bG : Binds K gd ["word"] []) (mG : mg "word_key" = some (.ref g)) : FnOk P w K mg base CX0 4 f fd ["holder"] spKeys := by
  refine F.ok scKeys (fun vs H Q E h => ?_) (fun cdv A outer s H vs Q E hr h => ?_)
  · obtain ⟨a, kvs, xs, rfl, _⟩ := h
    rfl
  obtain ⟨a, kvs, xs, rfl, ha, hl, hk, hx, q⟩ := h
  refine ⟨_, pss_cons (ps_if (pt_val (pe_callB call_isi rfl B.isi PyProof.Rows.boot_isinstance (pa_cons (pv 0) (pa_cons (pe_bltn (v := .ty "list") rfl B.list PyProof.Rows.boot_list rfl) pa_nil)))) pss_never pss_nil)
    (pss_one (ps_ret (pe_callBK (call_sortW (sp := spKey) rfl (fun _ _ z => z) G hr bG) rfl B.sorted PyProof.Rows.boot_sorted (pa_cons (pv 0) pa_nil) (pk_cons (pe_glob (v := .ref g) rfl mG rfl) pk_nil)))), ?_⟩
  refine ⟨_, rfl, .ref a, "list", _, _, rfl, .dK ha, kit_dict_list K, _, rfl, iteF ?_⟩
  exact ⟨_, rfl, a, kvs, rfl, rfl, ha, fun _ _ _ _ _ z => z, hl, xs, hk, hx, fun r H1 sm e => q r H1 sm e⟩
/-- what a thing holds, as tuples of a field and a thing -/
def spParts : Sp := fun vs H Q _ => ∃ (H0 : Hp) (t : Th) (v : V), vs = [v] ∧ Same H0 H ∧ Rep H0 t v ∧ t.Ok ∧
  ∀ (r : Addr) (H' : Hp) (ts : List V), Same H H' → H' r = some (.lst ts) → PartsN H0 H' ts (kids t) → Q (.ref r) H'
theorem scParts : FnScope ["thing"] ["thing"] (defScope sParts) := ⟨rfl, rfl, rfl, by decide +kernel, rfl, by decide +kernel, by decide +kernel⟩
theorem ok_parts (F : Fun K "parts_of" "parts_of" sParts f fd) (B : Blt mg) (G : FnOk P w K mg base CX0 4 g gd ["holder"] spKeys) (bG : Binds K gd ["holder"] []) (kG : PySem.W.keepIn K (.ref g) = true) (mG : mg "keys_of" = some (.ref g)) :
    FnOk P w K mg base CX0 5 f fd ["thing"] spParts := by
  refine F.ok scParts (fun vs H Q E h => ?_) (fun cdv A outer s H vs Q E hr h => ?_)
  · obtain ⟨H0, t, v, rfl, _⟩ := h
    rfl
  obtain ⟨H0, t, v, rfl, smE, rep0, ok, q⟩ := h
  have rep := rep0.mono smE
  have hu := hu_of hr
  refine ⟨_, pss_cons (ps_if (pt_val (pe_callB call_isi rfl B.isi PyProof.Rows.boot_isinstance (pa_cons (pv 0) (pa_cons (pe_bltn (v := .ty "list") rfl B.list PyProof.Rows.boot_list rfl) pa_nil)))) (pss_one (ps_ret (pe_lc (fr := []) rfl (pi_list (pv 0)) (LcSt.ok (sc := defScope sParts) (N := ["thing"]) ⟨by decide +kernel, rfl, by decide +kernel, rfl, by decide +kernel, by decide +kernel, by decide +kernel⟩ rfl rfl) fun fp C s H => pe_tup (pa_cons pe_str (pa_cons (pv 0) pa_nil))))) pss_nil)
    (pss_cons (ps_if (pt_val (pe_callB call_isi rfl B.isi PyProof.Rows.boot_isinstance (pa_cons (pv 0) (pa_cons (pe_bltn (v := .ty "dict") rfl B.dict PyProof.Rows.boot_dict rfl) pa_nil)))) (pss_one (ps_ret (pe_lc (fr := [("thing", 0)]) rfl
      (pi_list (pe_call G hr rfl mG kG bG .nil pass0 (pa_cons (pv 0) pa_nil)))
      (LcSt.ok (sc := defScope sParts) (N := ["thing"]) ⟨by decide +kernel, rfl, by decide +kernel, rfl, by decide +kernel, by decide +kernel, by decide +kernel⟩ rfl rfl) fun fp C s H => pe_tup (pa_cons (pv 0) (pa_cons (pe_dget hu (pv 1) (pv 0) (fun _ _ => rfl)) pa_nil))))) pss_nil)
    (pss_one (ps_ret (pe_lst pa_nil)))), ?_⟩
  refine ⟨_, rfl, v, "list", _, _, rfl, rep.ty, kit_list _ t, _, rfl, ?_⟩
  cases t with
  | num i =>
    refine iteF ⟨_, rfl, v, "dict", _, _, rfl, rep.ty, kit_dict _ _, _, rfl, iteF ⟨Nat.zero_le _, fun r hr' => ?_⟩⟩
    exact q r _ [] (same_new hr' _) upd_same .nil
  | word x =>
    refine iteF ⟨_, rfl, v, "dict", _, _, rfl, rep.ty, kit_dict _ _, _, rfl, iteF ⟨Nat.zero_le _, fun r hr' => ?_⟩⟩
    exact q r _ [] (same_new hr' _) upd_same .nil
  | row l =>
    obtain ⟨a, xs, rfl, h20, h3⟩ := (rep0 : ∃ a xs, v = V.ref a ∧ H0 a = some (.lst xs) ∧ RepR H0 l xs)
    have h2 := smE _ _ h20
    have hl9 : l.len ≤ 9 := ok.1
    have hxl : xs.length = l.len := h3.len
    have hkl : (kids (.row l)).length = l.len := by show (l.toL.map _).length = _; rw [List.length_map, toL_len]
    refine iteT ⟨_, rfl, a, rfl, ⟨xs, SqL.of h2⟩, lc_list (xs := xs) (fun i ys H' => Same H H' ∧ PartsN H0 H' ys ((kids (.row l)).take i) ∧ ys.length = i) (small (by omega)) ⟨Same.refl H, .nil, rfl⟩ (fun i ys H' hi p => ⟨SqL.of (p.1 _ _ h2), p.2.2⟩) (fun i x ys H' hx p => ?_) (fun ys H' p r hr' => ?_)⟩
    · obtain ⟨sm, pa, hy⟩ := p
      obtain ⟨c, hc, rc⟩ := h3.at i x hx
      refine ⟨x, rfl, (by show 2 ≤ sizeLine; decide), fun p hp => ?_⟩
      have sm2 : Same H' (upd H' p (.tup [.str "", x])) := same_new hp _
      refine ⟨sm.trans sm2, ?_, by rw [List.length_append, hy]; rfl⟩
      have hk : (kids (.row l))[i]? = some (Str.empty, c) := by
        show (l.toL.map fun p => (Str.empty, p.2))[i]? = _
        rw [← toL_ths, List.getElem?_map] at hc
        rw [List.getElem?_map]
        cases e : l.toL[i]? with
        | none => rw [e] at hc; cases hc
        | some z => rw [e] at hc; cases hc; rfl
      rw [List.take_succ, hk]
      exact PartsN.app (pa.mono (tups_of sm2)) (.cons ⟨p, x, rfl, upd_same, rc⟩ .nil)
    · obtain ⟨sm, pa, hy⟩ := p
      rw [List.take_of_length_le (by omega)] at pa
      have sm2 := same_new hr' (.lst ys)
      exact q r _ ys (sm.trans sm2) upd_same (pa.mono (tups_of sm2))
  | dic l =>
    obtain ⟨a, kvs, rfl, h20, h3⟩ := (rep0 : ∃ a kvs, v = V.ref a ∧ H0 a = some (.dK kvs) ∧ RepD H0 l kvs)
    have h2 := smE _ _ h20
    obtain ⟨hl9, hnd, okl⟩ := ok
    have hkl := Ts.keys_len l
    refine iteF ⟨_, rfl, .ref a, "dict", _, _, rfl, rep.ty, kit_dict _ _, _, rfl, iteT ⟨_, rfl, a, kvs, l.keys, rfl, h2, by rw [h3.len]; omega, h3.keys, fun x hx => Nat.le_trans (Ts.ok_keys okl x hx) (by decide), fun r0 H1 sm0 e0 => ?_⟩⟩
    have pm := srt_perm l.keys
    have hyl : (srt l.keys).length = l.len := by rw [pm.length_eq, hkl]
    refine ⟨r0, rfl, ⟨_, SqL.of e0⟩, lc_list (xs := (srt l.keys).map V.str) (fun i zs H' => Same H1 H' ∧ PartsN H0 H' zs (((srt l.keys).take i).map fun k => (k, l.fld k)) ∧ zs.length = i) (small (by rw [List.length_map]; omega)) ⟨Same.refl H1, .nil, rfl⟩ (fun i ys H' hi p => ⟨SqL.of (p.1 _ _ e0), p.2.2⟩) (fun i x zs H' hx p => ?_) (fun zs H' p r hr' => ?_)⟩
    · obtain ⟨sm, pa, hy⟩ := p
      rw [List.getElem?_map] at hx
      cases ek : (srt l.keys)[i]? with
      | none => rw [ek] at hx; cases hx
      | some k =>
        rw [ek] at hx
        cases hx
        have hc := fld_get l (pm.mem_iff.mp (List.mem_of_getElem? ek))
        obtain ⟨y, hy2, ry⟩ := h3.val hc
        have hd := DGet.k (k := Sum.inr k) (sm _ _ (sm0 _ _ h2))
        rw [hy2] at hd
        refine ⟨_, rfl, _, rfl, _, rfl, a, y, rfl, hd, (by show 2 ≤ sizeLine; decide), fun p hp => ?_⟩
        have sm2 : Same H' (upd H' p (.tup [.str k, y])) := same_new hp _
        refine ⟨sm.trans sm2, ?_, by rw [List.length_append, hy]; rfl⟩
        rw [List.take_succ, ek, List.map_append]
        exact PartsN.app (pa.mono (tups_of sm2)) (.cons ⟨p, y, rfl, upd_same, ry⟩ .nil)
    · obtain ⟨sm, pa, hy⟩ := p
      rw [List.take_of_length_le (by rw [List.length_map]; exact Nat.le_refl _)] at pa
      have sm2 := same_new hr' (.lst zs)
      exact q r _ zs ((sm0.trans sm).trans sm2) upd_same (pa.mono (tups_of sm2))
/-- the things in the order in which they are walked -/
def spWalked : Sp := fun vs H Q _ => ∃ (t : Th) (v : V), vs = [v] ∧ Rep H t v ∧ t.Ok ∧ t.size ≤ 100 ∧ ∀ (r : Addr) (H' : Hp) (fs : List V) (ps : List (Str × Th)), Same H H' → H' r = some (.lst fs) → PartsN H H' fs ps → (∀ p ∈ ps, p.2.Ok ∧ p.1.length ≤ 100) → ps.map nP = pre Str.empty (nrm t) → Q (.ref r) H'
theorem scWalked : FnScope ["thing", "found", "waiting", "part"] ["thing"] (defScope sWalked) := ⟨rfl, rfl, rfl, by decide +kernel, rfl, by decide +kernel, by decide +kernel⟩
theorem ok_walked (F : Fun K "walked" "walked" sWalked f fd) (B : Blt mg) (G : FnOk P w K mg base CX0 5 g gd ["thing"] spParts) (bG : Binds K gd ["thing"] []) (kG : PySem.W.keepIn K (.ref g) = true) (mG : mg "parts_of" = some (.ref g)) :
    FnOk P w K mg base CX0 6 f fd ["thing"] spWalked := by
  refine F.ok scWalked (fun vs H Q E h => ?_) (fun cdv A outer s H vs Q E hr h => ?_)
  · obtain ⟨t, v, rfl, _⟩ := h
    rfl
  obtain ⟨t, v, rfl, rep, ok, hz, q⟩ := h
  have nd := scWalked.nd
  refine ⟨_, pss_cons (ps_set (i := 1) nd rfl (Or.inl rfl) (pe_lst pa_nil))
    (pss_cons (ps_set (i := 2) nd rfl (Or.inl rfl) (pe_lst (pa_cons (pe_tup (pa_cons pe_str (pa_cons (pv 0) pa_nil))) pa_nil)))
    (pss_cons (ps_while PassesOwn.never (pt_truth (pv 2) (fun _ => rfl))
      (pss_cons (ps_set (i := 3) nd rfl (Or.inl rfl) (pe_bm0 PySem.F.plainAttrs_list PySem.F.slot_list_pop PySem.F.type_list_pop mt_pop (pv 2)))
      (pss_cons (ps_expr (pe_bm PySem.F.plainAttrs_list PySem.F.slot_list_append PySem.F.type_list_append mt_append (pv 1) (pa_cons (pv 3) pa_nil)))
      (pss_one (ps_expr (pe_bm PySem.F.plainAttrs_list PySem.F.slot_list_extend PySem.F.type_list_extend mt_extend (pv 2) (pa_cons (pe_listrev rfl rfl B.list rfl B.rev (pe_call G hr rfl mG kG bG .nil pass0 (pa_cons (pe_ix ix_tup (pv 3) pe_int (fun _ _ => rfl)) pa_nil))) pa_nil)))))))
    (pss_one (ps_ret (pv 1))))), ?_⟩
  refine ⟨Nat.zero_le _, fun fo hfo => ?_⟩
  refine ⟨_, rfl, (by show 2 ≤ sizeLine; decide), fun p0 hp0 => ⟨(by show 1 ≤ sizeLine; decide), fun wt hwt => ?_⟩⟩
  obtain ⟨n1, hp0'⟩ := upd_none hp0
  obtain ⟨n2, hwt'⟩ := upd_none hwt
  obtain ⟨n3, hwt''⟩ := upd_none hwt'
  have hpl : (pre Str.empty (nrm t)).length = t.size := by rw [pre_len, nrm_size t ok]
  refine ⟨fun m σ' H' => ∃ (p3 : Option V) (ws fs : List V) (cs ps : List (Str × Th)), σ' = [some v, some (.ref fo), some (.ref wt), p3] ∧ Same H H' ∧ H' fo = some (.lst fs) ∧ H' wt = some (.lst ws) ∧ PartsN H H' ws cs ∧ PartsN H H' fs ps ∧ (∀ c ∈ cs, c.2.Ok ∧ c.1.length ≤ 100) ∧ (∀ c ∈ ps, c.2.Ok ∧ c.1.length ≤ 100) ∧ m = (fl cs).length ∧ ps.map nP ++ fl cs = pre Str.empty (nrm t),
    ⟨_, none, [.ref p0], [], [(Str.empty, t)], [], rfl, same_put (same_put (same_put (Same.refl H) hfo) hp0') hwt'', by rw [upd_ne (Ne.symm n3), upd_ne (Ne.symm n1), upd_same], upd_same, .cons ⟨p0, v, rfl, by rw [upd_ne (Ne.symm n2), upd_same]; rfl, rep⟩ .nil, .nil, fun c hc => by rw [List.mem_singleton.mp hc]; exact ⟨ok, by show Str.empty.length ≤ 100; decide⟩, fun c hc => absurd hc (by simp), rfl, ?_⟩, fun m σ' H' hw => ?_⟩
  · rw [fl_one]
    rfl
  obtain ⟨p3, ws, fs, cs, ps, rfl, sm, hF, hW, pa, pf, okc, okp, rfl, hsum⟩ := hw
  have hlen := congrArg List.length hsum
  rw [List.length_append, List.length_map, hpl] at hlen
  have hfl := pf.len
  refine ⟨.ref wt, rfl, !ws.isEmpty, .inl ⟨ws, SqL.of hW, rfl⟩, ?_⟩
  by_cases hne : ws = []
  · subst hne
    have ecs : cs = [] := List.eq_nil_of_length_eq_zero pa.len.symm
    subst ecs
    refine iteF ⟨_, rfl, q fo H' fs ps sm hF pf okp ?_⟩
    rw [fl_nil, List.append_nil] at hsum
    exact hsum
  · obtain ⟨wr, x, cr, c, rfl, rfl, par, p, y, rfl, hp, rc⟩ := paired_last pa hne
    have ebool : (!(wr ++ [V.ref p]).isEmpty) = true := by simp
    rw [ebool]
    have par' : PartsN H H' wr cr := par
    have hlr : wr.length = cr.length := PartsN.len par'
    have hcs := fl_snoc cr c
    have hlcs := congrArg List.length hcs
    rw [List.length_cons] at hlcs
    have hcl := fl_len (cr ++ (kids c.2).reverse)
    rw [List.length_append, List.length_reverse] at hcl
    refine iteT ⟨fun σ2 H2 => ∃ m', m' < (fl (cr ++ [c])).length ∧ ∃ (p3 : Option V) (ws fs : List V) (cs ps : List (Str × Th)), σ2 = [some v, some (.ref fo), some (.ref wt), p3] ∧ Same H H2 ∧ H2 fo = some (.lst fs) ∧ H2 wt = some (.lst ws) ∧ PartsN H H2 ws cs ∧ PartsN H H2 fs ps ∧ (∀ c ∈ cs, c.2.Ok ∧ c.1.length ≤ 100) ∧ (∀ c ∈ ps, c.2.Ok ∧ c.1.length ≤ 100) ∧ m' = (fl cs).length ∧ ps.map nP ++ fl cs = pre Str.empty (nrm t), fun _ _ z => z, ?_⟩
    refine ⟨.ref wt, rfl, .inl ⟨rfl, _, SqL.of hW⟩, wt, _, .ref p, rfl, rfl, hW, by simp, ?_⟩
    rw [List.dropLast_concat]
    have hF1 : upd H' wt (.lst wr) fo = some (.lst fs) := by rw [upd_ne (Ne.symm n3)]; exact hF
    have t1 : TupsStay H' (upd H' wt (.lst wr)) := TupsStay.lst hW
    refine ⟨.ref fo, rfl, .inl ⟨rfl, _, SqL.of hF1⟩, .ref p, rfl, fo, fs, .ref p, rfl, rfl, hF1, Nat.lt_of_lt_of_le (show fs.length < 200 by omega) (small (by decide)), ?_⟩
    have t2 : TupsStay (upd H' wt (.lst wr)) (upd (upd H' wt (.lst wr)) fo (.lst (fs ++ [.ref p]))) := TupsStay.lst hF1
    have hW2 : upd (upd H' wt (.lst wr)) fo (.lst (fs ++ [.ref p])) wt = some (.lst wr) := by rw [upd_ne n3, upd_same]
    have sm2 : Same H (upd (upd H' wt (.lst wr)) fo (.lst (fs ++ [.ref p]))) := same_put (same_put sm hwt'') hfo
    have hF2 : upd (upd H' wt (.lst wr)) fo (.lst (fs ++ [.ref p])) fo = some (.lst (fs ++ [.ref p])) := upd_same
    refine ⟨.ref wt, rfl, .inl ⟨rfl, _, SqL.of hW2⟩, .ref p, rfl, p, _, 1, y, rfl, rfl, SqT.of (t2 _ _ (t1 _ _ hp)), rfl, H, c.2, y, rfl, sm2, rc, (okc c (by simp)).1, fun r H3 ts sm3 hr3 pa3 => ?_⟩
    refine ⟨r, ts, rfl, SqL.of hr3, fun r2 hr2 => ?_⟩
    have hr2w : wt ≠ r2 := ne_of_none (sm3 _ _ hW2) hr2
    have hr2f : fo ≠ r2 := ne_of_none (sm3 _ _ hF2) hr2
    have hW3 : upd H3 r2 (.lst ts.reverse) wt = some (.lst wr) := by rw [upd_ne hr2w]; exact sm3 _ _ hW2
    have hH2 : H r2 = none := (sm2.trans sm3).free hr2
    have htl := pa3.len
    refine ⟨wt, r2, wr, ts.reverse, rfl, rfl, hW3, upd_same, ?_, ?_⟩
    · rw [List.length_reverse]
      exact small (by omega)
    · have t3 : TupsStay H3 (upd (upd H3 r2 (.lst ts.reverse)) wt (.lst (wr ++ ts.reverse))) := (tups_of (same_new hr2 _)).trans (TupsStay.lst hW3)
      have tA := ((t1.trans t2).trans (tups_of sm3)).trans t3
      refine ⟨_, ?_, some (.ref p), wr ++ ts.reverse, fs ++ [.ref p], cr ++ (kids c.2).reverse, ps ++ [c], rfl, same_put (same_put (sm2.trans sm3) hH2) hwt'', ?_, upd_same, ?_, ?_, fun d hd => ?_, fun d hd => ?_, rfl, ?_⟩
      · omega
      · rw [upd_ne (Ne.symm n3), upd_ne hr2f]
        exact sm3 _ _ hF2
      · exact PartsN.app (PartsN.mono tA par') (PartsN.mono t3 (PartsN.rev pa3))
      · exact PartsN.app (PartsN.mono tA pf) (.cons ⟨p, y, rfl, tA _ _ hp, rc⟩ .nil)
      · rcases List.mem_append.mp hd with hd | hd
        · exact okc d (List.mem_append_left _ hd)
        · exact kids_ok (okc c (by simp)).1 d (List.mem_reverse.mp hd)
      · rcases List.mem_append.mp hd with hd | hd
        · exact okp d hd
        · rw [List.mem_singleton.mp hd]
          exact okc c (by simp)
      · rw [List.map_append, List.append_assoc]
        rw [hcs] at hsum
        exact hsum
end
end K2
set_option Elab.async false
set_option linter.all false
set_option maxRecDepth 100000
set_option maxHeartbeats 4000000
namespace Rg
open PySem L2
section
variable (K : PySem.W.Frag)
theorem kit_str_int : PySem.W.kitOne K (.type "str") (.type "int") = some false := by kernel_rfl
theorem kit_list_int : PySem.W.kitOne K (.type "list") (.type "int") = some false := by kernel_rfl
theorem kit_dict_int : PySem.W.kitOne K (.type "dict") (.type "int") = some false := by kernel_rfl
theorem kit_int_str : PySem.W.kitOne K (.type "int") (.type "str") = some false := by kernel_rfl
theorem kit_str_str : PySem.W.kitOne K (.type "str") (.type "str") = some true := by kernel_rfl
theorem kit_list_str : PySem.W.kitOne K (.type "list") (.type "str") = some false := by kernel_rfl
theorem kit_dict_str : PySem.W.kitOne K (.type "dict") (.type "str") = some false := by kernel_rfl
end
def isN : Th → Bool
  | .num _ => true
  | _ => false
def isW : Th → Bool
  | .word _ => true
  | _ => false
theorem kit_num (K : PySem.W.Frag) : ∀ t : Th, PySem.W.kitOne K (.type t.ty) (.type "int") = some (isN t)
  | .num _ => kit_int_int K
  | .word _ => kit_str_int K
  | .row _ => kit_list_int K
  | .dic _ => kit_dict_int K
theorem kit_word (K : PySem.W.Frag) : ∀ t : Th, PySem.W.kitOne K (.type t.ty) (.type "str") = some (isW t)
  | .num _ => kit_int_str K
  | .word _ => kit_str_str K
  | .row _ => kit_list_str K
  | .dic _ => kit_dict_str K
theorem kit_holds (K : PySem.W.Frag) (t : Th) : PySem.W.kitAny K (.type t.ty) [.type "list", .type "dict"] = some (isL t || isD t) := by
  unfold PySem.W.kitAny
  rw [kit_list]
  cases t with
  | row l => rfl
  | num i => show PySem.W.kitAny K (.type "int") [.type "dict"] = _; unfold PySem.W.kitAny; rw [kit_int_dict]; rfl
  | word i => show PySem.W.kitAny K (.type "str") [.type "dict"] = _; unfold PySem.W.kitAny; rw [kit_str_dict]; rfl
  | dic i => show PySem.W.kitAny K (.type "dict") [.type "dict"] = _; unfold PySem.W.kitAny; rw [kit_dict_dict]; rfl
theorem call_lenX {X : Cx} : CallR X (.builtin "len") (fun xs H Q => (∃ x n, xs = [x] ∧ LenV X.K x H n ∧ Q (.int n) H) ∨ ∃ a kvs, xs = [V.ref a] ∧ H a = some (.dK kvs) ∧ Q (.int kvs.length) H) := by
  intro pins s σ H xs us Q I r h
  rcases h with h | h
  · exact call_len pins s σ H xs us Q I r h
  · exact call_lenD pins s σ H xs us Q I r h
theorem paired_at {α β : Type} {F : α → β → Prop} : ∀ {xs : List α} {ys : List β}, Paired F xs ys → ∀ (i : Nat) (x : α), xs[i]? = some x → ∃ y, ys[i]? = some y ∧ F x y
  | _, _, .nil, i, x, h => by simp at h
  | _, _, .cons (b := b) r t, 0, x, h => by
    cases h
    exact ⟨b, rfl, r⟩
  | _, _, .cons r t, i + 1, x, h => by
    obtain ⟨y, h1, h2⟩ := paired_at t i x (by simpa using h)
    exact ⟨y, by simpa using h1, h2⟩
theorem kids_row_len (l : Ts) : (kids (.row l)).length = l.len := by show (l.toL.map _).length = _; rw [List.length_map, toL_len]
theorem kids_dic_len (l : Ts) : (kids (.dic l)).length = l.len := by show ((srt l.keys).map _).length = _; rw [List.length_map, (srt_perm l.keys).length_eq, Ts.keys_len]
end Rg
namespace K2
open PySem L2 Rg
section
variable {P : Program} {w : World} {K : PySem.W.Frag} {mg : Str → Option Value} {base : Heap} {f g g2 g3 : Addr} {fd gd gd2 gd3 : FuncData}
def spHeld : Sp := fun vs H Q _ => ∃ (H0 : Hp) (t : Th) (v : V), vs = [v] ∧ Same H0 H ∧ Rep H0 t v ∧ ∀ H', Same H H' → Q (.int ((kids t).length : Nat)) H'
theorem scHeld : FnScope ["thing"] ["thing"] (defScope sHeld) := ⟨rfl, rfl, rfl, by decide +kernel, rfl, by decide +kernel, by decide +kernel⟩
theorem ok_held (F : Fun K "held_by" "held_by" sHeld f fd) (B : Blt mg) : FnOk P w K mg base CX0 1 f fd ["thing"] spHeld := by
  refine F.ok scHeld (fun vs H Q E h => ?_) (fun cdv A outer s H vs Q E hr h => ?_)
  · obtain ⟨H0, t, v, rfl, _⟩ := h
    rfl
  obtain ⟨H0, t, v, rfl, sm0, rep0, q⟩ := h
  refine ⟨_, pss_cons (ps_if (pt_val (pe_callB call_isiT rfl B.isi PyProof.Rows.boot_isinstance (pa_cons (pv 0) (pa_cons (pe_tup (pa_cons (pe_bltn (v := .ty "list") rfl B.list PyProof.Rows.boot_list rfl) (pa_cons (pe_bltn (v := .ty "dict") rfl B.dict PyProof.Rows.boot_dict rfl) pa_nil))) pa_nil))))
      (pss_one (ps_ret (pe_callB call_lenX rfl B.len PySem.boot_len (pa_cons (pv 0) pa_nil)))) pss_nil)
    (pss_one (ps_ret pe_int)), ?_⟩
  refine ⟨_, rfl, (by show 2 ≤ sizeLine; decide), fun p hp => ?_⟩
  have sm := same_new (H := H) hp (.tup [.ty "list", .ty "dict"])
  have rep : Rep (upd H p (.tup [.ty "list", .ty "dict"])) t v := (rep0.mono sm0).mono sm
  refine ⟨v, p, ["list", "dict"], _, _, rfl, upd_same, rep.ty, kit_holds _ t, _, rfl, ?_⟩
  cases t with
  | num i => exact iteF (q _ sm)
  | word x => exact iteF (q _ sm)
  | row l =>
    obtain ⟨a, xs, rfl, h2, h3⟩ := (rep : ∃ a xs, v = V.ref a ∧ upd H p (.tup [.ty "list", .ty "dict"]) a = some (.lst xs) ∧ RepR _ l xs)
    refine iteT ⟨_, rfl, .inl ⟨.ref a, xs.length, rfl, .inl ⟨xs, SqL.of h2, rfl⟩, ?_⟩⟩
    rw [h3.len, ← kids_row_len]
    exact q _ sm
  | dic l =>
    obtain ⟨a, xs, rfl, h2, h3⟩ := (rep : ∃ a xs, v = V.ref a ∧ upd H p (.tup [.ty "list", .ty "dict"]) a = some (.dK xs) ∧ RepD _ l xs)
    refine iteT ⟨_, rfl, .inr ⟨a, xs, rfl, h2, ?_⟩⟩
    rw [h3.len, ← kids_dic_len]
    exact q _ sm
theorem kidsN_len (c : Str × Th) : (kidsN (nP c).2).length = (kids c.2).length := by
  show (kidsN (nrm c.2)).length = _
  rw [kids_nrm, List.length_map]
/-- the sizes, each at its place -/
def spSizes : Sp := fun vs H Q _ => ∃ (H0 : Hp) (a : Addr) (fs : List V) (ps : List (Str × Th)), vs = [.ref a] ∧ Same H0 H ∧ H a = some (.lst fs) ∧ PartsN H0 H fs ps ∧ ps.length ≤ 100 ∧ Good (ps.map nP) ∧
  ∀ (r : Addr) (H' : Hp), Same H H' → H' r = some (.lst ((szs (ps.map nP)).map fun n => V.int (n : Nat))) → Q (.ref r) H'
theorem scSizes : FnScope ["parts", "sizes", "waiting", "part", "size", "held"] ["parts"] (defScope sSizes) := ⟨rfl, rfl, rfl, by decide +kernel, rfl, by decide +kernel, by decide +kernel⟩
theorem szs_len : ∀ l : List (Str × Th), (szs l).length = l.length
  | [] => rfl
  | p :: r => by unfold szs; rw [List.length_cons, szs_len r]; rfl
theorem stk_len : ∀ l : List (Str × Th), (stk l).length ≤ l.length
  | [] => Nat.le_refl _
  | p :: r => by
    have z := stk_len r
    show ((stk r).drop _).length + 1 ≤ r.length + 1
    rw [List.length_drop]
    omega
theorem good_drop : ∀ (n : Nat) (l : List (Str × Th)), Good l → Good (l.drop n)
  | 0, _, h => h
  | n + 1, [], h => h
  | n + 1, _ :: r, h => good_drop n r h.2
theorem ok_sizes (F : Fun K "sizes_of" "sizes_of" sSizes f fd) (B : Blt mg) (G : FnOk P w K mg base CX0 1 g gd ["thing"] spHeld) (bG : Binds K gd ["thing"] []) (kG : PySem.W.keepIn K (.ref g) = true) (mG : mg "held_by" = some (.ref g)) :
    FnOk P w K mg base CX0 2 f fd ["parts"] spSizes := by
  refine F.ok scSizes (fun vs H Q E h => ?_) (fun cdv A outer s H vs Q E hr h => ?_)
  · obtain ⟨H0, a, fs, ps, rfl, _⟩ := h
    rfl
  obtain ⟨H0, a, fs, ps, rfl, sm0, ha, pa, h100, good, q⟩ := h
  have nd := scSizes.nd
  refine ⟨_, pss_cons (ps_set (i := 1) nd rfl (Or.inl rfl) (pe_lst pa_nil))
    (pss_cons (ps_set (i := 2) nd rfl (Or.inl rfl) (pe_lst pa_nil))
    (pss_cons (ps_for PassesOwn.never rfl (pi_rev rfl B.rev (pa_cons (pv 0) pa_nil)) (pg_name (i := 3) nd rfl (Or.inl rfl))
      (pss_cons (ps_set (i := 4) nd rfl (Or.inl rfl) pe_int)
      (pss_cons (ps_for PassesOwn.never rfl (pi_range1 rfl B.range (pa_cons (pe_call G hr rfl mG kG bG .nil pass0 (pa_cons (pe_ix ix_tup (pv 3) pe_int (fun _ _ => rfl)) pa_nil)) pa_nil)) (pg_name (i := 5) nd rfl (Or.inl rfl))
        (pss_one (ps_aug (i := 4) nd rfl (Or.inl rfl) (pe_bm0 PySem.F.plainAttrs_list PySem.F.slot_list_pop PySem.F.type_list_pop mt_pop (pv 2)) ip_add)))
      (pss_cons (ps_expr (pe_bm PySem.F.plainAttrs_list PySem.F.slot_list_append PySem.F.type_list_append mt_append (pv 2) (pa_cons (pv 4) pa_nil)))
      (pss_one (ps_expr (pe_bm PySem.F.plainAttrs_list PySem.F.slot_list_append PySem.F.type_list_append mt_append (pv 1) (pa_cons (pv 4) pa_nil))))))))
    (pss_one (ps_ret (pe_listrev rfl rfl B.list rfl B.rev (pv 1)))))), ?_⟩
  refine ⟨Nat.zero_le _, fun sz hsz => ⟨Nat.zero_le _, fun wt hwt => ?_⟩⟩
  obtain ⟨n1, hwt'⟩ := upd_none hwt
  have hfl := pa.len
  let I (n : Nat) : V := .int (n : Nat)
  let L := ps.map nP
  have hL : L.length = ps.length := List.length_map _
  have sm1 : Same H (upd (upd H sz (.lst [])) wt (.lst [])) := same_put (same_put (Same.refl H) hsz) hwt'
  refine ⟨_, rfl, a, fs, rfl, SqL.of (sm1 _ _ ha), for_rev (xs := fs) (fun i σ' H' => ∃ s3 s4 s5 : Option V, σ' = [some (.ref a), some (.ref sz), some (.ref wt), s3, s4, s5] ∧ Same H H' ∧ H' sz = some (.lst ((szs (L.drop (L.length - i))).reverse.map I)) ∧ H' wt = some (.lst ((stk (L.drop (L.length - i))).reverse.map I)))
    ⟨none, none, none, rfl, sm1, ?_, ?_⟩ (fun i σ' H' _ p => ?_) (fun i x σ' H' hx p => ?_) (fun σ' H' p => ?_)⟩
  · rw [upd_ne (Ne.symm n1), upd_same, Nat.sub_zero, List.drop_length]; rfl
  · rw [upd_same, Nat.sub_zero, List.drop_length]; rfl
  · obtain ⟨_, _, _, _, sm, _⟩ := p
    exact SqL.of (sm _ _ ha)
  · obtain ⟨s3, s4, s5, rfl, sm, hS, hW⟩ := p
    have hi : i < fs.length := by
      have z := (List.getElem?_eq_some_iff.mp hx).1
      rw [List.length_reverse] at z
      exact z
    rw [List.getElem?_reverse hi] at hx
    obtain ⟨c, hc, pt, y, rfl, hpt, ry⟩ := paired_at pa _ x hx
    have hLc : L[fs.length - 1 - i]? = some (nP c) := by
      show (ps.map nP)[_]? = _
      rw [List.getElem?_map, hc]
      rfl
    have hdrop : L.drop (L.length - (i + 1)) = nP c :: L.drop (L.length - i) := by
      have hlt : L.length - (i + 1) < L.length := by omega
      rw [List.drop_eq_getElem_cons hlt]
      have e1 : L.length - (i + 1) = fs.length - 1 - i := by omega
      have e2 : L[L.length - (i + 1)] = nP c := by
        have z : L[L.length - (i + 1)]? = some (nP c) := by rw [e1]; exact hLc
        exact Option.some.inj ((List.getElem?_eq_getElem hlt).symm.trans z)
      rw [e2]
      congr 2
      omega
    have gd1 : Good (nP c :: L.drop (L.length - i)) := by rw [← hdrop]; exact good_drop _ _ good
    generalize hS0 : L.drop (L.length - i) = S at hS hW hdrop gd1
    have hSl : S.length ≤ 100 := by rw [← hS0, List.length_drop]; omega
    have hkl : (kids c.2).length ≤ (stk S).length := by rw [← kidsN_len]; exact gd1.1
    have hstl := stk_len S
    have hszl := szs_len S
    have hptH : H' pt = some (.tup [.str c.1, y]) := sm _ _ hpt
    have e41 : (1 : Int) = ((1 + (((stk S).take 0).sum) : Nat) : Int) := by simp
    refine ⟨.ref pt, rfl, pt, _, 1, y, rfl, rfl, SqT.of hptH, rfl, H0, c.2, y, rfl, sm0.trans sm, ry, fun H2 sm2 => ?_⟩
    have hsz2 := sm2 _ _ hS
    have hwt2 := sm2 _ _ hW
    refine ⟨((kids c.2).length : Nat), rfl, by omega, by omega, for_range (n := (kids c.2).length) (fun j σ2 H3 => ∃ s5 : Option V, σ2 = [some (.ref a), some (.ref sz), some (.ref wt), some (.ref pt), some (I (1 + ((stk S).take j).sum)), s5] ∧ Same H H3 ∧ H3 sz = some (.lst ((szs S).reverse.map I)) ∧ H3 wt = some (.lst (((stk S).drop j).reverse.map I)))
      ⟨_, by show _ = [_, _, _, _, some (V.int ((1 + ((stk S).take 0).sum : Nat) : Int)), _]; rw [← e41]; rfl, sm.trans sm2, hsz2, by rw [List.drop_zero]; exact hwt2⟩ (fun j σ2 H3 hj p => ?_) (fun σ2 H3 p => ?_)⟩
    · obtain ⟨s5, rfl, sm3, hS3, hW3⟩ := p
      have hjl : j < (stk S).length := by omega
      have hd := List.drop_eq_getElem_cons hjl
      have hr : ((stk S).drop j).reverse.map I = ((stk S).drop (j + 1)).reverse.map I ++ [I (stk S)[j]] := by rw [hd, List.reverse_cons, List.map_append]; rfl
      rw [hr] at hW3
      refine ⟨_, rfl, _, rfl, .inl ⟨rfl, _, SqL.of hW3⟩, wt, _, I (stk S)[j], rfl, rfl, hW3, by simp, ?_⟩
      rw [List.dropLast_concat]
      refine ⟨_, _, rfl, rfl, ?_⟩
      have e5 : ((1 + ((stk S).take j).sum : Nat) : Int) + ((stk S)[j] : Nat) = ((1 + ((stk S).take (j + 1)).sum : Nat) : Int) := by
        rw [List.take_succ_eq_append_getElem hjl, List.sum_append, List.sum_singleton]
        omega
      exact ⟨_, congrArg (fun z => [some (V.ref a), some (.ref sz), some (.ref wt), some (.ref pt), some (V.int z), some (.int (0 + (j : Nat)))]) e5, same_put sm3 hwt', by rw [upd_ne (Ne.symm n1)]; exact hS3, upd_same⟩
    · obtain ⟨s5, rfl, sm3, hS3, hW3⟩ := p
      refine ⟨.ref wt, rfl, .inl ⟨rfl, _, SqL.of hW3⟩, _, rfl, wt, _, _, rfl, rfl, hW3, Nat.lt_of_lt_of_le (show _ < 1000 by rw [List.length_map, List.length_reverse, List.length_drop]; omega) (small (by decide)), ?_⟩
      have hS4 : upd H3 wt (.lst (((stk S).drop (kids c.2).length).reverse.map I ++ [I (1 + ((stk S).take (kids c.2).length).sum)])) sz = some (.lst ((szs S).reverse.map I)) := by rw [upd_ne (Ne.symm n1)]; exact hS3
      refine ⟨.ref sz, rfl, .inl ⟨rfl, _, SqL.of hS4⟩, _, rfl, sz, _, _, rfl, rfl, hS4, Nat.lt_of_lt_of_le (show _ < 1000 by rw [List.length_map, List.length_reverse]; omega) (small (by decide)), ?_⟩
      have hstk : stk (nP c :: S) = (1 + ((stk S).take (kids c.2).length).sum) :: (stk S).drop (kids c.2).length := by
        show (1 + ((stk S).take (kidsN (nP c).2).length).sum) :: (stk S).drop (kidsN (nP c).2).length = _
        rw [kidsN_len]
      have hszs : szs (nP c :: S) = (1 + ((stk S).take (kids c.2).length).sum) :: szs S := by
        show (stk (nP c :: S)).headD 0 :: szs S = _
        rw [hstk]
        rfl
      refine ⟨_, _, _, rfl, same_put (same_put sm3 hwt') hsz, ?_, ?_⟩
      · rw [upd_same, hdrop, hszs, List.reverse_cons, List.map_append]; rfl
      · rw [upd_ne n1, upd_same, hdrop, hstk, List.reverse_cons, List.map_append]; rfl
  · obtain ⟨s3, s4, s5, rfl, sm, hS, hW⟩ := p
    have e : L.length - fs.length = 0 := by omega
    rw [e, List.drop_zero] at hS
    refine ⟨.ref sz, rfl, sz, _, rfl, SqL.of hS, fun r hr' => ?_⟩
    refine q r _ (same_put sm (sm.free hr')) ?_
    rw [upd_same, ← List.map_reverse, List.reverse_reverse]
end
end K2
set_option Elab.async false
set_option linter.all false
set_option maxRecDepth 100000
set_option maxHeartbeats 4000000
namespace Rg
open PySem L2
structure LcSt2 (x y : Str) (fr : List (Str × Nat)) (scope sc : Scope) (N : List Str) : Prop where
  nocell : ∀ z ∈ scope.names, z.2 ≠ .cell
  kind : scope.kind = .function
  nm : ∀ z ∈ scope.names, z.2 = .local → scope.names.lookup z.1 = some .local
  hx : scope.names.lookup x = some .local
  hy : scope.names.lookup y = some .local
  nd : (blkN2 x y fr).Nodup
  free : ∀ z ∈ scope.names, z.2 = .free → sc.names.lookup z.1 = some .cell ∨ sc.names.lookup z.1 = some .free
  fr : ∀ p ∈ fr, N[p.2]? = some p.1 ∧ scope.names.lookup p.1 = some .free
theorem LcSt2.ok {X : Cx} {x y : Str} {fr : List (Str × Nat)} {scope sc : Scope} {N : List Str} (S : LcSt2 x y fr scope sc N) (h1 : X.env.scope = sc) (h2 : X.N = N) : LcOk2 X x y fr scope := by
  subst h1
  subst h2
  exact ⟨S.nocell, S.kind, S.nm, S.hx, S.hy, S.nd, S.free, S.fr⟩
theorem paired_app {α β : Type} {F : α → β → Prop} : ∀ {xs zs : List α} {ys ws : List β}, Paired F xs ys → Paired F zs ws → Paired F (xs ++ zs) (ys ++ ws)
  | _, _, _, _, .nil, h => h
  | _, _, _, _, .cons r t, h => .cons r (paired_app t h)
def ordI : Ordering → Int
  | .lt => -1
  | .eq => 0
  | .gt => 1
end Rg
namespace K2
open PySem L2 Rg
section
variable {P : Program} {w : World} {K : PySem.W.Frag} {mg : Str → Option Value} {base : Heap} {f g g2 g3 g4 : Addr} {fd gd gd2 gd3 gd4 : FuncData}
def spOwn : Sp := fun vs H Q _ => ∃ (H0 : Hp) (t : Th) (v : V), vs = [v] ∧ Same H0 H ∧ Rep H0 t v ∧ t.Ok ∧ ∀ (p : Addr) (H' : Hp) (xs : List V), Same H H' → H' p = some (.tup xs) → OwnV H' t.own xs → xs ≠ [] → xs.length ≤ 3 → Q (.ref p) H'
theorem scOwn : FnScope ["thing"] ["thing"] (defScope sOwn) := ⟨rfl, rfl, rfl, by decide +kernel, rfl, by decide +kernel, by decide +kernel⟩
theorem ok_own (F : Fun K "own_key" "own_key" sOwn f fd) (B : Blt mg) (G : FnOk P w K mg base CX0 1 g gd ["word"] spKey) (bG : Binds K gd ["word"] []) (kG : PySem.W.keepIn K (.ref g) = true) (mG : mg "word_key" = some (.ref g)) :
    FnOk P w K mg base CX0 2 f fd ["thing"] spOwn := by
  refine F.ok scOwn (fun vs H Q E h => ?_) (fun cdv A outer s H vs Q E hr h => ?_)
  · obtain ⟨H0, t, v, rfl, _⟩ := h
    rfl
  obtain ⟨H0, t, v, rfl, sm0, rep0, ok, q⟩ := h
  have rep := rep0.mono sm0
  refine ⟨_, pss_cons (ps_if (pt_val (pe_callB call_isi rfl B.isi PyProof.Rows.boot_isinstance (pa_cons (pv 0) (pa_cons (pe_bltn (v := .ty "int") rfl B.int PyProof.Rows.boot_int rfl) pa_nil))))
      (pss_one (ps_ret (pe_tup (pa_cons pe_int (pa_cons (pe_callB call_abs rfl B.abs PyProof.Rows.boot_abs (pa_cons (pv 0) pa_nil)) (pa_cons (pe_ifExp (pt_cmpR op_lt (pv 0) pe_int (nomark _)) pe_int pe_int) pa_nil)))))) pss_nil)
    (pss_cons (ps_if (pt_val (pe_callB call_isi rfl B.isi PyProof.Rows.boot_isinstance (pa_cons (pv 0) (pa_cons (pe_bltn (v := .ty "str") rfl B.str PyProof.Rows.boot_str rfl) pa_nil))))
      (pss_one (ps_ret (pe_tup (pa_cons pe_int (pa_cons (pe_call G hr rfl mG kG bG .nil pass0 (pa_cons (pv 0) pa_nil)) pa_nil))))) pss_nil)
    (pss_cons (ps_if (pt_val (pe_callB call_isi rfl B.isi PyProof.Rows.boot_isinstance (pa_cons (pv 0) (pa_cons (pe_bltn (v := .ty "list") rfl B.list PyProof.Rows.boot_list rfl) pa_nil))))
      (pss_one (ps_ret (pe_tup (pa_cons pe_int pa_nil)))) pss_nil)
    (pss_one (ps_ret (pe_tup (pa_cons pe_int pa_nil)))))), ?_⟩
  refine ⟨_, rfl, v, "int", _, _, rfl, rep.ty, kit_num _ t, _, rfl, ?_⟩
  cases t with
  | num i =>
    have ev : v = .int i := rep
    subst ev
    refine iteT ⟨_, rfl, i, rfl, _, rfl, _, _, rfl, rfl, _, rfl, ?_⟩
    have e1 : (if i < 0 then -i else i) = ((i.natAbs : Nat) : Int) := by split <;> omega
    have key : ∀ n : Int, n = neg i → ([V.int 0, .int (if i < 0 then -i else i), .int n] : List V).length ≤ sizeLine ∧ ∀ p, H p = none → Q (.ref p) (upd H p (.tup [V.int 0, .int (if i < 0 then -i else i), .int n])) := fun n hn => by
      refine ⟨(by show 3 ≤ sizeLine; decide), fun p hp => ?_⟩
      rw [hn, e1]
      exact q p _ _ (same_new hp _) upd_same rfl (by simp) (Nat.le_refl 3)
    refine ite2 (fun c => ?_) (fun c => ?_)
    · have hneg : i < 0 := of_decide_eq_true c
      exact key 1 (by unfold neg; rw [if_pos hneg])
    · have hneg : ¬ i < 0 := of_decide_eq_false (Bool.eq_false_iff.mpr c)
      exact key 0 (by unfold neg; rw [if_neg hneg])
  | word x =>
    have ev : v = .str x := rep
    subst ev
    refine iteF ⟨_, rfl, .str x, "str", _, _, rfl, rep.ty, kit_word _ (.word x), _, rfl, iteT ⟨_, rfl, x, rfl, Nat.le_trans (show x.length ≤ 100 from ok) (by decide), fun p1 hp1 => ⟨(by show 2 ≤ sizeLine; decide), fun p hp => ?_⟩⟩⟩
    exact q p _ _ ((same_new hp1 _).trans (same_new hp _)) upd_same ⟨_, rfl, p1, rfl, by rw [upd_ne (upd_none hp).1.symm, upd_same]⟩ (by simp) (by show 2 ≤ 3; decide)
  | row l =>
    refine iteF ⟨_, rfl, v, "str", _, _, rfl, rep.ty, kit_word _ (.row l), _, rfl, iteF ⟨_, rfl, v, "list", _, _, rfl, rep.ty, kit_list _ (.row l), _, rfl, iteT ⟨(by show 1 ≤ sizeLine; decide), fun p hp => ?_⟩⟩⟩
    exact q p _ _ (same_new hp _) upd_same rfl (by simp) (by show 1 ≤ 3; decide)
  | dic l =>
    refine iteF ⟨_, rfl, v, "str", _, _, rfl, rep.ty, kit_word _ (.dic l), _, rfl, iteF ⟨_, rfl, v, "list", _, _, rfl, rep.ty, kit_list _ (.dic l), _, rfl, iteF ⟨(by show 1 ≤ sizeLine; decide), fun p hp => ?_⟩⟩⟩
    exact q p _ _ (same_new hp _) upd_same rfl (by simp) (by show 1 ≤ 3; decide)
/-- the key of a thing -/
def spOrderKey : Sp := fun vs H Q _ => ∃ (t : Th) (v : V), vs = [v] ∧ Rep H t v ∧ t.Ok ∧ t.size ≤ 100 ∧ ∀ (r : Addr) (H' : Hp) (ks : List V), Same H H' → H' r = some (.lst ks) → KtsRep H' ks (keyT Str.empty (nrm t)) → Q (.ref r) H'
theorem scOrderKey : FnScope ["thing", "parts"] ["thing"] (defScope sOrderKey) := ⟨rfl, rfl, rfl, by decide +kernel, rfl, by decide +kernel, by decide +kernel⟩
theorem ok_orderKey (F : Fun K "order_key" "order_key" sOrderKey f fd) (B : Blt mg)
    (W : FnOk P w K mg base CX0 6 g gd ["thing"] spWalked) (bW : Binds K gd ["thing"] []) (kW : PySem.W.keepIn K (.ref g) = true) (mW : mg "walked" = some (.ref g))
    (Z : FnOk P w K mg base CX0 2 g2 gd2 ["parts"] spSizes) (bZ : Binds K gd2 ["parts"] []) (kZ : PySem.W.keepIn K (.ref g2) = true) (mZ : mg "sizes_of" = some (.ref g2))
    (G : FnOk P w K mg base CX0 1 g3 gd3 ["word"] spKey) (bG : Binds K gd3 ["word"] []) (kG : PySem.W.keepIn K (.ref g3) = true) (mG : mg "word_key" = some (.ref g3))
    (O : FnOk P w K mg base CX0 2 g4 gd4 ["thing"] spOwn) (bO : Binds K gd4 ["thing"] []) (kO : PySem.W.keepIn K (.ref g4) = true) (mO : mg "own_key" = some (.ref g4)) :
    FnOk P w K mg base CX0 7 f fd ["thing"] spOrderKey := by
  refine F.ok scOrderKey (fun vs H Q E h => ?_) (fun cdv A outer s H vs Q E hr h => ?_)
  · obtain ⟨t, v, rfl, _⟩ := h
    rfl
  obtain ⟨t, v, rfl, rep, ok, hz, q⟩ := h
  have nd := scOrderKey.nd
  have r2 := hr.mono (show 2 ≤ 6 by decide)
  have r1 := hr.mono (show 1 ≤ 6 by decide)
  refine ⟨_, pss_cons (ps_set (i := 1) nd rfl (Or.inl rfl) (pe_call W hr rfl mW kW bW .nil pass0 (pa_cons (pv 0) pa_nil)))
    (pss_one (ps_ret (pe_lc2 (fr := []) rfl (pi_zip rfl B.zip (pa_cons (pv 1) (pa_cons (pe_call Z r2 rfl mZ kZ bZ .nil pass0 (pa_cons (pv 1) pa_nil)) pa_nil)))
      (LcSt2.ok (sc := defScope sOrderKey) (N := ["thing", "parts"]) ⟨by decide +kernel, rfl, by decide +kernel, rfl, rfl, by decide +kernel, by decide +kernel, by decide +kernel⟩ rfl rfl)
      fun fp C s H => pe_op (show OpR _ _ (rCatT K) from op_catT) (pe_tup (pa_cons (pe_call G r1 rfl mG kG bG .nil pass0 (pa_cons (pe_ix (show IxR _ (rIxT K) from ix_tup) (pv 0) pe_int (fun _ _ => rfl)) pa_nil)) (pa_cons (pv 1) pa_nil)))
        (pe_call O r2 rfl mO kO bO .nil pass0 (pa_cons (pe_ix (show IxR _ (rIxT K) from ix_tup) (pv 0) pe_int (fun _ _ => rfl)) pa_nil))))), ?_⟩
  refine ⟨_, rfl, t, v, rfl, rep, ok, hz, fun r1' H1 fs ps sm1 hr1 pa okp epre => ?_⟩
  have hpl : ps.length = t.size := by
    have z := congrArg List.length epre
    rw [List.length_map, pre_len, nrm_size t ok] at z
    exact z
  have hfl := pa.len
  refine ⟨.ref r1', rfl, .ref r1', rfl, H, r1', fs, ps, rfl, sm1, hr1, pa, by omega, by rw [epre]; exact good_all _ _, fun z H2 sm2 hz2 => ?_⟩
  rw [epre, szs_all] at hz2
  have hkey : (pre Str.empty (nrm t)).map ktOf = keyT Str.empty (nrm t) := (key_pre (nrm t) Str.empty).symm
  let L := pre Str.empty (nrm t)
  have hL : L.length = t.size := by show (pre Str.empty (nrm t)).length = _; rw [pre_len, nrm_size t ok]
  have hfs2 := sm2 _ _ hr1
  let ys : List V := (L.map fun p => p.2.size).map fun n => V.int (n : Nat)
  have hyl : ys.length = t.size := by show ((L.map fun p => p.2.size).map fun n => V.int (n : Nat)).length = _; rw [List.length_map, List.length_map, hL]
  have hmin : min fs.length ys.length = t.size := by omega
  refine ⟨r1', z, rfl, ⟨fs, SqL.of hfs2⟩, ⟨ys, SqL.of hz2⟩, lc_zip (xs := fs) (ys := ys) (fun i zs H' => Same H2 H' ∧ KtsRep H' zs ((L.take i).map ktOf) ∧ zs.length = i) (small (by omega)) ⟨Same.refl H2, .nil, rfl⟩ (fun i zs H' _ p => ⟨SqL.of (p.1 _ _ hfs2), SqL.of (p.1 _ _ hz2), p.2.2⟩) (fun i x y zs T H' hx hy hT p => ?_) (fun zs H' p r hr' => ?_)⟩
  · obtain ⟨sm, kr, hzl⟩ := p
    obtain ⟨c, hc, pt, vy, rfl, hpt, ry⟩ := paired_at pa i x hx
    have hLi : L[i]? = some (nP c) := by show (pre Str.empty (nrm t))[i]? = _; rw [← epre, List.getElem?_map, hc]; rfl
    have hyi : y = .int (((nrm c.2).size : Nat) : Int) := by
      have z1 : ((L.map fun p => p.2.size).map fun n => V.int (n : Nat))[i]? = some y := hy
      rw [List.getElem?_map, List.getElem?_map, hLi] at z1
      exact (Option.some.inj z1).symm
    subst hyi
    have okc := okp c (List.mem_of_getElem? hc)
    have smT := same_new hT (.tup [V.ref pt, V.int (((nrm c.2).size : Nat) : Int)])
    have hptT : upd H' T (.tup [V.ref pt, V.int (((nrm c.2).size : Nat) : Int)]) pt = some (.tup [.str c.1, vy]) := smT _ _ (sm _ _ (sm2 _ _ hpt))
    refine ⟨_, rfl, pt, _, 0, .str c.1, rfl, rfl, SqT.of hptT, rfl, c.1, rfl, Nat.le_trans okc.2 (by decide), fun p1 hp1 => ⟨_, rfl, (by show 2 ≤ sizeLine; decide), fun p2 hp2 => ?_⟩⟩
    have s1 := same_new hp1 (.tup (keyV c.1))
    have s2 := same_new hp2 (.tup [V.ref p1, V.int (((nrm c.2).size : Nat) : Int)])
    have sA := s1.trans s2
    refine ⟨_, rfl, pt, _, 1, vy, rfl, rfl, SqT.of (sA _ _ hptT), rfl, H, c.2, vy, rfl, (((sm1.trans sm2).trans sm).trans smT).trans sA, ry, okc.1, fun p3 H3 xs sm3 hp3 hown hne hx3 => ?_⟩
    refine ⟨p2, p3, _, xs, rfl, rfl, SqT.of (sm3 _ _ upd_same), SqT.of hp3, by simp, small (show 2 + xs.length ≤ 1000 by omega), fun e => absurd e hne, fun _ p4 hp4 => ?_⟩
    have s4 := same_new hp4 (.tup ([V.ref p1, V.int (((nrm c.2).size : Nat) : Int)] ++ xs))
    have sB := ((smT.trans sA).trans sm3).trans s4
    refine ⟨sm.trans sB, ?_, by rw [List.length_append, hzl]; rfl⟩
    rw [List.take_succ, hLi, List.map_append]
    refine paired_app (Paired.mapP kr fun _ _ h => KtRep.mono (tups_of sB) h) (.cons ⟨p4, .ref p1, xs, rfl, upd_same, ⟨p1, rfl, s4 _ _ (sm3 _ _ (s2 _ _ upd_same))⟩, ?_⟩ .nil)
    have e : (ktOf (nP c)).own = c.2.own := nrm_own c.2
    rw [e]
    exact hown.mono (tups_of s4)
  · obtain ⟨sm, kr, hzl⟩ := p
    rw [hmin, List.take_of_length_le (by omega)] at kr
    have sm3 := same_new hr' (.lst zs)
    refine q r _ zs (((sm1.trans sm2).trans sm).trans sm3) upd_same ?_
    rw [← hkey]
    exact Paired.mapP kr fun _ _ h => KtRep.mono (tups_of sm3) h
/-- the order of two things -/
def spCompared : Sp := fun vs H Q _ => ∃ (t t' : Th) (v v' : V), vs = [v, v'] ∧ Rep H t v ∧ Rep H t' v' ∧ t.Ok ∧ t'.Ok ∧ t.size ≤ 100 ∧ t'.size ≤ 100 ∧ ∀ H', Same H H' → Q (.int (ordI (ordT (nrm t) (nrm t')))) H'
theorem scCompared : FnScope ["one", "other", "one_key", "other_key"] ["one", "other"] (defScope sCompared) := ⟨rfl, rfl, rfl, by decide +kernel, rfl, by decide +kernel, by decide +kernel⟩
theorem ok_compared (F : Fun K "compared" "compared" sCompared f fd) (G : FnOk P w K mg base CX0 7 g gd ["thing"] spOrderKey) (bG : Binds K gd ["thing"] []) (kG : PySem.W.keepIn K (.ref g) = true) (mG : mg "order_key" = some (.ref g)) :
    FnOk P w K mg base CX0 8 f fd ["one", "other"] spCompared := by
  refine F.ok scCompared (fun vs H Q E h => ?_) (fun cdv A outer s H vs Q E hr h => ?_)
  · obtain ⟨t, t', v, v', rfl, _⟩ := h
    rfl
  obtain ⟨t, t', v, v', rfl, rep, rep', ok, ok', hz, hz', q⟩ := h
  have nd := scCompared.nd
  refine ⟨_, pss_cons (ps_set (i := 2) nd rfl (Or.inl rfl) (pe_call G hr rfl mG kG bG .nil pass0 (pa_cons (pv 0) pa_nil)))
    (pss_cons (ps_set (i := 3) nd rfl (Or.inl rfl) (pe_call G hr rfl mG kG bG .nil pass0 (pa_cons (pv 1) pa_nil)))
    (pss_cons (ps_if (pt_cmpR (op_eqK hr) (pv 2) (pv 3) (nomark _)) (pss_one (ps_ret pe_int)) pss_nil)
    (pss_one (ps_ret (pe_ifExp (pt_cmpR (op_ltK hr) (pv 2) (pv 3) (nomark _)) (pe_un un_neg pe_int) pe_int))))), ?_⟩
  refine ⟨_, rfl, t, v, rfl, rep, ok, hz, fun r1 H1 ks sm1 hr1 kr1 => ?_⟩
  refine ⟨_, rfl, t', v', rfl, rep'.mono sm1, ok', hz', fun r2 H2 ks' sm2 hr2 kr2 => ?_⟩
  have kr1' : KtsRep H2 ks (keyT Str.empty (nrm t)) := Paired.mapP kr1 fun _ _ h => KtRep.mono (tups_of sm2) h
  have hq := q H2 (sm1.trans sm2)
  rw [← ord_by_key] at hq
  refine ⟨_, rfl, _, rfl, r1, r2, ks, ks', _, _, rfl, rfl, sm2 _ _ hr1, hr2, kr1', kr2, _, rfl, ?_⟩
  cases e : cmpL (keyT Str.empty (nrm t)) (keyT Str.empty (nrm t')) with
  | eq => rw [e] at hq; exact iteT hq
  | lt =>
    refine iteF ⟨_, rfl, _, rfl, r1, r2, ks, ks', _, _, rfl, rfl, sm2 _ _ hr1, hr2, kr1', kr2, _, rfl, ?_⟩
    rw [e] at hq ⊢
    exact iteT ⟨_, rfl, hq⟩
  | gt =>
    refine iteF ⟨_, rfl, _, rfl, r1, r2, ks, ks', _, _, rfl, rfl, sm2 _ _ hr1, hr2, kr1', kr2, _, rfl, ?_⟩
    rw [e] at hq ⊢
    exact iteF hq
end
end K2
set_option Elab.async false
set_option linter.all false
set_option maxRecDepth 100000
set_option maxHeartbeats 4000000
namespace K2
open PySem L2 Rg
section
variable {P : Program} {w : World} {K : PySem.W.Frag} {mg : Str → Option Value} {base : Heap} {f g : Addr} {fd gd : FuncData}
theorem pick {H : Hp} {p : Addr} {xs : List V} {j : Int} {Q : VK} (h0 : 0 ≤ j) (h1 : j < (xs.length : Int)) (q : ∀ v, atI xs j = some v → v ∈ xs → Q v (upd H p (.lst xs))) : rIxL K (.ref p) (.int j) (upd H p (.lst xs)) Q := by
  obtain ⟨v, e, m⟩ := atI_mem h0 h1
  exact ⟨p, xs, j, v, rfl, rfl, SqL.of upd_same, e, q v e m⟩
def spMixed : Sp := fun vs H Q _ => ∃ n k : Int, vs = [.int n, .int k] ∧ 0 ≤ k ∧ k ≤ 1000 ∧ ∀ m : Int, 0 ≤ m → m < 998244353 → Q (.int m) H
theorem scMixed : FnScope ["_law_number", "_law_k", "_law_once"] ["_law_number", "_law_k"] (defScope sMixed) := ⟨rfl, rfl, rfl, by decide +kernel, rfl, by decide +kernel, by decide +kernel⟩
theorem ok_mixed (F : Fun K "_law_mixed" "_law_mixed" sMixed f fd) : FnOk P w K mg base CX0 1 f fd ["_law_number", "_law_k"] spMixed := by
  refine F.ok scMixed (fun vs H Q E h => ?_) (fun cdv A outer s H vs Q E hr h => ?_)
  · obtain ⟨n, k, rfl, _⟩ := h
    rfl
  obtain ⟨n, k, rfl, hk0, hk1, q⟩ := h
  have nd := scMixed.nd
  refine ⟨_, pss_cons (ps_set (i := 2) nd rfl (Or.inl rfl) (pe_op op_mod (pe_op op_mul (pe_op op_add (pe_op op_add (pe_op op_mod (pv 0) pe_int) (pe_op op_mul pe_int (pv 1))) pe_int) pe_int) pe_int))
    (pss_one (ps_ret (pe_op op_mod (pe_op op_mul (pv 2) (pe_op op_add (pe_op op_add (pe_op op_mod (pv 2) pe_int) (pv 1)) pe_int)) pe_int))), ?_⟩
  refine ⟨_, rfl, _, _, rfl, rfl, (by show (0 : Int) < 1000000007; decide), _, rfl, _, _, rfl, rfl, .inl ⟨by decide, by decide⟩, _, _, rfl, rfl, _, _, rfl, rfl, _, _, rfl, rfl, .inr ⟨by decide, by decide⟩, _, _, rfl, rfl, (by show (0 : Int) < 2147483647; decide), ?_⟩
  generalize (n % 1000000007 + 7 * k + 1) * 48271 = z
  refine ⟨_, rfl, _, rfl, _, _, rfl, rfl, (by show (0 : Int) < 1009; decide), _, rfl, _, _, rfl, rfl, _, _, rfl, rfl, _, _, rfl, rfl, .inl ⟨by omega, by omega⟩, _, _, rfl, rfl, (by show (0 : Int) < 998244353; decide), ?_⟩
  generalize z % 2147483647 * (z % 2147483647 % 1009 + k + 3) = y
  exact q _ (by omega) (by omega)
def spNumber : Sp := fun vs H Q _ => ∃ n : Int, vs = [.int n] ∧ 0 ≤ n ∧ n < 998244353 ∧ ∀ (i : Int) (H' : Hp), Same H H' → Q (.int i) H'
theorem scNumber : FnScope ["_law_number"] ["_law_number"] (defScope sNumber) := ⟨rfl, rfl, rfl, by decide +kernel, rfl, by decide +kernel, by decide +kernel⟩
theorem ok_number (F : Fun K "_law_number_by" "_law_number_by" sNumber f fd) : FnOk P w K mg base CX0 1 f fd ["_law_number"] spNumber := by
  refine F.ok scNumber (fun vs H Q E h => ?_) (fun cdv A outer s H vs Q E hr h => ?_)
  · obtain ⟨n, rfl, _⟩ := h
    rfl
  obtain ⟨n, rfl, h0, h1, q⟩ := h
  refine ⟨_, pss_one (ps_ret (pe_ix ix_list (pe_lst (pa_cons (pe_op op_sub (pe_op op_mod (pe_op op_fdiv (pv 0) pe_int) pe_int) pe_int)
    (pa_cons (pe_op op_mod (pe_op op_fdiv (pv 0) pe_int) pe_int)
    (pa_cons (pe_op op_mod (pe_op op_mul (pv 0) (pe_op op_pow pe_int pe_int)) (pe_op op_pow pe_int pe_int))
    (pa_cons (pe_op op_sub pe_int (pe_op op_mul (pv 0) (pe_op op_pow pe_int pe_int))) pa_nil)))))
    (pe_op op_fdiv (pe_op op_mod (pv 0) pe_int) pe_int) (fun _ _ => rfl))), ?_⟩
  refine ⟨_, rfl, _, _, rfl, rfl, ⟨by decide, by decide⟩, _, _, rfl, rfl, (by show (0 : Int) < 9; decide), _, _, rfl, rfl, ?_⟩
  refine ⟨_, rfl, _, _, rfl, rfl, ⟨by decide, by decide⟩, _, _, rfl, rfl, (by show (0 : Int) < 3; decide), ?_⟩
  refine ⟨_, rfl, _, _, rfl, rfl, ⟨by decide, by decide, by decide⟩, _, _, rfl, rfl, .inl ⟨by omega, by omega⟩, _, _, rfl, rfl, ⟨by decide, by decide, by decide⟩, _, _, rfl, rfl, (by show (0 : Int) < 10 ^ 59; decide), ?_⟩
  refine ⟨_, rfl, _, _, rfl, rfl, ⟨by decide, by decide, by decide⟩, _, _, rfl, rfl, .inl ⟨by omega, by omega⟩, _, _, rfl, rfl, ?_⟩
  refine ⟨(by show 4 ≤ sizeLine; decide), fun p hp => ?_⟩
  refine ⟨_, rfl, _, _, rfl, rfl, (by show (0 : Int) < 8; decide), _, _, rfl, rfl, ⟨by decide, by decide⟩, ?_⟩
  refine pick (by omega) (by show _ < (4 : Int); omega) fun v _ hm => ?_
  have hv : ∃ i, v = V.int i := by
    rcases List.mem_cons.mp hm with rfl | hm
    · exact ⟨_, rfl⟩
    · rcases List.mem_cons.mp hm with rfl | hm
      · exact ⟨_, rfl⟩
      · rcases List.mem_cons.mp hm with rfl | hm
        · exact ⟨_, rfl⟩
        · rw [List.mem_singleton.mp hm]
          exact ⟨_, rfl⟩
  obtain ⟨i, rfl⟩ := hv
  exact q i _ (same_new hp _)
/-- the five words -/
def wordAt (i : Int) : Str := if i = 0 then "a" else if i = 1 then "b" else if i = 2 then "c" else if i = 3 then "ab" else "ba"
theorem wordAt_len (i : Int) : (wordAt i).length ≤ 100 := by
  unfold wordAt
  split
  · decide
  · split
    · decide
    · split
      · decide
      · split
        · decide
        · decide
theorem wordAt_inj {i j : Int} (hi : 0 ≤ i) (hi' : i < 5) (hj : 0 ≤ j) (hj' : j < 5) (h : wordAt i = wordAt j) : i = j := by
  have hi2 : i = 0 ∨ i = 1 ∨ i = 2 ∨ i = 3 ∨ i = 4 := by omega
  have hj2 : j = 0 ∨ j = 1 ∨ j = 2 ∨ j = 3 ∨ j = 4 := by omega
  rcases hi2 with rfl | rfl | rfl | rfl | rfl <;> rcases hj2 with rfl | rfl | rfl | rfl | rfl <;> first | rfl | exact absurd h (by decide)
def spWordBy : Sp := fun vs H Q _ => ∃ n : Int, vs = [.int n] ∧ ∀ H' : Hp, Same H H' → Q (.str (wordAt (n % 5))) H'
theorem scWord : FnScope ["_law_number"] ["_law_number"] (defScope sWord) := ⟨rfl, rfl, rfl, by decide +kernel, rfl, by decide +kernel, by decide +kernel⟩
theorem ok_word (F : Fun K "_law_word_by" "_law_word_by" sWord f fd) : FnOk P w K mg base CX0 1 f fd ["_law_number"] spWordBy := by
  refine F.ok scWord (fun vs H Q E h => ?_) (fun cdv A outer s H vs Q E hr h => ?_)
  · obtain ⟨n, rfl, _⟩ := h
    rfl
  obtain ⟨n, rfl, q⟩ := h
  refine ⟨_, pss_one (ps_ret (pe_ix ix_list (pe_lst (pa_cons pe_str (pa_cons pe_str (pa_cons pe_str (pa_cons pe_str (pa_cons pe_str pa_nil)))))) (pe_op op_mod (pv 0) pe_int) (fun _ _ => rfl))), ?_⟩
  refine ⟨(by show 5 ≤ sizeLine; decide), fun p hp => ?_⟩
  refine ⟨_, rfl, _, _, rfl, rfl, (by show (0 : Int) < 5; decide), ?_⟩
  have q' := q _ (same_new hp (.lst [.str "a", .str "b", .str "c", .str "ab", .str "ba"]))
  have hn : n % 5 = 0 ∨ n % 5 = 1 ∨ n % 5 = 2 ∨ n % 5 = 3 ∨ n % 5 = 4 := by omega
  show rIxL K (.ref p) (.int (n % 5)) (upd H p (.lst [.str "a", .str "b", .str "c", .str "ab", .str "ba"])) Q
  rcases hn with e | e | e | e | e
  all_goals
    rw [e] at q'
    rw [e]
    exact ⟨p, _, _, _, rfl, rfl, SqL.of upd_same, rfl, q'⟩
end
end K2
namespace K2
open PySem L2 Rg
/-- how large a drawn thing may be -/
def bnd : Nat → Nat
  | 0 => 1
  | d + 1 => 3 * bnd d + 1
def spThing (d : Nat) : Sp := fun vs H Q _ => ∃ n : Int, vs = [.int n, .int (d : Nat)] ∧ 0 ≤ n ∧ n < 998244353 ∧ ∀ (v : V) (H' : Hp) (t : Th), Same H H' → Rep (newOf H H') t v → t.Ok → t.size ≤ bnd d → Q v H'
theorem bnd_pos : ∀ d, 1 ≤ bnd d
  | 0 => Nat.le_refl _
  | d + 1 => by show 1 ≤ 3 * bnd d + 1; omega
theorem words_new {m : Int} {i : Nat} (hi : i < 3) : ¬ wordAt ((m + i) % 5) ∈ (List.range i).map (fun (j : Nat) => wordAt ((m + j) % 5)) := fun h => by
  obtain ⟨j, hj, e⟩ := List.mem_map.mp h
  have hj' := List.mem_range.mp hj
  have z := wordAt_inj (by omega) (by omega) (by omega) (by omega) e
  omega
theorem nodup_words {m : Int} : ∀ i : Nat, i ≤ 3 → ((List.range i).map (fun (j : Nat) => wordAt ((m + j) % 5))).Nodup
  | 0, _ => List.nodup_nil
  | i + 1, h => by
    rw [List.range_succ, List.map_append]
    exact nd_snoc (nodup_words i (by omega)) (words_new (by omega))
/-- the def's own calls: none at the deepest -/
def spRec : Nat → Sp
  | 0 => fun _ _ _ _ => False
  | d + 1 => spThing d
section
variable {P : Program} {w : World} {K : PySem.W.Frag} {mg : Str → Option Value} {base : Heap} {f fm fn fw : Addr} {fd dm dn dw : FuncData}
theorem scThing : FnScope ["_law_number", "_law_deep", "_law_rest", "_law_k", "_law_made"] ["_law_number", "_law_deep"] (defScope sThing) := ⟨rfl, rfl, rfl, by decide +kernel, rfl, by decide +kernel, by decide +kernel⟩
theorem ok_thing {d : Nat} (F : Fun K "_law_thing_by" "_law_thing_by" sThing f fd) (B : Blt mg) (bF : Binds K fd ["_law_number", "_law_deep"] []) (mF : mg "_law_thing_by" = some (.ref f)) (G : FnOk P w K mg base CX0 (d + 1) f fd ["_law_number", "_law_deep"] (spRec d))
    (M : FnOk P w K mg base CX0 1 fm dm ["_law_number", "_law_k"] spMixed) (bM : Binds K dm ["_law_number", "_law_k"] []) (kM : PySem.W.keepIn K (.ref fm) = true) (mM : mg "_law_mixed" = some (.ref fm))
    (N : FnOk P w K mg base CX0 1 fn dn ["_law_number"] spNumber) (bN : Binds K dn ["_law_number"] []) (kN : PySem.W.keepIn K (.ref fn) = true) (mN : mg "_law_number_by" = some (.ref fn))
    (W : FnOk P w K mg base CX0 1 fw dw ["_law_number"] spWordBy) (bW : Binds K dw ["_law_number"] []) (kW : PySem.W.keepIn K (.ref fw) = true) (mW : mg "_law_word_by" = some (.ref fw)) :
    FnOk P w K mg base CX0 (d + 2) f fd ["_law_number", "_law_deep"] (spThing d) := by
  refine F.ok scThing (fun vs H Q E h => ?_) (fun cdv A outer s H vs Q E hr h => ?_)
  · obtain ⟨n, rfl, _⟩ := h
    rfl
  obtain ⟨n, rfl, h0, h1, q⟩ := h
  have nd := scThing.nd
  have hu := hu_of hr
  have r1 : Room 1 (A.deeper (PyProof.Rows.envOfC "_law_thing_by" (defScope sThing) s.heap.objs.size f cdv)) := hr.mono (by omega)
  have rest : ∃ t, PSs (cxOf CX0 P w K mg base ["_law_number", "_law_deep", "_law_rest", "_law_k", "_law_made"] "_law_thing_by" (defScope sThing) f cdv A outer s H E).nox ((defBody sThing).drop 2) t ∧
      (¬ n % 6 < 2 → (d = 0 → ¬ 3 < n % 6) → t { nx := fun _ H' => Q .non H', rt := Q } [some (.int n), some (.int (d : Nat)), some (.int (n / 6)), none, none] H) := by
    refine ⟨_, pss_cons (ps_if (pt_cmpR op_lt (pe_op op_mod (pv 0) pe_int) pe_int (nomark _)) (pss_one (ps_ret (pe_call W r1 rfl mW kW bW .nil pass0 (pa_cons (pv 2) pa_nil)))) pss_nil)
      (pss_cons (ps_if (pt_cmpR op_eq (pe_op op_mod (pv 0) pe_int) pe_int (nomark _)) (pss_one (ps_ret (pe_lc (fr := [("_law_number", 0), ("_law_deep", 1)]) rfl (pi_range1 rfl B.range (pa_cons (pe_op op_mod (pv 2) pe_int) pa_nil))
          (LcSt.ok (sc := defScope sThing) (N := ["_law_number", "_law_deep", "_law_rest", "_law_k", "_law_made"]) ⟨by decide +kernel, rfl, by decide +kernel, rfl, by decide +kernel, by decide +kernel, by decide +kernel⟩ rfl rfl)
          fun fp C s H => pe_call G hr rfl mF F.kp bF .nil pass0 (pa_cons (pe_call M r1 rfl mM kM bM .nil pass0 (pa_cons (pv 1) (pa_cons (pe_op op_add pe_int (pv 0)) pa_nil))) (pa_cons (pe_op op_sub (pv 2) pe_int) pa_nil))))) pss_nil)
      (pss_cons (ps_set (i := 4) nd rfl (Or.inl rfl) pe_dnewK)
      (pss_cons (ps_for PassesOwn.never rfl (pi_range1 rfl B.range (pa_cons (pe_op op_mod (pv 2) pe_int) pa_nil)) (pg_name (i := 3) nd rfl (Or.inl rfl))
        (pss_one (ps_dput hu (pv 4) (pe_call W r1 rfl mW kW bW .nil pass0 (pa_cons (pe_op op_add (pe_op op_fdiv (pv 2) pe_int) (pv 3)) pa_nil)) (pe_call G hr rfl mF F.kp bF .nil pass0 (pa_cons (pe_call M r1 rfl mM kM bM .nil pass0 (pa_cons (pv 0) (pa_cons (pe_op op_add pe_int (pv 3)) pa_nil))) (pa_cons (pe_op op_sub (pv 1) pe_int) pa_nil))) rfl)))
      (pss_one (ps_ret (pv 4)))))), fun hA hB => ?_⟩
    refine ⟨_, rfl, _, _, rfl, rfl, (by show (0 : Int) < 6; decide), _, _, rfl, rfl, _, rfl, ite2 (fun c => ?_) (fun c => ?_)⟩
    · exact ⟨_, rfl, n / 6, rfl, fun H' sm => q _ H' (.word _) sm rfl (wordAt_len _) (bnd_pos d)⟩
    have c' : ¬ n % 6 < 4 := of_decide_eq_false (Bool.eq_false_iff.mpr c)
    cases d with
    | zero => exact absurd (show 3 < n % 6 by omega) (hB rfl)
    | succ e =>
      have hrest : (n / 6 % 4).toNat ≤ 3 := by omega
      have eback : ∀ m : Int, ([V.int m] ++ [V.int (((e + 1 : Nat) : Int) - 1)]) = [V.int m, V.int (e : Nat)] := fun m => by
        show [V.int m, V.int (((e + 1 : Nat) : Int) - 1)] = _
        rw [show (((e + 1 : Nat) : Int) - 1) = (e : Nat) by omega]
      refine ⟨_, rfl, _, _, rfl, rfl, (by show (0 : Int) < 6; decide), rfl, _, rfl, ite2 (fun c2 => ?_) (fun c2 => ?_)⟩
      · refine ⟨_, rfl, _, _, rfl, rfl, (by show (0 : Int) < 4; decide), n / 6 % 4, rfl, by omega, by omega, lc_range (n := (n / 6 % 4).toNat) (fun i ys H' => Same H H' ∧ ys.length = i ∧ ∃ l, RepR (newOf H H') l ys ∧ l.Ok ∧ l.len = i ∧ l.size ≤ i * bnd e) (small (by omega)) ⟨Same.refl H, rfl, .nil, rfl, trivial, rfl, Nat.zero_le _⟩ (fun i ys H' _ p => p.2.1) (fun i ys H' hi p => ?_) (fun ys H' p r hr' => ?_)⟩
        · obtain ⟨sm, hy, l, hl, okl, hll, hls⟩ := p
          refine ⟨_, rfl, _, rfl, _, _, rfl, rfl, n, 20 + (0 + (i : Int)), rfl, by omega, by omega, fun m hm0 hm1 => ⟨_, rfl, _, _, rfl, rfl, m, eback m, hm0, hm1, fun v H2 t sm2 rep ok hz => ?_⟩⟩
          refine ⟨sm.trans sm2, by rw [List.length_append, hy]; rfl, l.snoc "" t, RepR.snoc (rep.mono (new_same (Dom.of sm) fun a o _ h => h)) (hl.mono (new_same (Dom.refl H) fun a o _ h => sm2 a o h)), Ts.snoc_ok (by decide) ok okl, by rw [Ts.snoc_len, hll], ?_⟩
          rw [Ts.snoc_size, Nat.succ_mul]
          omega
        · obtain ⟨sm, hy, l, hl, okl, hll, hls⟩ := p
          have sm2 := same_new hr' (.lst ys)
          refine q (.ref r) _ (.row l) (sm.trans sm2) ⟨r, ys, rfl, newOf_at (sm.free hr') upd_same, hl.mono (new_same (Dom.refl H) fun a o _ h => sm2 a o h)⟩ ⟨by omega, okl⟩ ?_
          show l.size + 1 ≤ 3 * bnd e + 1
          have z := Nat.mul_le_mul_right (bnd e) hrest
          omega
      · refine fun md hmd => ?_
        refine ⟨_, rfl, _, _, rfl, rfl, (by show (0 : Int) < 4; decide), n / 6 % 4, rfl, by omega, by omega, for_range (lo := 0) (n := (n / 6 % 4).toNat) (fun i σ' H' => ∃ pk, σ' = [some (.int n), some (.int ((e + 1 : Nat))), some (.int (n / 6)), pk, some (.ref md)] ∧ Same H H' ∧ Dom (upd H md (.dK [])) H' ∧
          ∃ kvs l, H' md = some (.dK kvs) ∧ RepD (newOf (upd H md (.dK [])) H') l kvs ∧ l.Ok ∧ l.len = i ∧ l.size ≤ i * bnd e ∧ l.keys = (List.range i).map (fun (j : Nat) => wordAt ((n / 6 / 4 + j) % 5)))
          ⟨none, rfl, same_new hmd _, Dom.refl _, [], .nil, upd_same, rfl, trivial, rfl, Nat.zero_le _, rfl⟩ (fun i σ' H' hi p => ?_) (fun σ' H' p => ?_)⟩
        · obtain ⟨pk, rfl, sm, dm, kvs, l, hm', hl, okl, hll, hls, hks⟩ := p
          refine ⟨_, rfl, _, rfl, _, _, rfl, rfl, n, 30 + (0 + (i : Int)), rfl, by omega, by omega, fun m hm0 hm1 => ⟨_, rfl, _, _, rfl, rfl, m, eback m, hm0, hm1, fun v H2 t sm2 rep ok hz => ?_⟩⟩
          refine ⟨_, rfl, _, rfl, _, _, rfl, rfl, ⟨by decide, by decide⟩, _, rfl, _, _, rfl, rfl, n / 6 / 4 + (0 + (i : Int)), rfl, fun H3 sm3 => ?_⟩
          have hm3 := sm3 _ _ (sm2 _ _ hm')
          have ewd : wordAt ((n / 6 / 4 + (0 + (i : Int))) % 5) = wordAt ((n / 6 / 4 + (i : Nat)) % 5) := by rw [Int.zero_add]
          have hnew : ¬ wordAt ((n / 6 / 4 + (i : Nat)) % 5) ∈ l.keys := by rw [hks]; exact words_new (by omega)
          have hval := RepD.fresh hl hnew
          have hkl : kvs.length = i := by rw [hl.len, hll]
          rw [ewd]
          refine ⟨md, _, rfl, DPut.k (k := Sum.inr (wordAt ((n / 6 / 4 + (i : Nat)) % 5))) hm3 (by rw [hkl]; exact small1000 (by omega)), ?_⟩
          rw [putK_new v hval]
          have old : Same (newOf (upd H md (.dK [])) H') (newOf (upd H md (.dK [])) (upd H3 md (.dK (kvs ++ [(Sum.inr (wordAt ((n / 6 / 4 + (i : Nat)) % 5)), v)])))) := new_same (Dom.refl _) fun a o ha h => by
            rw [upd_ne (upd_none ha).1]
            exact sm3 _ _ (sm2 _ _ h)
          have new : Same (newOf H' H2) (newOf (upd H md (.dK [])) (upd H3 md (.dK (kvs ++ [(Sum.inr (wordAt ((n / 6 / 4 + (i : Nat)) % 5)), v)])))) := new_same dm fun a o ha h => by
            rw [upd_ne (Ne.symm (ne_of_none hm' ha))]
            exact sm3 _ _ h
          refine ⟨_, rfl, same_put ((sm.trans sm2).trans sm3) hmd, (dm.trans (Dom.of (sm2.trans sm3))).upd, _, l.snoc (wordAt ((n / 6 / 4 + (i : Nat)) % 5)) t, upd_same, RepD.snoc (rep.mono new) (hl.mono old), Ts.snoc_ok (wordAt_len _) ok okl, by rw [Ts.snoc_len, hll], ?_, ?_⟩
          · rw [Ts.snoc_size, Nat.succ_mul]
            omega
          · rw [Ts.snoc_keys, hks, List.range_succ, List.map_append]
            rfl
        · obtain ⟨pk, rfl, sm, dm, kvs, l, hm', hl, okl, hll, hls, hks⟩ := p
          refine ⟨_, rfl, q (.ref md) H' (.dic l) sm ⟨md, kvs, rfl, newOf_at hmd hm', hl.mono (new_same (fun a h => by
            by_cases ea : a = md
            · rw [ea, upd_same]; simp
            · rw [upd_ne ea]; exact h) fun a o _ h => h)⟩ ⟨by omega, ?_, okl⟩ ?_⟩
          · rw [hks]
            refine nodup_words _ hrest
          · show l.size + 1 ≤ 3 * bnd e + 1
            have z := Nat.mul_le_mul_right (bnd e) hrest
            omega
  obtain ⟨tR, hR, qR⟩ := rest
  refine ⟨_, pss_cons (ps_set (i := 2) nd rfl (Or.inl rfl) (pe_op op_fdiv (pv 0) pe_int))
    (pss_cons (ps_if (pw_or (pt_cmpR op_lt (pe_op op_mod (pv 0) pe_int) pe_int (nomark _)) (pw_or1 (pw_and (pt_cmpR op_eq (pv 1) pe_int (nomark _)) (pw_and1 (pt_cmpR op_gt (pe_op op_mod (pv 0) pe_int) pe_int (nomark _)))).pt)).pt
      (pss_one (ps_ret (pe_ix ix_list (pe_lst (pa_cons (pe_call N r1 rfl mN kN bN .nil pass0 (pa_cons (pv 2) pa_nil)) (pa_cons (pe_op op_sub (pe_op op_mod (pv 2) pe_int) pe_int) pa_nil))) (pe_op op_mod (pv 0) pe_int) (fun _ _ => rfl)))) pss_nil) hR), ?_⟩
  refine ⟨_, rfl, _, _, rfl, rfl, ⟨by decide, by decide⟩, ?_⟩
  have fin : ∀ (p : Addr) (H1 : Hp) (i : Int), Same H H1 → H1 p = none → ∀ v, v ∈ [V.int i, V.int (n / 6 % 7 - 3)] → Q v (upd H1 p (.lst [V.int i, V.int (n / 6 % 7 - 3)])) := fun p H1 i sm hp v hv => by
    rcases List.mem_cons.mp hv with rfl | hv
    · exact q _ _ (.num _) (sm.trans (same_new hp _)) rfl trivial (bnd_pos d)
    · rw [List.mem_singleton.mp hv]
      exact q _ _ (.num _) (sm.trans (same_new hp _)) rfl trivial (bnd_pos d)
  refine ⟨_, rfl, _, _, rfl, rfl, (by show (0 : Int) < 6; decide), _, _, rfl, rfl, _, rfl, ite2 (fun c => iteT ?_) (fun c => ?_)⟩
  · refine ⟨_, rfl, n / 6, rfl, by omega, by omega, fun i H1 sm => ⟨_, rfl, _, _, rfl, rfl, (by show (0 : Int) < 7; decide), _, _, rfl, rfl, (by show 2 ≤ sizeLine; decide), fun p hp => ⟨_, rfl, _, _, rfl, rfl, (by show (0 : Int) < 2; decide), ?_⟩⟩⟩
    exact pick (by omega) (by show _ < (2 : Int); omega) fun v _ hm => fin p H1 i sm hp v hm
  have c' : ¬ n % 6 < 2 := of_decide_eq_false (Bool.eq_false_iff.mpr c)
  refine ⟨_, rfl, rfl, _, rfl, ite2 (fun c2 => ?_) (fun c2 => iteF (qR c' fun e => ?_))⟩
  · refine ⟨_, rfl, _, _, rfl, rfl, (by show (0 : Int) < 6; decide), _, _, rfl, rfl, _, rfl, ite2 (fun c3 => ?_) (fun c3 => qR c' fun _ => of_decide_eq_false (Bool.eq_false_iff.mpr c3))⟩
    refine ⟨_, rfl, n / 6, rfl, by omega, by omega, fun i H1 sm => ⟨_, rfl, _, _, rfl, rfl, (by show (0 : Int) < 7; decide), _, _, rfl, rfl, (by show 2 ≤ sizeLine; decide), fun p hp => ⟨_, rfl, _, _, rfl, rfl, (by show (0 : Int) < 2; decide), ?_⟩⟩⟩
    exact pick (by omega) (by show _ < (2 : Int); omega) fun v _ hm => fin p H1 i sm hp v hm
  · subst e
    exact absurd rfl (of_decide_eq_false (Bool.eq_false_iff.mpr c2))
end
end K2
namespace Rg
open PySem L2
theorem Ts.app_nil : ∀ l : Ts, l.app .nil = l
  | .nil => rfl
  | .cons k t r => congrArg (Ts.cons k t) (Ts.app_nil r)
theorem Ts.snoc_app (k : Str) (t : Th) (r : Ts) : ∀ l : Ts, (l.snoc k t).app r = l.app (.cons k t r)
  | .nil => rfl
  | .cons j u q => congrArg (Ts.cons j u) (Ts.snoc_app k t r q)
theorem Ts.app_len (m : Ts) : ∀ l : Ts, (l.app m).len = l.len + m.len
  | .nil => by show m.len = 0 + m.len; omega
  | .cons _ _ r => by show (r.app m).len + 1 = r.len + 1 + m.len; rw [Ts.app_len m r]; omega
theorem Ts.app_keys (m : Ts) : ∀ l : Ts, (l.app m).keys = l.keys ++ m.keys
  | .nil => rfl
  | .cons k _ r => congrArg (k :: ·) (Ts.app_keys m r)
theorem Ts.app_size (m : Ts) : ∀ l : Ts, (l.app m).size = l.size + m.size
  | .nil => by show m.size = 0 + m.size; omega
  | .cons _ t r => by show t.size + (r.app m).size = t.size + r.size + m.size; rw [Ts.app_size m r]; omega
theorem Ts.app_ok {m : Ts} : ∀ {l : Ts}, (l.app m).Ok → l.Ok ∧ m.Ok
  | .nil, h => ⟨trivial, h⟩
  | .cons _ _ r, h => ⟨⟨h.1, h.2.1, (Ts.app_ok (l := r) h.2.2).1⟩, (Ts.app_ok (l := r) h.2.2).2⟩
theorem Ts.get_app {k : Str} {t : Th} {r : Ts} : ∀ {l : Ts}, ¬ k ∈ l.keys → (l.app (.cons k t r)).get k = some t
  | .nil, _ => by show (if k = k then some t else r.get k) = some t; rw [if_pos rfl]
  | .cons j u q, h => by
    show (if j = k then some u else (q.app (.cons k t r)).get k) = some t
    rw [if_neg (fun e => h (by rw [e]; exact List.mem_cons_self)), Ts.get_app (l := q) fun z => h (List.mem_cons_of_mem _ z)]
theorem RepR.split {H : Hp} {m : Ts} {x : V} : ∀ {l : Ts} {xs : List V}, RepR H (l.app m) xs → xs[l.len]? = some x → ∃ k t r, m = .cons k t r ∧ Rep H t x
  | .nil, xs, h, e => by
    cases m with
    | nil => rw [(h : xs = [])] at e; simp at e
    | cons k t r =>
      obtain ⟨y, ys, rfl, h2, _⟩ := (h : ∃ y ys, xs = y :: ys ∧ Rep H t y ∧ RepR H r ys)
      have e' : y = x := by simpa [Ts.len] using e
      subst e'
      exact ⟨k, t, r, rfl, h2⟩
  | .cons j u q, xs, h, e => by
    obtain ⟨y, ys, rfl, _, h3⟩ := (h : ∃ y ys, xs = y :: ys ∧ Rep H u y ∧ RepR H (q.app m) ys)
    exact RepR.split h3 (by simpa [Ts.len] using e)
theorem RepD.split {H : Hp} {m : Ts} {x : Key × V} : ∀ {l : Ts} {xs : List (Key × V)}, RepD H (l.app m) xs → xs[l.len]? = some x → ∃ k t r, m = .cons k t r ∧ x.1 = Sum.inr k ∧ Rep H t x.2
  | .nil, xs, h, e => by
    cases m with
    | nil => rw [(h : xs = [])] at e; simp at e
    | cons k t r =>
      obtain ⟨y, ys, rfl, h2, _⟩ := (h : ∃ y ys, xs = (Sum.inr k, y) :: ys ∧ Rep H t y ∧ RepD H r ys)
      have e' : (Sum.inr k, y) = x := by simpa [Ts.len] using e
      subst e'
      exact ⟨k, t, r, rfl, rfl, h2⟩
  | .cons j u q, xs, h, e => by
    obtain ⟨y, ys, rfl, _, h3⟩ := (h : ∃ y ys, xs = (Sum.inr j, y) :: ys ∧ Rep H u y ∧ RepD H (q.app m) ys)
    exact RepD.split h3 (by simpa [Ts.len] using e)
end Rg
namespace K2
open PySem L2 Rg
/-- a copy, of new objects -/
def spCopied (n : Nat) : Sp := fun vs H Q _ => ∃ (t : Th) (v : V), vs = [v] ∧ Rep H t v ∧ t.Ok ∧ t.size ≤ n ∧ ∀ (v' : V) (H' : Hp), Same H H' → Rep (newOf H H') t v' → Q v' H'
section
variable {P : Program} {w : World} {K : PySem.W.Frag} {mg : Str → Option Value} {base : Heap} {f g : Addr} {fd gd : FuncData}
theorem scCopied : FnScope ["_law_thing", "_law_made", "_law_field"] ["_law_thing"] (defScope sCopied) := ⟨rfl, rfl, rfl, by decide +kernel, rfl, by decide +kernel, by decide +kernel⟩
theorem ok_copied {n : Nat} (F : Fun K "_law_copied" "_law_copied" sCopied f fd) (B : Blt mg) (bF : Binds K fd ["_law_thing"] []) (mF : mg "_law_copied" = some (.ref f)) (G : FnOk P w K mg base CX0 n f fd ["_law_thing"] (spCopied n)) :
    FnOk P w K mg base CX0 (n + 1) f fd ["_law_thing"] (spCopied (n + 1)) := by
  refine F.ok scCopied (fun vs H Q E h => ?_) (fun cdv A outer s H vs Q E hr h => ?_)
  · obtain ⟨t, v, rfl, _⟩ := h
    rfl
  obtain ⟨t, v, rfl, rep, ok, hz, q⟩ := h
  have nd := scCopied.nd
  have hu := hu_of hr
  refine ⟨_, pss_cons (ps_if (pt_val (pe_callB call_isi rfl B.isi PyProof.Rows.boot_isinstance (pa_cons (pv 0) (pa_cons (pe_bltn (v := .ty "list") rfl B.list PyProof.Rows.boot_list rfl) pa_nil))))
      (pss_one (ps_ret (pe_lc (fr := []) rfl (pi_list (pv 0)) (LcSt.ok (sc := defScope sCopied) (N := ["_law_thing", "_law_made", "_law_field"]) ⟨by decide +kernel, rfl, by decide +kernel, rfl, by decide +kernel, by decide +kernel, by decide +kernel⟩ rfl rfl) fun fp C s H => pe_call G hr rfl mF F.kp bF .nil pass0 (pa_cons (pv 0) pa_nil)))) pss_nil)
    (pss_cons (ps_if (pt_val (pe_callB call_isi rfl B.isi PyProof.Rows.boot_isinstance (pa_cons (pv 0) (pa_cons (pe_bltn (v := .ty "dict") rfl B.dict PyProof.Rows.boot_dict rfl) pa_nil))))
      (pss_cons (ps_set (i := 1) nd rfl (Or.inl rfl) pe_dnewK)
      (pss_cons (ps_thaw (ps_for PassesOwn.never rfl (pi_dict (pv 0)) (pg_name (i := 2) nd rfl (Or.inl rfl)) (pss_one (ps_dput hu (pv 1) (pv 2) (pe_call G hr rfl mF F.kp bF .nil pass0 (pa_cons (pe_dget hu (pv 0) (pv 2) (fun _ _ => rfl)) pa_nil)) rfl))))
      (pss_one (ps_ret (pv 1))))) pss_nil)
    (pss_one (ps_ret (pv 0)))), ?_⟩
  refine ⟨_, rfl, v, "list", _, _, rfl, rep.ty, kit_list _ t, _, rfl, ?_⟩
  cases t with
  | num i =>
    refine iteF ⟨_, rfl, v, "dict", _, _, rfl, rep.ty, kit_dict _ _, _, rfl, iteF ⟨_, rfl, ?_⟩⟩
    exact q v H (Same.refl H) rep
  | word x =>
    refine iteF ⟨_, rfl, v, "dict", _, _, rfl, rep.ty, kit_dict _ _, _, rfl, iteF ⟨_, rfl, ?_⟩⟩
    exact q v H (Same.refl H) rep
  | row l =>
    obtain ⟨a, xs, rfl, h2, h3⟩ := (rep : ∃ a xs, v = V.ref a ∧ H a = some (.lst xs) ∧ RepR H l xs)
    have hxl := h3.len
    have hl9 : l.len ≤ 9 := ok.1
    have hz' : l.size + 1 ≤ n + 1 := hz
    refine iteT ⟨_, rfl, a, rfl, ⟨xs, SqL.of h2⟩, lc_list (xs := xs) (fun i ys H' => Same H H' ∧ ys.length = i ∧ ∃ l1 l2, l = l1.app l2 ∧ l1.len = i ∧ RepR (newOf H H') l1 ys) (small (by omega)) ⟨Same.refl H, rfl, .nil, l, rfl, rfl, rfl⟩ (fun i ys H' hi p => ⟨SqL.of (p.1 _ _ h2), p.2.1⟩) (fun i x ys H' hx p => ?_) (fun ys H' p r hr' => ?_)⟩
    · obtain ⟨sm, hy, l1, l2, rfl, hl1, hr1⟩ := p
      rw [← hl1] at hx
      obtain ⟨k, t, r, rfl, rt⟩ := RepR.split h3 hx
      obtain ⟨o1, o2⟩ := Ts.app_ok ok.2
      have hsz := Ts.app_size (.cons k t r) l1
      have hsz2 : (Ts.cons k t r).size = t.size + r.size := rfl
      refine ⟨_, rfl, t, x, rfl, rt.mono sm, o2.2.1, by omega, fun v' H2 sm2 rep2 => ?_⟩
      refine ⟨sm.trans sm2, by rw [List.length_append, hy]; rfl, l1.snoc k t, r, by rw [Ts.snoc_app], by rw [Ts.snoc_len, hl1], ?_⟩
      exact RepR.snoc (rep2.mono (new_same (Dom.of sm) fun a o _ h => h)) (hr1.mono (new_same (Dom.refl H) fun a o _ h => sm2 a o h))
    · obtain ⟨sm, hy, l1, l2, rfl, hl1, hr1⟩ := p
      have hal := Ts.app_len l2 l1
      have e2 : l2 = .nil := by
        cases l2 with
        | nil => rfl
        | cons k t r =>
          have z : (Ts.cons k t r).len = r.len + 1 := rfl
          omega
      subst e2
      rw [Ts.app_nil] at q
      have sm2 := same_new hr' (.lst ys)
      exact q (.ref r) _ (sm.trans sm2) ⟨r, ys, rfl, newOf_at (sm.free hr') upd_same, hr1.mono (new_same (Dom.refl H) fun a o _ h => sm2 a o h)⟩
  | dic l =>
    have rep0 := rep
    obtain ⟨a, kvs, rfl, h2, h3⟩ := (rep : ∃ a kvs, v = V.ref a ∧ H a = some (.dK kvs) ∧ RepD H l kvs)
    obtain ⟨hl9, hnd, okl⟩ := ok
    have hz' : l.size + 1 ≤ n + 1 := hz
    have hkl := h3.len
    refine iteF ⟨_, rfl, .ref a, "dict", _, _, rfl, rep0.ty, kit_dict _ _, _, rfl, iteT fun md hmd => ?_⟩
    have nam : a ≠ md := ne_of_none h2 hmd
    have h2' : upd H md (.dK []) a = some (.dK kvs) := by rw [upd_ne nam]; exact h2
    refine ⟨a, kvs, h2', _, rfl, a, kvs, rfl, h2', fun o => for_dict (o := o) (fun i σ' H' => ∃ pf, σ' = [some (.ref a), some (.ref md), pf] ∧ Same (upd H a (.frz o (.dK kvs))) H' ∧ Dom (upd H md (.dK [])) H' ∧
        ∃ l1 l2 kv1, l = l1.app l2 ∧ l1.len = i ∧ H' md = some (.dK kv1) ∧ RepD (newOf (upd H md (.dK [])) H') l1 kv1)
      ⟨none, rfl, fun b u hb => ?_, Dom.upd (Dom.refl _), .nil, l, [], rfl, rfl, by rw [upd_ne (Ne.symm nam), upd_same], rfl⟩ (fun i σ' H' hi p => ?_) (fun i kv σ' H' hk p => ?_) (fun σ' H' p => ?_)⟩
    · by_cases eb : b = a
      · rw [eb, upd_same] at hb ⊢
        exact hb
      · rw [upd_ne eb] at hb ⊢
        rw [upd_ne (ne_of_none hb hmd)]
        exact hb
    · obtain ⟨pf, rfl, sm, _⟩ := p
      exact sm _ _ upd_same
    · obtain ⟨pf, rfl, sm, dm, l1, l2, kv1, rfl, hl1, hm', hr1⟩ := p
      rw [← hl1] at hk
      obtain ⟨k, t, r, rfl, ek, _⟩ := RepD.split h3 hk
      obtain ⟨o1, o2⟩ := Ts.app_ok okl
      have hks := Ts.app_keys (.cons k t r) l1
      have hnk : ¬ k ∈ l1.keys := fun z => by
        rw [hks] at hnd
        exact (List.nodup_append.mp hnd).2.2 k z k (List.mem_cons_self (a := k) (l := r.keys)) rfl
      obtain ⟨y, hy, ry⟩ := RepD.val h3 (Ts.get_app (t := t) (r := r) hnk)
      have hsz := Ts.app_size (.cons k t r) l1
      have hsz2 : (Ts.cons k t r).size = t.size + r.size := rfl
      have hfz : H' a = some (.frz o (.dK kvs)) := sm _ _ upd_same
      have ry' : Rep H' t y := (Rep.other (o := .frz o (.dK kvs)) (n := (l1.app (.cons k t r)).size + 1) (fun u hu' => Nat.le_of_eq (Rep.inj rep0 hu')) (by omega) ry).mono sm
      have hal := Ts.app_len (.cons k t r) l1
      have hkv1 := hr1.len
      refine ⟨_, rfl, _, rfl, a, y, rfl, .inl ⟨kvs, kv.1, .inr ⟨o, hfz⟩, rfl, by rw [ek, hy]⟩, t, y, rfl, ry', o2.2.1, by omega, fun v' H2 sm2 rep2 => ?_⟩
      have hm2 := sm2 _ _ hm'
      refine ⟨_, rfl, _, rfl, md, _, rfl, DPut.k (k := kv.1) hm2 (by rw [hkv1]; exact small1000 (by omega)), ?_⟩
      rw [ek, putK_new v' (RepD.fresh hr1 hnk)]
      have old : Same (newOf (upd H md (.dK [])) H') (newOf (upd H md (.dK [])) (upd H2 md (.dK (kv1 ++ [(Sum.inr k, v')])))) := new_same (Dom.refl _) fun b u hb h => by
        rw [upd_ne (upd_none hb).1]
        exact sm2 _ _ h
      have new : Same (newOf H' H2) (newOf (upd H md (.dK [])) (upd H2 md (.dK (kv1 ++ [(Sum.inr k, v')])))) := new_same dm fun b u hb h => by
        rw [upd_ne (Ne.symm (ne_of_none hm' hb))]
        exact h
      refine ⟨_, rfl, ?_, (dm.trans (Dom.of sm2)).upd, l1.snoc k t, r, _, by rw [Ts.snoc_app], by rw [Ts.snoc_len, hl1], upd_same, RepD.snoc (rep2.mono new) (hr1.mono old)⟩
      refine same_put (sm.trans sm2) ?_
      rw [upd_ne (Ne.symm nam)]
      exact hmd
    · obtain ⟨pf, rfl, sm, dm, l1, l2, kv1, rfl, hl1, hm', hr1⟩ := p
      have hal := Ts.app_len l2 l1
      have e2 : l2 = .nil := by
        cases l2 with
        | nil => rfl
        | cons k t r =>
          have z : (Ts.cons k t r).len = r.len + 1 := rfl
          omega
      subst e2
      rw [Ts.app_nil] at q
      refine ⟨o, sm _ _ upd_same, _, rfl, q (.ref md) _ (fun b u hb => ?_) ⟨md, kv1, rfl, newOf_at hmd (by rw [upd_ne (Ne.symm nam)]; exact hm'), hr1.mono (new_same (Dom.upd (Dom.refl H)) fun b u hb h => ?_)⟩⟩
      · by_cases eb : b = a
        · rw [eb, upd_same]
          rw [eb, h2] at hb
          exact hb
        · rw [upd_ne eb]
          exact sm _ _ (by rw [upd_ne eb]; exact hb)
      · rw [upd_ne (fun z => by rw [z, h2'] at hb; cases hb)]
        exact h
theorem none_copied : FnOk P w K mg base CX0 0 f fd ["_law_thing"] (spCopied 0) := by
  have no : ∀ vs H Q E, ¬ spCopied 0 vs H Q E := fun vs H Q E h => by
    obtain ⟨t, v, _, _, _, hz, _⟩ := h
    have z := t.size_pos
    omega
  exact ⟨fun vs H Q E h => absurd h (no vs H Q E), fun A outer s H args us vs Q E _ _ _ _ h => absurd h (no vs H Q E)⟩
theorem all_copied (F : Fun K "_law_copied" "_law_copied" sCopied f fd) (B : Blt mg) (bF : Binds K fd ["_law_thing"] []) (mF : mg "_law_copied" = some (.ref f)) : ∀ n : Nat, FnOk P w K mg base CX0 n f fd ["_law_thing"] (spCopied n)
  | 0 => none_copied
  | n + 1 => ok_copied F B bF mF (all_copied F B bF mF n)
end
end K2
set_option Elab.async false
set_option linter.all false
set_option maxRecDepth 100000
set_option maxHeartbeats 4000000
namespace Rg
open PySem L2
abbrev AllRep (H0 : Hp) : List V → List Th → Prop := Paired fun y c => Rep H0 c y
theorem RepR.all {H : Hp} : ∀ {l : Ts} {xs : List V}, RepR H l xs → AllRep H xs l.ths
  | .nil, xs, h => by
    rw [(h : xs = [])]
    exact .nil
  | .cons k t r, xs, h => by
    obtain ⟨y, ys, rfl, h1, h2⟩ := (h : ∃ y ys, xs = y :: ys ∧ Rep H t y ∧ RepR H r ys)
    exact .cons h1 (RepR.all h2)
theorem RepD.all {H : Hp} : ∀ {l : Ts} {kvs : List (Key × V)}, RepD H l kvs → AllRep H (kvs.map (·.2)) l.ths
  | .nil, xs, h => by
    rw [(h : xs = [])]
    exact .nil
  | .cons k t r, xs, h => by
    obtain ⟨y, ys, rfl, h1, h2⟩ := (h : ∃ y ys, xs = (Sum.inr k, y) :: ys ∧ Rep H t y ∧ RepD H r ys)
    exact .cons h1 (RepD.all h2)
theorem AllRep.mono {H H' : Hp} (e : Same H H') {xs : List V} {cs : List Th} (h : AllRep H xs cs) : AllRep H' xs cs := Paired.mapP h fun _ _ r => r.mono e
/-- the first unlike pair decides -/
def fuL : List Th → List Th → Ordering
  | a :: l, b :: m => (ordT a b).then (fuL l m)
  | _, _ => .eq
def flat : List (Str × Th) → List Th
  | [] => []
  | p :: r => .word p.1 :: p.2 :: flat r
theorem ord_word (x y : Str) : ordT (.word x) (.word y) = cmpW x y := by
  show (cmpI (1 : Nat) (1 : Nat)).then ((cmpI 1 1).then (cmpW x y)) = _
  rw [cmpI_refl, cmpI_refl]
  rfl
theorem ordS_cons (k : Str) (t : Th) (r : Ts) (k' : Str) (t' : Th) (r' : Ts) : ordS (.cons k t r) (.cons k' t' r') = (cmpW k k').then ((ordT t t').then (ordS r r')) := by rfl
theorem fu_flat : ∀ l m : Ts, fuL (flat l.toL) (flat m.toL) = ordS l m
  | .nil, _ => by unfold ordS; rfl
  | .cons k t r, .nil => by unfold ordS; rfl
  | .cons k t r, .cons k' t' r' => by
    show (ordT (.word k) (.word k')).then ((ordT t t').then (fuL (flat r.toL) (flat r'.toL))) = _
    rw [fu_flat r r', ord_word, ordS_cons]
theorem fu_row : ∀ l m : Ts, fuL ((nrmR l).toL.map (·.2)) ((nrmR m).toL.map (·.2)) = ordS (nrmR l) (nrmR m)
  | .nil, _ => by unfold nrmR ordS; rfl
  | .cons k t r, .nil => by unfold nrmR ordS; rfl
  | .cons k t r, .cons k' t' r' => by
    show (ordT (nrm t) (nrm t')).then (fuL ((nrmR r).toL.map (·.2)) ((nrmR r').toL.map (·.2))) = _
    rw [fu_row r r']
    show _ = ordS (.cons Str.empty (nrm t) (nrmR r)) (.cons Str.empty (nrm t') (nrmR r'))
    rw [ordS_cons, cmpW_refl]
    rfl
theorem nrm_ths (l : Ts) : (nrmR l).toL.map (·.2) = l.ths.map nrm := by rw [nrmR_toL, List.map_map, ← toL_ths, List.map_map]; rfl
theorem flat_nrm : ∀ ps : List (Str × Th), (flat ps).map nrm = flat (ps.map nP)
  | [] => rfl
  | p :: r => by show nrm (.word p.1) :: nrm p.2 :: (flat r).map nrm = .word p.1 :: nrm p.2 :: flat (r.map nP); rw [flat_nrm r]; rfl
theorem flat_mem {ps : List (Str × Th)} {t : Th} (h : t ∈ flat ps) : ∃ p ∈ ps, t = .word p.1 ∨ t = p.2 := by
  induction ps with
  | nil => cases h
  | cons p r ih =>
    rcases List.mem_cons.mp h with e | h
    · exact ⟨p, List.mem_cons_self, .inl e⟩
    rcases List.mem_cons.mp h with e | h
    · exact ⟨p, List.mem_cons_self, .inr e⟩
    · obtain ⟨q, h1, h2⟩ := ih h
      exact ⟨q, List.mem_cons_of_mem _ h1, h2⟩
theorem flat_len : ∀ ps : List (Str × Th), (flat ps).length = 2 * ps.length
  | [] => rfl
  | p :: r => by show (flat r).length + 1 + 1 = 2 * (r.length + 1); rw [flat_len r]; omega
theorem flat_snoc : ∀ (ps : List (Str × Th)) (p : Str × Th), flat (ps ++ [p]) = flat ps ++ [.word p.1, p.2]
  | [], p => rfl
  | q :: r, p => by show .word q.1 :: q.2 :: flat (r ++ [p]) = _; rw [flat_snoc r p]; rfl
mutual
theorem Rep.monoX {H H' : Hp} (e : SameX H H') : ∀ {t : Th} {v : V}, Rep H t v → Rep H' t v
  | .num _, _, h => h
  | .word _, _, h => h
  | .row l, _, h => by
    obtain ⟨a, xs, h1, h2, h3⟩ := (h : ∃ a xs, _ = V.ref a ∧ H a = some (.lst xs) ∧ RepR H l xs)
    exact ⟨a, xs, h1, e _ _ h2 (fun _ z => by cases z), RepR.monoX e h3⟩
  | .dic l, _, h => by
    obtain ⟨a, kvs, h1, h2, h3⟩ := (h : ∃ a kvs, _ = V.ref a ∧ H a = some (.dK kvs) ∧ RepD H l kvs)
    exact ⟨a, kvs, h1, e _ _ h2 (fun _ z => by cases z), RepD.monoX e h3⟩
theorem RepR.monoX {H H' : Hp} (e : SameX H H') : ∀ {l : Ts} {xs : List V}, RepR H l xs → RepR H' l xs
  | .nil, _, h => h
  | .cons _ t r, _, h => by
    obtain ⟨y, ys, h1, h2, h3⟩ := (h : ∃ y ys, _ = y :: ys ∧ Rep H t y ∧ RepR H r ys)
    exact ⟨y, ys, h1, Rep.monoX e h2, RepR.monoX e h3⟩
theorem RepD.monoX {H H' : Hp} (e : SameX H H') : ∀ {l : Ts} {kvs : List (Key × V)}, RepD H l kvs → RepD H' l kvs
  | .nil, _, h => h
  | .cons _ t r, _, h => by
    obtain ⟨y, ys, h1, h2, h3⟩ := (h : ∃ y ys, _ = (Sum.inr _, y) :: ys ∧ Rep H t y ∧ RepD H r ys)
    exact ⟨y, ys, h1, Rep.monoX e h2, RepD.monoX e h3⟩
end
theorem AllRep.monoX {H H' : Hp} (e : SameX H H') {xs : List V} {cs : List Th} (h : AllRep H xs cs) : AllRep H' xs cs := Paired.mapP h fun _ _ r => r.monoX e
end Rg
namespace K2
open PySem L2 Rg
section
variable {P : Program} {w : World} {K : PySem.W.Frag} {mg : Str → Option Value} {base : Heap} {f g : Addr} {fd gd : FuncData}
/-- the size, as the law tells it -/
def spLSize (n : Nat) : Sp := fun vs H Q _ => ∃ (t : Th) (v : V), vs = [v] ∧ Rep H t v ∧ t.Ok ∧ t.size ≤ n ∧ ∀ H', Same H H' → Q (.int (t.size : Nat)) H'
theorem scLSize : FnScope ["_law_thing", "_law_inner"] ["_law_thing"] (defScope sSize) := ⟨rfl, rfl, rfl, by decide +kernel, rfl, by decide +kernel, by decide +kernel⟩
theorem ok_lsize {n : Nat} (F : Fun K "_law_size" "_law_size" sSize f fd) (B : Blt mg) (bF : Binds K fd ["_law_thing"] []) (mF : mg "_law_size" = some (.ref f)) (G : FnOk P w K mg base CX0 n f fd ["_law_thing"] (spLSize n)) :
    FnOk P w K mg base CX0 (n + 1) f fd ["_law_thing"] (spLSize (n + 1)) := by
  refine F.ok scLSize (fun vs H Q E h => ?_) (fun cdv A outer s H vs Q E hr h => ?_)
  · obtain ⟨t, v, rfl, _⟩ := h
    rfl
  obtain ⟨t, v, rfl, rep, ok, hz, q⟩ := h
  have nd := scLSize.nd
  refine ⟨_, pss_cons (ps_set (i := 1) nd rfl (Or.inl rfl) (pe_lst pa_nil))
    (pss_cons (ps_if (pt_val (pe_callB call_isi rfl B.isi PyProof.Rows.boot_isinstance (pa_cons (pv 0) (pa_cons (pe_bltn (v := .ty "list") rfl B.list PyProof.Rows.boot_list rfl) pa_nil)))) (pss_one (ps_set (i := 1) nd rfl (Or.inl rfl) (pv 0))) pss_nil)
    (pss_cons (ps_if (pt_val (pe_callB call_isi rfl B.isi PyProof.Rows.boot_isinstance (pa_cons (pv 0) (pa_cons (pe_bltn (v := .ty "dict") rfl B.dict PyProof.Rows.boot_dict rfl) pa_nil))))
      (pss_one (ps_set (i := 1) nd rfl (Or.inl rfl) (pe_callTy (call_listV rfl) rfl B.list PyProof.Rows.boot_list (pa_cons (pe_bm0 PySem.F.plainAttrs_dict PySem.F.slot_dict_values PySem.F.type_dict_values mt_values (pv 0)) pa_nil)))) pss_nil)
    (pss_one (ps_ret (pe_op op_add pe_int (pe_callB (call_sum rfl) rfl B.sum PyProof.Rows.boot_sum (pa_cons (pe_lc (fr := []) rfl (pi_list (pv 1)) (LcSt.ok (sc := defScope sSize) (N := ["_law_thing", "_law_inner"]) ⟨by decide +kernel, rfl, by decide +kernel, rfl, by decide +kernel, by decide +kernel, by decide +kernel⟩ rfl rfl)
      fun fp C s H => pe_call G hr rfl mF F.kp bF .nil pass0 (pa_cons (pv 0) pa_nil)) pa_nil))))))), ?_⟩
  refine ⟨Nat.zero_le _, fun r0 hr0 => ?_⟩
  have sm0 := same_new hr0 (.lst [])
  have rep0 : Rep (upd H r0 (.lst [])) t v := rep.mono sm0
  -- the end, from a list of the things within
  have fin : ∀ (E' : XK) (a : Addr) (H1 : Hp) (xs : List V) (cs : List Th), Same H H1 → H1 a = some (.lst xs) → AllRep H1 xs cs → cs.length ≤ 9 → (∀ c ∈ cs, c.Ok ∧ c.size ≤ n) → 1 + (cs.map Th.size).sum = t.size →
      tLc [] (fun _ H R => R (Itl K a) H) (tCall (spLSize n) [] E' (tCons (tVar 0) tNil)) [some v, some (.ref a)] H1 (fun x H2 => ∃ (b : Addr) (ns : List Int), [x] = [V.ref b] ∧ H2 b = some (.lst (ns.map V.int)) ∧ ∃ i j : Int, V.int 1 = .int i ∧ V.int ns.sum = .int j ∧ Q (.int (i + j)) H2) := by
    intro E' a H1 xs cs sm1 ha pa h9 okc hsum
    have hxl : xs.length = cs.length := Paired.length pa
    refine lc_list (K := K) (a := a) (fr := []) (te := tCall (spLSize n) [] E' (tCons (tVar 0) tNil)) (σ := [some v, some (.ref a)]) (Q := fun x H2 => ∃ (b : Addr) (ns : List Int), [x] = [V.ref b] ∧ H2 b = some (.lst (ns.map V.int)) ∧ ∃ i j : Int, V.int 1 = .int i ∧ V.int ns.sum = .int j ∧ Q (.int (i + j)) H2) (xs := xs) (fun i ys H' => Same H1 H' ∧ ys = (cs.take i).map (fun c => V.int (c.size : Nat)) ∧ ys.length = i) (small (by omega)) ⟨Same.refl H1, rfl, rfl⟩ (fun i ys H' hi p => ⟨SqL.of (p.1 _ _ ha), p.2.2⟩) (fun i x ys H' hx p => ?_) (fun ys H' p r hr' => ?_)
    · obtain ⟨sm, rfl, hy⟩ := p
      obtain ⟨c, hc, rc⟩ := paired_at pa i x hx
      have hm := okc c (List.mem_of_getElem? hc)
      refine ⟨x, rfl, c, x, rfl, rc.mono sm, hm.1, hm.2, fun H2 sm2 => ⟨sm.trans sm2, ?_, by rw [List.length_append, hy]; rfl⟩⟩
      rw [List.take_succ, hc, List.map_append]
      rfl
    · obtain ⟨sm, rfl, hy⟩ := p
      rw [List.take_of_length_le (by omega)]
      refine ⟨r, cs.map fun c => ((c.size : Nat) : Int), rfl, ?_, _, _, rfl, rfl, ?_⟩
      · rw [upd_same, List.map_map]; rfl
      · have e : (1 : Int) + (cs.map fun c => ((c.size : Nat) : Int)).sum = ((t.size : Nat) : Int) := by
          rw [← hsum]
          have z : ∀ l : List Th, (l.map fun c => ((c.size : Nat) : Int)).sum = (((l.map Th.size).sum : Nat) : Int) := by
            intro l
            induction l with
            | nil => rfl
            | cons c r ih => rw [List.map_cons, List.sum_cons, List.map_cons, List.sum_cons, ih]; omega
          rw [z]
          omega
        rw [e]
        exact q _ ((sm1.trans sm).trans (same_new hr' _))
  have rt : TyOf K (upd H r0 (.lst [])) v (.type t.ty) := rep0.ty
  refine ⟨_, rfl, v, "list", _, _, rfl, rt, kit_list _ t, _, rfl, ?_⟩
  cases t with
  | num i => exact iteF ⟨_, rfl, v, "dict", _, _, rfl, rt, kit_dict _ (.num i), _, rfl, iteF ⟨_, rfl, r0, rfl, ⟨_, SqL.of upd_same⟩, fin _ r0 _ [] [] sm0 upd_same .nil (Nat.zero_le _) (fun c hc => absurd hc (by simp)) rfl⟩⟩
  | word x => exact iteF ⟨_, rfl, v, "dict", _, _, rfl, rt, kit_dict _ (.word x), _, rfl, iteF ⟨_, rfl, r0, rfl, ⟨_, SqL.of upd_same⟩, fin _ r0 _ [] [] sm0 upd_same .nil (Nat.zero_le _) (fun c hc => absurd hc (by simp)) rfl⟩⟩
  | row l =>
    obtain ⟨a, xs, rfl, h2, h3⟩ := (rep0 : ∃ a xs, v = V.ref a ∧ upd H r0 (.lst []) a = some (.lst xs) ∧ RepR (upd H r0 (.lst [])) l xs)
    have hzl : l.size + 1 ≤ n + 1 := hz
    refine iteT ⟨_, rfl, _, rfl, .ref a, "dict", _, _, rfl, rt, kit_dict _ (.row l), _, rfl, iteF ⟨_, rfl, a, rfl, ⟨_, SqL.of h2⟩, fin _ a _ xs l.ths sm0 h2 h3.all (by rw [Ts.ths_len]; exact ok.1) (fun c hc => ⟨Ts.ok_mem ok.2 c hc, ?_⟩) ?_⟩⟩
    · have := le_sum (List.mem_map.mpr ⟨c, hc, rfl⟩ : c.size ∈ l.ths.map Th.size)
      rw [Ts.ths_size] at this
      omega
    · rw [Ts.ths_size]
      show 1 + l.size = l.size + 1
      omega
  | dic l =>
    obtain ⟨a, kvs, rfl, h2, h3⟩ := (rep0 : ∃ a xs, v = V.ref a ∧ upd H r0 (.lst []) a = some (.dK xs) ∧ RepD (upd H r0 (.lst [])) l xs)
    have hzl : l.size + 1 ≤ n + 1 := hz
    refine iteF ⟨_, rfl, .ref a, "dict", _, _, rfl, rt, kit_dict _ (.dic l), _, rfl, iteT ⟨_, rfl, .inr (.inr (.inl ⟨rfl, .inl ⟨_, h2⟩⟩)), a, kvs, rfl, rfl, h2, fun vw hvw => ?_⟩⟩
    have s1 := same_new hvw (valsView vw a)
    refine ⟨vw, a, kvs, rfl, upd_same, s1 _ _ h2, fun r1 hr1 => ?_⟩
    have s2 := s1.trans (same_new hr1 (.lst (kvs.map (·.2))))
    refine ⟨_, rfl, r1, rfl, ⟨_, SqL.of upd_same⟩, fin _ r1 _ _ l.ths (sm0.trans s2) upd_same (AllRep.mono s2 h3.all) (by rw [Ts.ths_len]; exact ok.1) (fun c hc => ⟨Ts.ok_mem ok.2.2 c hc, ?_⟩) ?_⟩
    · have := le_sum (List.mem_map.mpr ⟨c, hc, rfl⟩ : c.size ∈ l.ths.map Th.size)
      rw [Ts.ths_size] at this
      omega
    · rw [Ts.ths_size]
      show 1 + l.size = l.size + 1
      omega
theorem none_lsize : FnOk P w K mg base CX0 0 f fd ["_law_thing"] (spLSize 0) := by
  have no : ∀ vs H Q E, ¬ spLSize 0 vs H Q E := fun vs H Q E h => by
    obtain ⟨t, v, _, _, _, hz, _⟩ := h
    have := size_pos t
    omega
  exact ⟨fun vs H Q E h => absurd h (no vs H Q E), fun A outer s H args us vs Q E _ _ _ _ h => absurd h (no vs H Q E)⟩
theorem all_lsize (F : Fun K "_law_size" "_law_size" sSize f fd) (B : Blt mg) (bF : Binds K fd ["_law_thing"] []) (mF : mg "_law_size" = some (.ref f)) : ∀ n : Nat, FnOk P w K mg base CX0 n f fd ["_law_thing"] (spLSize n)
  | 0 => none_lsize
  | n + 1 => ok_lsize F B bF mF (all_lsize F B bF mF n)
/-- the sort, as the law tells it -/
def spLSort : Sp := fun vs H Q _ => ∃ (t : Th) (v : V), vs = [v] ∧ Rep H t v ∧ ∀ H', Same H H' → Q (.int t.own.sort) H'
theorem scLSort : FnScope ["_law_thing"] ["_law_thing"] (defScope sSort) := ⟨rfl, rfl, rfl, by decide +kernel, rfl, by decide +kernel, by decide +kernel⟩
theorem ok_lsort (F : Fun K "_law_sort" "_law_sort" sSort f fd) (B : Blt mg) : FnOk P w K mg base CX0 1 f fd ["_law_thing"] spLSort := by
  refine F.ok scLSort (fun vs H Q E h => ?_) (fun cdv A outer s H vs Q E hr h => ?_)
  · obtain ⟨t, v, rfl, _⟩ := h
    rfl
  obtain ⟨t, v, rfl, rep, q⟩ := h
  refine ⟨_, pss_one (ps_ret (pe_bm PySem.F.plainAttrs_list PySem.F.slot_list_index PySem.F.type_list_index mt_indexT (pe_lst
    (pa_cons (pe_callB call_isi rfl B.isi PyProof.Rows.boot_isinstance (pa_cons (pv 0) (pa_cons (pe_bltn (v := .ty "int") rfl B.int PyProof.Rows.boot_int rfl) pa_nil)))
    (pa_cons (pe_callB call_isi rfl B.isi PyProof.Rows.boot_isinstance (pa_cons (pv 0) (pa_cons (pe_bltn (v := .ty "str") rfl B.str PyProof.Rows.boot_str rfl) pa_nil)))
    (pa_cons (pe_callB call_isi rfl B.isi PyProof.Rows.boot_isinstance (pa_cons (pv 0) (pa_cons (pe_bltn (v := .ty "list") rfl B.list PyProof.Rows.boot_list rfl) pa_nil)))
    (pa_cons pe_bl pa_nil))))) (pa_cons pe_bl pa_nil))), ?_⟩
  refine ⟨_, rfl, v, "int", _, _, rfl, rep.ty, kit_num _ t, _, rfl, v, "str", _, _, rfl, rep.ty, kit_word _ t, _, rfl, v, "list", _, _, rfl, rep.ty, kit_list _ t, (by show 4 ≤ sizeLine; decide), fun r hr' => ?_⟩
  refine ⟨.inl ⟨rfl, _, SqL.of upd_same⟩, ?_⟩
  have sm := same_new hr' (.lst [V.bl (isN t), .bl (isW t), .bl (isL t), .bl true])
  have hq := q _ sm
  cases t with
  | num i => exact ⟨r, [true, false, false, true], 0, rfl, rfl, upd_same, by decide, rfl, fun i hi => absurd hi (Nat.not_lt_zero _), hq⟩
  | word x => exact ⟨r, [false, true, false, true], 1, rfl, rfl, upd_same, by decide, rfl, fun i hi => by
      match i, hi with
      | 0, _ => rfl, hq⟩
  | row l => exact ⟨r, [false, false, true, true], 2, rfl, rfl, upd_same, by decide, rfl, fun i hi => by
      match i, hi with
      | 0, _ => rfl
      | 1, _ => rfl, hq⟩
  | dic l => exact ⟨r, [false, false, false, true], 3, rfl, rfl, upd_same, by decide, rfl, fun i hi => by
      match i, hi with
      | 0, _ => rfl
      | 1, _ => rfl
      | 2, _ => rfl, hq⟩
end
end K2
set_option Elab.async false
set_option linter.all false
set_option maxRecDepth 100000
set_option maxHeartbeats 4000000
namespace K2
open PySem PySem.W L2 Rg
/-- the lambda of _law_flat -/
def lamPos : Pos := ⟨103, 46, 103, 88⟩
def lamQ : Str := (("_law_flat" : Str) ++ ".<locals>.") ++ "<lambda>"
abbrev Tab (Pt : Addr) (H : Hp) : Prop := TabOk Pt lamPos lamQ H
section
variable {P : Program} {w : World} {K : PySem.W.Frag} {mg : Str → Option Value} {base : Heap} {f g c Pt : Addr} {fd gd : FuncData}
def rSortL (params : Arguments) (body : PySem.Expr) (scope : Scope) : List V → List V → Hp → VK → Prop := fun vs zs H Q => ∃ (f c' a : Addr) (kvs : List (Key × V)), vs = [.ref a] ∧ zs = [.ref f] ∧ H f = some (funO f c' lamQ params body scope) ∧ H c' = some (codeO c' lamQ) ∧ H a = some (.dK kvs) ∧ kvs.length < 64 ∧
  ∃ xs : List Str, kvs.map (·.1) = xs.map Sum.inr ∧ (∀ x ∈ xs, x.length ≤ 1000) ∧ ∀ (q : Addr) (H' : Hp), Same H H' → H' q = some (.lst ((srt xs).map V.str)) → Q (.ref q) H'
theorem call_sortL {X : Cx} {params : Arguments} {p1 p2 p3 p4 p5 pa : Pos} {k0 : Nat} (B : Blt X.mg) (hc : X.calm = true) (hne : ∀ e s, X.xe e s → False) (hr : Room 3 X.A)
    (hp : params = { posonlyargs := [], args := [{ arg := "_law_one", annotation := none, pos := pa }], vararg := none, kwonlyargs := [], kw_defaults := [], kwarg := none, defaults := [] }) :
    CallKR X "sorted" [Str.ofString "key"] (rSortL params (.Tuple [.Call (.Name "len" p1) [.Name "_law_one" p2] [] p3, .Name "_law_one" p4] k0 p5)
      { kind := .function, names := [("_law_one", .local), ("len", .globalImplicit)], isGenerator := false, isCoroutine := false, more := [] }) := by
  intro pins s σ H vs zs us ws Q I rv rz h
  obtain ⟨f, c', a, kvs, rfl, rfl, hf, hc', ha, h64, xs, hk, hx, q⟩ := h
  have F := fn_lam (CX := CX0) (P := X.prog) (w := X.w) (K := X.K) (mg := X.mg) (base := X.base) (k := 0) (f := f) (c' := c') (q := lamQ) (params := params) (body := .Tuple [.Call (.Name "len" p1) [.Name "_law_one" p2] [] p3, .Name "_law_one" p4] k0 p5)
    (scope := { kind := .function, names := [("_law_one", .local), ("len", .globalImplicit)], isGenerator := false, isCoroutine := false, more := [] }) (N := ["_law_one"]) (ps := ["_law_one"]) (sp := spKey)
    ⟨rfl, rfl, rfl, by decide +kernel, rfl, by decide +kernel, by decide +kernel⟩ (fun vs H Q E h => by obtain ⟨x, rfl, _⟩ := h; rfl)
    (fun A outer s H vs Q E hr h => by
      obtain ⟨x, rfl, hx, q⟩ := h
      refine ⟨_, pe_tup (pa_cons (pe_callB call_len rfl B.len PySem.boot_len (pa_cons (pv 0) pa_nil)) (pa_cons (pv 0) pa_nil)), ?_⟩
      exact ⟨_, rfl, _, _, rfl, ⟨small hx, rfl⟩, _, rfl, (by show 2 ≤ sizeLine; decide), fun p hp => q p hp⟩)
  have bF : Binds X.K (lamFd c' lamQ params (.Tuple [.Call (.Name "len" p1) [.Name "_law_one" p2] [] p3, .Name "_law_one" p4] k0 p5) { kind := .function, names := [("_law_one", .local), ("len", .globalImplicit)], isGenerator := false, isCoroutine := false, more := [] }) ["_law_one"] [] := by
    subst hp
    exact Binds.all fun us hl => match us, hl with | [_], _ => rfl
  exact call_sortW hc hne F hr bF pins s σ H _ _ us ws Q I rv rz ⟨a, kvs, rfl, rfl, ha, fun H' vs Q E sm h => ⟨sm _ _ hf, sm _ _ hc', h⟩, h64, xs, hk, hx, q⟩
/-- the fields and the things of a record, in order -/
def spFlat (Pt : Addr) : Sp := fun vs H Q _ => ∃ (l : Ts) (v : V), vs = [v] ∧ Rep H (.dic l) v ∧ (Th.dic l).Ok ∧ Tab Pt H ∧ ∀ (r : Addr) (H' : Hp) (xs : List V), SameX H H' → Tab Pt H' → H' r = some (.lst xs) → AllRep H' xs (flat (kids (.dic l))) → Q (.ref r) H'
theorem scFlat : FnScope ["_law_record", "_law_found", "_law_field"] ["_law_record"] (defScope sFlat) := ⟨rfl, rfl, rfl, by decide +kernel, rfl, by decide +kernel, by decide +kernel⟩
theorem ok_flat {oc kV doc pm ct : Value} {od an : Option Addr} {osl : Array (Option Value)} (lk : K.lookup f = some ⟨oc, od, .func (PySem.W.fnOf "_law_flat" "_law_flat" (defArgs sFlat) (defBody sFlat) (defScope sFlat) .none kV doc pm an (.ref c) ct), osl⟩)
    (hcd : PySem.W.codeIn K (.ref c) "_law_flat" = true) (B : Blt mg) (hC : CodeHd base c Pt) (hB : BM mg base) :
    FnOk P w K mg base CX0 4 f (PySem.W.fnOf "_law_flat" "_law_flat" (defArgs sFlat) (defBody sFlat) (defScope sFlat) .none kV doc pm an (.ref c) ct) ["_law_record"] (spFlat Pt) := by
  refine fn_of lk hcd scFlat (fun vs H Q E h => ?_) (fun A outer s H vs Q E hr h => ?_)
  · obtain ⟨l, v, rfl, _⟩ := h
    rfl
  obtain ⟨l, v, rfl, rep, ok, tab, q⟩ := h
  have nd := scFlat.nd
  have hu := hu_of hr
  suffices key : ∃ t, PSs (cxOf CX0 P w K mg base ["_law_record", "_law_found", "_law_field"] "_law_flat" (defScope sFlat) f (.ref c) A outer s H E).nox (defBody sFlat) t ∧ t { nx := fun _ H' => Q .non H', rt := Q } (L2.start ["_law_record", "_law_found", "_law_field"] [v]) H by
    obtain ⟨t, ht, hq⟩ := key
    exact ⟨t, ht.nox, hq⟩
  refine ⟨_, pss_cons (ps_set (i := 1) nd rfl (Or.inl rfl) (pe_lst pa_nil))
    (pss_cons (ps_for PassesOwn.never rfl (pi_list (pe_callBK (call_sortL (params := { posonlyargs := [], args := [{ arg := "_law_one", annotation := none, pos := ⟨103, 53, 103, 61⟩ }], vararg := none, kwonlyargs := [], kw_defaults := [], kwarg := none, defaults := [] }) (p1 := ⟨103, 64, 103, 67⟩) (p2 := ⟨103, 68, 103, 76⟩) (p3 := ⟨103, 64, 103, 77⟩) (p4 := ⟨103, 79, 103, 87⟩) (p5 := ⟨103, 63, 103, 88⟩) (pa := ⟨103, 53, 103, 61⟩) (k0 := 0) B rfl (fun _ _ z => z) hr rfl) rfl B.sorted PyProof.Rows.boot_sorted (pa_cons (pv 0) pa_nil) (pk_cons (pe_lambda (q := lamQ) rfl rfl hC hB rfl) pk_nil))) (pg_name (i := 2) nd rfl (Or.inl rfl))
      (pss_one (ps_set (i := 1) nd rfl (Or.inl rfl) (pe_op op_cat (pv 1) (pe_lst (pa_cons (pv 2) (pa_cons (pe_dget hu (pv 0) (pv 2) (fun _ _ => rfl)) pa_nil)))))))
    (pss_one (ps_ret (pv 1)))), ?_⟩
  obtain ⟨a, kvs, rfl, h2, h3⟩ := (rep : ∃ a kvs, v = V.ref a ∧ H a = some (.dK kvs) ∧ RepD H l kvs)
  obtain ⟨hl9, hnd, okl⟩ := ok
  refine ⟨Nat.zero_le _, fun r0 hr0 => ?_⟩
  have sm0 := same_new hr0 (.lst [])
  refine ⟨_, rfl, tab.mono sm0, fun fl c' H1 sx1 hf hc' tab1 => ?_⟩
  have h21 : H1 a = some (.dK kvs) := sx1 _ _ (sm0 _ _ h2) (fun _ z => by cases z)
  refine ⟨fl, c', a, kvs, rfl, rfl, hf, hc', h21, by rw [h3.len]; omega, l.keys, h3.keys, fun x hx => Nat.le_trans (Ts.ok_keys okl x hx) (by decide), fun ls H2 sm2 hls => ?_⟩
  have hr02 : H2 r0 = some (.lst []) := sm2 _ _ (sx1 _ _ upd_same (fun _ z => by cases z))
  have pm := srt_perm l.keys
  have hkl := Ts.keys_len l
  have hyl : (srt l.keys).length = l.len := by rw [pm.length_eq, hkl]
  have sx : SameX H H2 := ((Same.x sm0).trans sx1).trans (Same.x sm2)
  have h3' : RepD H2 l kvs := h3.monoX sx
  have h22 := sm2 _ _ h21
  refine ⟨ls, rfl, ⟨_, SqL.of hls⟩, for_list (xs := (srt l.keys).map V.str) (fun i σ' H' => ∃ (r : Addr) (xs : List V) (s2 : Option V), σ' = [some (.ref a), some (.ref r), s2] ∧ Same H2 H' ∧ H' r = some (.lst xs) ∧ AllRep H' xs (flat (((srt l.keys).take i).map fun k => (k, l.fld k))) ∧ xs.length = 2 * i)
    ⟨r0, [], none, rfl, Same.refl H2, hr02, .nil, rfl⟩ (fun i σ' H' _ p => ?_) (fun i x σ' H' hx p => ?_) (fun σ' H' p => ?_)⟩
  · obtain ⟨_, _, _, _, sm, _⟩ := p
    exact SqL.of (sm _ _ hls)
  · obtain ⟨r, xs, s2, rfl, sm, hr1, pa, hxl⟩ := p
    rw [List.getElem?_map] at hx
    cases ek : (srt l.keys)[i]? with
    | none => rw [ek] at hx; cases hx
    | some k =>
      rw [ek] at hx
      cases hx
      have hi := (List.getElem?_eq_some_iff.mp ek).1
      have hc := fld_get l (pm.mem_iff.mp (List.mem_of_getElem? ek))
      obtain ⟨y, hy2, ry⟩ := h3'.val hc
      have hd := DGet.k (k := Sum.inr k) (sm _ _ h22)
      rw [hy2] at hd
      refine ⟨_, rfl, _, rfl, _, rfl, _, rfl, a, y, rfl, hd, (by show 2 ≤ sizeLine; decide), fun p hp => ?_⟩
      have s1 := same_new hp (.lst [.str k, y])
      refine ⟨r, p, xs, _, rfl, rfl, s1 _ _ hr1, upd_same, small (show xs.length + 2 ≤ 1000 by omega), fun r2 hr2 => ?_⟩
      have s2' := s1.trans (same_new hr2 (.lst (xs ++ [.str k, y])))
      refine ⟨r2, xs ++ [.str k, y], _, rfl, sm.trans s2', upd_same, ?_, by rw [List.length_append, hxl]; show 2 * i + 2 = _; omega⟩
      rw [List.take_succ, ek, List.map_append, show (some k).toList.map (fun k => (k, l.fld k)) = [(k, l.fld k)] from rfl, flat_snoc]
      exact paired_app (AllRep.mono s2' pa) (.cons rfl (.cons ((ry.mono sm).mono s2') .nil))
  · obtain ⟨r, xs, s2, rfl, sm, hr1, pa, hxl⟩ := p
    rw [List.length_map, List.take_of_length_le (Nat.le_refl _)] at pa
    exact ⟨_, rfl, q r H' xs (sx.trans (Same.x sm)) ((tab1.mono sm2).mono sm) hr1 pa⟩
end
end K2
set_option Elab.async false
set_option linter.all false
set_option maxRecDepth 100000
set_option maxHeartbeats 4000000
namespace Rg
open PySem L2
def cmpV : V → V → Ordering
  | .int i, .int j => cmpI i j
  | .str x, .str y => cmpS x y
  | _, _ => .eq
def CmpOk : V → V → Prop
  | .int _, .int _ => True
  | .str _, .str _ => True
  | _, _ => False
def firstC : List (V × V) → Ordering
  | [] => .eq
  | p :: r => (cmpV p.1 p.2).then (firstC r)
theorem ordI_eq {o : Ordering} (h : ordI o = 0) : o = .eq := by cases o <;> first | rfl | cases h
/-- what decides between two things of one size and sort -/
def rest : Th → Th → Ordering
  | .row l, .row m => fuL (l.ths.map nrm) (m.ths.map nrm)
  | .dic l, .dic m => fuL ((flat (kids (.dic l))).map nrm) ((flat (kids (.dic m))).map nrm)
  | _, _ => .eq
theorem rest_row (l m : Ts) : rest (.row l) (.row m) = ordS (nrmR l) (nrmR m) := by
  show fuL (l.ths.map nrm) (m.ths.map nrm) = _
  rw [← nrm_ths, ← nrm_ths, fu_row]
theorem kids_ofL (l : Ts) : (kids (.dic l)).map nP = (Ts.ofL ((srt l.keys).map fun k => (k, (nrmS l).fld k))).toL := by
  have z := kids_nrm (.dic l)
  exact z.symm
theorem rest_dic (l m : Ts) : rest (.dic l) (.dic m) = ordS (Ts.ofL ((srt l.keys).map fun k => (k, (nrmS l).fld k))) (Ts.ofL ((srt m.keys).map fun k => (k, (nrmS m).fld k))) := by
  show fuL ((flat (kids (.dic l))).map nrm) ((flat (kids (.dic m))).map nrm) = _
  rw [flat_nrm, flat_nrm, kids_ofL, kids_ofL, fu_flat]
theorem ord_parts (t t' : Th) (h : t.Ok) (h' : t'.Ok) : ordT (nrm t) (nrm t') = (cmpI (t.size : Nat) (t'.size : Nat)).then ((cmpI t.own.sort t'.own.sort).then ((t.own.in1 t'.own).then (rest t t'))) := by
  have z := nrm_size t h
  have z' := nrm_size t' h'
  have o' := nrm_own t'
  rw [← z, ← z', ← o']
  have ee : ∀ o : Ordering, o.then .eq = o := fun o => by cases o <;> rfl
  cases t with
  | num i =>
    show (cmpI (1 : Nat) (nrm t').size).then ((cmpI 0 (nrm t').own.sort).then ((Own.num i).in1 (nrm t').own)) = _
    show _ = (cmpI (1 : Nat) (nrm t').size).then ((cmpI 0 (nrm t').own.sort).then (((Own.num i).in1 (nrm t').own).then .eq))
    rw [ee]
  | word x =>
    show (cmpI (1 : Nat) (nrm t').size).then ((cmpI 1 (nrm t').own.sort).then ((Own.word x).in1 (nrm t').own)) = _
    show _ = (cmpI (1 : Nat) (nrm t').size).then ((cmpI 1 (nrm t').own.sort).then (((Own.word x).in1 (nrm t').own).then .eq))
    rw [ee]
  | row l =>
    show (cmpI ((nrmR l).size + 1 : Nat) (nrm t').size).then (((cmpI 2 (nrm t').own.sort).then (Own.row.in1 (nrm t').own)).then (match nrm t' with | .row m => ordS (nrmR l) m | _ => .eq)) = (cmpI ((nrmR l).size + 1 : Nat) (nrm t').size).then ((cmpI 2 (nrm t').own.sort).then ((Own.row.in1 (nrm t').own).then (rest (.row l) t')))
    rw [then_assoc]
    cases t' with
    | row m => rw [rest_row]; rfl
    | num i => rfl
    | word x => rfl
    | dic m => rfl
  | dic l =>
    show (cmpI ((Ts.ofL ((srt l.keys).map fun k => (k, (nrmS l).fld k))).size + 1 : Nat) (nrm t').size).then (((cmpI 3 (nrm t').own.sort).then (Own.dic.in1 (nrm t').own)).then (match nrm t' with | .dic m => ordS (Ts.ofL ((srt l.keys).map fun k => (k, (nrmS l).fld k))) m | _ => .eq)) = (cmpI ((Ts.ofL ((srt l.keys).map fun k => (k, (nrmS l).fld k))).size + 1 : Nat) (nrm t').size).then ((cmpI 3 (nrm t').own.sort).then ((Own.dic.in1 (nrm t').own).then (rest (.dic l) t')))
    rw [then_assoc]
    cases t' with
    | dic m => rw [rest_dic]; rfl
    | num i => rfl
    | word x => rfl
    | row m => rfl
end Rg
namespace K2
open PySem PySem.W L2 Rg
section
variable {P : Program} {w : World} {K : PySem.W.Frag} {mg : Str → Option Value} {base : Heap} {f g g2 g3 g4 c Pt : Addr} {fd gd gd2 gd3 gd4 : FuncData}
/-- the order, as the law tells it -/
def spOrd (Pt : Addr) (n : Nat) : Sp := fun vs H Q _ => ∃ (t t' : Th) (v v' : V), vs = [v, v'] ∧ Rep H t v ∧ Rep H t' v' ∧ t.Ok ∧ t'.Ok ∧ t.size ≤ n ∧ t'.size ≤ n ∧ Tab Pt H ∧ ∀ H', SameX H H' → Tab Pt H' → Q (.int (ordI (ordT (nrm t) (nrm t')))) H'
def spFirst (Pt : Addr) (n : Nat) : Sp := fun vs H Q _ => ∃ (a b : Addr) (xs ys : List V) (cs ds : List Th), vs = [.ref a, .ref b] ∧ H a = some (.lst xs) ∧ H b = some (.lst ys) ∧ AllRep H xs cs ∧ AllRep H ys ds ∧ cs.length ≤ 100 ∧ ds.length ≤ 100 ∧ (∀ c ∈ cs, c.Ok ∧ c.size ≤ n) ∧ (∀ c ∈ ds, c.Ok ∧ c.size ≤ n) ∧ Tab Pt H ∧
  ∀ H', SameX H H' → Tab Pt H' → Q (.int (ordI (fuL (cs.map nrm) (ds.map nrm)))) H'
theorem scFirst : FnScope ["_law_ones", "_law_others", "_law_one", "_law_other", "_law_way"] ["_law_ones", "_law_others"] (defScope sFirst) := ⟨rfl, rfl, rfl, by decide +kernel, rfl, by decide +kernel, by decide +kernel⟩
theorem fu_drop {cs ds : List Th} {i : Nat} {c d : Th} (hc : cs[i]? = some c) (hd : ds[i]? = some d) : fuL ((cs.drop i).map nrm) ((ds.drop i).map nrm) = (ordT (nrm c) (nrm d)).then (fuL ((cs.drop (i + 1)).map nrm) ((ds.drop (i + 1)).map nrm)) := by
  obtain ⟨h1, e1⟩ := List.getElem?_eq_some_iff.mp hc
  obtain ⟨h2, e2⟩ := List.getElem?_eq_some_iff.mp hd
  rw [List.drop_eq_getElem_cons h1, List.drop_eq_getElem_cons h2, e1, e2]
  rfl
theorem fu_end {cs ds : List Th} {i : Nat} (h : cs.length ≤ i ∨ ds.length ≤ i) : fuL ((cs.drop i).map nrm) ((ds.drop i).map nrm) = .eq := by
  rcases h with h | h
  · rw [List.drop_of_length_le h]; rfl
  · rw [List.drop_of_length_le h]
    cases (cs.drop i) <;> rfl
theorem ok_first {n k : Nat} (F : Fun K "_law_first_unlike" "_law_first_unlike" sFirst f fd) (B : Blt mg) (G : FnOk P w K mg base CX0 k g gd ["_law_one", "_law_other"] (spOrd Pt n)) (bG : Binds K gd ["_law_one", "_law_other"] []) (kG : PySem.W.keepIn K (.ref g) = true) (mG : mg "_law_order" = some (.ref g)) :
    FnOk P w K mg base CX0 (k + 1) f fd ["_law_ones", "_law_others"] (spFirst Pt n) := by
  refine F.ok scFirst (fun vs H Q E h => ?_) (fun cdv A outer s H vs Q E hr h => ?_)
  · obtain ⟨a, b, xs, ys, cs, ds, rfl, _⟩ := h
    rfl
  obtain ⟨a, b, xs, ys, cs, ds, rfl, ha, hb, pa, pb, hcl, hdl, okc, okd, tab, q⟩ := h
  have nd := scFirst.nd
  refine ⟨_, pss_cons (ps_for PassesOwn.never rfl (pi_zip rfl B.zip (pa_cons (pv 0) (pa_cons (pv 1) pa_nil))) (pg_tup rfl (pgs_cons (pg_name (i := 2) nd rfl (Or.inl rfl)) (pgs_cons (pg_name (i := 3) nd rfl (Or.inl rfl)) pgs_nil)))
      (pss_cons (ps_set (i := 4) nd rfl (Or.inl rfl) (pe_call G hr rfl mG kG bG .nil pass0 (pa_cons (pv 2) (pa_cons (pv 3) pa_nil))))
      (pss_one (ps_if (pt_cmpR op_ne (pv 4) pe_int (nomark _)) (pss_one (ps_ret (pv 4))) pss_nil))))
    (pss_one (ps_ret pe_int)), ?_⟩
  have hxl : xs.length = cs.length := Paired.length pa
  have hyl : ys.length = ds.length := Paired.length pb
  refine ⟨_, rfl, _, rfl, a, b, rfl, ⟨xs, SqL.of ha⟩, ⟨ys, SqL.of hb⟩, for_zip (xs := xs) (ys := ys) (fun i σ' H' => ∃ s2 s3 s4 : Option V, σ' = [some (.ref a), some (.ref b), s2, s3, s4] ∧ SameX H H' ∧ Tab Pt H' ∧ fuL (cs.map nrm) (ds.map nrm) = fuL ((cs.drop i).map nrm) ((ds.drop i).map nrm))
    ⟨none, none, none, rfl, SameX.refl H, tab, rfl⟩ (fun i σ' H' _ p => ?_) (fun i x y T σ' H' hx hy hT p => ?_) (fun σ' H' p => ?_)⟩
  · obtain ⟨_, _, _, _, sm, _⟩ := p
    exact ⟨SqL.of (sm _ _ ha (fun _ z => by cases z)), SqL.of (sm _ _ hb (fun _ z => by cases z))⟩
  · obtain ⟨s2, s3, s4, rfl, sm, tb, he⟩ := p
    obtain ⟨c, hc, rc⟩ := paired_at pa i x hx
    obtain ⟨d, hd, rd⟩ := paired_at pb i y hy
    have s1 := same_new hT (.tup [x, y])
    have sx : SameX H (upd H' T (.tup [x, y])) := sm.trans (Same.x s1)
    have hc' := okc c (List.mem_of_getElem? hc)
    have hd' := okd d (List.mem_of_getElem? hd)
    refine ⟨T, [x, y], rfl, SqT.of upd_same, rfl, x, _, rfl, y, _, rfl, rfl, ?_⟩
    refine ⟨_, rfl, _, rfl, c, d, x, y, rfl, rc.monoX sx, rd.monoX sx, hc'.1, hd'.1, hc'.2, hd'.2, tb.mono s1, fun H2 sx2 tb2 => ?_⟩
    rw [fu_drop hc hd] at he
    refine ⟨_, rfl, rfl, _, rfl, ?_⟩
    by_cases e : ordI (ordT (nrm c) (nrm d)) = 0
    · refine iteNS (by rw [e]) ⟨_, _, _, rfl, sx.trans sx2, tb2, ?_⟩
      rw [he, ordI_eq e]
      rfl
    · refine (show (if (!decide (V.int (ordI (ordT (nrm c) (nrm d))) = V.int 0)) = true then _ else _) from ?_)
      rw [decide_eq_false (fun z => e (by injection z))]
      refine iteT ⟨_, rfl, ?_⟩
      have hq := q H2 (sx.trans sx2) tb2
      have e2 : (ordT (nrm c) (nrm d)).then (fuL ((cs.drop (i + 1)).map nrm) ((ds.drop (i + 1)).map nrm)) = ordT (nrm c) (nrm d) := by
        cases h : ordT (nrm c) (nrm d) with
        | eq => rw [h] at e; exact absurd rfl e
        | lt => rfl
        | gt => rfl
      rw [he, e2] at hq
      exact hq
  · obtain ⟨s2, s3, s4, rfl, sm, tb, he⟩ := p
    have hq := q H' sm tb
    rw [he, fu_end (by omega)] at hq
    exact hq
theorem scOrder : FnScope ["_law_one", "_law_other", "_law_pairs", "_law_left", "_law_right_here"] ["_law_one", "_law_other"] (defScope sOrder) := ⟨rfl, rfl, rfl, by decide +kernel, rfl, by decide +kernel, by decide +kernel⟩
/-- the pairs that are looked at stand in the heap -/
abbrev PairsAre (H : Hp) : List V → List (V × V) → Prop := Paired fun v p => ∃ a, v = V.ref a ∧ H a = some (.tup [p.1, p.2]) ∧ CmpOk p.1 p.2
theorem PairsAre.mono {H H' : Hp} (e : TupsStay H H') {vs : List V} {ps : List (V × V)} (h : PairsAre H vs ps) : PairsAre H' vs ps := Paired.mapP h fun _ _ ⟨p, h1, h2, h3⟩ => ⟨p, h1, e _ _ h2, h3⟩
theorem first_drop {ps : List (V × V)} {i : Nat} {p : V × V} (h : ps[i]? = some p) : firstC (ps.drop i) = (cmpV p.1 p.2).then (firstC (ps.drop (i + 1))) := by
  obtain ⟨h1, e1⟩ := List.getElem?_eq_some_iff.mp h
  rw [List.drop_eq_getElem_cons h1, e1]
  rfl
theorem cmpV_ne {x y : V} (h : CmpOk x y) : cmpV x y = .eq ↔ x = y := by
  cases x with
  | int i =>
    cases y with
    | int j => exact ⟨fun e => by rw [cmpI_eq e], fun e => by injection e with e; rw [e]; exact cmpI_refl _⟩
    | _ => exact False.elim h
  | str i =>
    cases y with
    | str j => exact ⟨fun e => by rw [cmpS_eq e], fun e => by injection e with e; rw [e]; exact cmpS_refl _⟩
    | _ => exact False.elim h
  | _ => exact False.elim h
theorem cmpOk_scal {x y : V} (h : CmpOk x y) : scal x y = true := by
  cases x with
  | int i => cases y <;> first | rfl | exact False.elim h
  | str i => cases y <;> first | rfl | exact False.elim h
  | _ => exact False.elim h
end
end K2
set_option Elab.async false
set_option linter.all false
set_option maxRecDepth 100000
set_option maxHeartbeats 4000000
namespace Rg
open PySem L2
theorem iteD {c A B : Prop} [Decidable c] (hc : c) (h : A) : if decide c = true then A else B := by
  rw [decide_eq_true hc]
  exact iteT h
theorem iteDn {c A B : Prop} [Decidable c] (hc : ¬ c) (h : B) : if decide c = true then A else B := by
  rw [decide_eq_false hc]
  exact iteF h
theorem iteNn {c A B : Prop} [Decidable c] (hc : ¬ c) (h : A) : if (!decide c) = true then A else B := by
  rw [decide_eq_false hc]
  exact iteT h
theorem int_ne {i j : Int} (h : i ≠ j) : ¬ V.int i = V.int j := fun e => h (by injection e)
theorem sort_num {t : Th} (h : t.own.sort = 0) : ∃ i, t = .num i := by
  cases t with
  | num i => exact ⟨i, rfl⟩
  | word x => cases (show (1 : Int) = 0 from h)
  | row l => cases (show (2 : Int) = 0 from h)
  | dic l => cases (show (3 : Int) = 0 from h)
theorem sort_word {t : Th} (h : t.own.sort = 1) : ∃ x, t = .word x := by
  cases t with
  | num i => cases (show (0 : Int) = 1 from h)
  | word x => exact ⟨x, rfl⟩
  | row l => cases (show (2 : Int) = 1 from h)
  | dic l => cases (show (3 : Int) = 1 from h)
theorem sort_row {t : Th} (h : t.own.sort = 2) : ∃ l, t = .row l := by
  cases t with
  | num i => cases (show (0 : Int) = 2 from h)
  | word x => cases (show (1 : Int) = 2 from h)
  | row l => exact ⟨l, rfl⟩
  | dic l => cases (show (3 : Int) = 2 from h)
theorem sort_dic {t : Th} (h : t.own.sort = 3) : ∃ l, t = .dic l := by
  cases t with
  | num i => cases (show (0 : Int) = 3 from h)
  | word x => cases (show (1 : Int) = 3 from h)
  | row l => cases (show (2 : Int) = 3 from h)
  | dic l => exact ⟨l, rfl⟩
theorem in1_eq {t t' : Th} (h0 : ¬ (t.own.sort = 0 ∧ t'.own.sort = 0)) (h1 : ¬ (t.own.sort = 1 ∧ t'.own.sort = 1)) : t.own.in1 t'.own = .eq := by
  cases t <;> cases t' <;> first | rfl | exact absurd ⟨rfl, rfl⟩ h0 | exact absurd ⟨rfl, rfl⟩ h1
theorem rest_eq {t t' : Th} (h2 : t.own.sort ≠ 2) (h3 : t.own.sort ≠ 3) : rest t t' = .eq := by
  cases t with
  | num i => rfl
  | word x => rfl
  | row l => exact absurd rfl h2
  | dic l => exact absurd rfl h3
end Rg
namespace K2
open PySem PySem.W L2 Rg
section
variable {P : Program} {w : World} {K : PySem.W.Frag} {mg : Str → Option Value} {base : Heap} {f g g2 g3 g4 c Pt : Addr} {fd gd gd2 gd3 gd4 : FuncData}
theorem ok_order {n k kf : Nat} (F : Fun K "_law_order" "_law_order" sOrder f fd) (B : Blt mg) (h1k : 4 ≤ k) (hkf : kf ≤ k) (hkz : n + 1 ≤ k)
    (Z : FnOk P w K mg base CX0 (n + 1) g gd ["_law_thing"] (spLSize (n + 1))) (bZ : Binds K gd ["_law_thing"] []) (kZ : PySem.W.keepIn K (.ref g) = true) (mZ : mg "_law_size" = some (.ref g))
    (S : FnOk P w K mg base CX0 1 g2 gd2 ["_law_thing"] spLSort) (bS : Binds K gd2 ["_law_thing"] []) (kS : PySem.W.keepIn K (.ref g2) = true) (mS : mg "_law_sort" = some (.ref g2))
    (U : FnOk P w K mg base CX0 kf g3 gd3 ["_law_ones", "_law_others"] (spFirst Pt n)) (bU : Binds K gd3 ["_law_ones", "_law_others"] []) (kU : PySem.W.keepIn K (.ref g3) = true) (mU : mg "_law_first_unlike" = some (.ref g3))
    (L : FnOk P w K mg base CX0 4 g4 gd4 ["_law_record"] (spFlat Pt)) (bL : Binds K gd4 ["_law_record"] []) (kL : PySem.W.keepIn K (.ref g4) = true) (mL : mg "_law_flat" = some (.ref g4)) :
    FnOk P w K mg base CX0 (k + 1) f fd ["_law_one", "_law_other"] (spOrd Pt (n + 1)) := by
  refine F.ok scOrder (fun vs H Q E h => ?_) (fun cdv A outer s H vs Q E hr h => ?_)
  · obtain ⟨t, t', v, v', rfl, _⟩ := h
    rfl
  obtain ⟨t, t', v, v', rfl, rep, rep', ok, ok', hz, hz', tab, q⟩ := h
  have nd := scOrder.nd
  have rz := hr.mono hkz
  have r1 := hr.mono (show 1 ≤ k by omega)
  have r4 := hr.mono h1k
  have rf := hr.mono hkf
  have mt := ord_parts t t' ok ok'
  have tail : ∃ T : TS, PSs (cxOf CX0 P w K mg base ["_law_one", "_law_other", "_law_pairs", "_law_left", "_law_right_here"] "_law_order" (defScope sOrder) f cdv A outer s H E).nox ((defBody sOrder).drop 3) T ∧
      ∀ (D : Ends) (H1 : Hp) (pr p2 : Addr) (pvs : List V) (prs : List (V × V)), D.rt = Q → Same H H1 → H1 pr = some (.lst pvs) → PairsAre H1 pvs prs → prs.length ≤ 4 → atI pvs 1 = some (.ref p2) → H1 p2 = some (.tup [.int t.own.sort, .int t'.own.sort]) →
        ordT (nrm t) (nrm t') = (firstC prs).then (rest t t') → (firstC prs = .eq → t.own.sort = t'.own.sort) → T D [some v, some v', some (.ref pr), none, none] H1 := by
    refine ⟨_, pss_cons (ps_for PassesOwn.never rfl (pi_list (pv 2)) (pg_tup rfl (pgs_cons (pg_name (i := 3) nd rfl (Or.inl rfl)) (pgs_cons (pg_name (i := 4) nd rfl (Or.inl rfl)) pgs_nil)))
        (pss_one (ps_if (pt_cmpR op_ne (pv 3) (pv 4) (nomark _)) (pss_one (ps_ret (pe_ix ix_list (pe_lst (pa_cons (pe_un un_neg pe_int) (pa_cons pe_int pa_nil))) (pe_callTy call_int1 rfl B.int PyProof.Rows.boot_int (pa_cons (pe_cmpR op_gtV (pv 3) (pv 4) (nomark _)) pa_nil)) (fun _ _ => rfl)))) pss_nil)))
      (pss_cons (ps_if (pt_cmpR op_eq (pe_ix ix_tup (pe_ix ix_list (pv 2) pe_int (fun _ _ => rfl)) pe_int (fun _ _ => rfl)) pe_int (nomark _)) (pss_one (ps_ret (pe_call U rf rfl mU kU bU .nil pass0 (pa_cons (pv 0) (pa_cons (pv 1) pa_nil))))) pss_nil)
      (pss_cons (ps_if (pt_cmpR op_eq (pe_ix ix_tup (pe_ix ix_list (pv 2) pe_int (fun _ _ => rfl)) pe_int (fun _ _ => rfl)) pe_int (nomark _)) (pss_one (ps_ret (pe_call U rf rfl mU kU bU .nil pass0 (pa_cons (pe_call L r4 rfl mL kL bL .nil pass0 (pa_cons (pv 0) pa_nil)) (pa_cons (pe_call L r4 rfl mL kL bL .nil pass0 (pa_cons (pv 1) pa_nil)) pa_nil))))) pss_nil)
      (pss_one (ps_ret pe_int)))), ?_⟩
    intro D H1 pr p2 pvs prs hD sm1 hpr pa hl4 hat hp2 hm hss
    have hpl : pvs.length = prs.length := Paired.length pa
    refine ⟨_, rfl, pr, rfl, ⟨pvs, SqL.of hpr⟩, for_list (xs := pvs) (fun i σ' H' => ∃ s3 s4 : Option V, σ' = [some v, some v', some (.ref pr), s3, s4] ∧ H' = H1 ∧ firstC prs = firstC (prs.drop i)) ⟨none, none, rfl, rfl, rfl⟩ (fun i σ' H' _ p => ?_) (fun i x σ' H' hx p => ?_) (fun σ' H' p => ?_)⟩
    · obtain ⟨_, _, _, rfl, _⟩ := p
      exact SqL.of hpr
    · obtain ⟨s3, s4, rfl, rfl, he⟩ := p
      obtain ⟨⟨x1, x2⟩, hp, a, rfl, ha, hc⟩ := paired_at pa i x hx
      rw [first_drop hp] at he
      refine ⟨a, _, rfl, SqT.of ha, rfl, x1, _, rfl, x2, _, rfl, rfl, ?_⟩
      refine ⟨_, rfl, _, rfl, cmpOk_scal hc, _, rfl, ?_⟩
      by_cases e : x1 = x2
      · refine iteNS e ⟨_, _, rfl, rfl, ?_⟩
        rw [he, (cmpV_ne hc).mpr e]
        rfl
      · have hcn : cmpV x1 x2 ≠ .eq := fun z => e ((cmpV_ne hc).mp z)
        have hfc : firstC prs = cmpV x1 x2 := by
          rw [he]
          cases h : cmpV x1 x2 with
          | eq => exact absurd h hcn
          | lt => rfl
          | gt => rfl
        refine iteNn e ⟨_, rfl, (by show 2 ≤ sizeLine; decide), fun r hr' => ?_⟩
        have hq := q _ (Same.x (sm1.trans (same_new hr' (.lst [V.int (-1), .int 1])))) (tab.mono (sm1.trans (same_new hr' (.lst [V.int (-1), .int 1]))))
        rw [hm, hfc] at hq
        have fin : ∀ b : Bool, b = (cmpV x1 x2 == .gt) → rIxL K (.ref r) (.int (if b then 1 else 0)) (upd H' r (.lst [V.int (-1), .int 1])) D.rt := fun b hb => by
          cases h : cmpV x1 x2 with
          | eq => exact absurd h hcn
          | lt =>
            rw [h] at hb hq
            subst hb
            exact ⟨r, _, 0, .int (-1), rfl, rfl, SqL.of upd_same, rfl, by rw [hD]; exact hq⟩
          | gt =>
            rw [h] at hb hq
            subst hb
            exact ⟨r, _, 1, .int 1, rfl, rfl, SqL.of upd_same, rfl, by rw [hD]; exact hq⟩
        cases x1 with
        | int i1 =>
          cases x2 with
          | int i2 =>
            refine ⟨_, rfl, _, rfl, .inl ⟨i1, i2, rfl, rfl, .inr ⟨_, rfl, fin _ ?_⟩⟩⟩
            show decide (i2 < i1) = (cmpI i1 i2 == .gt)
            unfold cmpI
            have hne : i1 ≠ i2 := fun z => e (by rw [z])
            rw [if_neg hne]
            by_cases l : i1 < i2
            · rw [if_pos l, decide_eq_false (by omega)]; rfl
            · rw [if_neg l, decide_eq_true (by omega)]; rfl
          | _ => exact False.elim hc
        | str i1 =>
          cases x2 with
          | str i2 =>
            refine ⟨_, rfl, _, rfl, .inr ⟨i1, i2, rfl, rfl, .inr ⟨_, rfl, fin _ ?_⟩⟩⟩
            show decide (i2.cps.toList < i1.cps.toList) = (cmpS i1 i2 == .gt)
            have hne : i1 ≠ i2 := fun z => e (by rw [z])
            have sw := cmpS_swap i1 i2
            unfold cmpS at sw ⊢
            rw [if_neg hne, if_neg (Ne.symm hne)] at sw
            rw [if_neg hne]
            by_cases l : i2.cps.toList < i1.cps.toList
            · rw [decide_eq_true l, if_neg (List.lt_asymm l)]; rfl
            · rw [if_neg l] at sw
              by_cases l2 : i1.cps.toList < i2.cps.toList
              · rw [decide_eq_false l, if_pos l2]; rfl
              · rw [if_neg l2] at sw; cases sw
          | _ => exact False.elim hc
        | _ => exact False.elim hc
    · obtain ⟨s3, s4, rfl, rfl, he⟩ := p
      have hfc : firstC prs = .eq := by rw [he, List.drop_of_length_le (by omega)]; rfl
      have hs := hss hfc
      have hqe : ∀ H2, SameX H H2 → Tab Pt H2 → Q (.int (ordI (rest t t'))) H2 := fun H2 s1 t1 => by
        have z := q H2 s1 t1
        rw [hm, hfc] at z
        exact z
      rw [hs] at hp2
      have hp2' := hp2
      rw [← hs] at hp2'
      refine ⟨_, rfl, pr, _, 1, .ref p2, rfl, rfl, SqL.of hpr, hat, p2, _, 0, .int t.own.sort, rfl, rfl, SqT.of hp2', rfl, rfl, _, rfl, ?_⟩
      by_cases a2 : t.own.sort = 2
      · obtain ⟨l, rfl⟩ := sort_row a2
        obtain ⟨m, rfl⟩ := sort_row (hs.symm.trans a2)
        obtain ⟨a, xs, rfl, ha, h3⟩ := (rep : ∃ a xs, v = V.ref a ∧ H a = some (.lst xs) ∧ RepR H l xs)
        obtain ⟨b, ys, rfl, hb, h3'⟩ := (rep' : ∃ a xs, v' = V.ref a ∧ H a = some (.lst xs) ∧ RepR H m xs)
        have hzl : l.size + 1 ≤ n + 1 := hz
        have hzm : m.size + 1 ≤ n + 1 := hz'
        have sz : ∀ (l : Ts) (c : Th), c ∈ l.ths → c.size ≤ l.size := fun l c hc => by
          have := le_sum (List.mem_map.mpr ⟨c, hc, rfl⟩ : c.size ∈ l.ths.map Th.size)
          rw [Ts.ths_size] at this
          exact this
        refine iteD rfl ⟨_, rfl, _, rfl, a, b, xs, ys, l.ths, m.ths, rfl, sm1 _ _ ha, sm1 _ _ hb, AllRep.mono sm1 h3.all, AllRep.mono sm1 h3'.all, by rw [Ts.ths_len]; have := ok.1; omega, by rw [Ts.ths_len]; have := ok'.1; omega,
          fun c hc => ⟨Ts.ok_mem ok.2 c hc, by have := sz l c hc; omega⟩, fun c hc => ⟨Ts.ok_mem ok'.2 c hc, by have := sz m c hc; omega⟩, tab.mono sm1, fun H2 s2 t2 => ?_⟩
        rw [hD]
        exact hqe H2 ((Same.x sm1).trans s2) t2
      · refine iteDn (int_ne a2) ?_
        refine ⟨_, rfl, pr, _, 1, .ref p2, rfl, rfl, SqL.of hpr, hat, p2, _, 0, .int t.own.sort, rfl, rfl, SqT.of hp2', rfl, rfl, _, rfl, ?_⟩
        by_cases a3 : t.own.sort = 3
        · obtain ⟨l, rfl⟩ := sort_dic a3
          obtain ⟨m, rfl⟩ := sort_dic (hs.symm.trans a3)
          refine iteD rfl ⟨_, rfl, l, v, rfl, rep.mono sm1, ok, tab.mono sm1, fun ra H2 xs s2 t2 hra pa2 => ?_⟩
          have sA : SameX H H2 := (Same.x sm1).trans s2
          refine ⟨_, rfl, m, v', rfl, rep'.monoX sA, ok', t2, fun rb H3 ys s3 t3 hrb pb3 => ?_⟩
          have hk : ∀ (l : Ts), (Th.dic l).Ok → (Th.dic l).size ≤ n + 1 → ∀ c ∈ flat (kids (.dic l)), c.Ok ∧ c.size ≤ n := fun l ok hz c hc => by
            obtain ⟨p, hp, e⟩ := flat_mem hc
            have h1 := kids_ok ok p hp
            have h2 := kids_lt ok p hp
            have h3 := size_pos p.2
            rcases e with e | e
            · rw [e]; exact ⟨h1.2, by show 1 ≤ n; omega⟩
            · rw [e]; exact ⟨h1.1, by omega⟩
          refine ⟨ra, rb, xs, ys, _, _, rfl, s3 _ _ hra (fun _ z => by cases z), hrb, AllRep.monoX s3 pa2, pb3, by rw [flat_len]; have := kids_len ok; omega, by rw [flat_len]; have := kids_len ok'; omega, hk l ok hz, hk m ok' hz', t3, fun H4 s4 t4 => ?_⟩
          rw [hD]
          exact hqe H4 ((sA.trans s3).trans s4) t4
        · refine iteDn (int_ne a3) ?_
          have z := hqe H' (Same.x sm1) (tab.mono sm1)
          rw [rest_eq a2 a3] at z
          show D.rt (.int 0) H'
          rw [hD]
          exact z
  obtain ⟨T, pT, hT⟩ := tail
  refine ⟨_, pss_cons (ps_set (i := 2) nd rfl (Or.inl rfl) (pe_lst (pa_cons (pe_tup (pa_cons (pe_call Z rz rfl mZ kZ bZ .nil pass0 (pa_cons (pv 0) pa_nil)) (pa_cons (pe_call Z rz rfl mZ kZ bZ .nil pass0 (pa_cons (pv 1) pa_nil)) pa_nil)))
      (pa_cons (pe_tup (pa_cons (pe_call S r1 rfl mS kS bS .nil pass0 (pa_cons (pv 0) pa_nil)) (pa_cons (pe_call S r1 rfl mS kS bS .nil pass0 (pa_cons (pv 1) pa_nil)) pa_nil))) pa_nil))))
    (pss_cons (ps_if (PW.pt (pw_and (pt_cmpR op_eq (pe_ix ix_tup (pe_ix ix_list (pv 2) pe_int (fun _ _ => rfl)) pe_int (fun _ _ => rfl)) pe_int (nomark _)) (pw_and1 (pt_cmpR op_eq (pe_ix ix_tup (pe_ix ix_list (pv 2) pe_int (fun _ _ => rfl)) pe_int (fun _ _ => rfl)) pe_int (nomark _)))))
      (pss_one (ps_set (i := 2) nd rfl (Or.inl rfl) (pe_op op_cat (pv 2) (pe_lst (pa_cons (pe_tup (pa_cons (pe_callB call_abs rfl B.abs PyProof.Rows.boot_abs (pa_cons (pv 0) pa_nil)) (pa_cons (pe_callB call_abs rfl B.abs PyProof.Rows.boot_abs (pa_cons (pv 1) pa_nil)) pa_nil))) (pa_cons (pe_tup (pa_cons (pv 1) (pa_cons (pv 0) pa_nil))) pa_nil)))))) pss_nil)
    (pss_cons (ps_if (PW.pt (pw_and (pt_cmpR op_eq (pe_ix ix_tup (pe_ix ix_list (pv 2) pe_int (fun _ _ => rfl)) pe_int (fun _ _ => rfl)) pe_int (nomark _)) (pw_and1 (pt_cmpR op_eq (pe_ix ix_tup (pe_ix ix_list (pv 2) pe_int (fun _ _ => rfl)) pe_int (fun _ _ => rfl)) pe_int (nomark _)))))
      (pss_one (ps_set (i := 2) nd rfl (Or.inl rfl) (pe_op op_cat (pv 2) (pe_lst (pa_cons (pe_tup (pa_cons (pe_callB call_len rfl B.len PySem.boot_len (pa_cons (pv 0) pa_nil)) (pa_cons (pe_callB call_len rfl B.len PySem.boot_len (pa_cons (pv 1) pa_nil)) pa_nil))) (pa_cons (pe_tup (pa_cons (pv 0) (pa_cons (pv 1) pa_nil))) pa_nil)))))) pss_nil)
    pT)), ?_⟩
  refine ⟨_, rfl, t, v, rfl, rep, ok, hz, fun H1 sm1 => ⟨_, rfl, t', v', rfl, rep'.mono sm1, ok', hz', fun H2 sm2 => ⟨(by show 2 ≤ sizeLine; decide), fun p1 hp1 => ?_⟩⟩⟩
  have sA := (sm1.trans sm2).trans (same_new hp1 (.tup [V.int (t.size : Nat), .int (t'.size : Nat)]))
  refine ⟨_, rfl, t, v, rfl, rep.mono sA, fun H3 sm3 => ⟨_, rfl, t', v', rfl, (rep'.mono sA).mono sm3, fun H4 sm4 => ⟨(by show 2 ≤ sizeLine; decide), fun p2 hp2 => ⟨(by show 2 ≤ sizeLine; decide), fun pr hpr => ?_⟩⟩⟩⟩
  have e1 : upd H2 p1 (.tup [V.int (t.size : Nat), .int (t'.size : Nat)]) p1 = some (.tup [V.int (t.size : Nat), .int (t'.size : Nat)]) := upd_same
  generalize hHA : upd H2 p1 (.tup [V.int (t.size : Nat), .int (t'.size : Nat)]) = HA at sA sm3 e1
  have sB := (sm3.trans sm4).trans (same_new hp2 (.tup [V.int t.own.sort, .int t'.own.sort]))
  have e2 : upd H4 p2 (.tup [V.int t.own.sort, .int t'.own.sort]) p2 = some (.tup [V.int t.own.sort, .int t'.own.sort]) := upd_same
  generalize hHB : upd H4 p2 (.tup [V.int t.own.sort, .int t'.own.sort]) = HB at sB e2 hpr ⊢
  have sC := same_new hpr (.lst [V.ref p1, .ref p2])
  have e3 : upd HB pr (.lst [V.ref p1, .ref p2]) pr = some (.lst [V.ref p1, .ref p2]) := upd_same
  generalize hHC : upd HB pr (.lst [V.ref p1, .ref p2]) = HC at sC e3 ⊢
  have sm : Same H HC := (sA.trans sB).trans sC
  have f1 : HC p1 = some (.tup [V.int (t.size : Nat), .int (t'.size : Nat)]) := sC _ _ (sB _ _ e1)
  have f2 : HC p2 = some (.tup [V.int t.own.sort, .int t'.own.sort]) := sC _ _ e2
  have pa2 : PairsAre HC [V.ref p1, .ref p2] [(.int (t.size : Nat), .int (t'.size : Nat)), (.int t.own.sort, .int t'.own.sort)] := .cons ⟨p1, rfl, f1, trivial⟩ (.cons ⟨p2, rfl, f2, trivial⟩ .nil)
  clear hHA hHB hHC sA sB sC e1 e2
  have short : ∀ D : Ends, D.rt = Q → ¬ (t.own.sort = 0 ∧ t'.own.sort = 0) → ¬ (t.own.sort = 1 ∧ t'.own.sort = 1) → T D [some v, some v', some (.ref pr), none, none] HC := fun D hD n0 n1 => by
    refine hT D HC pr p2 _ _ hD sm e3 pa2 (by show 2 ≤ 4; decide) rfl f2 ?_ (fun e => cmpI_eq (then_eq (then_eq e).2).1)
    rw [mt, in1_eq n0 n1]
    show _ = ((cmpI (t.size : Nat) (t'.size : Nat)).then ((cmpI t.own.sort t'.own.sort).then .eq)).then _
    rw [then_assoc, then_assoc]
  refine ⟨_, rfl, pr, _, 1, .ref p2, rfl, rfl, SqL.of e3, rfl, p2, _, 0, .int t.own.sort, rfl, rfl, SqT.of f2, rfl, rfl, _, rfl, ?_⟩
  by_cases a0 : t.own.sort = 0
  · refine iteD (by rw [a0]) ⟨_, rfl, pr, _, 1, .ref p2, rfl, rfl, SqL.of e3, rfl, p2, _, 1, .int t'.own.sort, rfl, rfl, SqT.of f2, rfl, rfl, _, rfl, ?_⟩
    by_cases b0 : t'.own.sort = 0
    · obtain ⟨i, rfl⟩ := sort_num a0
      obtain ⟨j, rfl⟩ := sort_num b0
      have ev : v = .int i := rep
      have ev' : v' = .int j := rep'
      subst ev
      subst ev'
      refine iteD rfl ⟨_, rfl, _, rfl, i, rfl, _, rfl, j, rfl, (by show 2 ≤ sizeLine; decide), fun p3 hp3 => ⟨_, rfl, _, rfl, (by show 2 ≤ sizeLine; decide), fun p4 hp4 => ⟨(by show 2 ≤ sizeLine; decide), fun l1 hl1 => ?_⟩⟩⟩
      have s3 := same_new hp3 (.tup [V.int (if i < 0 then -i else i), .int (if j < 0 then -j else j)])
      have s4 := same_new hp4 (.tup [V.int j, .int i])
      have s5 := same_new hl1 (.lst [V.ref p3, .ref p4])
      have sD := (s3.trans s4).trans s5
      refine ⟨pr, l1, _, _, rfl, rfl, sD _ _ e3, upd_same, small (by show 2 + 2 ≤ 1000; decide), fun pq hpq => ?_⟩
      have s6 := same_new hpq (.lst ([V.ref p1, .ref p2] ++ [V.ref p3, .ref p4]))
      have sE := sD.trans s6
      refine ⟨_, rfl, pq, _, 1, .ref p2, rfl, rfl, SqL.of upd_same, rfl, p2, _, 0, .int 0, rfl, rfl, SqT.of (sE _ _ f2), rfl, rfl, _, rfl, iteDn (int_ne (by decide)) ?_⟩
      refine hT _ _ pq p2 _ [(.int ((Th.num i).size : Nat), .int ((Th.num j).size : Nat)), (.int 0, .int 0), (.int (if i < 0 then -i else i), .int (if j < 0 then -j else j)), (.int j, .int i)] rfl (sm.trans sE) upd_same
        (.cons ⟨p1, rfl, sE _ _ f1, trivial⟩ (.cons ⟨p2, rfl, sE _ _ f2, trivial⟩ (.cons ⟨p3, rfl, s6 _ _ (s5 _ _ (s4 _ _ upd_same)), trivial⟩ (.cons ⟨p4, rfl, s6 _ _ (s5 _ _ upd_same), trivial⟩ .nil)))) (by show 4 ≤ 4; decide) rfl (sE _ _ f2) ?_ (fun _ => rfl)
      have a1 : ∀ i : Int, (if i < 0 then -i else i) = ((i.natAbs : Nat) : Int) := fun i => by split <;> omega
      rw [mt, a1, a1]
      show (cmpI _ _).then ((cmpI 0 0).then (((Own.num i).in1 (.num j)).then .eq)) = ((cmpI _ _).then ((cmpI 0 0).then ((cmpI (i.natAbs : Nat) (j.natAbs : Nat)).then ((cmpI j i).then .eq)))).then .eq
      rw [num_in1]
      simp only [then_assoc]
      rfl
    · refine iteDn (int_ne b0) ?_
      refine ⟨_, rfl, pr, _, 1, .ref p2, rfl, rfl, SqL.of e3, rfl, p2, _, 0, .int t.own.sort, rfl, rfl, SqT.of f2, rfl, rfl, _, rfl, iteDn (int_ne (by omega)) ?_⟩
      exact short _ rfl (fun z => b0 z.2) (fun z => by omega)
  · refine iteDn (int_ne a0) ?_
    refine ⟨_, rfl, pr, _, 1, .ref p2, rfl, rfl, SqL.of e3, rfl, p2, _, 0, .int t.own.sort, rfl, rfl, SqT.of f2, rfl, rfl, _, rfl, ?_⟩
    by_cases a1 : t.own.sort = 1
    · refine iteD (by rw [a1]) ⟨_, rfl, pr, _, 1, .ref p2, rfl, rfl, SqL.of e3, rfl, p2, _, 1, .int t'.own.sort, rfl, rfl, SqT.of f2, rfl, rfl, _, rfl, ?_⟩
      by_cases b1 : t'.own.sort = 1
      · obtain ⟨x, rfl⟩ := sort_word a1
        obtain ⟨y, rfl⟩ := sort_word b1
        have ev : v = .str x := rep
        have ev' : v' = .str y := rep'
        subst ev
        subst ev'
        have hx : x.length ≤ 100 := ok
        have hy : y.length ≤ 100 := ok'
        refine iteD rfl ⟨_, rfl, _, rfl, .str x, x.length, rfl, ⟨small (by omega), rfl⟩, _, rfl, .str y, y.length, rfl, ⟨small (by omega), rfl⟩, (by show 2 ≤ sizeLine; decide), fun p3 hp3 => ⟨_, rfl, _, rfl, (by show 2 ≤ sizeLine; decide), fun p4 hp4 => ⟨(by show 2 ≤ sizeLine; decide), fun l1 hl1 => ?_⟩⟩⟩
        have s3 := same_new hp3 (.tup [V.int (x.length : Nat), .int (y.length : Nat)])
        have s4 := same_new hp4 (.tup [V.str x, .str y])
        have s5 := same_new hl1 (.lst [V.ref p3, .ref p4])
        have sD := (s3.trans s4).trans s5
        refine ⟨pr, l1, _, _, rfl, rfl, sD _ _ e3, upd_same, small (by show 2 + 2 ≤ 1000; decide), fun pq hpq => ?_⟩
        have s6 := same_new hpq (.lst ([V.ref p1, .ref p2] ++ [V.ref p3, .ref p4]))
        have sE := sD.trans s6
        refine hT _ _ pq p2 _ [(.int ((Th.word x).size : Nat), .int ((Th.word y).size : Nat)), (.int 1, .int 1), (.int (x.length : Nat), .int (y.length : Nat)), (.str x, .str y)] rfl (sm.trans sE) upd_same
          (.cons ⟨p1, rfl, sE _ _ f1, trivial⟩ (.cons ⟨p2, rfl, sE _ _ f2, trivial⟩ (.cons ⟨p3, rfl, s6 _ _ (s5 _ _ (s4 _ _ upd_same)), trivial⟩ (.cons ⟨p4, rfl, s6 _ _ (s5 _ _ upd_same), trivial⟩ .nil)))) (by show 4 ≤ 4; decide) rfl (sE _ _ f2) ?_ (fun _ => rfl)
        rw [mt]
        show (cmpI _ _).then ((cmpI 1 1).then (((cmpI (x.length : Nat) (y.length : Nat)).then (cmpS x y)).then .eq)) = ((cmpI _ _).then ((cmpI 1 1).then ((cmpI (x.length : Nat) (y.length : Nat)).then ((cmpS x y).then .eq)))).then .eq
        have ee : ∀ o : Ordering, o.then .eq = o := fun o => by cases o <;> rfl
        simp only [then_assoc, ee]
      · refine iteDn (int_ne b1) ?_
        exact short _ rfl (fun z => a0 z.1) (fun z => b1 z.2)
    · refine iteDn (int_ne a1) ?_
      exact short _ rfl (fun z => a0 z.1) (fun z => a1 z.1)
theorem none_ord {k : Nat} : FnOk P w K mg base CX0 k f fd ["_law_one", "_law_other"] (spOrd Pt 0) := by
  have no : ∀ vs H Q E, ¬ spOrd Pt 0 vs H Q E := fun vs H Q E h => by
    obtain ⟨t, t', v, v', _, _, _, _, _, hz, _⟩ := h
    have := size_pos t
    omega
  exact ⟨fun vs H Q E h => absurd h (no vs H Q E), fun A outer s H args us vs Q E _ _ _ _ h => absurd h (no vs H Q E)⟩
end
end K2
set_option Elab.async false
set_option linter.all false
set_option maxRecDepth 100000
set_option maxHeartbeats 4000000
/-! a field put into a record, a field taken out of it -/
namespace Rg
open PySem L2
theorem put_cons (k : Str) (t : Th) (j : Str) (u : Th) (r : Ts) : Ts.put k t (.cons j u r) = if j = k then .cons j t r else .cons j u (r.put k t) := rfl
theorem get_cons (k : Str) (j : Str) (u : Th) (r : Ts) : Ts.get k (.cons j u r) = if j = k then some u else r.get k := rfl
theorem put_keys (k : Str) (t : Th) : ∀ l : Ts, (l.put k t).keys = if k ∈ l.keys then l.keys else l.keys ++ [k]
  | .nil => rfl
  | .cons j u r => by
    rw [put_cons]
    by_cases e : j = k
    · rw [if_pos e, if_pos (by rw [← e]; exact List.mem_cons_self)]
      rfl
    · rw [if_neg e]
      show j :: (r.put k t).keys = if k ∈ j :: r.keys then j :: r.keys else (j :: r.keys) ++ [k]
      rw [put_keys k t r]
      by_cases m : k ∈ r.keys
      · rw [if_pos m, if_pos (List.mem_cons_of_mem _ m)]
      · rw [if_neg m, if_neg (fun z => by
          rcases List.mem_cons.mp z with z | z
          · exact e z.symm
          · exact m z)]
        rfl
theorem put_nodup {k : Str} {t : Th} {l : Ts} (h : l.keys.Nodup) : (l.put k t).keys.Nodup := by
  rw [put_keys]
  by_cases m : k ∈ l.keys
  · rw [if_pos m]; exact h
  · rw [if_neg m]
    exact List.nodup_append.mpr ⟨h, by simp, fun a ha b hb e => m (by rw [List.mem_singleton.mp hb] at e; rw [← e]; exact ha)⟩
theorem put_len (k : Str) (t : Th) (l : Ts) : (l.put k t).len ≤ l.len + 1 := by
  rw [← Ts.keys_len, ← Ts.keys_len, put_keys]
  by_cases m : k ∈ l.keys
  · rw [if_pos m]; exact Nat.le_succ _
  · rw [if_neg m, List.length_append]; exact Nat.le_refl _
theorem put_ok {k : Str} {t : Th} (hk : k.length ≤ 100) (ht : t.Ok) : ∀ {l : Ts}, l.Ok → (l.put k t).Ok
  | .nil, _ => ⟨hk, ht, trivial⟩
  | .cons j u r, h => by
    have h' : j.length ≤ 100 ∧ u.Ok ∧ r.Ok := h
    rw [put_cons]
    by_cases e : j = k
    · rw [if_pos e]; exact ⟨h'.1, ht, h'.2.2⟩
    · rw [if_neg e]; exact ⟨h'.1, h'.2.1, put_ok hk ht h'.2.2⟩
theorem put_get (k : Str) (t : Th) : ∀ l : Ts, (l.put k t).get k = some t
  | .nil => by show (if k = k then some t else none) = _; rw [if_pos rfl]
  | .cons j u r => by
    rw [put_cons]
    by_cases e : j = k
    · rw [if_pos e, get_cons, if_pos e]
    · rw [if_neg e, get_cons, if_neg e, put_get k t r]
theorem put_size (k : Str) (t : Th) : ∀ l : Ts, (l.put k t).size ≤ l.size + t.size
  | .nil => by show t.size + 0 ≤ 0 + t.size; omega
  | .cons j u r => by
    rw [put_cons]
    have z := put_size k t r
    by_cases e : j = k
    · rw [if_pos e]; show t.size + r.size ≤ u.size + r.size + t.size; omega
    · rw [if_neg e]; show u.size + (r.put k t).size ≤ u.size + r.size + t.size; omega
theorem put_size_old {k : Str} {t c : Th} : ∀ {l : Ts}, l.get k = some c → (l.put k t).size + c.size = l.size + t.size
  | .nil, h => by cases h
  | .cons j u r, h => by
    rw [get_cons] at h
    rw [put_cons]
    by_cases e : j = k
    · rw [if_pos e] at h
      cases h
      rw [if_pos e]
      show t.size + r.size + c.size = c.size + r.size + t.size
      omega
    · rw [if_neg e] at h
      have z := put_size_old (t := t) h
      rw [if_neg e]
      show u.size + (r.put k t).size + c.size = u.size + r.size + t.size
      omega
def Ts.del (k : Str) : Ts → Ts
  | .nil => .nil
  | .cons j u r => if j = k then r.del k else .cons j u (r.del k)
theorem del_cons (k : Str) (j : Str) (u : Th) (r : Ts) : Ts.del k (.cons j u r) = if j = k then r.del k else .cons j u (r.del k) := rfl
theorem del_no {k : Str} : ∀ {l : Ts}, ¬ k ∈ l.keys → l.del k = l
  | .nil, _ => rfl
  | .cons j u r, h => by
    have h' : ¬ k ∈ j :: r.keys := h
    rw [del_cons, if_neg (fun e => h' (by rw [e]; exact List.mem_cons_self)), del_no (fun m => h' (List.mem_cons_of_mem _ m))]
theorem del_keys (k : Str) : ∀ l : Ts, (l.del k).keys = l.keys.filter fun j => decide (j ≠ k)
  | .nil => rfl
  | .cons j u r => by
    rw [del_cons]
    show _ = (j :: r.keys).filter _
    by_cases e : j = k
    · rw [if_pos e, List.filter_cons, if_neg (by simp [e]), del_keys k r]
    · rw [if_neg e, List.filter_cons, if_pos (by simp [e])]
      show j :: (r.del k).keys = _
      rw [del_keys k r]
theorem del_nodup {k : Str} {l : Ts} (h : l.keys.Nodup) : (l.del k).keys.Nodup := by
  rw [del_keys]
  exact h.filter _
theorem del_ok {k : Str} : ∀ {l : Ts}, l.Ok → (l.del k).Ok
  | .nil, _ => trivial
  | .cons j u r, h => by
    have h' : j.length ≤ 100 ∧ u.Ok ∧ r.Ok := h
    rw [del_cons]
    by_cases e : j = k
    · rw [if_pos e]; exact del_ok h'.2.2
    · rw [if_neg e]; exact ⟨h'.1, h'.2.1, del_ok h'.2.2⟩
theorem del_size {k : Str} {c : Th} : ∀ {l : Ts}, l.keys.Nodup → l.get k = some c → (l.del k).size + c.size = l.size ∧ (l.del k).len + 1 = l.len
  | .nil, _, h => by cases h
  | .cons j u r, nd, h => by
    obtain ⟨n1, n2⟩ := List.nodup_cons.mp (show (j :: r.keys).Nodup from nd)
    rw [get_cons] at h
    rw [del_cons]
    by_cases e : j = k
    · rw [if_pos e] at h
      cases h
      rw [if_pos e, del_no (by rw [← e]; exact n1)]
      exact ⟨by show r.size + c.size = c.size + r.size; omega, rfl⟩
    · rw [if_neg e] at h
      obtain ⟨z1, z2⟩ := del_size n2 h
      rw [if_neg e]
      exact ⟨by show u.size + (r.del k).size + c.size = u.size + r.size; omega, by show (r.del k).len + 1 + 1 = r.len + 1; omega⟩
theorem RepD.noKey {H : Hp} {l : Ts} {kvs : List (Key × V)} {k : Str} (h : RepD H l kvs) (hk : ¬ k ∈ l.keys) : ¬ (Sum.inr k : Key) ∈ kvs.map (·.1) := fun z => by
  rw [h.keys] at z
  obtain ⟨j, z1, z2⟩ := List.mem_map.mp z
  cases z2
  exact hk z1
theorem RepD.put {H : Hp} {k : Str} {t : Th} {y : V} (ht : Rep H t y) : ∀ {l : Ts} {kvs : List (Key × V)}, l.keys.Nodup → RepD H l kvs → RepD H (l.put k t) (putK kvs (Sum.inr k) y)
  | .nil, kvs, _, h => by rw [(h : kvs = [])]; exact ⟨y, [], rfl, ht, rfl⟩
  | .cons j u r, kvs, nd, h => by
    obtain ⟨n1, n2⟩ := List.nodup_cons.mp (show (j :: r.keys).Nodup from nd)
    obtain ⟨z, zs, rfl, h2, h3⟩ := (h : ∃ y ys, kvs = (Sum.inr j, y) :: ys ∧ Rep H u y ∧ RepD H r ys)
    rw [put_cons]
    by_cases e : j = k
    · subst e
      rw [if_pos rfl]
      have nk := RepD.noKey h3 n1
      have e2 : putK ((Sum.inr j, z) :: zs) (Sum.inr j) y = (Sum.inr j, y) :: zs := by
        unfold putK
        rw [if_pos (by simp), List.map_cons, if_pos rfl]
        congr 1
        have : ∀ p ∈ zs, (if p.1 = (Sum.inr j : Key) then (p.1, y) else p) = p := fun p hp => if_neg fun q => nk (List.mem_map.mpr ⟨p, hp, q⟩)
        rw [List.map_congr_left this, List.map_id']
      rw [e2]
      exact ⟨y, zs, rfl, ht, h3⟩
    · rw [if_neg e]
      have ne : ¬ (Sum.inr j : Key) = Sum.inr k := fun q => e (by injection q)
      have e2 : putK ((Sum.inr j, z) :: zs) (Sum.inr k) y = (Sum.inr j, z) :: putK zs (Sum.inr k) y := by
        unfold putK
        rw [List.any_cons, List.map_cons, if_neg ne]
        have z0 : decide ((Sum.inr j : Key) = Sum.inr k) = false := decide_eq_false ne
        show (if (decide ((Sum.inr j : Key) = Sum.inr k) || zs.any _) = true then _ else _) = _
        rw [z0, Bool.false_or]
        by_cases a : (zs.any fun kv => decide (kv.1 = (Sum.inr k : Key))) = true
        · rw [if_pos a, if_pos a]
        · rw [if_neg a, if_neg a]; rfl
      rw [e2]
      exact ⟨z, _, rfl, h2, RepD.put ht n2 h3⟩
theorem RepD.del {H : Hp} {k : Str} : ∀ {l : Ts} {kvs : List (Key × V)}, RepD H l kvs → RepD H (l.del k) (dropK kvs (Sum.inr k))
  | .nil, kvs, h => by rw [(h : kvs = [])]; rfl
  | .cons j u r, kvs, h => by
    obtain ⟨z, zs, rfl, h2, h3⟩ := (h : ∃ y ys, kvs = (Sum.inr j, y) :: ys ∧ Rep H u y ∧ RepD H r ys)
    rw [del_cons]
    by_cases e : j = k
    · rw [if_pos e, dropK_pos (by rw [e])]
      exact RepD.del h3
    · rw [if_neg e, dropK_neg (fun q => e (by injection q))]
      exact ⟨z, _, rfl, h2, RepD.del h3⟩
end Rg
set_option Elab.async false
set_option linter.all false
set_option maxRecDepth 100000
set_option maxHeartbeats 4000000
namespace Rg
open PySem L2
theorem rec_put {H1 H' H2 : Hp} {md : Addr} {kv1 : List (Key × V)} {l : Ts} {k : Str} {t : Th} {v : V} (n1 : H1 md ≠ none) (dm : Dom H1 H') (hm : H' md = some (.dK kv1)) (sm2 : Same H' H2) (hr : RepD (newOf H1 H') l kv1) (nd : l.keys.Nodup) (rep2 : Rep (newOf H' H2) t v) :
    RepD (newOf H1 (upd H2 md (.dK (putK kv1 (Sum.inr k) v)))) (l.put k t) (putK kv1 (Sum.inr k) v) ∧ Dom H1 (upd H2 md (.dK (putK kv1 (Sum.inr k) v))) := by
  have old : Same (newOf H1 H') (newOf H1 (upd H2 md (.dK (putK kv1 (Sum.inr k) v)))) := new_same (Dom.refl _) fun b u hb h => by
    rw [upd_ne (fun z => n1 (by rw [← z]; exact hb))]
    exact sm2 _ _ h
  have new : Same (newOf H' H2) (newOf H1 (upd H2 md (.dK (putK kv1 (Sum.inr k) v)))) := new_same dm fun b u hb h => by
    rw [upd_ne (Ne.symm (ne_of_none hm hb))]
    exact h
  exact ⟨RepD.put (rep2.mono new) nd (hr.mono old), (dm.trans (Dom.of sm2)).upd⟩
theorem rec_del {H1 H' : Hp} {md : Addr} {kv1 : List (Key × V)} {l : Ts} {k : Str} (n1 : H1 md ≠ none) (dm : Dom H1 H') (hr : RepD (newOf H1 H') l kv1) :
    RepD (newOf H1 (upd H' md (.dK (dropK kv1 (Sum.inr k))))) (l.del k) (dropK kv1 (Sum.inr k)) ∧ Dom H1 (upd H' md (.dK (dropK kv1 (Sum.inr k)))) := by
  have old : Same (newOf H1 H') (newOf H1 (upd H' md (.dK (dropK kv1 (Sum.inr k))))) := new_same (Dom.refl _) fun b u hb h => by
    rw [upd_ne (fun z => n1 (by rw [← z]; exact hb))]
    exact h
  exact ⟨RepD.del (hr.mono old), dm.upd⟩
end Rg
namespace K2
open PySem PySem.W L2 Rg
section
variable {P : Program} {w : World} {K : PySem.W.Frag} {mg : Str → Option Value} {base : Heap} {f g g2 g3 : Addr} {fd gd gd2 gd3 : FuncData}
/-- another thing made of a thing -/
def spChanged (n : Nat) : Sp := fun vs H Q _ => ∃ (t : Th) (v : V) (m : Int), vs = [v, .int m] ∧ 0 ≤ m ∧ Rep H t v ∧ t.Ok ∧ t.size ≤ n ∧ ∀ (v' : V) (H' : Hp) (t' : Th), Same H H' → Rep (newOf H H') t' v' → t'.Ok → t'.size ≤ t.size → Q v' H'
def spChRec (n : Nat) : Sp := fun vs H Q _ => ∃ (l : Ts) (v : V) (m : Int), vs = [v, .int m] ∧ 0 ≤ m ∧ Rep H (.dic l) v ∧ (Th.dic l).Ok ∧ 0 < l.len ∧ (Th.dic l).size ≤ n ∧ ∀ (v' : V) (H' : Hp) (t' : Th), Same H H' → Rep (newOf H H') t' v' → t'.Ok → t'.size ≤ (Th.dic l).size → Q v' H'
theorem scChRec : FnScope ["_law_record", "_law_number", "_law_made", "_law_fields", "_law_k"] ["_law_record", "_law_number"] (defScope sChRec) := ⟨rfl, rfl, rfl, by decide +kernel, rfl, by decide +kernel, by decide +kernel⟩
theorem ok_chrec {n k : Nat} (F : Fun K "_law_changed_record" "_law_changed_record" sChRec f fd) (B : Blt mg) (hkn : n ≤ k) (hk1 : 1 ≤ k)
    (C : FnOk P w K mg base CX0 n g gd ["_law_thing"] (spCopied n)) (bC : Binds K gd ["_law_thing"] []) (kC : PySem.W.keepIn K (.ref g) = true) (mC : mg "_law_copied" = some (.ref g))
    (W : FnOk P w K mg base CX0 1 g2 gd2 ["_law_number"] spWordBy) (bW : Binds K gd2 ["_law_number"] []) (kW : PySem.W.keepIn K (.ref g2) = true) (mW : mg "_law_word_by" = some (.ref g2))
    (G : FnOk P w K mg base CX0 k g3 gd3 ["_law_thing", "_law_number"] (spChanged n)) (bG : Binds K gd3 ["_law_thing", "_law_number"] []) (kG : PySem.W.keepIn K (.ref g3) = true) (mG : mg "_law_changed" = some (.ref g3)) :
    FnOk P w K mg base CX0 (k + 1) f fd ["_law_record", "_law_number"] (spChRec (n + 1)) := by
  refine F.ok scChRec (fun vs H Q E h => ?_) (fun cdv A outer s H vs Q E hr h => ?_)
  · obtain ⟨l, v, m, rfl, _⟩ := h
    rfl
  obtain ⟨l, v, m, rfl, hm0, rep, ok, hlen, hz, q⟩ := h
  have nd := scChRec.nd
  have hu := hu_of hr
  have rn := hr.mono hkn
  have r1 := hr.mono hk1
  refine ⟨_, pss_cons (ps_set (i := 2) nd rfl (Or.inl rfl) pe_dnewK)
    (pss_cons (ps_set (i := 3) nd rfl (Or.inl rfl) (pe_callB (call_sortP rfl) rfl B.sorted PyProof.Rows.boot_sorted (pa_cons (pv 0) pa_nil)))
    (pss_cons (ps_for PassesOwn.never rfl (pi_range1 rfl B.range (pa_cons (pe_callB call_len rfl B.len PySem.boot_len (pa_cons (pv 3) pa_nil)) pa_nil)) (pg_name (i := 4) nd rfl (Or.inl rfl))
      (pss_cons (ps_dput hu (pv 2) (pe_ix ix_list (pv 3) (pv 4) (fun _ _ => rfl)) (pe_call C rn rfl mC kC bC .nil pass0 (pa_cons (pe_dget hu (pv 0) (pe_ix ix_list (pv 3) (pv 4) (fun _ _ => rfl)) (fun _ _ => rfl)) pa_nil)) rfl)
      (pss_one (ps_if (PW.pt (pw_and (pt_cmpR op_eq (pv 4) (pe_op op_mod (pv 1) (pe_callB call_len rfl B.len PySem.boot_len (pa_cons (pv 3) pa_nil))) (nomark _)) (pw_and1 (pt_cmpR op_eq (pe_op op_mod (pe_op op_fdiv (pv 1) pe_int) pe_int) pe_int (nomark _)))))
        (pss_cons (ps_expr (pe_dpop1 (pv 2) (pe_ix ix_list (pv 3) (pv 4) (fun _ _ => rfl)) ⟨rfl, rfl, rfl, rfl⟩))
        (pss_one (ps_dput hu (pv 2) (pe_call W r1 rfl mW kW bW .nil pass0 (pa_cons (pe_op op_fdiv (pv 1) pe_int) pa_nil)) (pe_call C rn rfl mC kC bC .nil pass0 (pa_cons (pe_dget hu (pv 0) (pe_ix ix_list (pv 3) (pv 4) (fun _ _ => rfl)) (fun _ _ => rfl)) pa_nil)) rfl)))
        (pss_one (ps_if (pt_cmpR op_eq (pv 4) (pe_op op_mod (pv 1) (pe_callB call_len rfl B.len PySem.boot_len (pa_cons (pv 3) pa_nil))) (nomark _))
          (pss_one (ps_dput hu (pv 2) (pe_ix ix_list (pv 3) (pv 4) (fun _ _ => rfl)) (pe_call G hr rfl mG kG bG .nil pass0 (pa_cons (pe_dget hu (pv 0) (pe_ix ix_list (pv 3) (pv 4) (fun _ _ => rfl)) (fun _ _ => rfl)) (pa_cons (pe_op op_fdiv (pv 1) pe_int) pa_nil))) rfl)) pss_nil))))))
    (pss_one (ps_ret (pv 2))))), ?_⟩
  obtain ⟨a, kvs, rfl, h2, h3⟩ := (rep : ∃ a kvs, v = V.ref a ∧ H a = some (.dK kvs) ∧ RepD H l kvs)
  obtain ⟨hl9, hnd, okl⟩ := ok
  have hzl : l.size + 1 ≤ n + 1 := hz
  have hkl := Ts.keys_len l
  intro md hmd
  have s0 := same_new hmd (.dK [])
  refine ⟨_, rfl, a, kvs, rfl, s0 _ _ h2, by rw [h3.len]; omega, l.keys, h3.keys, fun fl ys hfl pm => ?_⟩
  have nfm : fl ≠ md := (upd_none hfl).1
  have hflH : H fl = none := (upd_none hfl).2
  have hyl : ys.length = l.len := by rw [pm.length_eq, hkl]
  have e1m : upd (upd H md (.dK [])) fl (.lst (ys.map V.str)) md = some (.dK []) := by rw [upd_ne (Ne.symm nfm), upd_same]
  have e1f : upd (upd H md (.dK [])) fl (.lst (ys.map V.str)) fl = some (.lst (ys.map V.str)) := upd_same
  have s1 : Same H (upd (upd H md (.dK [])) fl (.lst (ys.map V.str))) := same_put s0 hflH
  have d1 : Dom H (upd (upd H md (.dK [])) fl (.lst (ys.map V.str))) := Dom.of s1
  generalize upd (upd H md (.dK [])) fl (.lst (ys.map V.str)) = H1 at e1m e1f s1 d1 ⊢
  have n1 : H1 md ≠ none := by rw [e1m]; simp
  have hfl1 : (ys.map V.str).length = ys.length := List.length_map _
  refine ⟨.ref fl, rfl, .ref fl, ys.length, rfl, .inl ⟨_, SqL.of e1f, hfl1.symm⟩, (ys.length : Nat), rfl, by omega, by omega, for_range (n := ys.length) (fun i σ' H' => ∃ s4 : Option V, σ' = [some (.ref a), some (.int m), some (.ref md), some (.ref fl), s4] ∧ Same H H' ∧ Dom H1 H' ∧ H' fl = some (.lst (ys.map V.str)) ∧
      ∃ (l' : Ts) (kv1 : List (Key × V)), H' md = some (.dK kv1) ∧ RepD (newOf H1 H') l' kv1 ∧ l'.keys.Nodup ∧ l'.Ok ∧ l'.len ≤ i ∧ l'.size ≤ ((ys.take i).map fun k => (l.fld k).size).sum)
    ⟨none, rfl, s1, Dom.refl _, e1f, .nil, [], e1m, rfl, List.nodup_nil, trivial, Nat.le_refl _, Nat.le_refl _⟩ (fun i σ' H' hi p => ?_) (fun σ' H' p => ?_)⟩
  · obtain ⟨s4, rfl, sm, dm, hF, l', kv1, hM, hR, hN, hO, hLn, hS⟩ := p
    obtain ⟨key, ek⟩ : ∃ key, ys[i]? = some key := ⟨_, List.getElem?_eq_getElem hi⟩
    have hat : atI (ys.map V.str) (0 + (i : Nat)) = some (.str key) := by
      rw [Int.zero_add]
      exact atI_nat (by rw [List.getElem?_map, ek]; rfl)
    have hkm : key ∈ l.keys := pm.mem_iff.mp (List.mem_of_getElem? ek)
    have hc := fld_get l hkm
    have hkl100 := Ts.ok_keys okl key hkm
    obtain ⟨y, hy2, ry⟩ := h3.val hc
    obtain ⟨_, hmem⟩ := Ts.get_mem hkm
    have hcm : l.fld key ∈ l.ths := by obtain ⟨e, m⟩ := hmem; rw [hc] at e; cases e; exact m
    have okc := Ts.ok_mem okl _ hcm
    have hcs : (l.fld key).size ≤ l.size := by
      have := le_sum (List.mem_map.mpr ⟨_, hcm, rfl⟩ : (l.fld key).size ∈ l.ths.map Th.size)
      rw [Ts.ths_size] at this
      exact this
    have hS1 : ((ys.take (i + 1)).map fun k => (l.fld k).size).sum = ((ys.take i).map fun k => (l.fld k).size).sum + (l.fld key).size := by
      rw [List.take_succ, ek, List.map_append, List.sum_append]
      show _ + ((l.fld key).size + 0) = _
      omega
    have hdg : ∀ {H'' : Hp}, Same H H'' → DGet H'' a (.str key) (some y) := fun {H''} s => by
      have z := DGet.k (k := Sum.inr key) (s _ _ h2)
      rw [hy2] at z
      exact z
    have hkv1 := hR.len
    -- the copy goes into its place
    refine ⟨.ref a, rfl, .ref fl, rfl, _, rfl, fl, _, _, .str key, rfl, rfl, SqL.of hF, hat, a, y, rfl, hdg sm, l.fld key, y, rfl, ry.mono sm, okc, by omega, fun v2 H2 sm2 rep2 => ?_⟩
    have hM2 := sm2 _ _ hM
    have hF2 := sm2 _ _ hF
    refine ⟨.ref md, rfl, .ref fl, rfl, _, rfl, fl, _, _, .str key, rfl, rfl, SqL.of hF2, hat, md, _, rfl, DPut.k (k := Sum.inr key) hM2 (by rw [hkv1]; exact small1000 (by omega)), ?_⟩
    obtain ⟨hR3, dm3⟩ := rec_put (k := key) n1 dm hM sm2 hR hN rep2
    have sm3 : Same H (upd H2 md (.dK (putK kv1 (Sum.inr key) v2))) := same_put (sm.trans sm2) hmd
    have hF3 : upd H2 md (.dK (putK kv1 (Sum.inr key) v2)) fl = some (.lst (ys.map V.str)) := by rw [upd_ne nfm]; exact hF2
    have hM3 : upd H2 md (.dK (putK kv1 (Sum.inr key) v2)) md = some (.dK (putK kv1 (Sum.inr key) v2)) := upd_same
    have hN3 : (l'.put key (l.fld key)).keys.Nodup := put_nodup hN
    have hO3 : (l'.put key (l.fld key)).Ok := put_ok hkl100 okc hO
    have hG3 := put_get key (l.fld key) l'
    have hL3 := put_len key (l.fld key) l'
    have hS3 := put_size key (l.fld key) l'
    generalize upd H2 md (.dK (putK kv1 (Sum.inr key) v2)) = H3 at hR3 dm3 sm3 hF3 hM3 ⊢
    generalize putK kv1 (Sum.inr key) v2 = kv3 at hR3 hM3
    generalize l'.put key (l.fld key) = l3 at hR3 hN3 hO3 hG3 hL3 hS3
    have hkv3 := hR3.len
    have plain : ∃ s4 : Option V, [some (V.ref a), some (.int m), some (.ref md), some (.ref fl), some (.int (0 + (i : Nat)))] = [some (.ref a), some (.int m), some (.ref md), some (.ref fl), s4] ∧ Same H H3 ∧ Dom H1 H3 ∧ H3 fl = some (.lst (ys.map V.str)) ∧
      ∃ (l' : Ts) (kv1 : List (Key × V)), H3 md = some (.dK kv1) ∧ RepD (newOf H1 H3) l' kv1 ∧ l'.keys.Nodup ∧ l'.Ok ∧ l'.len ≤ i + 1 ∧ l'.size ≤ ((ys.take (i + 1)).map fun k => (l.fld k).size).sum :=
      ⟨_, rfl, sm3, dm3, hF3, l3, kv3, hM3, hR3, hN3, hO3, by omega, by rw [hS1]; omega⟩
    refine ⟨_, rfl, _, rfl, .ref fl, rfl, .ref fl, ys.length, rfl, .inl ⟨_, SqL.of hF3, hfl1.symm⟩, _, _, rfl, rfl, by omega, rfl, _, rfl, ?_⟩
    by_cases c1 : (0 + (i : Int)) = m % (ys.length : Nat)
    · refine iteD (by rw [c1]) ⟨_, rfl, _, _, rfl, rfl, ⟨by decide, by decide⟩, _, _, rfl, rfl, (by show (0 : Int) < 3; decide), rfl, _, rfl, ite2 (fun c2 => ?_) (fun c2 => ?_)⟩
      · -- the field goes, another one comes
        have hv3 : ∃ y3, valV kv3 (Sum.inr key) = some y3 := by
          obtain ⟨y3, e, _⟩ := hR3.val hG3
          exact ⟨y3, e⟩
        obtain ⟨y3, hv3⟩ := hv3
        refine ⟨.ref md, rfl, md, rfl, .inl ⟨_, .inl hM3⟩, .ref fl, rfl, _, rfl, fl, _, _, .str key, rfl, rfl, SqL.of hF3, hat, kv3, Sum.inr key, y3, hM3, rfl, hv3, ?_⟩
        obtain ⟨hR4, dm4⟩ := rec_del (k := key) n1 dm3 hR3
        obtain ⟨hS4, hL4⟩ := del_size hN3 hG3
        have hN4 : (l3.del key).keys.Nodup := del_nodup hN3
        have hO4 : (l3.del key).Ok := del_ok hO3
        have sm4 : Same H (upd H3 md (.dK (dropK kv3 (Sum.inr key)))) := same_put sm3 hmd
        have hF4 : upd H3 md (.dK (dropK kv3 (Sum.inr key))) fl = some (.lst (ys.map V.str)) := by rw [upd_ne nfm]; exact hF3
        have hM4 : upd H3 md (.dK (dropK kv3 (Sum.inr key))) md = some (.dK (dropK kv3 (Sum.inr key))) := upd_same
        generalize upd H3 md (.dK (dropK kv3 (Sum.inr key))) = H4 at hR4 dm4 sm4 hF4 hM4 ⊢
        generalize dropK kv3 (Sum.inr key) = kv4 at hR4 hM4
        generalize l3.del key = l4 at hR4 hS4 hL4 hN4 hO4
        have hkv4 := hR4.len
        refine ⟨.ref a, rfl, .ref fl, rfl, _, rfl, fl, _, _, .str key, rfl, rfl, SqL.of hF4, hat, a, y, rfl, hdg sm4, l.fld key, y, rfl, ry.mono sm4, okc, by omega, fun v5 H5 sm5 rep5 => ?_⟩
        refine ⟨.ref md, rfl, _, rfl, _, _, rfl, rfl, ⟨by decide, by decide⟩, m / 18, rfl, fun H6 sm6 => ?_⟩
        have sm56 := sm5.trans sm6
        have hM6 := sm56 _ _ hM4
        refine ⟨md, _, rfl, DPut.k (k := Sum.inr (wordAt (m / 18 % 5))) hM6 (by rw [hkv4]; exact small1000 (by omega)), ?_⟩
        have rep6 : Rep (newOf H4 H6) (l.fld key) v5 := rep5.mono (new_same (Dom.refl _) fun b u _ h => sm6 _ _ h)
        obtain ⟨hR7, dm7⟩ := rec_put (k := wordAt (m / 18 % 5)) n1 dm4 hM4 sm56 hR4 hN4 rep6
        have hS7 := put_size (wordAt (m / 18 % 5)) (l.fld key) l4
        have hL7 := put_len (wordAt (m / 18 % 5)) (l.fld key) l4
        exact ⟨_, rfl, same_put (sm4.trans sm56) hmd, dm7, by rw [upd_ne nfm]; exact sm56 _ _ hF4, _, _, upd_same, hR7, put_nodup hN4, put_ok (wordAt_len _) okc hO4, by omega, by rw [hS1]; omega⟩
      · refine ⟨_, rfl, _, rfl, .ref fl, rfl, .ref fl, ys.length, rfl, .inl ⟨_, SqL.of hF3, hfl1.symm⟩, _, _, rfl, rfl, by omega, rfl, _, rfl, iteD (by rw [c1]) ?_⟩
        refine ⟨.ref a, rfl, .ref fl, rfl, _, rfl, fl, _, _, .str key, rfl, rfl, SqL.of hF3, hat, a, y, rfl, hdg sm3, _, rfl, _, _, rfl, rfl, ⟨by decide, by decide⟩, l.fld key, y, m / 18, rfl, by omega, ry.mono sm3, okc, by omega, fun v5 H5 t5 sm5 rep5 ok5 hz5 => ?_⟩
        have hM5 := sm5 _ _ hM3
        have hF5 := sm5 _ _ hF3
        refine ⟨.ref md, rfl, .ref fl, rfl, _, rfl, fl, _, _, .str key, rfl, rfl, SqL.of hF5, hat, md, _, rfl, DPut.k (k := Sum.inr key) hM5 (by rw [hkv3]; exact small1000 (by omega)), ?_⟩
        obtain ⟨hR7, dm7⟩ := rec_put (k := key) n1 dm3 hM3 sm5 hR3 hN3 rep5
        have hS7 := put_size_old (t := t5) hG3
        have hL7 : (l3.put key t5).len ≤ l3.len := by
          rw [← Ts.keys_len, ← Ts.keys_len, put_keys]
          have hin : key ∈ l3.keys := by
            by_cases z : key ∈ l3.keys
            · exact z
            · have := RepD.fresh hR3 z
              obtain ⟨y3, e, _⟩ := hR3.val hG3
              rw [e] at this; cases this
          rw [if_pos hin]
          exact Nat.le_refl _
        exact ⟨_, rfl, same_put (sm3.trans sm5) hmd, dm7, by rw [upd_ne nfm]; exact hF5, _, _, upd_same, hR7, put_nodup hN3, put_ok hkl100 ok5 hO3, by omega, by rw [hS1]; omega⟩
    · refine iteDn (int_ne c1) ?_
      refine ⟨_, rfl, _, rfl, .ref fl, rfl, .ref fl, ys.length, rfl, .inl ⟨_, SqL.of hF3, hfl1.symm⟩, _, _, rfl, rfl, by omega, rfl, _, rfl, iteDn (int_ne c1) plain⟩
  · obtain ⟨s4, rfl, sm, dm, hF, l', kv1, hM, hR, hN, hO, hLn, hS⟩ := p
    have htot : ((ys.take ys.length).map fun k => (l.fld k).size).sum = l.size := by
      rw [List.take_of_length_le (Nat.le_refl _)]
      have z := sum_perm (pm.map fun k => (l.fld k).size)
      rw [z, toL_size, ← get_all l hnd, List.map_map]
      rfl
    rw [htot] at hS
    refine ⟨_, rfl, q (.ref md) H' (.dic l') sm ⟨md, kv1, rfl, newOf_at hmd hM, hR.mono (new_same d1 fun b u _ h => h)⟩ ⟨by omega, hN, hO⟩ ?_⟩
    show l'.size + 1 ≤ l.size + 1
    omega
end
end K2
set_option Elab.async false
set_option linter.all false
set_option maxRecDepth 100000
set_option maxHeartbeats 4000000
/-! a name = [e for x in ..]: the list is stored ahead of the block's end -/
namespace Rg
open PySem PySem.W PySem.Spec PyProof.Rows L2
section
variable {X : Cx} {elt iter : Expr} {x : Str} {px pos : Pos} {scope : Scope} {fr : List (Str × Nat)} {wi : TI} {te : TE}
theorem ps_lc {i : Nat} {y : Str} {py spos : Pos} (hN : X.N.Nodup) (hiN : X.N[i]? = some y) (hyL : Loc X.env.scope y) (hc : X.calm = true) (hi : PI X (.Name x px) iter wi) (S : LcOk X x fr scope) (he : ∀ fp C s H, PE (blk X x fr scope fp C s H) elt te)
    (hs : ∀ v, foldedSetIterable iter X.env v = pure v := by intro _; rfl) (hsw : swapsWith (.ListComp elt [⟨.Name x px, iter, [], 0⟩] scope pos) (some (.Name y py)) spos.line X.env = pure true := by rfl)
    (hfn : X.fn y = true ∨ X.env.scope.names.lookup y = some .local := by first | exact .inl rfl | exact .inr rfl | assumption) : PS X (.Assign [.Name y py] (.ListComp elt [⟨.Name x px, iter, [], 0⟩] scope pos) spos) (tAsg (tLc fr wi te) (gName i)) := by
  intro pins s σ H D I h
  have hgY : PG X (.Name y py) (gName i) := pg_name (i := i) hN hiN hyL hfn
  have hcell : ∀ p ∈ scope.names, p.2 = .free → ∃ c, X.env.cells.lookup p.1 = some c := fun p hp hk => I.ok.has p.1 (S.free p hp hk)
  have hsub : ∀ y c, (clOf X.env.cells scope.names).lookup y = some c → X.env.cells.lookup y = some c := cl_sub scope.names [] hcell (fun y c z => by simp at z)
  rw [exec_Assign_Name_used _ _ _ _ hsw]
  refine wpAny_bind (wpAny_standAt (wpAny_bind ?_))
  show wpAny _ X.A (do let _ ← comprehension (.ListComp elt [⟨.Name x px, iter, [], 0⟩] scope pos) scope X.env _ (newList []) false (eval iter X.env) (some (assign (.Name y py) X.env))) _ _ s
  refine wpAny_bind (wpAny_mono (wpAny_comprehension_free (use := some (assign (.Name y py) X.env)) (Q := fun _ s' => SP X pins D .next s') rfl hs (clos_is hcell) S.kind S.nm ?_) (fun _ s' hq => wpAny_pure (wpAny_pure hq)) fun _ _ e => e)
  refine thn (hi pins s σ H _ I h) fun v s1 h1 => thn h1 fun itv s2 h2 => ?_
  obtain ⟨it, fp, tn, J, H2, e, I2, T, st2, f2, W, ⟨m0, w0⟩, turn⟩ := h2
  subst e
  refine wpAny_newObj_type (wpAny_newFunctionEnv S.nocell (by intro y hy; simp at hy) (fun h₁ hns₁ hsb₁ => ?_) S.kind)
  dsimp only at hns₁ hsb₁ ⊢
  generalize hP : s2.heap.push { cls := .type "list", dict := none, data := .seq ([] : List Value).toArray } = P at hns₁ hsb₁ ⊢
  have hC : P.objs.size = s2.heap.objs.size + 1 := by rw [← hP, Heap.size_push]
  have hDC : s2.heap.objs.size ≠ P.objs.size := by rw [hC]; exact Nat.ne_of_lt (Nat.lt_succ_self _)
  have hCle : s2.heap.objs.size ≤ P.objs.size := by rw [hC]; exact Nat.le_succ _
  have lt2 : ∀ b, b < s2.heap.objs.size → b ≠ P.objs.size ∧ b ≠ s2.heap.objs.size := fun b hb => ⟨by rw [hC]; exact Nat.ne_of_lt (Nat.lt_succ_of_lt hb), Nat.ne_of_lt hb⟩
  have old : ∀ b o, s2.heap.get? b = some o → h₁.get? b = some o := fun b o q =>
    (hsb₁.2 b (lt2 b (Heap.lt_size q)).1).trans (Heap.get?_push_of_some _ (by rw [← hP]; exact Heap.get?_push_of_some _ q))
  have hacc : h₁.get? s2.heap.objs.size = some { cls := .type "list", data := .seq ([] : List Value).toArray } :=
    (hsb₁.2 _ hDC).trans (Heap.get?_push_of_some _ (by rw [← hP]; exact Heap.get?_push_size _ rfl))
  have hD2 : H2 s2.heap.objs.size = none := I2.hok.fresh (Nat.le_refl _)
  have hC2 : H2 P.objs.size = none := I2.hok.fresh hCle
  have hfplt : ∀ b ∈ fp, b < s2.heap.objs.size := fun b hb => by
    obtain ⟨o, q, _⟩ := T.obj 0 _ st2 b hb
    exact Heap.lt_size q
  have hstk : ∀ b ∈ frs X.stack, b < s2.heap.objs.size := fun b hb => by
    obtain ⟨_, o, q, _⟩ := I2.stack.mem hb
    exact Heap.lt_size q
  have okY : (blk X x fr scope fp P.objs.size s2 H2).Ok := by
    refine ⟨I2.ok.mod, ?_, I2.ok.glob, I2.ok.blt, hCle, ?_, ?_, ?_, I2.ok.hd, I2.ok.frames, .inl rfl, ?_, I2.bs, Nat.le_trans I2.ok.bsz I2.sz, ?_, ?_, I2.stack, I2.stkFree⟩
    · exact S.kind
    · exact fun y z c h1 h2 => I2.ok.inj y z c (hsub y c h1) (hsub z c h2)
    · intro y hy
      have hf : scope.names.lookup y = some .free := free_relabel S.nocell hy
      exact Option.isSome_iff_exists.mp (cl_has (cells := X.env.cells) (y := y) scope.names [] (.inl (PySem.mem_of_lookup hf)))
    · intro y c hf
      exact absurd (show false = true from hf) (by decide)
    · intro b hb
      obtain ⟨_, _, _, _, f4, _⟩ := f2 b hb
      exact ⟨(lt2 b (hfplt b hb)).1, fun y c q => f4 y c (hsub y c q)⟩
    · intro b o q hb
      obtain ⟨_, _, _, f3, _, _⟩ := f2 b hb
      rcases f3 with z | z
      · exact I2.ok.noex b o q z
      · exact absurd (Nat.lt_of_lt_of_le (Heap.lt_size q) (Nat.le_trans I2.ok.bsz z)) (Nat.lt_irrefl _)
    · intro b hb hz
      obtain ⟨_, f1, f2', _⟩ := f2 b hb
      rcases List.mem_cons.mp (I2.stkSub b hz) with z | z
      · exact f1 z
      · exact f2' z
  -- the start
  let own (us : List Value) (k : Nat) : Addr × Obj := (s2.heap.objs.size, { cls := .type "list", data := .seq us.toArray k })
  have pinD : ∀ (us : List Value) (k : Nat) (t : Shared) (H' : Hp), t.heap.get? s2.heap.objs.size = some { cls := .type "list", data := .seq us.toArray k } → H' s2.heap.objs.size = none →
      t.heap.get? (own us k).1 = some (own us k).2 ∧ H' (own us k).1 = none ∧ (own us k).1 ≠ (blk X x fr scope fp P.objs.size s2 H2).env.locals ∧ (own us k).1 ∉ (blk X x fr scope fp P.objs.size s2 H2).fs ∧ ∀ v, (own us k).2.data ≠ .cell v :=
    fun us k t H' q n => ⟨q, n, hDC, fun z => absurd (hstk _ z) (Nat.lt_irrefl _), fun v z => nomatch z⟩
  have I4 : Inv (blk X x fr scope fp P.objs.size s2 H2) [own [] 0] (blkS none fr σ) H2 { s2 with heap := h₁, toks := s2.toks + ([] : List (Str × Value)).length } := by
    refine ⟨okY, rfl, I2.bare, Un.kept old, ⟨_, hns₁, fun i y v q1 q2 q3 => ?_⟩, fun y c q => ?_, hC2, fun y c q => I2.freeC y c (hsub y c q), fun p hp => ?_, I2.hok.kept old, ?_⟩
    · cases i with
      | zero => exact absurd q2 (by show ¬ (some (none : Option V) = some (some v)); simp)
      | succ j =>
        have q1' : (fr.map (·.1))[j]? = some y := q1
        have q2' : (fr.map fun p => (σ[p.2]?).getD none)[j]? = some (some v) := q2
        rw [List.getElem?_map] at q1' q2'
        cases ef : fr[j]? with
        | none => rw [ef] at q1'; cases q1'
        | some p =>
          rw [ef] at q1' q2'
          have e1 : p.1 = y := Option.some.inj q1'
          have e2 : (σ[p.2]?).getD none = some v := Option.some.inj q2'
          obtain ⟨n1, n2⟩ := S.fr p (List.mem_of_getElem? ef)
          rw [e1] at n1 n2
          have e3 : σ[p.2]? = some (some v) := by
            cases ez : σ[p.2]? with
            | none => rw [ez] at e2; cases e2
            | some z => rw [ez] at e2; exact congrArg some e2
          have kX := S.free _ (PySem.mem_of_lookup n2) rfl
          obtain ⟨m, hm, hl⟩ := I2.loc
          obtain ⟨u, ru, lk⟩ := hl p.2 y v n1 e3 (.inr kX)
          refine ⟨u, ru, .inr ⟨relabel_free n2, ?_⟩⟩
          rcases lk with ⟨k1, _⟩ | ⟨_, c, q, ic⟩
          · have k1' : X.env.scope.names.lookup y = some .local := k1
            rcases kX with kX | kX
            · exact absurd (k1'.symm.trans kX) (by simp)
            · exact absurd (k1'.symm.trans kX) (by simp)
          · obtain ⟨c', hc'⟩ := Option.isSome_iff_exists.mp (cl_has (cells := X.env.cells) (y := y) scope.names [] (.inl (PySem.mem_of_lookup n2)))
            have e4 : c' = c := Option.some.inj ((hsub y c' hc').symm.trans q)
            subst e4
            obtain ⟨oc, g1, g2⟩ := ic
            exact ⟨c', hc', oc, old _ _ g1, g2⟩
    · obtain ⟨z, oc, g1, g2⟩ := I2.cell y c (hsub y c q)
      exact ⟨z, oc, old _ _ g1, g2⟩
    · have e : p = own [] 0 := by simpa [blk] using hp
      subst e
      exact pinD [] 0 { s2 with heap := h₁, toks := s2.toks + ([] : List (Str × Value)).length } H2 hacc hD2
    · show (blkS none fr σ).length = (blkN x fr).length
      unfold blkS blkN
      rw [List.length_cons, List.length_cons, List.length_map, List.length_map]
  have statY : ∀ {H' : Hp} {us : List Value} {k : Nat}, (∀ b ∈ fp, H' b = none) → ∀ b ∈ fp, FpOk (blk X x fr scope fp P.objs.size s2 H2) [own us k] H' b := fun {H' us k} hn b hb => by
    obtain ⟨_, f1, f2', f3, f4, f5⟩ := f2 b hb
    refine ⟨hn b hb, (lt2 b (hfplt b hb)).1, okY.exfs b hb, .inl hb, fun y c q => f4 y c (hsub y c q), fun p hp z => ?_⟩
    have e : p = own us k := by simpa [blk] using hp
    subst e
    exact (lt2 b (hfplt b hb)).2 z.symm
  have hg : PG (blk X x fr scope fp P.objs.size s2 H2) (.Name x px) (gName 0) := pg_name (i := 0) S.nd rfl (.inl (lookup_relabel_local S.hx)) (.inr (lookup_relabel_local S.hx))
  have loop : ∀ s₃ : Shared, s₃ = { s2 with heap := h₁, toks := s2.toks + ([] : List (Str × Value)).length } →
      codeAny (model X.prog X.w) X.A (.compLoop (.ListComp elt [⟨.Name x px, iter, [], 0⟩] scope pos) 0 (.ref it) (.ref s2.heap.objs.size) (compEnvC scope (clOf X.env.cells scope.names) P.objs.size X.env))
        (compPost (model X.prog X.w) X.A X.xe (some (assign (.Name y py) X.env)) (fun _ s' => SP X pins D .next s') (.ref s2.heap.objs.size) P.objs.size) s₃ := by
    rintro s₃ rfl
    refine lc_loop (fun n t => ∃ i ys us k H', Inv (blk X x fr scope fp P.objs.size s2 H2) [own us k] (blkS none fr σ) H' t ∧ Vals ys us ∧ tn i t.heap ∧ (∀ b ∈ fp, H' b = none) ∧ W i n ys H') ?_ m0
      ⟨0, [], [], 0, H2, I4, .nil, T.keep _ _ _ st2 fun b hb o q => old b o q, fun b hb => (f2 b hb).1, w0⟩
    rintro n t ⟨i, ys, us, k, H', It, rv, st, frs', w1⟩
    have hDn : H' s2.heap.objs.size = none := (It.pin (own us k) (by simp [blk])).2.1
    have hDo : t.heap.get? s2.heap.objs.size = some { cls := .type "list", data := .seq us.toArray k } := (It.pin (own us k) (by simp [blk])).1
    rcases turn i n ys H' w1 with ⟨stop, zl, qn⟩ | ⟨go, zl, N, hN, step⟩
    · refine thn (T.done (blk X x fr scope fp P.objs.size s2 H2) rfl rfl rfl hc i _ t _ H' _ It (statY frs') st stop) fun r t1 ⟨hr, I1⟩ => ?_
      subst hr
      have hDo1 : t1.heap.get? s2.heap.objs.size = some { cls := .type "list", data := .seq us.toArray k } := (I1.pin (own us k) (by simp [blk])).1
      have IX : Inv X pins σ (upd H' s2.heap.objs.size (.lst ys)) t1 := by
        have sb : Heap.SameBut P.objs.size t1.heap t1.heap := .refl _ _
        refine I2.call' (s' := t1) (ch := fp) I1.os (un_tail I1.base hCle (Nat.le_refl _) hDn sb) ?_ I1.bare fun b hb => ?_
        · intro a o q
          by_cases ha : a = s2.heap.objs.size
          · subst ha
            rw [upd_same] at q
            cases q
            exact ⟨zl, us, k, rv, (sb.2 _ hDC).trans hDo1⟩
          · rw [upd_ne ha] at q
            refine (I1.hok a o q).stay (fun b u hb q' => (sb.2 b ?_).trans q') (fun b z => ?_) fun b xs z => ?_
            · rcases hb with rfl | hb
              · exact ne_of_none q I1.free
              · exact ne_of_none hb I1.free
            · rw [upd_ne (ne_of_none z hDn)]; exact z
            · rw [upd_ne (ne_of_none z hDn)]; exact z
        · obtain ⟨_, f1, _, f3, f4, f5⟩ := f2 b hb
          exact ⟨f3, f1, f4, f5⟩
      have hCn : H' P.objs.size = none := I1.free
      have fC : FpOk X pins (upd H' s2.heap.objs.size (.lst ys)) P.objs.size := I2.fpOk hCle (by rw [upd_ne (Ne.symm hDC)]; exact hCn)
      obtain ⟨m, hns, _⟩ := I1.loc
      obtain ⟨oC, es, ep, hoC, hdC, rC⟩ := id hns
      have IP := own_pin IX fC hoC (fun v z => by rw [hdC] at z; cases z)
      refine thn (hgY _ t1 σ _ (.ref s2.heap.objs.size) (.ref s2.heap.objs.size) _ IP rfl (qn _ hDn)) fun _ t2 ⟨σ3, H3, I3, q3⟩ => ?_
      have hC3 := own_at I3
      exact ⟨m, ⟨oC, es, ep, hC3.1, hdC, rC⟩, fun h' sb => ⟨σ3, H3, own_turn (t' := t2.toks) (own_unpin I3) (fp_heap fC hC3.2) (fun c o hc e => (sb.2 c hc).trans e), q3⟩⟩
    · refine thn (T.item (blk X x fr scope fp P.objs.size s2 H2) rfl rfl rfl hc i _ t _ H' _ It (statY frs') st go) fun r t1 ⟨u, hr, h4⟩ => ?_
      subst hr
      refine thn h4 fun _ t2 ⟨v, H5, I5, r5, y5, st5, fr5⟩ => ?_
      have I5' := I5.pinned (statY fr5) (T.obj _ _ st5)
      have hsz : (blkS none fr σ).set 0 (some v) = blkS (some v) fr σ := rfl
      refine thn (hg _ t2 _ H5 v u _ I5' r5 (show gName 0 v (blkS none fr σ) H5 (fun σ' H6 => σ' = blkS (some v) fr σ ∧ H6 = H5) from ⟨hsz, rfl⟩)) fun _ t3 ⟨σ6, H6, I6, e6, e7⟩ => ?_
      subst e6; subst e7
      refine thn (he fp P.objs.size s2 H2 _ t3 _ H6 _ I6 (step v H6 y5)) fun yv t4 ⟨y, H7, I7, r7, n7⟩ => ?_
      obtain ⟨m', hm, w7⟩ := hN y H7 n7
      have hDo4 : t4.heap.get? s2.heap.objs.size = some { cls := .type "list", data := .seq us.toArray k } := (I7.pin (own us k) (by simp [blk])).1
      have hDn4 : H7 s2.heap.objs.size = none := (I7.pin (own us k) (by simp [blk])).2.1
      have hlen : us.length < sizeLine := by rw [← rv.length]; exact zl
      refine call_meets F.slot_list_append ⟨_, hDo4, rfl⟩ F.entry_list_append (F.args_list_append_2 _ _) (PySem.list_append s2.heap.objs.size us.toArray k yv (by rw [List.size_toArray]; omega)) ⟨hDo4, ?_⟩
      have hup := PySem.IsL.update hDo4 (·.push yv)
      have hea : us.toArray.push yv = (us ++ [yv]).toArray := by simp
      rw [hea] at hup
      have pf : ∀ b ∈ fp, ∃ o, t2.heap.get? b = some o ∧ t4.heap.get? b = some o ∧ H7 b = none := fun b hb => by
        obtain ⟨o, q, _⟩ := T.obj _ _ st5 b hb
        have z := I7.pin (b, o) (List.mem_append_right _ (List.mem_append_right _ (mem_pinsAt hb q)))
        exact ⟨o, q, z.1, z.2.1⟩
      have I8 := (I7.pins_of (pins' := []) (fun p hp => absurd hp (by simp))).turned (it := s2.heap.objs.size) (h' := t4.heap.update s2.heap.objs.size (Obj.mapSeq (·.push yv))) (t' := t4.toks)
        (fun b o hb q => (Heap.get?_update_other t4.heap (Obj.mapSeq (·.push yv)) (Ne.symm hb)).trans q) hDn4 hDC (.inr (Nat.le_refl _))
        (fun z c q hz => by
          obtain ⟨_, oc, g1, _⟩ := I2.cell z c (hsub z c q)
          exact absurd (Heap.lt_size g1) (by rw [hz]; exact Nat.lt_irrefl _))
        (fun p hp => absurd (show p ∈ ([] : List (Addr × Obj)) from hp) (by simp))
      have I9 := I8.weak (σ' := blkS none fr σ) (by unfold blkS; rw [List.length_cons, List.length_cons]) (fun j z hz => by
        cases j with
        | zero => exact absurd hz (by show ¬ (some (none : Option V) = some (some z)); simp)
        | succ j => exact hz)
      refine ⟨m', hm, i + 1, ys ++ [y], us ++ [yv], (if ((us ++ [yv]).toArray.size == us.toArray.size) = true then k else k + 1), H7, I9.pins_of fun p hp => ?_, rv.append (.cons r7 .nil), ?_, ?_, w7⟩
      · have e : p = own (us ++ [yv]) (if ((us ++ [yv]).toArray.size == us.toArray.size) = true then k else k + 1) := by simpa using hp
        subst e
        exact pinD _ _ _ H7 hup hDn4
      · refine T.keep _ _ _ st5 fun b hb o q => ?_
        obtain ⟨o', q1, q2, _⟩ := pf b hb
        rw [q] at q1
        cases q1
        exact (Heap.get?_update_other t4.heap (Obj.mapSeq (·.push yv)) (Ne.symm (lt2 b (hfplt b hb)).2)).trans q2
      · exact fun b hb => by
          obtain ⟨_, _, _, q3⟩ := pf b hb
          exact q3
  exact codeAny_compStart_list (loop _ rfl) (T.self X.A 0 _ _ _ (T.keep _ _ _ st2 fun b hb o q => old b o q) (loop _ rfl))
end
end Rg
set_option Elab.async false
set_option linter.all false
set_option maxRecDepth 100000
set_option maxHeartbeats 4000000
namespace Rg
open PySem L2
/-- a comprehension over a list that the block leaves as it is, whatever follows -/
theorem lc_listR {K : PySem.W.Frag} {a : Addr} {xs : List V} {H : Hp} {R : Addr → List V → Hp → Prop} {S : V → Hp → (V → Hp → Prop) → Prop} (Pv : Nat → List V → Hp → Prop) (hz : xs.length ≤ sizeLine) (h0 : Pv 0 [] H) (hl : ∀ i ys H, i ≤ xs.length → Pv i ys H → SqL K H a xs ∧ ys.length = i)
    (hs : ∀ i x ys H, xs[i]? = some x → Pv i ys H → S x H fun y H2 => Pv (i + 1) (ys ++ [y]) H2) (hd : ∀ ys H, Pv xs.length ys H → ∀ p, H p = none → R p ys H) :
    ∃ W : Nat → Nat → List V → Hp → Prop, (∃ m, W 0 m [] H) ∧ ∀ i m ys H, W i m ys H → ((Itl K a).stop i H ∧ ys.length ≤ sizeLine ∧ ∀ p, H p = none → R p ys H) ∨
      ((Itl K a).go i H ∧ ys.length < sizeLine ∧ ∃ N : V → Hp → Prop, (∀ y H2, N y H2 → ∃ m', m' < m ∧ W (i + 1) m' (ys ++ [y]) H2) ∧ ∀ v H', (Itl K a).yld i H v H' → S v H' N) := by
  refine ⟨fun i m ys H => m = xs.length - i ∧ i ≤ xs.length ∧ Pv i ys H, ⟨xs.length, by simp, Nat.zero_le _, h0⟩, ?_⟩
  rintro i m ys H ⟨rfl, hi, p⟩
  obtain ⟨q, hy⟩ := hl i ys H hi p
  by_cases hlt : i < xs.length
  · refine .inr ⟨⟨xs, xs[i], q, by simp [hlt]⟩, by omega, fun y H2 => Pv (i + 1) (ys ++ [y]) H2, fun y H2 p' => ⟨xs.length - (i + 1), by omega, rfl, hlt, p'⟩, fun x H' y => ?_⟩
    obtain ⟨rfl, y⟩ := y
    exact hs i x ys _ (y xs q) p
  · have e : i = xs.length := by omega
    subst e
    exact .inl ⟨⟨xs, q, Nat.le_refl _⟩, by omega, hd ys H p⟩
def rowOf (cs : List Th) : Ts := Ts.ofL (cs.map fun c => (Str.empty, c))
theorem rowOf_toL (cs : List Th) : (rowOf cs).toL = cs.map fun c => (Str.empty, c) := toL_ofL _
theorem rowOf_len (cs : List Th) : (rowOf cs).len = cs.length := by rw [← toL_len, rowOf_toL, List.length_map]
theorem rowOf_size (cs : List Th) : (rowOf cs).size = (cs.map Th.size).sum := by rw [toL_size, rowOf_toL, List.map_map]; rfl
theorem rowOf_ok : ∀ {cs : List Th}, (∀ c ∈ cs, c.Ok) → (rowOf cs).Ok
  | [], _ => trivial
  | c :: r, h => ⟨by show Str.empty.length ≤ 100; decide, h c List.mem_cons_self, rowOf_ok fun d hd => h d (List.mem_cons_of_mem _ hd)⟩
theorem AllRep.row {H : Hp} : ∀ {xs : List V} {cs : List Th}, AllRep H xs cs → RepR H (rowOf cs) xs
  | _, _, .nil => rfl
  | _, _, .cons (a := y) r t => ⟨y, _, rfl, r, AllRep.row t⟩
theorem paired_erase {α β : Type} {F : α → β → Prop} : ∀ {xs : List α} {ys : List β} (j : Nat), Paired F xs ys → Paired F (xs.eraseIdx j) (ys.eraseIdx j)
  | _, _, _, .nil => .nil
  | _, _, 0, .cons _ t => t
  | _, _, j + 1, .cons r t => .cons r (paired_erase j t)
theorem paired_set {α β : Type} {F : α → β → Prop} {x : α} {y : β} (h : F x y) : ∀ {xs : List α} {ys : List β} (j : Nat), Paired F xs ys → Paired F (xs.set j x) (ys.set j y)
  | _, _, _, .nil => .nil
  | _, _, 0, .cons _ t => .cons h t
  | _, _, j + 1, .cons r t => .cons r (paired_set h j t)
theorem paired_rev {α β : Type} {F : α → β → Prop} {xs : List α} {ys : List β} (h : Paired F xs ys) : Paired F xs.reverse ys.reverse := by
  induction h with
  | nil => exact .nil
  | cons r _ ih =>
    rw [List.reverse_cons, List.reverse_cons]
    exact paired_app ih (.cons r .nil)
theorem sum_erase : ∀ (cs : List Th) (j : Nat), ((cs.eraseIdx j).map Th.size).sum ≤ (cs.map Th.size).sum
  | [], _ => Nat.le_refl _
  | c :: r, 0 => by show (r.map Th.size).sum ≤ (c.size :: r.map Th.size).sum; rw [List.sum_cons]; omega
  | c :: r, j + 1 => by
    have z := sum_erase r j
    show (c.size :: (r.eraseIdx j).map Th.size).sum ≤ (c.size :: r.map Th.size).sum
    rw [List.sum_cons, List.sum_cons]
    omega
theorem sum_set {t : Th} : ∀ (cs : List Th) (j : Nat) {c : Th}, cs[j]? = some c → t.size ≤ c.size → ((cs.set j t).map Th.size).sum ≤ (cs.map Th.size).sum
  | [], _, _, h, _ => by simp at h
  | c :: r, 0, d, h, hz => by
    cases h
    show (t.size :: r.map Th.size).sum ≤ (c.size :: r.map Th.size).sum
    rw [List.sum_cons, List.sum_cons]
    omega
  | c :: r, j + 1, d, h, hz => by
    have z := sum_set r j (by simpa using h) hz
    show (c.size :: (r.set j t).map Th.size).sum ≤ (c.size :: r.map Th.size).sum
    rw [List.sum_cons, List.sum_cons]
    omega
theorem seq_nat {j n : Nat} (h : j < n) : seqIndex? (j : Int) n = some j := by
  unfold seqIndex?
  have h1 : ¬ (j : Int) < 0 := by omega
  simp [h1, h]
end Rg
namespace K2
open PySem PySem.W L2 Rg
section
variable {P : Program} {w : World} {K : PySem.W.Frag} {mg : Str → Option Value} {base : Heap} {f g g2 g3 : Addr} {fd gd gd2 gd3 : FuncData}
theorem scChanged : FnScope ["_law_thing", "_law_number", "_law_at", "_law_made"] ["_law_thing", "_law_number"] (defScope sChanged) := ⟨rfl, rfl, rfl, by decide +kernel, rfl, by decide +kernel, by decide +kernel⟩
theorem ok_changed {n k : Nat} (F : Fun K "_law_changed" "_law_changed" sChanged f fd) (B : Blt mg) (hkn : n ≤ k) (bF : Binds K fd ["_law_thing", "_law_number"] []) (mF : mg "_law_changed" = some (.ref f))
    (C : FnOk P w K mg base CX0 n g gd ["_law_thing"] (spCopied n)) (bC : Binds K gd ["_law_thing"] []) (kC : PySem.W.keepIn K (.ref g) = true) (mC : mg "_law_copied" = some (.ref g))
    (W : FnOk P w K mg base CX0 1 g2 gd2 ["_law_number"] spWordBy) (bW : Binds K gd2 ["_law_number"] []) (kW : PySem.W.keepIn K (.ref g2) = true) (mW : mg "_law_word_by" = some (.ref g2))
    (R : FnOk P w K mg base CX0 (k + 1) g3 gd3 ["_law_record", "_law_number"] (spChRec (n + 1))) (bR : Binds K gd3 ["_law_record", "_law_number"] []) (kR : PySem.W.keepIn K (.ref g3) = true) (mR : mg "_law_changed_record" = some (.ref g3))
    (G : FnOk P w K mg base CX0 k f fd ["_law_thing", "_law_number"] (spChanged n)) :
    FnOk P w K mg base CX0 (k + 2) f fd ["_law_thing", "_law_number"] (spChanged (n + 1)) := by
  refine F.ok scChanged (fun vs H Q E h => ?_) (fun cdv A outer s H vs Q E hr h => ?_)
  · obtain ⟨t, v, m, rfl, _⟩ := h
    rfl
  obtain ⟨t, v, m, rfl, hm0, rep, ok, hz, q⟩ := h
  have nd := scChanged.nd
  have rk := hr.mono (show k ≤ k + 1 by omega)
  have rn := hr.mono (show n ≤ k + 1 by omega)
  have r1 := hr.mono (show 1 ≤ k + 1 by omega)
  refine ⟨_, pss_cons (ps_if (PW.pt (pw_and (pt_val (pe_callB call_isi rfl B.isi PyProof.Rows.boot_isinstance (pa_cons (pv 0) (pa_cons (pe_bltn (v := .ty "list") rfl B.list PyProof.Rows.boot_list rfl) pa_nil)))) (pw_and1 (pt_cmpR op_gt (pe_callB call_lenX rfl B.len PySem.boot_len (pa_cons (pv 0) pa_nil)) pe_int (nomark _)))))
      (pss_cons (ps_set (i := 2) nd rfl (Or.inl rfl) (pe_op op_mod (pv 1) (pe_callB call_len rfl B.len PySem.boot_len (pa_cons (pv 0) pa_nil))))
      (pss_cons (ps_lc (i := 3) (fr := []) nd rfl (Or.inl rfl) rfl (pi_list (pv 0)) (LcSt.ok (sc := defScope sChanged) (N := ["_law_thing", "_law_number", "_law_at", "_law_made"]) ⟨by decide +kernel, rfl, by decide +kernel, rfl, by decide +kernel, by decide +kernel, by decide +kernel⟩ rfl rfl)
        fun fp C' s H => pe_call C rn rfl mC kC bC .nil pass0 (pa_cons (pv 0) pa_nil))
      (pss_cons (ps_if (pt_cmpR op_eq (pe_op op_mod (pe_op op_fdiv (pv 1) pe_int) pe_int) pe_int (nomark _)) (pss_one (ps_expr (pe_bm0 PySem.F.plainAttrs_list PySem.F.slot_list_reverse PySem.F.type_list_reverse mt_reverse (pv 3))))
        (pss_one (ps_if (pt_cmpR op_eq (pe_op op_mod (pe_op op_fdiv (pv 1) pe_int) pe_int) pe_int (nomark _)) (pss_one (ps_expr (pe_bm PySem.F.plainAttrs_list PySem.F.slot_list_pop PySem.F.type_list_pop mt_popAt (pv 3) (pa_cons (pv 2) pa_nil))))
          (pss_one (ps_asg (pe_call G rk rfl mF F.kp bF .nil pass0 (pa_cons (pe_ix ix_list (pv 0) (pv 2) (fun _ _ => rfl)) (pa_cons (pe_op op_fdiv (pv 1) pe_int) pa_nil))) (pg_sub (pv 3) (pv 2) set_list))))))
      (pss_one (ps_ret (pv 3)))))) pss_nil)
    (pss_cons (ps_if (PW.pt (pw_and (pt_val (pe_callB call_isi rfl B.isi PyProof.Rows.boot_isinstance (pa_cons (pv 0) (pa_cons (pe_bltn (v := .ty "dict") rfl B.dict PyProof.Rows.boot_dict rfl) pa_nil)))) (pw_and1 (pt_cmpR op_gt (pe_callB call_lenX rfl B.len PySem.boot_len (pa_cons (pv 0) pa_nil)) pe_int (nomark _)))))
      (pss_one (ps_ret (pe_call R hr rfl mR kR bR .nil pass0 (pa_cons (pv 0) (pa_cons (pv 1) pa_nil))))) pss_nil)
    (pss_cons (ps_if (pt_val (pe_callB call_isi rfl B.isi PyProof.Rows.boot_isinstance (pa_cons (pv 0) (pa_cons (pe_bltn (v := .ty "int") rfl B.int PyProof.Rows.boot_int rfl) pa_nil))))
      (pss_one (ps_ret (pe_ix ix_list (pe_lst (pa_cons (pe_op op_sub pe_int (pv 0)) (pa_cons (pe_op op_add (pv 0) pe_int) (pa_cons pe_str (pa_cons (pe_lst pa_nil) pa_nil))))) (pe_op op_mod (pv 1) pe_int) (fun _ _ => rfl)))) pss_nil)
    (pss_one (ps_ret (pe_ix ix_list (pe_lst (pa_cons (pe_call W r1 rfl mW kW bW .nil pass0 (pa_cons (pv 1) pa_nil)) (pa_cons pe_int (pa_cons pe_dnewK (pa_cons (pe_lst pa_nil) pa_nil))))) (pe_op op_mod (pe_op op_fdiv (pv 1) pe_int) pe_int) (fun _ _ => rfl)))))), ?_⟩
  have rt : TyOf K H v (.type t.ty) := rep.ty
  -- something of size one, fresh
  have fin : ∀ (v' : V) (H' : Hp) (t' : Th), Same H H' → Rep (newOf H H') t' v' → t'.Ok → t'.size = 1 → Q v' H' := fun v' H' t' s1 r1 o1 z1 => q v' H' t' s1 r1 o1 (by have := size_pos t; omega)
  have nilRow : ∀ {H' : Hp} {r : Addr}, H r = none → H' r = some (.lst []) → Rep (newOf H H') (.row .nil) (.ref r) := fun {H' r} h1 h2 => ⟨r, [], rfl, newOf_at h1 h2, rfl⟩
  have nilDic : ∀ {H' : Hp} {r : Addr}, H r = none → H' r = some (.dK []) → Rep (newOf H H') (.dic .nil) (.ref r) := fun {H' r} h1 h2 => ⟨r, [], rfl, newOf_at h1 h2, rfl⟩
  have okRow : (Th.row .nil).Ok := ⟨Nat.zero_le _, trivial⟩
  have okDic : (Th.dic .nil).Ok := ⟨Nat.zero_le _, List.nodup_nil, trivial⟩
  refine ⟨_, rfl, v, "list", _, _, rfl, rt, kit_list _ t, _, rfl, ?_⟩
  cases t with
  | num i =>
    have ev : v = .int i := rep
    subst ev
    refine iteF ⟨_, rfl, .int i, "dict", _, _, rfl, rt, kit_dict _ (.num i), _, rfl, iteF ⟨_, rfl, .int i, "int", _, _, rfl, rt, kit_num _ (.num i), _, rfl, iteT ?_⟩⟩
    refine ⟨_, rfl, _, _, rfl, rfl, _, rfl, _, _, rfl, rfl, Nat.zero_le _, fun r1' hr1' => ⟨(by show 4 ≤ sizeLine; decide), fun p hp => ⟨_, rfl, _, _, rfl, rfl, (by show (0 : Int) < 4; decide), ?_⟩⟩⟩
    have s1 := same_new hr1' (.lst [])
    have s2 := s1.trans (same_new hp (.lst [V.int (0 - i), .int (i + 1), .str "a", .ref r1']))
    refine pick (by omega) (by show m % 4 < 4; omega) fun v' _ hv => ?_
    rcases List.mem_cons.mp hv with rfl | hv
    · exact fin _ _ (.num (0 - i)) s2 rfl trivial rfl
    rcases List.mem_cons.mp hv with rfl | hv
    · exact fin _ _ (.num (i + 1)) s2 rfl trivial rfl
    rcases List.mem_cons.mp hv with rfl | hv
    · exact fin _ _ (.word "a") s2 rfl (by show Str.length "a" ≤ 100; decide) rfl
    · rw [List.mem_singleton.mp hv]
      exact fin _ _ (.row .nil) s2 (nilRow hr1' ((same_new hp _) _ _ upd_same)) okRow rfl
  | word x =>
    have ev : v = .str x := rep
    subst ev
    refine iteF ⟨_, rfl, .str x, "dict", _, _, rfl, rt, kit_dict _ (.word x), _, rfl, iteF ⟨_, rfl, .str x, "int", _, _, rfl, rt, kit_num _ (.word x), _, rfl, iteF ?_⟩⟩
    refine ⟨_, rfl, m, rfl, fun H1 s1 => ?_⟩
    intro d hd
    refine ⟨Nat.zero_le _, fun r1' hr1' => ⟨(by show 4 ≤ sizeLine; decide), fun p hp => ⟨_, rfl, _, _, rfl, rfl, ⟨by decide, by decide⟩, _, _, rfl, rfl, (by show (0 : Int) < 4; decide), ?_⟩⟩⟩
    have sd := same_new hd (.dK [])
    have sr := same_new hr1' (.lst [])
    have sp := same_new hp (.lst [V.str (wordAt (m % 5)), .int 0, .ref d, .ref r1'])
    have sA := ((s1.trans sd).trans sr).trans sp
    refine pick (by omega) (by show m / 5 % 4 < 4; omega) fun v' _ hv => ?_
    rcases List.mem_cons.mp hv with rfl | hv
    · exact fin _ _ (.word (wordAt (m % 5))) sA rfl (wordAt_len _) rfl
    rcases List.mem_cons.mp hv with rfl | hv
    · exact fin _ _ (.num 0) sA rfl trivial rfl
    rcases List.mem_cons.mp hv with rfl | hv
    · exact fin _ _ (.dic .nil) sA (nilDic (s1.free hd) (sp _ _ (sr _ _ upd_same))) okDic rfl
    · rw [List.mem_singleton.mp hv]
      exact fin _ _ (.row .nil) sA (nilRow ((s1.trans sd).free hr1') (sp _ _ upd_same)) okRow rfl
  | row l =>
    obtain ⟨a, xs, rfl, h2, h3⟩ := (rep : ∃ a xs, v = V.ref a ∧ H a = some (.lst xs) ∧ RepR H l xs)
    have hxl := h3.len
    have hl9 : l.len ≤ 9 := ok.1
    have hzl : l.size + 1 ≤ n + 1 := hz
    refine iteT ⟨_, rfl, .inl ⟨.ref a, xs.length, rfl, .inl ⟨xs, SqL.of h2, rfl⟩, _, _, rfl, rfl, _, rfl, ?_⟩⟩
    by_cases he : xs.length = 0
    · refine iteDn (show ¬ (0 : Int) < (xs.length : Nat) by omega) ⟨_, rfl, .ref a, "dict", _, _, rfl, rt, kit_dict _ (.row l), _, rfl, iteF ⟨_, rfl, .ref a, "int", _, _, rfl, rt, kit_num _ (.row l), _, rfl, iteF ?_⟩⟩
      refine ⟨_, rfl, m, rfl, fun H1 s1 => ?_⟩
      intro d hd
      refine ⟨Nat.zero_le _, fun r1' hr1' => ⟨(by show 4 ≤ sizeLine; decide), fun p hp => ⟨_, rfl, _, _, rfl, rfl, ⟨by decide, by decide⟩, _, _, rfl, rfl, (by show (0 : Int) < 4; decide), ?_⟩⟩⟩
      have sd := same_new hd (.dK [])
      have sr := same_new hr1' (.lst [])
      have sp := same_new hp (.lst [V.str (wordAt (m % 5)), .int 0, .ref d, .ref r1'])
      have sA := ((s1.trans sd).trans sr).trans sp
      refine pick (by omega) (by show m / 5 % 4 < 4; omega) fun v' _ hv => ?_
      rcases List.mem_cons.mp hv with rfl | hv
      · exact fin _ _ (.word (wordAt (m % 5))) sA rfl (wordAt_len _) rfl
      rcases List.mem_cons.mp hv with rfl | hv
      · exact fin _ _ (.num 0) sA rfl trivial rfl
      rcases List.mem_cons.mp hv with rfl | hv
      · exact fin _ _ (.dic .nil) sA (nilDic (s1.free hd) (sp _ _ (sr _ _ upd_same))) okDic rfl
      · rw [List.mem_singleton.mp hv]
        exact fin _ _ (.row .nil) sA (nilRow ((s1.trans sd).free hr1') (sp _ _ upd_same)) okRow rfl
    · refine iteD (show (0 : Int) < (xs.length : Nat) by omega) ⟨_, rfl, _, rfl, .ref a, xs.length, rfl, .inl ⟨xs, SqL.of h2, rfl⟩, _, _, rfl, rfl, by omega, ?_⟩
      obtain ⟨j, hj⟩ : ∃ j : Nat, m % (xs.length : Nat) = (j : Int) := ⟨(m % (xs.length : Nat)).toNat, by have := Int.emod_nonneg m (show ((xs.length : Nat) : Int) ≠ 0 by omega); omega⟩
      have hjl : j < xs.length := by have := Int.emod_lt_of_pos m (show (0 : Int) < (xs.length : Nat) by omega); omega
      have hthl := Ts.ths_len l
      refine ⟨_, rfl, a, rfl, ⟨xs, SqL.of h2⟩, lc_listR (xs := xs) (fun i ys H' => Same H H' ∧ ys.length = i ∧ AllRep (newOf H H') ys (l.ths.take i)) (small (by omega)) ⟨Same.refl H, rfl, .nil⟩ (fun i ys H' hi p => ⟨SqL.of (p.1 _ _ h2), p.2.1⟩) (fun i x ys H' hx p => ?_) (fun ys H1 p r hr' => ?_)⟩
      · obtain ⟨sm, hy, pa⟩ := p
        obtain ⟨c, hc, rc⟩ := paired_at h3.all i x hx
        have hm := List.mem_of_getElem? hc
        have hcs : c.size ≤ l.size := by
          have := le_sum (List.mem_map.mpr ⟨c, hm, rfl⟩ : c.size ∈ l.ths.map Th.size)
          rw [Ts.ths_size] at this
          exact this
        refine ⟨x, rfl, c, x, rfl, rc.mono sm, Ts.ok_mem ok.2 c hm, by omega, fun v' H2 sm2 rep2 => ⟨sm.trans sm2, by rw [List.length_append, hy]; rfl, ?_⟩⟩
        rw [List.take_succ, hc]
        exact paired_app (AllRep.mono (new_same (Dom.refl H) fun a o _ h => sm2 a o h) pa) (.cons (rep2.mono (new_same (Dom.of sm) fun a o _ h => h)) .nil)
      · obtain ⟨sm, hy, pa⟩ := p
        rw [List.take_of_length_le (by omega)] at pa
        have hrH : H r = none := sm.free hr'
        have okc : ∀ c ∈ l.ths, c.Ok := Ts.ok_mem ok.2
        have s1 := same_new hr' (.lst ys)
        have sm1 : Same H (upd H1 r (.lst ys)) := sm.trans s1
        -- a list of other things in the place of the copies
        have fin2 : ∀ (H2 : Hp) (zs : List V) (cs : List Th), Same H H2 → H2 r = some (.lst zs) → AllRep (newOf H H2) zs cs → cs.length ≤ 9 → (∀ c ∈ cs, c.Ok) → (cs.map Th.size).sum ≤ l.size → Q (.ref r) H2 := fun H2 zs cs sm2 hr2 pa2 h9 ok2 hz2 =>
          q (.ref r) H2 (.row (rowOf cs)) sm2 ⟨r, zs, rfl, newOf_at hrH hr2, AllRep.row pa2⟩ ⟨by rw [rowOf_len]; exact h9, rowOf_ok ok2⟩ (by show (rowOf cs).size + 1 ≤ l.size + 1; rw [rowOf_size]; omega)
        have tot : (l.ths.map Th.size).sum = l.size := Ts.ths_size l
        have stay : ∀ (o : HO), Same (newOf H H1) (newOf H (upd (upd H1 r (.lst ys)) r o)) := fun o => new_same (Dom.refl H) fun b u _ h => by
          have nb : b ≠ r := ne_of_none h hr'
          rw [upd_ne nb, upd_ne nb]
          exact h
        refine ⟨_, rfl, _, _, rfl, rfl, ⟨by decide, by decide⟩, _, _, rfl, rfl, (by show (0 : Int) < 4; decide), rfl, _, rfl, ite2 (fun c1 => ?_) (fun c1 => ?_)⟩
        · refine ⟨.ref r, rfl, .inl ⟨rfl, _, SqL.of upd_same⟩, r, ys, rfl, rfl, upd_same, ?_⟩
          refine ⟨_, rfl, fin2 _ ys.reverse l.ths.reverse (same_put sm1 hrH) upd_same (AllRep.mono (stay _) (paired_rev pa)) (by rw [List.length_reverse]; omega) (fun c hc => okc c (List.mem_reverse.mp hc)) ?_⟩
          rw [List.map_reverse, List.sum_reverse]
          omega
        · refine ⟨_, rfl, _, _, rfl, rfl, ⟨by decide, by decide⟩, _, _, rfl, rfl, (by show (0 : Int) < 4; decide), rfl, _, rfl, ite2 (fun c2 => ?_) (fun c2 => ?_)⟩
          · obtain ⟨y, hyj⟩ : ∃ y, ys[j]? = some y := ⟨_, List.getElem?_eq_getElem (by omega)⟩
            refine ⟨.ref r, rfl, .inl ⟨rfl, _, SqL.of upd_same⟩, _, rfl, r, ys, m % (xs.length : Nat), j, y, rfl, rfl, upd_same, by omega, by omega, by rw [hj]; exact seq_nat (by omega), hyj, ?_⟩
            refine ⟨_, rfl, fin2 _ (ys.eraseIdx j) (l.ths.eraseIdx j) (same_put sm1 hrH) upd_same (AllRep.mono (stay _) (paired_erase j pa)) ?_ (fun c hc => okc c (List.mem_of_mem_eraseIdx hc)) ?_⟩
            · have := List.length_eraseIdx_le l.ths j
              omega
            · have := sum_erase l.ths j
              omega
          · obtain ⟨x, hxj⟩ : ∃ x, xs[j]? = some x := ⟨_, List.getElem?_eq_getElem hjl⟩
            obtain ⟨c, hc, rc⟩ := paired_at h3.all j x hxj
            have hm := List.mem_of_getElem? hc
            have hcs : c.size ≤ l.size := by
              have := le_sum (List.mem_map.mpr ⟨c, hm, rfl⟩ : c.size ∈ l.ths.map Th.size)
              omega
            refine ⟨.ref a, rfl, _, rfl, a, xs, m % (xs.length : Nat), x, rfl, rfl, SqL.of (sm1 _ _ h2), by rw [hj]; exact atI_nat hxj, _, rfl, _, _, rfl, rfl, ⟨by decide, by decide⟩, c, x, m / 24, rfl, by omega, rc.mono sm1, okc c hm, by omega, fun v3 H3 t3 sm3 rep3 ok3 hz3 => ?_⟩
            have hr3 := sm3 _ _ (upd_same (H := H1) (a := r) (o := .lst ys))
            have hix : ixN ys.length (m % (xs.length : Nat)) = some j := by
              unfold ixN
              rw [hj, if_pos (by omega), if_pos (by omega)]
              simp
            refine ⟨.ref r, rfl, _, rfl, r, ys, _, j, rfl, rfl, hr3, hix, ?_⟩
            have old : Same (newOf H H1) (newOf H (upd H3 r (.lst (ys.set j v3)))) := new_same (Dom.refl H) fun b u _ h => by
              have nb : b ≠ r := ne_of_none h hr'
              rw [upd_ne nb]
              exact sm3 _ _ (s1 _ _ h)
            have new : Same (newOf (upd H1 r (.lst ys)) H3) (newOf H (upd H3 r (.lst (ys.set j v3)))) := new_same (Dom.of sm1) fun b u hb h => by
              rw [upd_ne (upd_none hb).1]
              exact h
            refine ⟨_, rfl, fin2 _ (ys.set j v3) (l.ths.set j t3) (same_put (sm1.trans sm3) hrH) upd_same (paired_set (F := fun y c => Rep (newOf H (upd H3 r (.lst (ys.set j v3)))) c y) (rep3.mono new) j (AllRep.mono old pa)) (by rw [List.length_set]; omega) (fun d hd => ?_) ?_⟩
            · rcases List.mem_or_eq_of_mem_set hd with z | z
              · exact okc d z
              · rw [z]; exact ok3
            · have := sum_set l.ths j hc hz3
              omega
  | dic l =>
    have rep0 := rep
    obtain ⟨a, kvs, rfl, h2, h3⟩ := (rep : ∃ a xs, v = V.ref a ∧ H a = some (.dK xs) ∧ RepD H l xs)
    have hkl := h3.len
    refine iteF ⟨_, rfl, .ref a, "dict", _, _, rfl, rt, kit_dict _ (.dic l), _, rfl, iteT ⟨_, rfl, .inr ⟨a, kvs, rfl, h2, _, _, rfl, rfl, _, rfl, ?_⟩⟩⟩
    by_cases he : kvs.length = 0
    · refine iteDn (show ¬ (0 : Int) < (kvs.length : Nat) by omega) ⟨_, rfl, .ref a, "int", _, _, rfl, rt, kit_num _ (.dic l), _, rfl, iteF ?_⟩
      refine ⟨_, rfl, m, rfl, fun H1 s1 => ?_⟩
      intro d hd
      refine ⟨Nat.zero_le _, fun r1' hr1' => ⟨(by show 4 ≤ sizeLine; decide), fun p hp => ⟨_, rfl, _, _, rfl, rfl, ⟨by decide, by decide⟩, _, _, rfl, rfl, (by show (0 : Int) < 4; decide), ?_⟩⟩⟩
      have sd := same_new hd (.dK [])
      have sr := same_new hr1' (.lst [])
      have sp := same_new hp (.lst [V.str (wordAt (m % 5)), .int 0, .ref d, .ref r1'])
      have sA := ((s1.trans sd).trans sr).trans sp
      refine pick (by omega) (by show m / 5 % 4 < 4; omega) fun v' _ hv => ?_
      rcases List.mem_cons.mp hv with rfl | hv
      · exact fin _ _ (.word (wordAt (m % 5))) sA rfl (wordAt_len _) rfl
      rcases List.mem_cons.mp hv with rfl | hv
      · exact fin _ _ (.num 0) sA rfl trivial rfl
      rcases List.mem_cons.mp hv with rfl | hv
      · exact fin _ _ (.dic .nil) sA (nilDic (s1.free hd) (sp _ _ (sr _ _ upd_same))) okDic rfl
      · rw [List.mem_singleton.mp hv]
        exact fin _ _ (.row .nil) sA (nilRow ((s1.trans sd).free hr1') (sp _ _ upd_same)) okRow rfl
    · refine iteD (show (0 : Int) < (kvs.length : Nat) by omega) ⟨_, rfl, _, rfl, l, .ref a, m, rfl, hm0, rep0, ok, by omega, hz, fun v' H' t' s1 r1 o1 z1 => q v' H' t' s1 r1 o1 z1⟩
theorem none_changed {k : Nat} : FnOk P w K mg base CX0 k f fd ["_law_thing", "_law_number"] (spChanged 0) := by
  have no : ∀ vs H Q E, ¬ spChanged 0 vs H Q E := fun vs H Q E h => by
    obtain ⟨t, v, m, _, _, _, _, hz, _⟩ := h
    have := size_pos t
    omega
  exact ⟨fun vs H Q E h => absurd h (no vs H Q E), fun A outer s H args us vs Q E _ _ _ _ h => absurd h (no vs H Q E)⟩
end
end K2
set_option Elab.async false
set_option linter.all false
set_option maxRecDepth 100000
set_option maxHeartbeats 4000000
namespace Rg
open PySem PySem.SeqAt L2
open AutoSeq1 (wpAny_loadPart')
section
variable {P : Program} {w : World} {l b : Addr} {items items2 : Array Value} {n n2 : Nat} {dd dd2 : Option Addr} {sl sl2 : Array (Option Value)}
theorem tuple_eqIn (hsz : items.size = items2.size) : MeetsIn P w (Builtin.«tuple.__eq__» ⟨[.ref l, .ref b], []⟩)
      (fun A R s => s.heap.get? l = some { cls := .type "tuple", dict := dd, data := .seq items n, slots := sl } ∧ s.heap.get? b = some { cls := .type "tuple", dict := dd2, data := .seq items2 n2, slots := sl2 } ∧
        (∀ p ∈ items.toList.zip items2.toList, EqIn P w A.in1 s p.1 p.2) ∧ R (.ok (.ret (.bool true))) s) :=
  .of_wp fun A R s h => by
    obtain ⟨hp, g, d, tk, os⟩ := s; obtain ⟨hl, hb, hS, h⟩ := h
    have f2 := AutoSeq1.sub_tuple_tuple
    wp_walk using wpAny_loadPart' hl, wpAny_loadPart' hb, wpAny_forIn_list _ (fun rest b s' => b.1 = none ∧ s' = ⟨hp, g, d, tk, os⟩ ∧ ∀ p ∈ rest, EqIn P w A.in1 ⟨hp, g, d, tk, os⟩ p.1 p.2) _
    case turn =>
      rintro ⟨y, x⟩ rest b s' ⟨hb', rfl, hS⟩
      refine wpAny_bind (hS (y, x) List.mem_cons_self _ _ ?_)
      wp_walk
      exact ⟨rfl, rfl, fun p hp => hS p (List.mem_cons_of_mem _ hp)⟩
    case fin =>
      rintro ⟨b1, b2⟩ s' ⟨hb', rfl, hS⟩
      simp only at hb'
      subst hb'
      wp_walk
      exact ⟨_, rfl, by simpa [Builtin.Tuple.tupleCompareSizes, hsz] using h⟩
    case h =>
      exact ⟨rfl, rfl, hS⟩
end
/-- two tuples of two like things are alike -/
theorem op_eqTT {X : Cx} {k : Nat} (hr : Room k X.A) : OpR X (compareOp .Eq) (fun x y H Q => ∃ (a b : Addr) (v1 v2 w1 w2 : V) (t t' : Th), x = .ref a ∧ y = .ref b ∧ H a = some (.tup [v1, v2]) ∧ H b = some (.tup [w1, w2]) ∧ Rep H t v1 ∧ Rep H t w1 ∧ Rep H t' v2 ∧ Rep H t' w2 ∧ t.Ok ∧ t'.Ok ∧ t.size ≤ 50 ∧ t'.size ≤ 50 ∧ Q (.bl true) H) := by
  intro pins s σ H x y v u Q I rx ry h
  obtain ⟨a, b, v1, v2, w1, w2, t, t', rfl, rfl, ha, hb, r1, r1', r2, r2', o1, o2, z1, z2, q⟩ := h
  have hu : X.A.units + 200 < cLine := by have z := hr.un; omega
  cases rx
  cases ry
  obtain ⟨_, us, ru, ⟨ox, ex, cx, nx, dx⟩⟩ := I.hok a _ ha
  obtain ⟨_, ws, rw', ⟨oy, ey, cy, ny, dy⟩⟩ := I.hok b _ hb
  obtain ⟨u1, u2, rfl, k1, k2⟩ := Vals.two ru
  obtain ⟨x1, x2, rfl, k3, k4⟩ := Vals.two rw'
  obtain ⟨cls, ddx, data, sl⟩ := ox
  obtain ⟨cls2, ddy, data2, sl2⟩ := oy
  simp only at cx dx cy dy
  subst cx dx cy dy
  have hA : X.A.in1.in1.units = X.A.units + 2 := rfl
  have hA1 : X.A.in1.units = X.A.units + 1 := rfl
  refine wpAny_richCompare_same_room (op := .Eq) (T := "tuple") ⟨_, ex, rfl⟩ ⟨_, ey, rfl⟩ PySem.F.slot_tuple_eq (call_meetsIn PySem.F.slot_tuple_eq ⟨_, ex, rfl⟩ PySem.F.entry_tuple_eq (PySem.F.args_tuple_eq_2 _ _) (tuple_eqIn (items := #[u1, u2]) (items2 := #[x1, x2]) rfl) ⟨ex, ey, fun p hp => ?_, ?_⟩) (by omega)
  · have hp' : p ∈ [(u1, x1), (u2, x2)] := by simpa using hp
    rcases List.mem_cons.mp hp' with rfl | hp'
    · exact rep_eq I.hok t r1 r1' k1 k3 o1 (by omega)
    · rw [List.mem_singleton.mp hp']
      exact rep_eq I.hok t' r2 r2' k2 k4 o2 (by omega)
  · exact ⟨(fun x => nomatch x), ⟨.bl true, H, I, rfl, q⟩⟩
theorem kt_refl (a : Kt) : a.cmp a = .eq := by unfold Kt.cmp; rw [cmpW_refl, cmpI_refl, own_refl]; rfl
theorem cmpL_refl : ∀ l : List Kt, cmpL l l = .eq
  | [] => rfl
  | a :: r => by unfold cmpL; rw [kt_refl, cmpL_refl r]; rfl
theorem ordT_refl (a : Th) : ordT a a = .eq := by rw [← ord_by_key, cmpL_refl]
theorem ordI_swap (o : Ordering) : ordI o.swap = 0 - ordI o := by cases o <;> rfl
theorem SameX.seq {K : PySem.W.Frag} {H H' : Hp} {a : Addr} {xs : List V} (e : SameX H H') (h : SqL K H a xs) : SqL K H' a xs := by
  rcases h with (h | ⟨o, h⟩) | h
  · exact .inl (.inl (e _ _ h (fun _ z => by cases z)))
  · exact .inl (.inr ⟨o, e _ _ h (fun _ z => by cases z)⟩)
  · exact .inr h
end Rg
namespace K2
open PySem PySem.W L2 Rg
section
variable {P : Program} {w : World} {K : PySem.W.Frag} {mg : Str → Option Value} {base : Heap} {f g g2 g3 Pt : Addr} {fd gd gd2 gd3 : FuncData}
def spRight (Pt : Addr) (n : Nat) : Sp := fun vs H Q _ => ∃ (t t' : Th) (v v' : V), vs = [v, v'] ∧ Rep H t v ∧ Rep H t' v' ∧ t.Ok ∧ t'.Ok ∧ t.size ≤ n ∧ t'.size ≤ n ∧ Tab Pt H ∧ ∀ H', SameX H H' → Tab Pt H' → Q (.bl true) H'
theorem scRight : FnScope ["_law_one", "_law_other", "_law_kept", "_law_due", "_law_found", "_law_back", "_law_told"] ["_law_one", "_law_other"] (defScope sRight) := ⟨rfl, rfl, rfl, by decide +kernel, rfl, by decide +kernel, by decide +kernel⟩
theorem ok_right {n k ko : Nat} (F : Fun K "_law_right" "_law_right" sRight f fd) (B : Blt mg) (hn : n ≤ 50) (hkn : n ≤ k) (hk7 : 8 ≤ k) (hko : ko ≤ k)
    (C : FnOk P w K mg base CX0 n g gd ["_law_thing"] (spCopied n)) (bC : Binds K gd ["_law_thing"] []) (kC : PySem.W.keepIn K (.ref g) = true) (mC : mg "_law_copied" = some (.ref g))
    (O : FnOk P w K mg base CX0 ko g2 gd2 ["_law_one", "_law_other"] (spOrd Pt n)) (bO : Binds K gd2 ["_law_one", "_law_other"] []) (kO : PySem.W.keepIn K (.ref g2) = true) (mO : mg "_law_order" = some (.ref g2))
    (M : FnOk P w K mg base CX0 8 g3 gd3 ["one", "other"] spCompared) (bM : Binds K gd3 ["one", "other"] []) (kM : PySem.W.keepIn K (.ref g3) = true) (mM : mg "compared" = some (.ref g3)) :
    FnOk P w K mg base CX0 (k + 1) f fd ["_law_one", "_law_other"] (spRight Pt n) := by
  refine F.ok scRight (fun vs H Q E h => ?_) (fun cdv A outer s H vs Q E hr h => ?_)
  · obtain ⟨t, t', v, v', rfl, _⟩ := h
    rfl
  obtain ⟨t, t', v, v', rfl, rep, rep', ok, ok', hz, hz', tab, q⟩ := h
  have nd := scRight.nd
  have rn := hr.mono hkn
  have r7 := hr.mono hk7
  have ro := hr.mono hko
  refine ⟨_, pss_cons (ps_set (i := 2) nd rfl (Or.inl rfl) (pe_tup (pa_cons (pe_call C rn rfl mC kC bC .nil pass0 (pa_cons (pv 0) pa_nil)) (pa_cons (pe_call C rn rfl mC kC bC .nil pass0 (pa_cons (pv 1) pa_nil)) pa_nil))))
    (pss_cons (ps_set (i := 3) nd rfl (Or.inl rfl) (pe_call O ro rfl mO kO bO .nil pass0 (pa_cons (pv 0) (pa_cons (pv 1) pa_nil))))
    (pss_cons (ps_set (i := 4) nd rfl (Or.inl rfl) (pe_call M r7 rfl mM kM bM .nil pass0 (pa_cons (pv 0) (pa_cons (pv 1) pa_nil))))
    (pss_cons (ps_set (i := 5) nd rfl (Or.inl rfl) (pe_call M r7 rfl mM kM bM .nil pass0 (pa_cons (pv 1) (pa_cons (pv 0) pa_nil))))
    (pss_cons (ps_for PassesOwn.never rfl (pi_list (pe_lst (pa_cons (pv 4) (pa_cons (pv 5) pa_nil)))) (pg_name (i := 6) nd rfl (Or.inl rfl))
      (pss_one (ps_if (PW.pt (pw_or (pt_not (pt_val (pe_callB call_isi rfl B.isi PyProof.Rows.boot_isinstance (pa_cons (pv 6) (pa_cons (pe_bltn (v := .ty "int") rfl B.int PyProof.Rows.boot_int rfl) pa_nil)))))
          (pw_or1 (pt_val (pe_callB call_isi rfl B.isi PyProof.Rows.boot_isinstance (pa_cons (pv 6) (pa_cons (pe_bltn (v := .ty "bool") rfl B.bool PyProof.Rows.boot_bool rfl) pa_nil))))))) (pss_one (ps_ret pe_bl)) pss_nil)))
    (pss_one (ps_ret (pe_and (pe_cmpR op_eq (pv 4) (pv 3) (nomark _)) (pe_and (pe_cmpR op_eq (pv 5) (pe_op op_sub pe_int (pv 3)) (nomark _))
      (pe_and (pe_cmpR op_eq (pe_call M r7 rfl mM kM bM .nil pass0 (pa_cons (pv 0) (pa_cons (pe_ix ix_tup (pv 2) pe_int (fun _ _ => rfl)) pa_nil))) pe_int (nomark _))
      (pe_one (pe_cmpR (op_eqTT hr) (pe_tup (pa_cons (pv 0) (pa_cons (pv 1) pa_nil))) (pv 2) (nomark _)))))))))))), ?_⟩
  refine ⟨_, rfl, t, v, rfl, rep, ok, hz, fun c1 H1 sm1 rc1 => ⟨_, rfl, t', v', rfl, rep'.mono sm1, ok', hz', fun c2 H2 sm2 rc2 => ⟨(by show 2 ≤ sizeLine; decide), fun pk hpk => ?_⟩⟩⟩
  have s12 := (sm1.trans sm2).trans (same_new hpk (.tup [c1, c2]))
  have rk1 : Rep (upd H2 pk (.tup [c1, c2])) t c1 := ((rc1.mono newOf_sub).mono sm2).mono (same_new hpk _)
  have rk2 : Rep (upd H2 pk (.tup [c1, c2])) t' c2 := (rc2.mono newOf_sub).mono (same_new hpk _)
  have hpk3 : upd H2 pk (.tup [c1, c2]) pk = some (.tup [c1, c2]) := upd_same
  generalize upd H2 pk (.tup [c1, c2]) = H3 at s12 rk1 rk2 hpk3 ⊢
  refine ⟨_, rfl, _, rfl, t, t', v, v', rfl, rep.mono s12, rep'.mono s12, ok, ok', hz, hz', tab.mono s12, fun H4 sx4 tab4 => ?_⟩
  have sA : SameX H H4 := (Same.x s12).trans sx4
  refine ⟨_, rfl, _, rfl, t, t', v, v', rfl, rep.monoX sA, rep'.monoX sA, ok, ok', by omega, by omega, fun H5 sm5 => ?_⟩
  have sB : SameX H H5 := sA.trans (Same.x sm5)
  refine ⟨_, rfl, _, rfl, t', t, v', v, rfl, rep'.monoX sB, rep.monoX sB, ok', ok, by omega, by omega, fun H6 sm6 => ?_⟩
  have sC : SameX H H6 := sB.trans (Same.x sm6)
  refine ⟨_, rfl, _, rfl, (by show 2 ≤ sizeLine; decide), fun pl hpl => ?_⟩
  have s7 := same_new hpl (.lst [V.int (ordI (ordT (nrm t) (nrm t'))), .int (ordI (ordT (nrm t') (nrm t)))])
  have hpl7 : upd H6 pl (.lst [V.int (ordI (ordT (nrm t) (nrm t'))), .int (ordI (ordT (nrm t') (nrm t)))]) pl = some (.lst [V.int (ordI (ordT (nrm t) (nrm t'))), .int (ordI (ordT (nrm t') (nrm t)))]) := upd_same
  generalize upd H6 pl (.lst [V.int (ordI (ordT (nrm t) (nrm t'))), .int (ordI (ordT (nrm t') (nrm t)))]) = H7 at s7 hpl7 ⊢
  have sD : SameX H H7 := sC.trans (Same.x s7)
  have s47 : Same H4 H7 := (sm5.trans sm6).trans s7
  have sK : SameX H3 H7 := sx4.trans (Same.x s47)
  refine ⟨pl, rfl, ⟨_, SqL.of hpl7⟩, for_list (xs := [V.int (ordI (ordT (nrm t) (nrm t'))), .int (ordI (ordT (nrm t') (nrm t)))]) (fun i σ' H' => H' = H7 ∧ ∃ s6 : Option V, σ' = [some v, some v', some (.ref pk), some (.int (ordI (ordT (nrm t) (nrm t')))), some (.int (ordI (ordT (nrm t) (nrm t')))), some (.int (ordI (ordT (nrm t') (nrm t)))), s6])
    ⟨rfl, none, rfl⟩ (fun i σ' H' _ p => by obtain ⟨rfl, _⟩ := p; exact SqL.of hpl7) (fun i x σ' H' hx p => ?_) (fun σ' H' p => ?_)⟩
  · obtain ⟨rfl, s6, rfl⟩ := p
    have hxi : ∃ c : Int, x = .int c := by
      have hm := List.mem_of_getElem? hx
      rcases List.mem_cons.mp hm with e | hm
      · exact ⟨_, e⟩
      · exact ⟨_, List.mem_singleton.mp hm⟩
    obtain ⟨c, rfl⟩ := hxi
    exact ⟨_, rfl, _, "int", _, _, rfl, .int _, kit_int_int _, _, rfl, iteF ⟨_, rfl, _, "bool", _, _, rfl, .int _, kit_int_bool _, _, rfl, iteF ⟨rfl, _, rfl⟩⟩⟩
  · obtain ⟨rfl, s6, rfl⟩ := p
    have e1 : decide (V.int (ordI (ordT (nrm t) (nrm t'))) = V.int (ordI (ordT (nrm t) (nrm t')))) = true := decide_eq_true rfl
    have e2 : decide (V.int (ordI (ordT (nrm t') (nrm t))) = V.int (0 - ordI (ordT (nrm t) (nrm t')))) = true := decide_eq_true (by rw [ordT_swap, ordI_swap])
    refine ⟨_, rfl, _, rfl, rfl, true, by rw [e1], iteT ⟨_, rfl, _, rfl, _, _, rfl, rfl, rfl, true, by rw [e2], iteT ?_⟩⟩
    refine ⟨_, rfl, _, rfl, pk, _, 0, c1, rfl, rfl, SqT.of (sK _ _ hpk3 (fun _ z => by cases z)), rfl, t, t, v, c1, rfl, rep.monoX sD, rk1.monoX sK, ok, ok, by omega, by omega, fun H8 sm8 => ?_⟩
    have e3 : decide (V.int (ordI (ordT (nrm t) (nrm t))) = V.int 0) = true := decide_eq_true (by rw [ordT_refl]; rfl)
    refine ⟨rfl, true, by rw [e3], iteT ⟨_, rfl, _, rfl, (by show 2 ≤ sizeLine; decide), fun pt hpt => ?_⟩⟩
    have s9 := same_new hpt (.tup [v, v'])
    have sE : SameX H (upd H8 pt (.tup [v, v'])) := sD.trans ((Same.x sm8).trans (Same.x s9))
    have sF : SameX H3 (upd H8 pt (.tup [v, v'])) := sK.trans ((Same.x sm8).trans (Same.x s9))
    refine ⟨_, rfl, pt, pk, v, v', c1, c2, t, t', rfl, rfl, upd_same, sF _ _ hpk3 (fun _ z => by cases z), rep.monoX sE, rk1.monoX sF, rep'.monoX sE, rk2.monoX sF, ok, ok', by omega, by omega, ?_⟩
    exact q _ sE (tab4.mono ((s47.trans sm8).trans s9))
/-- a number of the script, or 0 -/
def spCell (K : PySem.W.Frag) : Sp := fun vs H Q _ => ∃ (a : Addr) (ns : List Int) (j : Int), vs = [.ref a, .int j] ∧ SqL K H a (ns.map V.int) ∧ ns.length ≤ 63 ∧ 0 ≤ j ∧ ∀ c : Int, Q (.int c) H
theorem scCell : FnScope ["_law_script", "_law_k"] ["_law_script", "_law_k"] (defScope sCell) := ⟨rfl, rfl, rfl, by decide +kernel, rfl, by decide +kernel, by decide +kernel⟩
theorem ok_cell (F : Fun K "_law_cell_at" "_law_cell_at" sCell f fd) (B : Blt mg) : FnOk P w K mg base CX0 1 f fd ["_law_script", "_law_k"] (spCell K) := by
  refine F.ok scCell (fun vs H Q E h => ?_) (fun cdv A outer s H vs Q E hr h => ?_)
  · obtain ⟨a, ns, j, rfl, _⟩ := h
    rfl
  obtain ⟨a, ns, j, rfl, hS, h63, hj, q⟩ := h
  refine ⟨_, pss_cons (ps_if (pt_cmpR op_lt (pv 1) (pe_callB call_len rfl B.len PySem.boot_len (pa_cons (pv 0) pa_nil)) (nomark _)) (pss_one (ps_ret (pe_ix ix_list (pv 0) (pv 1) (fun _ _ => rfl)))) pss_nil)
    (pss_one (ps_ret pe_int)), ?_⟩
  refine ⟨_, rfl, _, rfl, .ref a, (ns.map V.int).length, rfl, .inl ⟨_, hS, rfl⟩, _, _, rfl, rfl, _, rfl, ite2 (fun c => ?_) (fun c => ?_)⟩
  · have c' : j < (((ns.map V.int).length : Nat) : Int) := of_decide_eq_true c
    obtain ⟨v, e, hm⟩ := atI_mem hj c'
    obtain ⟨i, _, rfl⟩ := List.mem_map.mp hm
    exact ⟨_, rfl, _, rfl, a, _, j, _, rfl, rfl, hS, e, q i⟩
  · exact q 0
end
end K2
set_option Elab.async false
set_option linter.all false
set_option maxRecDepth 100000
set_option maxHeartbeats 4000000
namespace K2
open PySem PySem.W L2 Rg
section
variable {P : Program} {w : World} {K : PySem.W.Frag} {mg : Str → Option Value} {base : Heap} {f fm ft fg fr fl Pt : Addr} {fd dm dt dg dr dl : FuncData}
def spLaw (Pt : Addr) (K : PySem.W.Frag) : Sp := fun vs H Q _ => ∃ (a : Addr) (ns : List Int), vs = [.ref a] ∧ SqL K H a (ns.map V.int) ∧ ns.length ≤ 63 ∧ Tab Pt H ∧ ∀ H', Q (.bl true) H'
theorem scLaw : FnScope ["_law_script", "_law_k", "_law_number", "_law_one", "_law_other"] ["_law_script"] (defScope sLaw) := ⟨rfl, rfl, rfl, by decide +kernel, rfl, by decide +kernel, by decide +kernel⟩
theorem ok_law {k kr kg : Nat} (F : Fun K "law" "law" sLaw f fd) (B : Blt mg) (hk4 : 4 ≤ k) (hkr : kr ≤ k) (hkg : kg ≤ k)
    (M : FnOk P w K mg base CX0 1 fm dm ["_law_number", "_law_k"] spMixed) (bM : Binds K dm ["_law_number", "_law_k"] []) (kM : PySem.W.keepIn K (.ref fm) = true) (mM : mg "_law_mixed" = some (.ref fm))
    (T : FnOk P w K mg base CX0 4 ft dt ["_law_number", "_law_deep"] (spThing 2)) (bT : Binds K dt ["_law_number", "_law_deep"] []) (kT : PySem.W.keepIn K (.ref ft) = true) (mT : mg "_law_thing_by" = some (.ref ft))
    (G : FnOk P w K mg base CX0 kg fg dg ["_law_thing", "_law_number"] (spChanged 13)) (bG : Binds K dg ["_law_thing", "_law_number"] []) (kG : PySem.W.keepIn K (.ref fg) = true) (mG : mg "_law_changed" = some (.ref fg))
    (R : FnOk P w K mg base CX0 kr fr dr ["_law_one", "_law_other"] (spRight Pt 13)) (bR : Binds K dr ["_law_one", "_law_other"] []) (kR : PySem.W.keepIn K (.ref fr) = true) (mR : mg "_law_right" = some (.ref fr))
    (L : FnOk P w K mg base CX0 1 fl dl ["_law_script", "_law_k"] (spCell K)) (bL : Binds K dl ["_law_script", "_law_k"] []) (kL : PySem.W.keepIn K (.ref fl) = true) (mL : mg "_law_cell_at" = some (.ref fl)) :
    FnOk P w K mg base CX0 (k + 1) f fd ["_law_script"] (spLaw Pt K) := by
  refine F.ok scLaw (fun vs H Q E h => ?_) (fun cdv A outer s H vs Q E hr h => ?_)
  · obtain ⟨a, ns, rfl, _⟩ := h
    rfl
  obtain ⟨a, ns, rfl, hS, h63, tab, q⟩ := h
  have nd := scLaw.nd
  have r1 := hr.mono (show 1 ≤ k by omega)
  have r4 := hr.mono hk4
  have rr := hr.mono hkr
  have rg := hr.mono hkg
  refine ⟨_, pss_cons (ps_if (PW.pt (pw_or (pt_not (pt_val (pe_call R rr rfl mR kR bR .nil pass0 (pa_cons (pe_lst pa_nil) (pa_cons pe_dnewK pa_nil)))))
      (pw_or1 (pt_not (pt_val (pe_call R rr rfl mR kR bR .nil pass0 (pa_cons (pe_disp (pps_cons pe_str pe_int pps_nil) rfl rfl (by simp) (by decide)) (pa_cons (pe_disp (pps_cons pe_str pe_int pps_nil) rfl rfl (by simp) (by decide)) pa_nil)))))))) (pss_one (ps_ret pe_bl)) pss_nil)
    (pss_cons (ps_for PassesOwn.never rfl (pi_range1 rfl B.range (pa_cons (pe_callB (call_min2 rfl) rfl B.min PyProof.Rows.boot_min (pa_cons pe_int (pa_cons (pe_callB call_len rfl B.len PySem.boot_len (pa_cons (pv 0) pa_nil)) pa_nil))) pa_nil)) (pg_name (i := 1) nd rfl (Or.inl rfl))
      (pss_cons (ps_set (i := 2) nd rfl (Or.inl rfl) (pe_call M r1 rfl mM kM bM .nil pass0 (pa_cons (pe_ix ix_list (pv 0) (pv 1) (fun _ _ => rfl)) (pa_cons pe_int pa_nil))))
      (pss_cons (ps_set (i := 3) nd rfl (Or.inl rfl) (pe_call T r4 rfl mT kT bT .nil pass0 (pa_cons (pe_call M r1 rfl mM kM bM .nil pass0 (pa_cons (pe_ix ix_list (pv 0) (pv 1) (fun _ _ => rfl)) (pa_cons pe_int pa_nil))) (pa_cons pe_int pa_nil))))
      (pss_cons (ps_set (i := 4) nd rfl (Or.inl rfl) (pe_call G rg rfl mG kG bG .nil pass0 (pa_cons (pv 3) (pa_cons (pe_op op_fdiv (pv 2) pe_int) pa_nil))))
      (pss_cons (ps_if (pt_cmpR op_eq (pe_op op_mod (pv 2) pe_int) pe_int (nomark _))
        (pss_one (ps_set (i := 4) nd rfl (Or.inl rfl) (pe_call T r4 rfl mT kT bT .nil pass0 (pa_cons (pe_call M r1 rfl mM kM bM .nil pass0 (pa_cons (pe_call L r1 rfl mL kL bL .nil pass0 (pa_cons (pv 0) (pa_cons (pe_op op_add (pv 1) pe_int) pa_nil))) (pa_cons pe_int pa_nil))) (pa_cons pe_int pa_nil))))) pss_nil)
      (pss_one (ps_if (pt_not (pt_val (pe_call R rr rfl mR kR bR .nil pass0 (pa_cons (pv 3) (pa_cons (pv 4) pa_nil))))) (pss_one (ps_ret pe_bl)) pss_nil)))))))
    (pss_one (ps_ret pe_bl))), ?_⟩
  refine ⟨Nat.zero_le _, fun p1 hp1 => ?_⟩
  intro p2 hp2
  have s1 := same_new hp1 (.lst [])
  have s2 := s1.trans (same_new hp2 (.dK []))
  have e1 : upd (upd H p1 (.lst [])) p2 (.dK []) p1 = some (.lst []) := (same_new hp2 (.dK [])) _ _ upd_same
  have e2 : upd (upd H p1 (.lst [])) p2 (.dK []) p2 = some (.dK []) := upd_same
  generalize upd (upd H p1 (.lst [])) p2 (.dK []) = H1 at s2 e1 e2 ⊢
  refine ⟨.row .nil, .dic .nil, .ref p1, .ref p2, rfl, ⟨p1, [], rfl, e1, rfl⟩, ⟨p2, [], rfl, e2, rfl⟩, ⟨Nat.zero_le _, trivial⟩, ⟨Nat.zero_le _, List.nodup_nil, trivial⟩, by show 1 ≤ 13; decide, by show 1 ≤ 13; decide, tab.mono s2, fun H2 sx2 tab2 => ?_⟩
  refine ⟨_, rfl, iteF ?_⟩
  intro p3 hp3
  refine ⟨upd_same, [(Sum.inr "a", .int 1)], rfl, by decide, ?_⟩
  intro p4 hp4
  refine ⟨upd_same, [(Sum.inr "b", .int 0)], rfl, by decide, ?_⟩
  have s3 : Same H2 (upd (upd H2 p3 (.dK [])) p3 (.dK (mergeK [] [(Sum.inr "a", V.int 1)]))) := same_put (same_new hp3 _) hp3
  have e3 : upd (upd H2 p3 (.dK [])) p3 (.dK (mergeK [] [(Sum.inr "a", V.int 1)])) p3 = some (.dK [(Sum.inr "a", V.int 1)]) := upd_same
  generalize upd (upd H2 p3 (.dK [])) p3 (.dK (mergeK [] [(Sum.inr "a", V.int 1)])) = H3 at s3 e3 hp4 ⊢
  have s4 : Same H3 (upd (upd H3 p4 (.dK [])) p4 (.dK (mergeK [] [(Sum.inr "b", V.int 0)]))) := same_put (same_new hp4 _) hp4
  have e4 : upd (upd H3 p4 (.dK [])) p4 (.dK (mergeK [] [(Sum.inr "b", V.int 0)])) p4 = some (.dK [(Sum.inr "b", V.int 0)]) := upd_same
  generalize upd (upd H3 p4 (.dK [])) p4 (.dK (mergeK [] [(Sum.inr "b", V.int 0)])) = H4 at s4 e4 ⊢
  refine ⟨.dic (.cons "a" (.num 1) .nil), .dic (.cons "b" (.num 0) .nil), .ref p3, .ref p4, rfl, ⟨p3, _, rfl, s4 _ _ e3, ⟨_, _, rfl, rfl, rfl⟩⟩, ⟨p4, _, rfl, e4, ⟨_, _, rfl, rfl, rfl⟩⟩,
    ⟨by show 1 ≤ 9; decide, by show (["a"] : List Str).Nodup; simp, by show Str.length "a" ≤ 100; decide, trivial, trivial⟩, ⟨by show 1 ≤ 9; decide, by show (["b"] : List Str).Nodup; simp, by show Str.length "b" ≤ 100; decide, trivial, trivial⟩, by show 2 ≤ 13; decide, by show 2 ≤ 13; decide, (tab2.mono s3).mono s4, fun H5 sx5 tab5 => ?_⟩
  refine ⟨_, rfl, iteF ?_⟩
  have sx : SameX H H5 := (((Same.x s2).trans sx2).trans ((Same.x s3).trans (Same.x s4))).trans sx5
  have hlm : (ns.map V.int).length = ns.length := List.length_map _
  refine ⟨_, rfl, .ref a, (ns.map V.int).length, rfl, .inl ⟨_, sx.seq hS, rfl⟩, 30, ((ns.map V.int).length : Nat), rfl, _, rfl, ?_, ?_, ?_⟩
  · split <;> omega
  · split <;> omega
  have hN : ((if (((ns.map V.int).length : Nat) : Int) < 30 then (((ns.map V.int).length : Nat) : Int) else 30)).toNat ≤ ns.length := by split <;> omega
  generalize ((if (((ns.map V.int).length : Nat) : Int) < 30 then (((ns.map V.int).length : Nat) : Int) else 30)).toNat = N at hN ⊢
  refine for_range (n := N) (fun i σ' H' => ∃ s1 s2 s3 s4 : Option V, σ' = [some (.ref a), s1, s2, s3, s4] ∧ SameX H H' ∧ Tab Pt H') ⟨none, none, none, none, rfl, sx, tab5⟩ (fun i σ' H' hi p => ?_) (fun σ' H' p => ?_)
  · obtain ⟨t1, t2, t3, t4, rfl, sm, tb⟩ := p
    have hS' := sm.seq hS
    obtain ⟨c, hc⟩ : ∃ c, ns[i]? = some c := ⟨_, List.getElem?_eq_getElem (by omega)⟩
    have hat : atI (ns.map V.int) (0 + (i : Nat)) = some (.int c) := by
      rw [Int.zero_add]
      exact atI_nat (by rw [List.getElem?_map, hc]; rfl)
    refine ⟨.ref a, rfl, _, rfl, a, _, _, _, rfl, rfl, hS', hat, c, 2, rfl, by decide, by decide, fun m hm0 hm1 => ?_⟩
    refine ⟨.ref a, rfl, _, rfl, a, _, _, _, rfl, rfl, hS', hat, c, 1, rfl, by decide, by decide, fun m1 hm10 hm11 => ?_⟩
    refine ⟨m1, rfl, hm10, hm11, fun v H6 t sm6 rep6 ok6 hz6 => ?_⟩
    have hz6' : t.size ≤ 13 := hz6
    refine ⟨_, rfl, _, rfl, _, _, rfl, rfl, ⟨by decide, by decide⟩, t, v, m / 2, rfl, by omega, rep6.mono newOf_sub, ok6, hz6', fun v7 H7 t7 sm7 rep7 ok7 hz7 => ?_⟩
    have rv7 : Rep H7 t v := (rep6.mono newOf_sub).mono sm7
    have s67 := sm6.trans sm7
    refine ⟨_, rfl, _, _, rfl, rfl, (by show (0 : Int) < 2; decide), rfl, _, rfl, ite2 (fun c2 => ?_) (fun c2 => ?_)⟩
    · refine ⟨.ref a, rfl, _, rfl, _, _, rfl, rfl, a, ns, 0 + (i : Nat) + 1, rfl, s67.seq hS', h63, by omega, fun c8 => ⟨c8, 3, rfl, by decide, by decide, fun m8 hm80 hm81 => ⟨m8, rfl, hm80, hm81, fun v8 H8 t8 sm8 rep8 ok8 hz8 => ?_⟩⟩⟩
      have s68 := s67.trans sm8
      refine ⟨_, rfl, _, rfl, t, t8, v, v8, rfl, rv7.mono sm8, rep8.mono newOf_sub, ok6, ok8, hz6', hz8, tb.mono s68, fun H9 sx9 tb9 => ⟨_, rfl, iteF ⟨_, _, _, _, rfl, (sm.trans (Same.x s68)).trans sx9, tb9⟩⟩⟩
    · refine ⟨_, rfl, _, rfl, t, t7, v, v7, rfl, rv7, rep7.mono newOf_sub, ok6, ok7, hz6', by omega, tb.mono s67, fun H9 sx9 tb9 => ⟨_, rfl, iteF ⟨_, _, _, _, rfl, (sm.trans (Same.x s67)).trans sx9, tb9⟩⟩⟩
  · exact q H'
end
end K2
set_option Elab.async false
set_option linter.all false
set_option maxRecDepth 100000
set_option maxHeartbeats 4000000
namespace K2
open PySem PySem.W L2 Rg
theorem all_mk {l : PySem.W.OpenLaw} {w : World} {K : PySem.W.Frag} {h : Heap} {mg : Str → Option Value} {fa ct0 Pt f1 f2 f3 f4 f5 f6 f7 f8 f9 f10 f11 f12 f13 f14 f15 f16 f17 f18 f19 f20 f21 f22 f23 f24 : Addr} (X : K.In h) (G : h.Ns mainGlobals mg) (hfa : mg "law" = some (.ref fa))
    {od1 an1 od2 an2 od3 an3 od4 an4 od5 an5 od6 an6 od7 an7 od8 an8 od9 an9 od10 an10 od11 an11 od12 an12 od13 an13 od14 an14 od15 an15 od16 an16 od17 an17 od18 an18 od19 an19 od20 an20 od21 an21 od22 an22 od23 an23 od24 an24 : Option Addr} {sl1 sl2 sl3 sl4 sl5 sl6 sl7 sl8 sl9 sl10 sl11 sl12 sl13 sl14 sl15 sl16 sl17 sl18 sl19 sl20 sl21 sl22 sl23 sl24 : Array (Option Value)} {oc1 kV1 dc1 pm1 cd1 ct1 oc2 kV2 dc2 pm2 cd2 ct2 oc3 kV3 dc3 pm3 cd3 ct3 oc4 kV4 dc4 pm4 cd4 ct4 oc5 kV5 dc5 pm5 cd5 ct5 oc6 kV6 dc6 pm6 cd6 ct6 oc7 kV7 dc7 pm7 cd7 ct7 oc8 kV8 dc8 pm8 cd8 ct8 oc9 kV9 dc9 pm9 cd9 ct9 oc10 kV10 dc10 pm10 cd10 ct10 oc11 kV11 dc11 pm11 cd11 ct11 oc12 kV12 dc12 pm12 cd12 ct12 oc13 kV13 dc13 pm13 cd13 ct13 oc14 kV14 dc14 pm14 cd14 ct14 oc15 kV15 dc15 pm15 cd15 ct15 oc16 kV16 dc16 pm16 cd16 ct16 oc17 kV17 dc17 pm17 cd17 ct17 oc19 kV19 dc19 pm19 cd19 ct19 oc20 kV20 dc20 pm20 cd20 ct20 oc21 kV21 dc21 pm21 cd21 ct21 oc22 kV22 dc22 pm22 cd22 ct22 oc23 kV23 dc23 pm23 cd23 ct23 oc24 kV24 dc24 pm24 cd24 ct24 oc18 kV18 dc18 pm18 ct18 : Value}
    (a1 : PySem.W.nsIn K mainGlobals "word_key" = some (some (.ref f1)))
    (l1 : K.lookup f1 = some ⟨oc1, od1, .func (PySem.W.fnOf "word_key" "word_key" (defArgs sKey) (defBody sKey) (defScope sKey) .none kV1 dc1 pm1 an1 cd1 ct1), sl1⟩)
    (c1 : PySem.W.codeIn K cd1 "word_key" = true) (k1 : PySem.W.keepIn K (.ref f1) = true)
    (a2 : PySem.W.nsIn K mainGlobals "parts_of" = some (some (.ref f2)))
    (l2 : K.lookup f2 = some ⟨oc2, od2, .func (PySem.W.fnOf "parts_of" "parts_of" (defArgs sParts) (defBody sParts) (defScope sParts) .none kV2 dc2 pm2 an2 cd2 ct2), sl2⟩)
    (c2 : PySem.W.codeIn K cd2 "parts_of" = true) (k2 : PySem.W.keepIn K (.ref f2) = true)
    (a3 : PySem.W.nsIn K mainGlobals "walked" = some (some (.ref f3)))
    (l3 : K.lookup f3 = some ⟨oc3, od3, .func (PySem.W.fnOf "walked" "walked" (defArgs sWalked) (defBody sWalked) (defScope sWalked) .none kV3 dc3 pm3 an3 cd3 ct3), sl3⟩)
    (c3 : PySem.W.codeIn K cd3 "walked" = true) (k3 : PySem.W.keepIn K (.ref f3) = true)
    (a4 : PySem.W.nsIn K mainGlobals "held_by" = some (some (.ref f4)))
    (l4 : K.lookup f4 = some ⟨oc4, od4, .func (PySem.W.fnOf "held_by" "held_by" (defArgs sHeld) (defBody sHeld) (defScope sHeld) .none kV4 dc4 pm4 an4 cd4 ct4), sl4⟩)
    (c4 : PySem.W.codeIn K cd4 "held_by" = true) (k4 : PySem.W.keepIn K (.ref f4) = true)
    (a5 : PySem.W.nsIn K mainGlobals "sizes_of" = some (some (.ref f5)))
    (l5 : K.lookup f5 = some ⟨oc5, od5, .func (PySem.W.fnOf "sizes_of" "sizes_of" (defArgs sSizes) (defBody sSizes) (defScope sSizes) .none kV5 dc5 pm5 an5 cd5 ct5), sl5⟩)
    (c5 : PySem.W.codeIn K cd5 "sizes_of" = true) (k5 : PySem.W.keepIn K (.ref f5) = true)
    (a6 : PySem.W.nsIn K mainGlobals "own_key" = some (some (.ref f6)))
    (l6 : K.lookup f6 = some ⟨oc6, od6, .func (PySem.W.fnOf "own_key" "own_key" (defArgs sOwn) (defBody sOwn) (defScope sOwn) .none kV6 dc6 pm6 an6 cd6 ct6), sl6⟩)
    (c6 : PySem.W.codeIn K cd6 "own_key" = true) (k6 : PySem.W.keepIn K (.ref f6) = true)
    (a7 : PySem.W.nsIn K mainGlobals "order_key" = some (some (.ref f7)))
    (l7 : K.lookup f7 = some ⟨oc7, od7, .func (PySem.W.fnOf "order_key" "order_key" (defArgs sOrderKey) (defBody sOrderKey) (defScope sOrderKey) .none kV7 dc7 pm7 an7 cd7 ct7), sl7⟩)
    (c7 : PySem.W.codeIn K cd7 "order_key" = true) (k7 : PySem.W.keepIn K (.ref f7) = true)
    (a8 : PySem.W.nsIn K mainGlobals "compared" = some (some (.ref f8)))
    (l8 : K.lookup f8 = some ⟨oc8, od8, .func (PySem.W.fnOf "compared" "compared" (defArgs sCompared) (defBody sCompared) (defScope sCompared) .none kV8 dc8 pm8 an8 cd8 ct8), sl8⟩)
    (c8 : PySem.W.codeIn K cd8 "compared" = true) (k8 : PySem.W.keepIn K (.ref f8) = true)
    (a9 : PySem.W.nsIn K mainGlobals "_law_cell_at" = some (some (.ref f9)))
    (l9 : K.lookup f9 = some ⟨oc9, od9, .func (PySem.W.fnOf "_law_cell_at" "_law_cell_at" (defArgs sCell) (defBody sCell) (defScope sCell) .none kV9 dc9 pm9 an9 cd9 ct9), sl9⟩)
    (c9 : PySem.W.codeIn K cd9 "_law_cell_at" = true) (k9 : PySem.W.keepIn K (.ref f9) = true)
    (a10 : PySem.W.nsIn K mainGlobals "_law_mixed" = some (some (.ref f10)))
    (l10 : K.lookup f10 = some ⟨oc10, od10, .func (PySem.W.fnOf "_law_mixed" "_law_mixed" (defArgs sMixed) (defBody sMixed) (defScope sMixed) .none kV10 dc10 pm10 an10 cd10 ct10), sl10⟩)
    (c10 : PySem.W.codeIn K cd10 "_law_mixed" = true) (k10 : PySem.W.keepIn K (.ref f10) = true)
    (a11 : PySem.W.nsIn K mainGlobals "_law_number_by" = some (some (.ref f11)))
    (l11 : K.lookup f11 = some ⟨oc11, od11, .func (PySem.W.fnOf "_law_number_by" "_law_number_by" (defArgs sNumber) (defBody sNumber) (defScope sNumber) .none kV11 dc11 pm11 an11 cd11 ct11), sl11⟩)
    (c11 : PySem.W.codeIn K cd11 "_law_number_by" = true) (k11 : PySem.W.keepIn K (.ref f11) = true)
    (a12 : PySem.W.nsIn K mainGlobals "_law_word_by" = some (some (.ref f12)))
    (l12 : K.lookup f12 = some ⟨oc12, od12, .func (PySem.W.fnOf "_law_word_by" "_law_word_by" (defArgs sWord) (defBody sWord) (defScope sWord) .none kV12 dc12 pm12 an12 cd12 ct12), sl12⟩)
    (c12 : PySem.W.codeIn K cd12 "_law_word_by" = true) (k12 : PySem.W.keepIn K (.ref f12) = true)
    (a13 : PySem.W.nsIn K mainGlobals "_law_thing_by" = some (some (.ref f13)))
    (l13 : K.lookup f13 = some ⟨oc13, od13, .func (PySem.W.fnOf "_law_thing_by" "_law_thing_by" (defArgs sThing) (defBody sThing) (defScope sThing) .none kV13 dc13 pm13 an13 cd13 ct13), sl13⟩)
    (c13 : PySem.W.codeIn K cd13 "_law_thing_by" = true) (k13 : PySem.W.keepIn K (.ref f13) = true)
    (a14 : PySem.W.nsIn K mainGlobals "_law_copied" = some (some (.ref f14)))
    (l14 : K.lookup f14 = some ⟨oc14, od14, .func (PySem.W.fnOf "_law_copied" "_law_copied" (defArgs sCopied) (defBody sCopied) (defScope sCopied) .none kV14 dc14 pm14 an14 cd14 ct14), sl14⟩)
    (c14 : PySem.W.codeIn K cd14 "_law_copied" = true) (k14 : PySem.W.keepIn K (.ref f14) = true)
    (a15 : PySem.W.nsIn K mainGlobals "_law_size" = some (some (.ref f15)))
    (l15 : K.lookup f15 = some ⟨oc15, od15, .func (PySem.W.fnOf "_law_size" "_law_size" (defArgs sSize) (defBody sSize) (defScope sSize) .none kV15 dc15 pm15 an15 cd15 ct15), sl15⟩)
    (c15 : PySem.W.codeIn K cd15 "_law_size" = true) (k15 : PySem.W.keepIn K (.ref f15) = true)
    (a16 : PySem.W.nsIn K mainGlobals "_law_sort" = some (some (.ref f16)))
    (l16 : K.lookup f16 = some ⟨oc16, od16, .func (PySem.W.fnOf "_law_sort" "_law_sort" (defArgs sSort) (defBody sSort) (defScope sSort) .none kV16 dc16 pm16 an16 cd16 ct16), sl16⟩)
    (c16 : PySem.W.codeIn K cd16 "_law_sort" = true) (k16 : PySem.W.keepIn K (.ref f16) = true)
    (a17 : PySem.W.nsIn K mainGlobals "_law_first_unlike" = some (some (.ref f17)))
    (l17 : K.lookup f17 = some ⟨oc17, od17, .func (PySem.W.fnOf "_law_first_unlike" "_law_first_unlike" (defArgs sFirst) (defBody sFirst) (defScope sFirst) .none kV17 dc17 pm17 an17 cd17 ct17), sl17⟩)
    (c17 : PySem.W.codeIn K cd17 "_law_first_unlike" = true) (k17 : PySem.W.keepIn K (.ref f17) = true)
    (a18 : PySem.W.nsIn K mainGlobals "_law_flat" = some (some (.ref f18)))
    (l18 : K.lookup f18 = some ⟨oc18, od18, .func (PySem.W.fnOf "_law_flat" "_law_flat" (defArgs sFlat) (defBody sFlat) (defScope sFlat) .none kV18 dc18 pm18 an18 (.ref ct0) ct18), sl18⟩)
    (c18 : PySem.W.codeIn K (.ref ct0) "_law_flat" = true) (k18 : PySem.W.keepIn K (.ref f18) = true)
    (a19 : PySem.W.nsIn K mainGlobals "_law_order" = some (some (.ref f19)))
    (l19 : K.lookup f19 = some ⟨oc19, od19, .func (PySem.W.fnOf "_law_order" "_law_order" (defArgs sOrder) (defBody sOrder) (defScope sOrder) .none kV19 dc19 pm19 an19 cd19 ct19), sl19⟩)
    (c19 : PySem.W.codeIn K cd19 "_law_order" = true) (k19 : PySem.W.keepIn K (.ref f19) = true)
    (a20 : PySem.W.nsIn K mainGlobals "_law_changed_record" = some (some (.ref f20)))
    (l20 : K.lookup f20 = some ⟨oc20, od20, .func (PySem.W.fnOf "_law_changed_record" "_law_changed_record" (defArgs sChRec) (defBody sChRec) (defScope sChRec) .none kV20 dc20 pm20 an20 cd20 ct20), sl20⟩)
    (c20 : PySem.W.codeIn K cd20 "_law_changed_record" = true) (k20 : PySem.W.keepIn K (.ref f20) = true)
    (a21 : PySem.W.nsIn K mainGlobals "_law_changed" = some (some (.ref f21)))
    (l21 : K.lookup f21 = some ⟨oc21, od21, .func (PySem.W.fnOf "_law_changed" "_law_changed" (defArgs sChanged) (defBody sChanged) (defScope sChanged) .none kV21 dc21 pm21 an21 cd21 ct21), sl21⟩)
    (c21 : PySem.W.codeIn K cd21 "_law_changed" = true) (k21 : PySem.W.keepIn K (.ref f21) = true)
    (a22 : PySem.W.nsIn K mainGlobals "_law_right" = some (some (.ref f22)))
    (l22 : K.lookup f22 = some ⟨oc22, od22, .func (PySem.W.fnOf "_law_right" "_law_right" (defArgs sRight) (defBody sRight) (defScope sRight) .none kV22 dc22 pm22 an22 cd22 ct22), sl22⟩)
    (c22 : PySem.W.codeIn K cd22 "_law_right" = true) (k22 : PySem.W.keepIn K (.ref f22) = true)
    (a23 : PySem.W.nsIn K mainGlobals "keys_of" = some (some (.ref f23)))
    (l23 : K.lookup f23 = some ⟨oc23, od23, .func (PySem.W.fnOf "keys_of" "keys_of" (defArgs sKeys) (defBody sKeys) (defScope sKeys) .none kV23 dc23 pm23 an23 cd23 ct23), sl23⟩)
    (c23 : PySem.W.codeIn K cd23 "keys_of" = true) (k23 : PySem.W.keepIn K (.ref f23) = true)
    (a24 : PySem.W.nsIn K mainGlobals "law" = some (some (.ref f24)))
    (l24 : K.lookup f24 = some ⟨oc24, od24, .func (PySem.W.fnOf "law" "law" (defArgs sLaw) (defBody sLaw) (defScope sLaw) .none kV24 dc24 pm24 an24 cd24 ct24), sl24⟩)
    (c24 : PySem.W.codeIn K cd24 "law" = true) (k24 : PySem.W.keepIn K (.ref f24) = true)
    (z1 : PySem.W.nsIn K mainGlobals "len" = some none)
    (z2 : PySem.W.nsIn K mainGlobals "isinstance" = some none)
    (z3 : PySem.W.nsIn K mainGlobals "list" = some none)
    (z4 : PySem.W.nsIn K mainGlobals "dict" = some none)
    (z5 : PySem.W.nsIn K mainGlobals "sorted" = some none)
    (z6 : PySem.W.nsIn K mainGlobals "reversed" = some none)
    (z7 : PySem.W.nsIn K mainGlobals "range" = some none)
    (z8 : PySem.W.nsIn K mainGlobals "int" = some none)
    (z9 : PySem.W.nsIn K mainGlobals "bool" = some none)
    (z10 : PySem.W.nsIn K mainGlobals "str" = some none)
    (z11 : PySem.W.nsIn K mainGlobals "sum" = some none)
    (z12 : PySem.W.nsIn K mainGlobals "zip" = some none)
    (z13 : PySem.W.nsIn K mainGlobals "abs" = some none)
    (z14 : PySem.W.nsIn K mainGlobals "min" = some none)
    (hch : codeHdIn K ct0 Pt = true) :
    ∃ fd : FuncData, (∀ (s : Shared) (v : Value), BindsTo s fd ⟨[v], []⟩ [("_law_script", v)]) ∧ ∀ base : Heap, K.In base → base.Ns mainGlobals mg → BM mg base → FnOk l.prog w K mg base CX0 33 fa fd ["_law_script"] (spLaw Pt K) := by
  have e := hfa.symm.trans (PySem.W.mg_of X G a24)
  cases e
  have F1 := fun_mk (st := sKey) l1 c1 k1
  have b1 := F1.binds (ps := ["word"]) fun _ _ _ _ _ _ us hl => match us, hl with | [_], _ => rfl
  have m1 := PySem.W.mg_of X G a1
  have F2 := fun_mk (st := sParts) l2 c2 k2
  have b2 := F2.binds (ps := ["thing"]) fun _ _ _ _ _ _ us hl => match us, hl with | [_], _ => rfl
  have m2 := PySem.W.mg_of X G a2
  have F3 := fun_mk (st := sWalked) l3 c3 k3
  have b3 := F3.binds (ps := ["thing"]) fun _ _ _ _ _ _ us hl => match us, hl with | [_], _ => rfl
  have m3 := PySem.W.mg_of X G a3
  have F4 := fun_mk (st := sHeld) l4 c4 k4
  have b4 := F4.binds (ps := ["thing"]) fun _ _ _ _ _ _ us hl => match us, hl with | [_], _ => rfl
  have m4 := PySem.W.mg_of X G a4
  have F5 := fun_mk (st := sSizes) l5 c5 k5
  have b5 := F5.binds (ps := ["parts"]) fun _ _ _ _ _ _ us hl => match us, hl with | [_], _ => rfl
  have m5 := PySem.W.mg_of X G a5
  have F6 := fun_mk (st := sOwn) l6 c6 k6
  have b6 := F6.binds (ps := ["thing"]) fun _ _ _ _ _ _ us hl => match us, hl with | [_], _ => rfl
  have m6 := PySem.W.mg_of X G a6
  have F7 := fun_mk (st := sOrderKey) l7 c7 k7
  have b7 := F7.binds (ps := ["thing"]) fun _ _ _ _ _ _ us hl => match us, hl with | [_], _ => rfl
  have m7 := PySem.W.mg_of X G a7
  have F8 := fun_mk (st := sCompared) l8 c8 k8
  have b8 := F8.binds (ps := ["one", "other"]) fun _ _ _ _ _ _ us hl => match us, hl with | [_, _], _ => rfl
  have m8 := PySem.W.mg_of X G a8
  have F9 := fun_mk (st := sCell) l9 c9 k9
  have b9 := F9.binds (ps := ["_law_script", "_law_k"]) fun _ _ _ _ _ _ us hl => match us, hl with | [_, _], _ => rfl
  have m9 := PySem.W.mg_of X G a9
  have F10 := fun_mk (st := sMixed) l10 c10 k10
  have b10 := F10.binds (ps := ["_law_number", "_law_k"]) fun _ _ _ _ _ _ us hl => match us, hl with | [_, _], _ => rfl
  have m10 := PySem.W.mg_of X G a10
  have F11 := fun_mk (st := sNumber) l11 c11 k11
  have b11 := F11.binds (ps := ["_law_number"]) fun _ _ _ _ _ _ us hl => match us, hl with | [_], _ => rfl
  have m11 := PySem.W.mg_of X G a11
  have F12 := fun_mk (st := sWord) l12 c12 k12
  have b12 := F12.binds (ps := ["_law_number"]) fun _ _ _ _ _ _ us hl => match us, hl with | [_], _ => rfl
  have m12 := PySem.W.mg_of X G a12
  have F13 := fun_mk (st := sThing) l13 c13 k13
  have b13 := F13.binds (ps := ["_law_number", "_law_deep"]) fun _ _ _ _ _ _ us hl => match us, hl with | [_, _], _ => rfl
  have m13 := PySem.W.mg_of X G a13
  have F14 := fun_mk (st := sCopied) l14 c14 k14
  have b14 := F14.binds (ps := ["_law_thing"]) fun _ _ _ _ _ _ us hl => match us, hl with | [_], _ => rfl
  have m14 := PySem.W.mg_of X G a14
  have F15 := fun_mk (st := sSize) l15 c15 k15
  have b15 := F15.binds (ps := ["_law_thing"]) fun _ _ _ _ _ _ us hl => match us, hl with | [_], _ => rfl
  have m15 := PySem.W.mg_of X G a15
  have F16 := fun_mk (st := sSort) l16 c16 k16
  have b16 := F16.binds (ps := ["_law_thing"]) fun _ _ _ _ _ _ us hl => match us, hl with | [_], _ => rfl
  have m16 := PySem.W.mg_of X G a16
  have F17 := fun_mk (st := sFirst) l17 c17 k17
  have b17 := F17.binds (ps := ["_law_ones", "_law_others"]) fun _ _ _ _ _ _ us hl => match us, hl with | [_, _], _ => rfl
  have m17 := PySem.W.mg_of X G a17
  have F18 := fun_mk (st := sFlat) l18 c18 k18
  have b18 := F18.binds (ps := ["_law_record"]) fun _ _ _ _ _ _ us hl => match us, hl with | [_], _ => rfl
  have m18 := PySem.W.mg_of X G a18
  have F19 := fun_mk (st := sOrder) l19 c19 k19
  have b19 := F19.binds (ps := ["_law_one", "_law_other"]) fun _ _ _ _ _ _ us hl => match us, hl with | [_, _], _ => rfl
  have m19 := PySem.W.mg_of X G a19
  have F20 := fun_mk (st := sChRec) l20 c20 k20
  have b20 := F20.binds (ps := ["_law_record", "_law_number"]) fun _ _ _ _ _ _ us hl => match us, hl with | [_, _], _ => rfl
  have m20 := PySem.W.mg_of X G a20
  have F21 := fun_mk (st := sChanged) l21 c21 k21
  have b21 := F21.binds (ps := ["_law_thing", "_law_number"]) fun _ _ _ _ _ _ us hl => match us, hl with | [_, _], _ => rfl
  have m21 := PySem.W.mg_of X G a21
  have F22 := fun_mk (st := sRight) l22 c22 k22
  have b22 := F22.binds (ps := ["_law_one", "_law_other"]) fun _ _ _ _ _ _ us hl => match us, hl with | [_, _], _ => rfl
  have m22 := PySem.W.mg_of X G a22
  have F23 := fun_mk (st := sKeys) l23 c23 k23
  have b23 := F23.binds (ps := ["holder"]) fun _ _ _ _ _ _ us hl => match us, hl with | [_], _ => rfl
  have m23 := PySem.W.mg_of X G a23
  have F24 := fun_mk (st := sLaw) l24 c24 k24
  have B : Blt mg := ⟨PySem.W.mg_none_of X G z1, PySem.W.mg_none_of X G z2, PySem.W.mg_none_of X G z3, PySem.W.mg_none_of X G z4, PySem.W.mg_none_of X G z5, PySem.W.mg_none_of X G z6, PySem.W.mg_none_of X G z7, PySem.W.mg_none_of X G z8, PySem.W.mg_none_of X G z9, PySem.W.mg_none_of X G z10, PySem.W.mg_none_of X G z11, PySem.W.mg_none_of X G z12, PySem.W.mg_none_of X G z13, PySem.W.mg_none_of X G z14⟩
  refine ⟨PySem.W.fnOf "law" "law" (defArgs sLaw) (defBody sLaw) (defScope sLaw) .none kV24 dc24 pm24 an24 cd24 ct24, fun s v => .of_eq rfl, fun base KB GB bm => ?_⟩
  have hC := codeHd_of_K KB hch
  have Q1 := ok_key (P := l.prog) (w := w) (base := base) F1 B
  have Q23 := ok_keys F23 B Q1 b1 m1
  have Q2 := ok_parts F2 B Q23 b23 k23 m23
  have Q3 := ok_walked F3 B Q2 b2 k2 m2
  have Q4 := ok_held (P := l.prog) (w := w) (base := base) F4 B
  have Q5 := ok_sizes F5 B Q4 b4 k4 m4
  have Q6 := ok_own F6 B Q1 b1 k1 m1
  have Q7 := ok_orderKey F7 B Q3 b3 k3 m3 Q5 b5 k5 m5 Q1 b1 k1 m1 Q6 b6 k6 m6
  have Q8 := ok_compared F8 Q7 b7 k7 m7
  have Q9 := ok_cell (P := l.prog) (w := w) (base := base) F9 B
  have Q10 := ok_mixed (P := l.prog) (w := w) (mg := mg) (base := base) F10
  have Q11 := ok_number (P := l.prog) (w := w) (mg := mg) (base := base) F11
  have Q12 := ok_word (P := l.prog) (w := w) (mg := mg) (base := base) F12
  have T0 := ok_thing (d := 0) F13 B b13 m13 ⟨fun vs H Q E h => h.elim, fun A outer s H args us vs Q E _ _ _ _ h => h.elim⟩ Q10 b10 k10 m10 Q11 b11 k11 m11 Q12 b12 k12 m12
  have T1 := ok_thing (d := 1) F13 B b13 m13 T0 Q10 b10 k10 m10 Q11 b11 k11 m11 Q12 b12 k12 m12
  have T2 := ok_thing (d := 2) F13 B b13 m13 T1 Q10 b10 k10 m10 Q11 b11 k11 m11 Q12 b12 k12 m12
  have Q14 := all_copied (P := l.prog) (w := w) (base := base) F14 B b14 m14
  have Q15 := all_lsize (P := l.prog) (w := w) (base := base) F15 B b15 m15
  have Q16 := ok_lsort (P := l.prog) (w := w) (base := base) F16 B
  have Q18 := ok_flat (P := l.prog) (w := w) (mg := mg) (base := base) (Pt := Pt) l18 c18 B hC bm
  have Q19 : ∀ n : Nat, FnOk l.prog w K mg base CX0 (2 * n + 5) f19 _ ["_law_one", "_law_other"] (spOrd Pt n) := fun n => by
    induction n with
    | zero => exact none_ord
    | succ n ih => exact ok_order (k := 2 * n + 6) (kf := 2 * n + 6) F19 B (by omega) (Nat.le_refl _) (by omega) (Q15 (n + 1)) b15 k15 m15 Q16 b16 k16 m16 (ok_first F17 B ih b19 k19 m19) b17 k17 m17 Q18 b18 k18 m18
  have Q21 : ∀ n : Nat, FnOk l.prog w K mg base CX0 (2 * n + 2) f21 _ ["_law_thing", "_law_number"] (spChanged n) := fun n => by
    induction n with
    | zero => exact none_changed
    | succ n ih => exact ok_changed (k := 2 * n + 2) F21 B (by omega) b21 m21 (Q14 n) b14 k14 m14 Q12 b12 k12 m12 (ok_chrec F20 B (by omega) (by omega) (Q14 n) b14 k14 m14 Q12 b12 k12 m12 ih b21 k21 m21) b20 k20 m20 ih
  have Q22 := ok_right (k := 31) (ko := 31) F22 B (n := 13) (by decide) (by decide) (by decide) (by decide) (Q14 13) b14 k14 m14 (Q19 13) b19 k19 m19 Q8 b8 k8 m8
  exact ok_law (k := 32) F24 B (by decide) (Nat.le_refl 32) (show 28 ≤ 32 by decide) Q10 b10 k10 m10 T2 b13 k13 m13 (Q21 13) b21 k21 m21 Q22 b22 k22 m22 Q9 b9 k9 m9
theorem walk {l : PySem.W.OpenLaw} {q : Program} {loose : List Str} {XP : (Str → Option Value) → Heap → Prop} {YP : World → Heap → Prop} {d : DefRec} {K : Params → PySem.W.Frag} {c Pt : Addr} (hn : l.most = some 63) (hdf : d.params.defaults = [])
    (hY : ∀ (w : World) (h : Heap), YP w h → (K w.params).In h ∧ h.get? Pt = some (tabObj #[])) (hPk : ∀ w : World, (K w.params).lookup Pt = none) (hC : ∀ w : World, codeHdIn (K w.params) c Pt = true)
    (F : ∀ (w : World) (mg : Str → Option Value) (fa : Addr) (h : Heap), (K w.params).In h → h.Ns mainGlobals mg → mg d.name = some (.ref fa) →
      ∃ fd : FuncData, (∀ (s : Shared) (u : Value), BindsTo s fd ⟨[u], []⟩ [("_law_script", u)]) ∧ ∀ base : Heap, (K w.params).In base → base.Ns mainGlobals mg → BM mg base → FnOk l.prog w (K w.params) mg base CX0 33 fa fd ["_law_script"] (spLaw Pt (K w.params))) :
    PySem.W.WalkO q loose XP YP l.row.toRowW d [] (fun f vs => PySem.call f vs) :=
  Rg.walk_of2 (n := 63) (k := 33) (x := "_law_script") (CX := fun _ => CX0) (sp := fun w => spLaw Pt (K w.params)) hn (by decide) hdf ⟨rfl, by decide, by decide⟩ hY hPk hC F (fun _ _ a ns hl hO hS => ⟨a, ns, rfl, hS, hl, .inl hO.1, fun _ => rfl⟩) fun _ _ _ _ _ z => z
end K2
open PySem PySem.W PyProof.Rows
set_option maxRecDepth 100000 in
set_option maxHeartbeats 0 in
theorem PySem.Challenge.cw_recordgate_k02_the_order_of_things_holds : PySem.Challenge.rw_recordgate_k02_the_order_of_things.Holds := by
  w_on; o_law; k_head; (case hw => w_witness2)
  k_fill
  refine K2.walk (l := PySem.Challenge.rw_recordgate_k02_the_order_of_things) (c := 136) (Pt := 132) rfl rfl (fun w h Y => ⟨km_in_of Y, km_tabs_of Y 132 (by simp)⟩) (fun w => by kernel_rfl) (fun w => by kernel_rfl) ?F
  case F =>
    intro w mg fa h KX G hmg
    refine' K2.all_mk (ct0 := 136) (Pt := 132) KX G hmg ?a1 ?l1 ?c1 ?k1 ?a2 ?l2 ?c2 ?k2 ?a3 ?l3 ?c3 ?k3 ?a4 ?l4 ?c4 ?k4 ?a5 ?l5 ?c5 ?k5 ?a6 ?l6 ?c6 ?k6 ?a7 ?l7 ?c7 ?k7 ?a8 ?l8 ?c8 ?k8 ?a9 ?l9 ?c9 ?k9 ?a10 ?l10 ?c10 ?k10 ?a11 ?l11 ?c11 ?k11 ?a12 ?l12 ?c12 ?k12 ?a13 ?l13 ?c13 ?k13 ?a14 ?l14 ?c14 ?k14 ?a15 ?l15 ?c15 ?k15 ?a16 ?l16 ?c16 ?k16 ?a17 ?l17 ?c17 ?k17 ?a18 ?l18 ?c18 ?k18 ?a19 ?l19 ?c19 ?k19 ?a20 ?l20 ?c20 ?k20 ?a21 ?l21 ?c21 ?k21 ?a22 ?l22 ?c22 ?k22 ?a23 ?l23 ?c23 ?k23 ?a24 ?l24 ?c24 ?k24 ?z1 ?z2 ?z3 ?z4 ?z5 ?z6 ?z7 ?z8 ?z9 ?z10 ?z11 ?z12 ?z13 ?z14 ?hch
    (case a1 => k_is)
    (case l1 => k_is)
    (case c1 => k_is)
    (case k1 => k_is)
    (case a2 => k_is)
    (case l2 => k_is)
    (case c2 => k_is)
    (case k2 => k_is)
    (case a3 => k_is)
    (case l3 => k_is)
    (case c3 => k_is)
    (case k3 => k_is)
    (case a4 => k_is)
    (case l4 => k_is)
    (case c4 => k_is)
    (case k4 => k_is)
    (case a5 => k_is)
    (case l5 => k_is)
    (case c5 => k_is)
    (case k5 => k_is)
    (case a6 => k_is)
    (case l6 => k_is)
    (case c6 => k_is)
    (case k6 => k_is)
    (case a7 => k_is)
    (case l7 => k_is)
    (case c7 => k_is)
    (case k7 => k_is)
    (case a8 => k_is)
    (case l8 => k_is)
    (case c8 => k_is)
    (case k8 => k_is)
    (case a9 => k_is)
    (case l9 => k_is)
    (case c9 => k_is)
    (case k9 => k_is)
    (case a10 => k_is)
    (case l10 => k_is)
    (case c10 => k_is)
    (case k10 => k_is)
    (case a11 => k_is)
    (case l11 => k_is)
    (case c11 => k_is)
    (case k11 => k_is)
    (case a12 => k_is)
    (case l12 => k_is)
    (case c12 => k_is)
    (case k12 => k_is)
    (case a13 => k_is)
    (case l13 => k_is)
    (case c13 => k_is)
    (case k13 => k_is)
    (case a14 => k_is)
    (case l14 => k_is)
    (case c14 => k_is)
    (case k14 => k_is)
    (case a15 => k_is)
    (case l15 => k_is)
    (case c15 => k_is)
    (case k15 => k_is)
    (case a16 => k_is)
    (case l16 => k_is)
    (case c16 => k_is)
    (case k16 => k_is)
    (case a17 => k_is)
    (case l17 => k_is)
    (case c17 => k_is)
    (case k17 => k_is)
    (case a18 => k_is)
    (case l18 => k_is)
    (case c18 => k_is)
    (case k18 => k_is)
    (case a19 => k_is)
    (case l19 => k_is)
    (case c19 => k_is)
    (case k19 => k_is)
    (case a20 => k_is)
    (case l20 => k_is)
    (case c20 => k_is)
    (case k20 => k_is)
    (case a21 => k_is)
    (case l21 => k_is)
    (case c21 => k_is)
    (case k21 => k_is)
    (case a22 => k_is)
    (case l22 => k_is)
    (case c22 => k_is)
    (case k22 => k_is)
    (case a23 => k_is)
    (case l23 => k_is)
    (case c23 => k_is)
    (case k23 => k_is)
    (case a24 => k_is)
    (case l24 => k_is)
    (case c24 => k_is)
    (case k24 => k_is)
    (case z1 => k_is)
    (case z2 => k_is)
    (case z3 => k_is)
    (case z4 => k_is)
    (case z5 => k_is)
    (case z6 => k_is)
    (case z7 => k_is)
    (case z8 => k_is)
    (case z9 => k_is)
    (case z10 => k_is)
    (case z11 => k_is)
    (case z12 => k_is)
    (case z13 => k_is)
    (case z14 => k_is)
    (case hch => kernel_rfl)
