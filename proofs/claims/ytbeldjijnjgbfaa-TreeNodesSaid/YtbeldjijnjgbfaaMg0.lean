/-
  Texts put together: Frame, NodeM.
-/
import Derived.Test.YtbeldjijnjgbfaaRows
import Derived.WalkKit
import Derived.ProofKit
import Derived.SizedLaws
import Derived.OpenShut
import Derived.Deep.Grids
import Derived.Lib.Strings
namespace Go.Proofs.Ytbeldjijnjgbfaa
open Go.ChangeShapes Go.WideShapes Go.ChangeAt Go.RowKit

theorem own : ownKnob Try.prog.godebug = none := by kernel_rfl
theorem laidOut : laidOutB Try.prog = true := by kernel_rfl

theorem lt_of_cell {w : World} {b o : Nat} {v : Value} (h : w.cell? ⟨b, o, none⟩ = some v) : b < w.heap.size := by
  rcases Nat.lt_or_ge b w.heap.size with hl | hl
  · exact hl
  · have : w.heap[b]? = none := Array.getElem?_eq_none hl
    simp [World.cell?, this] at h

/-- A block of the call's own, just laid. -/
theorem boxed0 (w : World) (cs : Array Value) (t : TypeId) (f : Nat × Nat) (j : Nat) (v : Value) (h : cs[j]? = some v) : (w.alloc (.cells cs t f)).cell? ⟨w.heap.size, j, none⟩ = some v := by
  have e := (MapKept.heap_alloc w (.cells cs t f)).1
  simp only [World.cell?, e]
  exact h
/-- .. behind a call. -/
theorem boxed {w w1 : World} {cs : Array Value} {t : TypeId} {f : Nat × Nat} {n : Nat} (hb : Below n (w.alloc (.cells cs t f)) w1) (hn : w.heap.size < n) (j : Nat) (v : Value) (h : cs[j]? = some v) : w1.cell? ⟨w.heap.size, j, none⟩ = some v := by
  rw [hb.cell (p := ⟨w.heap.size, j, none⟩) hn]
  exact boxed0 w cs t f j v h
theorem size_alloc (w : World) (o : Obj) : (w.alloc o).heap.size = w.heap.size + 1 := by
  show (w.heap.push o).size = _
  rw [Array.size_push]

/-- A slice that came in: its elements, told by a list. -/
def Sl {α : Type} (w : World) (f : α → Value) (a : Option Addr) (l : List α) : Prop :=
  l ≠ [] → ∃ b off, a = some ⟨b, off, none⟩ ∧ b < w.heap.size ∧ ∀ i x, l[i]? = some x → w.cell? ⟨b, off + i, none⟩ = some (f x)

theorem Sl.of {α : Type} {w : World} {f : α → Value} {a : Addr} {l : List α} (h : ∀ i x, l[i]? = some x → w.cell? (a.add i) = some (f x)) : Sl w f (some a) l := by
  intro hne
  obtain ⟨b, off, spot⟩ := a
  have h0 : 0 < l.length := by cases l with | nil => exact absurd rfl hne | cons _ _ => simp
  have hc := h 0 l[0] (List.getElem?_eq_getElem h0)
  have hspot : spot = none := by simpa [Addr.add] using World.cell?_spot hc
  subst hspot
  refine ⟨b, off, rfl, ?_, fun i x hx => by rw [← add_plain]; exact h i x hx⟩
  rw [add_plain] at hc
  exact lt_of_cell hc

theorem Sl.nil {α : Type} {w : World} {f : α → Value} {a : Option Addr} : Sl w f a ([] : List α) := fun h => absurd rfl h

section
variable {H : Type} {enc : TypeId × Value → H} {P : Program} {w : World} {base : Nat} {v : Value} {d : DataW H} {ps : List MemPlace}

/-- A slice of integers. -/
theorem open_slI {t e : TypeId} {k : IntKind} (ht : P.underlying t = some (.slice e)) (he : P.underlying e = some (.int k)) (hc : P.cellsOf e = 1)
    (hw : Value.okWide P w .any base t v) (h : DataW.Trod enc P w 0 (fun _ => true) true t v d ps) :
    ∃ a cap, ∃ l : List Int, v = .slice a l.length cap ∧ Sl w (Value.int k) a l ∧ (∀ n ∈ l, (Lit.int k n).wf = true) ∧ l.length ≤ maxLen := by
  obtain ⟨a0, len, cap, rfl⟩ := okWide_slice ht hw
  obtain ⟨fuel, hf⟩ := h
  rcases open_ints ht he hc hf with ⟨hcs, _⟩ | ⟨a, len', cap', zs, hcs, _, hl, hm, hz, _, hcell, hwz⟩
  · simp [Value.cells] at hcs
    obtain ⟨rfl, rfl, rfl⟩ := hcs
    exact ⟨none, 0, [], rfl, Sl.nil, fun _ h => by simp at h, Nat.zero_le _⟩
  · simp [Value.cells] at hcs
    obtain ⟨rfl, rfl, rfl⟩ := hcs
    simp only [if_true] at hz
    have hlen : (zs.take len).length = len := by rw [List.length_take]; omega
    refine ⟨some a, cap, zs.take len, by rw [hlen], Sl.of fun i x hx => ?_, fun n hn => hwz n (List.mem_of_mem_take hn), by omega⟩
    have hi : i < len := by
      rcases Nat.lt_or_ge i len with h | h
      · exact h
      · rw [List.getElem?_eq_none (by omega)] at hx; cases hx
    rw [List.getElem?_take_of_lt hi] at hx
    rw [hcell i (by omega), List.getD, hx]
    rfl

/-- A slice of strings. -/
theorem open_slS {t e : TypeId} (ht : P.underlying t = some (.slice e)) (he : P.underlying e = some .string) (hc : P.cellsOf e = 1)
    (hw : Value.okWide P w .any base t v) (h : DataW.Trod enc P w 0 (fun _ => true) true t v d ps) :
    ∃ a cap, ∃ l : List ByteArray, v = .slice a l.length cap ∧ Sl w Value.string a l ∧ (∀ s ∈ l, s.size ≤ maxLen) ∧ l.length ≤ maxLen := by
  obtain ⟨a0, len, cap, rfl⟩ := okWide_slice ht hw
  obtain ⟨fuel, hf⟩ := h
  rcases open_strings ht he hc hf with ⟨hcs, _⟩ | ⟨a, len', cap', zs, hcs, _, hl, hm, hz, _, hcell, hwz⟩
  · simp [Value.cells] at hcs
    obtain ⟨rfl, rfl, rfl⟩ := hcs
    exact ⟨none, 0, [], rfl, Sl.nil, fun _ h => by simp at h, Nat.zero_le _⟩
  · simp [Value.cells] at hcs
    obtain ⟨rfl, rfl, rfl⟩ := hcs
    simp only [if_true] at hz
    have hlen : (zs.take len).length = len := by rw [List.length_take]; omega
    refine ⟨some a, cap, zs.take len, by rw [hlen], Sl.of fun i x hx => ?_, fun n hn => hwz n (List.mem_of_mem_take hn), by omega⟩
    have hi : i < len := by
      rcases Nat.lt_or_ge i len with h | h
      · exact h
      · rw [List.getElem?_eq_none (by omega)] at hx; cases hx
    rw [List.getElem?_take_of_lt hi] at hx
    rw [hcell i (by omega), List.getD, hx]
    rfl

/-- A slice of bools. -/
theorem open_slB {t e : TypeId} (ht : P.underlying t = some (.slice e)) (he : P.underlying e = some .bool) (hc : P.cellsOf e = 1)
    (hw : Value.okWide P w .any base t v) (h : DataW.Trod enc P w 0 (fun _ => true) true t v d ps) :
    ∃ a cap, ∃ l : List Bool, v = .slice a l.length cap ∧ Sl w Value.bool a l ∧ True ∧ l.length ≤ maxLen := by
  obtain ⟨a0, len, cap, rfl⟩ := okWide_slice ht hw
  obtain ⟨fuel, hf⟩ := h
  rcases Go.Deep.open_bools ht he hc hf with ⟨hcs, _⟩ | ⟨a, len', cap', B, hcs, _, hl, hm, _, hcell⟩
  · simp [Value.cells] at hcs
    obtain ⟨rfl, rfl, rfl⟩ := hcs
    exact ⟨none, 0, [], rfl, Sl.nil, trivial, Nat.zero_le _⟩
  · simp [Value.cells] at hcs
    obtain ⟨rfl, rfl, rfl⟩ := hcs
    refine ⟨some a, cap, (List.range len).map B, by simp, Sl.of fun i x hx => ?_, trivial, by simp; omega⟩
    have hi : i < len := by
      rcases Nat.lt_or_ge i len with h | h
      · exact h
      · rw [List.getElem?_eq_none (by simp; omega)] at hx; cases hx
    rw [hcell i (by omega)]
    rw [List.getElem?_map, List.getElem?_range hi] at hx
    simp at hx
    rw [hx]
end
end Go.Proofs.Ytbeldjijnjgbfaa

namespace Go.Proofs.Ytbeldjijnjgbfaa
open Go

/-- A node: its keys, and what goes with each. -/
structure NodeD where
  leaf : Bool
  keys : List ByteArray
  vals : List ByteArray
theorem noded_ext {a b : NodeD} (h1 : a.leaf = b.leaf) (h2 : a.keys = b.keys) (h3 : a.vals = b.vals) : a = b := by
  cases a; cases b; simp_all
abbrev Ent := ByteArray × ByteArray
def ltK (a b : ByteArray) : Bool := Op.bytesLess a.toList b.toList
theorem bl_lt : ∀ (x y : List UInt8), Op.bytesLess x y = decide (x < y)
  | [], [] => by simp [Op.bytesLess]
  | _ :: _, [] => by simp [Op.bytesLess]
  | [], _ :: _ => by simp [Op.bytesLess]
  | a :: x, b :: y => by
    rw [Op.bytesLess, bl_lt x y]
    have e : (a == b) = decide (a = b) := by by_cases h : a = b <;> simp [h]
    rw [e]
    simp [List.cons_lt_cons_iff, Bool.decide_or, Bool.decide_and]
theorem ba_ext {x y : ByteArray} (h : x.toList = y.toList) : x = y := by
  rw [Lib.toList_data, Lib.toList_data] at h
  cases x; cases y
  simp only [ByteArray.mk.injEq]
  exact Array.toList_inj.1 h
theorem ltK_iff (a b : ByteArray) : ltK a b = true ↔ a.toList < b.toList := by rw [ltK, bl_lt]; exact decide_eq_true_iff
theorem ltK_irr (a : ByteArray) : ltK a a = false := by
  cases h : ltK a a
  · rfl
  · exact absurd ((ltK_iff a a).1 h) (List.lt_irrefl _)
theorem ltK_tr {a b c : ByteArray} (h : ltK a b = true) (k : ltK b c = true) : ltK a c = true :=
  (ltK_iff a c).2 (List.lt_trans ((ltK_iff a b).1 h) ((ltK_iff b c).1 k))
theorem ltK_as {a b : ByteArray} (h : ltK a b = true) : ltK b a = false := by
  cases k : ltK b a
  · rfl
  · have := ltK_tr h k; rw [ltK_irr] at this; cases this
theorem ltK_tri (a b : ByteArray) : ltK a b = true ∨ a = b ∨ ltK b a = true := by
  rcases Classical.em (a.toList < b.toList) with h | h
  · exact .inl ((ltK_iff a b).2 h)
  · rcases Classical.em (b.toList < a.toList) with k | k
    · exact .inr (.inr ((ltK_iff b a).2 k))
    · exact .inr (.inl (ba_ext (List.le_antisymm (List.not_lt.1 k) (List.not_lt.1 h))))
theorem ltK_ne {a b : ByteArray} (h : ltK a b = true) : a ≠ b := by rintro rfl; rw [ltK_irr] at h; cases h
/-- `a ≤ b`, as the model spells it. -/
theorem leK_eq (a b : ByteArray) : (Op.bytesLess a.toList b.toList || (a.toList == b.toList)) = !ltK b a := by
  rcases ltK_tri a b with h | h | h
  · rw [ltK_as h]; unfold ltK at h; rw [h]; rfl
  · subst h; rw [ltK_irr]; simp
  · have h2 := ltK_as h
    have h3 : (a.toList == b.toList) = false := by
      rw [beq_eq_false_iff_ne]; intro e; exact ltK_ne h (ba_ext e).symm
    rw [h, h3]; unfold ltK at h2; rw [h2]; rfl
theorem ltK_nil (k : ByteArray) : ltK ⟨#[]⟩ k = decide (0 < k.size) := by
  unfold ltK
  rw [Lib.toList_data, Lib.toList_data]
  cases hk : k.data.toList with
  | nil =>
    have : k.size = 0 := by show k.data.size = 0; rw [← Array.length_toList, hk]; rfl
    rw [this]; rfl
  | cons x r =>
    have : 0 < k.size := by show 0 < k.data.size; rw [← Array.length_toList, hk]; simp
    rw [decide_eq_true this]; rfl

/-! What may be. -/
def okE (k v : ByteArray) : Bool := decide (0 < k.size ∧ k.size ≤ 300 ∧ v.size ≤ 120)
def mayG : ByteArray → List ByteArray → List ByteArray → Bool
  | last, k :: ks, v :: vs => ltK last k && (okE k v && mayG k ks vs)
  | _, [], [] => true
  | _, _, _ => false
def mayD (d : NodeD) : Bool := decide (d.keys.length = d.vals.length) && (decide (d.keys.length ≤ 255) && mayG ⟨#[]⟩ d.keys d.vals)
def Up (l : List ByteArray) : Prop := l.Pairwise (fun a b => ltK a b = true)
theorem mayG_up : ∀ (last : ByteArray) (ks vs : List ByteArray), mayG last ks vs = true → Up (last :: ks) ∧ ks.length = vs.length ∧ ∀ x ∈ ks.zip vs, okE x.1 x.2 = true
  | last, k :: ks, v :: vs, h => by
    rw [mayG, Bool.and_eq_true, Bool.and_eq_true] at h
    obtain ⟨h1, h2, h3⟩ := h
    obtain ⟨p1, p2, p3⟩ := mayG_up k ks vs h3
    refine ⟨List.pairwise_cons.2 ⟨fun a ha => ?_, p1⟩, by simp [p2], fun x hx => ?_⟩
    · rcases List.mem_cons.1 ha with rfl | ha
      · exact h1
      · exact ltK_tr h1 ((List.pairwise_cons.1 p1).1 a ha)
    · rw [List.zip_cons_cons] at hx
      rcases List.mem_cons.1 hx with rfl | hx
      · exact h2
      · exact p3 x hx
  | _, [], [], _ => ⟨List.pairwise_singleton _ _, rfl, fun _ h => by cases h⟩
  | _, [], _ :: _, h => by cases h
  | _, _ :: _, [], h => by cases h
theorem mayG_of : ∀ (last : ByteArray) (ks vs : List ByteArray), Up (last :: ks) → ks.length = vs.length → (∀ x ∈ ks.zip vs, okE x.1 x.2 = true) → mayG last ks vs = true
  | last, k :: ks, v :: vs, h1, h2, h3 => by
    have p := List.pairwise_cons.1 h1
    rw [mayG, Bool.and_eq_true, Bool.and_eq_true]
    exact ⟨p.1 k (by simp), h3 (k, v) (by simp), mayG_of k ks vs p.2 (by simpa using h2) (fun x hx => h3 x (by rw [List.zip_cons_cons]; exact List.mem_cons_of_mem _ hx))⟩
  | _, [], [], _, _, _ => rfl
  | _, [], _ :: _, _, h, _ => by simp at h
  | _, _ :: _, [], _, h, _ => by simp at h
/-- Entries that may be. -/
structure OkL (E : List Ent) : Prop where
  up : Up (E.map (·.1))
  ok : ∀ x ∈ E, okE x.1 x.2 = true
def ofE (b : Bool) (E : List Ent) : NodeD := ⟨b, E.map (·.1), E.map (·.2)⟩
theorem zip_maps (E : List Ent) : (E.map (·.1)).zip (E.map (·.2)) = E := by
  induction E with
  | nil => rfl
  | cons x r ih => simp [ih]
theorem may_iff (b : Bool) (E : List Ent) : mayD (ofE b E) = true ↔ OkL E ∧ E.length ≤ 255 := by
  unfold mayD ofE
  simp only [List.length_map, decide_true, Bool.true_and, Bool.and_eq_true, decide_eq_true_eq]
  constructor
  · rintro ⟨h1, h2⟩
    obtain ⟨p1, _, p3⟩ := mayG_up _ _ _ h2
    rw [zip_maps] at p3
    exact ⟨⟨(List.pairwise_cons.1 p1).2, p3⟩, h1⟩
  · rintro ⟨h1, h2⟩
    refine ⟨h2, mayG_of _ _ _ (List.pairwise_cons.2 ⟨fun a ha => ?_, h1.up⟩) (by simp) (by rw [zip_maps]; exact h1.ok)⟩
    obtain ⟨x, hx, rfl⟩ := List.mem_map.1 ha
    have := h1.ok x hx
    rw [okE, decide_eq_true_eq] at this
    rw [ltK_nil, decide_eq_true this.1]
theorem may_of {d : NodeD} (h : mayD d = true) : ∃ E, d = ofE d.leaf E ∧ OkL E ∧ E.length ≤ 255 := by
  have hl : d.keys.length = d.vals.length := by
    unfold mayD at h
    simp only [Bool.and_eq_true, decide_eq_true_eq] at h
    exact h.1
  have e : d = ofE d.leaf (d.keys.zip d.vals) := by
    unfold ofE
    refine noded_ext rfl ?_ ?_
    · show d.keys = _; rw [List.map_fst_zip (by omega)]
    · show d.vals = _; rw [List.map_snd_zip (by omega)]
  rw [e] at h
  have h2 := (may_iff _ _).1 h
  exact ⟨_, e, h2.1, h2.2⟩
theorem OkL.part {E F : List Ent} (h : OkL E) (hs : F.Sublist E) : OkL F :=
  ⟨List.Pairwise.sublist (hs.map _) h.up, fun x hx => h.ok x (hs.subset hx)⟩

/-! Where a key stands. -/
def cntK (ks : List ByteArray) (key : ByteArray) : Nat := (ks.takeWhile (fun k => ltK k key)).length
def isK (ks : List ByteArray) (key : ByteArray) : Bool := decide (ks[cntK ks key]? = some key)
theorem cnt_of {ks : List ByteArray} {key : ByteArray} {i : Nat} (hi : i ≤ ks.length) (h1 : ∀ k ∈ ks.take i, ltK k key = true) (h2 : ∀ k ∈ ks.drop i, ltK k key = false) : cntK ks key = i := by
  unfold cntK
  conv => lhs; rw [← List.take_append_drop i ks]
  rw [List.takeWhile_append_of_pos h1]
  have : (ks.drop i).takeWhile (fun k => ltK k key) = [] := by
    cases hd : ks.drop i with
    | nil => rfl
    | cons x r => rw [List.takeWhile_cons, h2 x (by rw [hd]; simp)]; rfl
  rw [this, List.append_nil, List.length_take]
  omega
theorem up_cut (key : ByteArray) : ∀ E : List Ent, Up (E.map (·.1)) → ∃ A M B, E = A ++ (M ++ B) ∧ (∀ x ∈ A, ltK x.1 key = true) ∧ (∀ x ∈ B, ltK key x.1 = true) ∧ (M = [] ∨ ∃ v, M = [(key, v)])
  | [], _ => ⟨[], [], [], rfl, (fun _ h => by cases h), (fun _ h => by cases h), .inl rfl⟩
  | x :: r, h => by
    have p := List.pairwise_cons.1 h
    have hr : ∀ y ∈ r, ltK x.1 y.1 = true := fun y hy => p.1 y.1 (List.mem_map.2 ⟨y, hy, rfl⟩)
    rcases ltK_tri x.1 key with h1 | h1 | h1
    · obtain ⟨A, M, B, e, ha, hb, hm⟩ := up_cut key r p.2
      exact ⟨x :: A, M, B, by rw [e]; rfl, fun y hy => by rcases List.mem_cons.1 hy with rfl | hy; exact h1; exact ha y hy, hb, hm⟩
    · exact ⟨[], [x], r, rfl, fun _ h => (by cases h), fun y hy => h1 ▸ hr y hy, .inr ⟨x.2, by rw [← h1]⟩⟩
    · exact ⟨[], [], x :: r, rfl, fun _ h => (by cases h), fun y hy => by rcases List.mem_cons.1 hy with rfl | hy; exact h1; exact ltK_tr h1 (hr y hy), .inl rfl⟩
theorem cnt_cut {key : ByteArray} {A M B : List Ent} (ha : ∀ x ∈ A, ltK x.1 key = true) (hb : ∀ x ∈ B, ltK key x.1 = true) (hm : M = [] ∨ ∃ v, M = [(key, v)]) :
    cntK ((A ++ (M ++ B)).map (·.1)) key = A.length := by
  refine cnt_of (by simp) ?_ ?_
  · intro k hk
    rw [List.map_append, List.take_left' (by simp)] at hk
    obtain ⟨x, hx, rfl⟩ := List.mem_map.1 hk
    exact ha x hx
  · intro k hk
    rw [List.map_append, List.drop_left' (by simp)] at hk
    obtain ⟨x, hx, rfl⟩ := List.mem_map.1 hk
    rcases List.mem_append.1 hx with h | h
    · rcases hm with rfl | ⟨v, rfl⟩
      · cases h
      · rw [List.mem_singleton] at h; subst h; exact ltK_irr key
    · exact ltK_as (hb x h)
theorem is_cut {key : ByteArray} {A M B : List Ent} (ha : ∀ x ∈ A, ltK x.1 key = true) (hb : ∀ x ∈ B, ltK key x.1 = true) (hm : M = [] ∨ ∃ v, M = [(key, v)]) :
    isK ((A ++ (M ++ B)).map (·.1)) key = !M.isEmpty := by
  unfold isK
  rw [cnt_cut ha hb hm, List.map_append, List.getElem?_append_right (by simp), List.length_map, Nat.sub_self]
  rcases hm with rfl | ⟨v, rfl⟩
  · cases B with
    | nil => rfl
    | cons x r =>
      have := ltK_ne (hb x (by simp))
      simp
      exact fun e => this e.symm
  · simp

/-! What a node is with an entry more, or without one. -/
def findD (d : NodeD) (key : ByteArray) : Nat × Bool :=
  if mayD d = true then (if isK d.keys key = true then (cntK d.keys key, true) else (cntK d.keys key - 1, false)) else (0, false)
def withoutD (d : NodeD) (key : ByteArray) : NodeD :=
  if mayD d = true ∧ isK d.keys key = true then ⟨d.leaf, d.keys.eraseIdx (cntK d.keys key), d.vals.eraseIdx (cntK d.keys key)⟩ else d
def withD (d : NodeD) (key val : ByteArray) : NodeD :=
  if mayD d = true ∧ okE key val = true then
    (if isK d.keys key = true then ⟨d.leaf, d.keys, d.vals.set (cntK d.keys key) val⟩ else ⟨d.leaf, d.keys.insertIdx (cntK d.keys key) key, d.vals.insertIdx (cntK d.keys key) val⟩)
  else d
/-- An entry laid ahead of the first one with a greater key. -/
def insE (key val : ByteArray) : List Ent → List Ent
  | [] => [(key, val)]
  | x :: r => if ltK key x.1 = true then (key, val) :: x :: r else x :: insE key val r
def dropE (key : ByteArray) (E : List Ent) : List Ent := E.filter (fun x => !decide (x.1 = key))
theorem drop_cut {key : ByteArray} {A M B : List Ent} (ha : ∀ x ∈ A, ltK x.1 key = true) (hb : ∀ x ∈ B, ltK key x.1 = true) (hm : M = [] ∨ ∃ v, M = [(key, v)]) : dropE key (A ++ (M ++ B)) = A ++ B := by
  unfold dropE
  have e1 : A.filter (fun x => !decide (x.1 = key)) = A := List.filter_eq_self.2 (fun x hx => by have := ltK_ne (ha x hx); simpa using this)
  have e2 : B.filter (fun x => !decide (x.1 = key)) = B := List.filter_eq_self.2 (fun x hx => by have := ltK_ne (hb x hx); simpa using fun e : x.1 = key => this e.symm)
  rw [List.filter_append, List.filter_append, e1, e2]
  rcases hm with rfl | ⟨v, rfl⟩
  · rfl
  · simp
theorem ins_cut {key val : ByteArray} {B : List Ent} (hb : ∀ x ∈ B, ltK key x.1 = true) : ∀ A : List Ent, (∀ x ∈ A, ltK x.1 key = true) → insE key val (A ++ B) = A ++ (key, val) :: B
  | [], _ => by
    cases B with
    | nil => rfl
    | cons x r => rw [List.nil_append, insE, if_pos (hb x (by simp))]; rfl
  | x :: r, ha => by
    have h1 : ltK key x.1 = false := ltK_as (ha x (by simp))
    rw [List.cons_append, insE, if_neg (by rw [h1]; simp), ins_cut hb r (fun y hy => ha y (List.mem_cons_of_mem _ hy))]
    rfl
theorem insertIdx_mid {α : Type} (a : α) : ∀ (A B : List α), (A ++ B).insertIdx A.length a = A ++ a :: B
  | [], B => by simp
  | x :: r, B => by simp [insertIdx_mid a r B]
theorem eraseIdx_mid {α : Type} (a : α) : ∀ (A B : List α), (A ++ a :: B).eraseIdx A.length = A ++ B
  | [], B => by simp
  | x :: r, B => by simp [eraseIdx_mid a r B]
theorem without_eq {b : Bool} {E : List Ent} (h : OkL E) (hl : E.length ≤ 255) (key : ByteArray) : withoutD (ofE b E) key = ofE b (dropE key E) := by
  have hm := (may_iff b E).2 ⟨h, hl⟩
  obtain ⟨A, M, B, rfl, ha, hb, hM⟩ := up_cut key E h.up
  rw [drop_cut ha hb hM]
  unfold withoutD
  have e1 : (ofE b (A ++ (M ++ B))).keys = (A ++ (M ++ B)).map (·.1) := rfl
  rw [hm, e1, is_cut ha hb hM, cnt_cut ha hb hM]
  rcases hM with rfl | ⟨v, rfl⟩
  · rw [if_neg (by simp)]; simp
  · rw [if_pos (by simp)]
    unfold ofE
    refine noded_ext rfl ?_ ?_
    · have := eraseIdx_mid key (A.map (·.1)) (B.map (·.1))
      simp only [List.length_map] at this
      simpa using this
    · have := eraseIdx_mid v (A.map (·.2)) (B.map (·.2))
      simp only [List.length_map] at this
      simpa using this
theorem with_eq {b : Bool} {E : List Ent} (h : OkL E) (hl : E.length ≤ 255) (key val : ByteArray) (hk : okE key val = true) : withD (ofE b E) key val = ofE b (insE key val (dropE key E)) := by
  have hm := (may_iff b E).2 ⟨h, hl⟩
  obtain ⟨A, M, B, rfl, ha, hb, hM⟩ := up_cut key E h.up
  rw [drop_cut ha hb hM, ins_cut hb A ha]
  unfold withD
  have e1 : (ofE b (A ++ (M ++ B))).keys = (A ++ (M ++ B)).map (·.1) := rfl
  rw [hm, e1, is_cut ha hb hM, cnt_cut ha hb hM, if_pos ⟨rfl, hk⟩]
  rcases hM with rfl | ⟨v, rfl⟩
  · rw [if_neg (by simp)]
    unfold ofE
    refine noded_ext rfl ?_ ?_
    · have := insertIdx_mid key (A.map (·.1)) (B.map (·.1))
      simp only [List.length_map] at this
      simpa using this
    · have := insertIdx_mid val (A.map (·.2)) (B.map (·.2))
      simp only [List.length_map] at this
      simpa using this
  · rw [if_pos (by simp)]
    unfold ofE
    refine noded_ext rfl ?_ ?_
    · simp
    · simp

/-! Sizes. -/
def szL : List ByteArray → List ByteArray → Nat
  | k :: ks, v :: vs => 3 + k.size + v.size + szL ks vs
  | _, _ => 0
def sizeD (d : NodeD) : Nat := if mayD d = true then 2 + szL d.keys d.vals else 0
def chkN (d : NodeD) : Int := if mayD d = true then (if 960 < sizeD d then 13 else 0) else 1
theorem sz_take : ∀ (ks vs : List ByteArray) (i : Nat) (h1 : i < ks.length) (h2 : i < vs.length), szL (ks.take (i + 1)) (vs.take (i + 1)) = szL (ks.take i) (vs.take i) + (3 + (ks[i]).size + (vs[i]).size)
  | k :: ks, v :: vs, 0, _, _ => by simp [szL]
  | k :: ks, v :: vs, i + 1, h1, h2 => by
    have := sz_take ks vs i (by simpa using h1) (by simpa using h2)
    simp only [List.take_succ_cons, szL, List.getElem_cons_succ] at this ⊢
    omega
theorem sz_cut : ∀ (ks vs : List ByteArray) (i : Nat), szL (ks.take i) (vs.take i) + szL (ks.drop i) (vs.drop i) = szL ks vs
  | [], vs, i => by cases i <;> simp [szL]
  | k :: ks, [], i => by cases i <;> simp [szL]
  | k :: ks, v :: vs, 0 => by simp [szL]
  | k :: ks, v :: vs, i + 1 => by
    have := sz_cut ks vs i
    simp only [List.take_succ_cons, List.drop_succ_cons, szL]
    omega
theorem sz_le : ∀ (ks vs : List ByteArray) (a b : Nat), (∀ k ∈ ks, k.size ≤ a) → (∀ v ∈ vs, v.size ≤ b) → szL ks vs ≤ (3 + a + b) * ks.length
  | [], vs, a, b, _, _ => by simp [szL]
  | k :: ks, [], a, b, _, _ => by simp [szL]
  | k :: ks, v :: vs, a, b, h1, h2 => by
    have := sz_le ks vs a b (fun k hk => h1 k (List.mem_cons_of_mem _ hk)) (fun k hk => h2 k (List.mem_cons_of_mem _ hk))
    have e1 := h1 k (by simp)
    have e2 := h2 v (by simp)
    simp only [szL, List.length_cons, Nat.mul_add, Nat.mul_one]
    omega

/-! Halves. -/
def grD (d : NodeD) (i : Nat) : Nat := max (2 + szL (d.keys.take i) (d.vals.take i)) (2 + szL (d.keys.drop i) (d.vals.drop i))
/-- The best cut among the first i, and how large its greater half is. -/
def midS (d : NodeD) : Nat → Nat × Nat
  | 0 => (0, 0)
  | i + 1 => if (midS d i).1 = 0 ∨ grD d (i + 1) < (midS d i).2 then (i + 1, grD d (i + 1)) else midS d i
def cutD (d : NodeD) : Nat := (midS d (d.keys.length - 1)).1
def splitD (d : NodeD) : NodeD × NodeD × Bool :=
  if mayD d = true ∧ 2 ≤ d.keys.length then (⟨d.leaf, d.keys.take (cutD d), d.vals.take (cutD d)⟩, ⟨d.leaf, d.keys.drop (cutD d), d.vals.drop (cutD d)⟩, true)
  else (⟨false, [], []⟩, ⟨false, [], []⟩, false)
theorem mid_spec (d : NodeD) : ∀ i, 1 ≤ i → 1 ≤ (midS d i).1 ∧ (midS d i).1 ≤ i ∧ (midS d i).2 = grD d (midS d i).1 ∧ ∀ j, 1 ≤ j → j ≤ i → (midS d i).2 ≤ grD d j
  | 0, h => by omega
  | i + 1, _ => by
    rcases Nat.eq_zero_or_pos i with rfl | hi
    · rw [midS, if_pos (.inl rfl)]
      refine ⟨Nat.le_refl _, Nat.le_refl _, rfl, fun j h1 h2 => ?_⟩
      have : j = 1 := by omega
      subst this
      exact Nat.le_refl _
    · obtain ⟨p1, p2, p3, p4⟩ := mid_spec d i hi
      rw [midS]
      split
      · next h =>
        have h2 : grD d (i + 1) < (midS d i).2 := by rcases h with h | h; omega; exact h
        refine ⟨by omega, Nat.le_refl _, rfl, fun j h1 h3 => ?_⟩
        show grD d (i + 1) ≤ grD d j
        rcases Nat.lt_or_ge j (i + 1) with h4 | h4
        · have := p4 j h1 (by omega); omega
        · have : j = i + 1 := by omega
          subst this; exact Nat.le_refl _
      · next h =>
        refine ⟨p1, by omega, p3, fun j h1 h3 => ?_⟩
        rcases Nat.lt_or_ge j (i + 1) with h4 | h4
        · exact p4 j h1 (by omega)
        · have : j = i + 1 := by omega
          subst this; omega
theorem cut_in {d : NodeD} (h : 2 ≤ d.keys.length) : 1 ≤ cutD d ∧ cutD d < d.keys.length := by
  have := mid_spec d (d.keys.length - 1) (by omega)
  unfold cutD
  omega
/-- Of entries of at most 423 bytes each, 1383 in all, there is a cut with both halves at most 960. -/
theorem half_small : ∀ (ks vs : List ByteArray), 2 ≤ ks.length → ks.length = vs.length → (∀ i (h1 : i < ks.length) (h2 : i < vs.length), 3 + (ks[i]).size + (vs[i]).size ≤ 423) → 2 + szL ks vs ≤ 1383 →
    ∃ j, 1 ≤ j ∧ j < ks.length ∧ 2 + szL (ks.take j) (vs.take j) ≤ 960 ∧ 2 + szL (ks.drop j) (vs.drop j) ≤ 960 := by
  intro ks vs h2 hlen he ht
  -- the first cut ahead of which there are more than 535 bytes, or the last one
  have key : ∀ n, n < ks.length → 1 ≤ n → (∃ j, 1 ≤ j ∧ j < ks.length ∧ 2 + szL (ks.take j) (vs.take j) ≤ 960 ∧ 2 + szL (ks.drop j) (vs.drop j) ≤ 960) ∨ szL (ks.take n) (vs.take n) < 423 := by
    intro n
    induction n with
    | zero => intro _ h; omega
    | succ n ih =>
      intro hn _
      have e1 := sz_take ks vs n (by omega) (by omega)
      have e2 := he n (by omega) (by omega)
      have e3 := sz_cut ks vs (n + 1)
      by_cases hz : n = 0
      · subst hz
        have e4 : szL (ks.take 0) (vs.take 0) = 0 := by simp [szL]
        by_cases h5 : szL (ks.take (0 + 1)) (vs.take (0 + 1)) < 423
        · exact .inr h5
        · refine .inl ⟨0 + 1, by omega, hn, by omega, by omega⟩
      · rcases ih (by omega) (by omega) with h | h
        · exact .inl h
        · by_cases h5 : szL (ks.take (n + 1)) (vs.take (n + 1)) < 423
          · exact .inr h5
          · refine .inl ⟨n + 1, by omega, hn, by omega, by omega⟩
  rcases key (ks.length - 1) (by omega) (by omega) with h | h
  · exact h
  · have e1 := sz_cut ks vs (ks.length - 1)
    have e2 := sz_take ks vs (ks.length - 1) (by omega) (by omega)
    have e3 := he (ks.length - 1) (by omega) (by omega)
    have e4 : ks.length - 1 + 1 = ks.length := by omega
    have e5 : ks.take (ks.length - 1 + 1) = ks := by rw [e4, List.take_length]
    have e6 : vs.take (ks.length - 1 + 1) = vs := by rw [e4, hlen, List.take_length]
    rw [e5, e6] at e2
    exact ⟨ks.length - 1, by omega, by omega, by omega, by omega⟩
end Go.Proofs.Ytbeldjijnjgbfaa
