/-
  Texts put together: Frame, Open, Box, Rows2, Chg.
-/
import Derived.Test.YteimpebfenpifaaGreatDoorRows
import Derived.WalkKit
import Derived.ProofKit
import Derived.SizedLaws
import Derived.OpenShut
import Derived.Deep.Grids
import Derived.Maps.AppendAt
import Derived.Deep.RegionLaw
import Derived.Lib.Hide
import Derived.Deep.Draws
namespace Go.Proofs.YteimpebfenpifaaGreatDoor
open Go.ChangeShapes Go.WideShapes Go.ChangeAt Go.RowKit

theorem own : ownKnob Tryz.prog.godebug = none := by kernel_rfl
theorem laidOut : laidOutB Tryz.prog = true := by kernel_rfl

theorem lt_of_cell {w : World} {b o : Nat} {v : Value} (h : w.cell? ⟨b, o, none⟩ = some v) : b < w.heap.size := by
  rcases Nat.lt_or_ge b w.heap.size with hl | hl
  · exact hl
  · have : w.heap[b]? = none := Array.getElem?_eq_none hl
    simp [World.cell?, this] at h

/-- A block of the call's own, just laid. -/
theorem boxed0 (w : World) (cs : Array Value) (t : TypeId) (f : Nat × Nat) (j : Nat) (v : Value) (h : cs[j]? = some v) : (w.alloc (.cells cs t f)).cell? ⟨w.heap.size, j, none⟩ = some v := by
  have e := (MapKept.heap_alloc w (.cells cs t f)).1
  simp only [World.cell?, e]
  exact h
/-- .. behind a call. -/
theorem boxed {w w1 : World} {cs : Array Value} {t : TypeId} {f : Nat × Nat} {n : Nat} (hb : Below n (w.alloc (.cells cs t f)) w1) (hn : w.heap.size < n) (j : Nat) (v : Value) (h : cs[j]? = some v) : w1.cell? ⟨w.heap.size, j, none⟩ = some v := by
  rw [hb.cell (p := ⟨w.heap.size, j, none⟩) hn]
  exact boxed0 w cs t f j v h
theorem size_alloc (w : World) (o : Obj) : (w.alloc o).heap.size = w.heap.size + 1 := by
  show (w.heap.push o).size = _
  rw [Array.size_push]

/-- A slice that came in: its elements, told by a list. -/
def Sl {α : Type} (w : World) (f : α → Value) (a : Option Addr) (l : List α) : Prop :=
  l ≠ [] → ∃ b off, a = some ⟨b, off, none⟩ ∧ b < w.heap.size ∧ ∀ i x, l[i]? = some x → w.cell? ⟨b, off + i, none⟩ = some (f x)

theorem Sl.of {α : Type} {w : World} {f : α → Value} {a : Addr} {l : List α} (h : ∀ i x, l[i]? = some x → w.cell? (a.add i) = some (f x)) : Sl w f (some a) l := by
  intro hne
  obtain ⟨b, off, spot⟩ := a
  have h0 : 0 < l.length := by cases l with | nil => exact absurd rfl hne | cons _ _ => simp
  have hc := h 0 l[0] (List.getElem?_eq_getElem h0)
  have hspot : spot = none := by simpa [Addr.add] using World.cell?_spot hc
  subst hspot
  refine ⟨b, off, rfl, ?_, fun i x hx => by rw [← add_plain]; exact h i x hx⟩
  rw [add_plain] at hc
  exact lt_of_cell hc

theorem Sl.nil {α : Type} {w : World} {f : α → Value} {a : Option Addr} : Sl w f a ([] : List α) := fun h => absurd rfl h

section
variable {H : Type} {enc : TypeId × Value → H} {P : Program} {w : World} {base : Nat} {v : Value} {d : DataW H} {ps : List MemPlace}

/-- A slice of integers. -/
theorem open_slI {t e : TypeId} {k : IntKind} (ht : P.underlying t = some (.slice e)) (he : P.underlying e = some (.int k)) (hc : P.cellsOf e = 1)
    (hw : Value.okWide P w .any base t v) (h : DataW.Trod enc P w 0 (fun _ => true) true t v d ps) :
    ∃ a cap, ∃ l : List Int, v = .slice a l.length cap ∧ Sl w (Value.int k) a l ∧ (∀ n ∈ l, (Lit.int k n).wf = true) ∧ l.length ≤ maxLen := by
  obtain ⟨a0, len, cap, rfl⟩ := okWide_slice ht hw
  obtain ⟨fuel, hf⟩ := h
  rcases open_ints ht he hc hf with ⟨hcs, _⟩ | ⟨a, len', cap', zs, hcs, _, hl, hm, hz, _, hcell, hwz⟩
  · simp [Value.cells] at hcs
    obtain ⟨rfl, rfl, rfl⟩ := hcs
    exact ⟨none, 0, [], rfl, Sl.nil, fun _ h => by simp at h, Nat.zero_le _⟩
  · simp [Value.cells] at hcs
    obtain ⟨rfl, rfl, rfl⟩ := hcs
    simp only [if_true] at hz
    have hlen : (zs.take len).length = len := by rw [List.length_take]; omega
    refine ⟨some a, cap, zs.take len, by rw [hlen], Sl.of fun i x hx => ?_, fun n hn => hwz n (List.mem_of_mem_take hn), by omega⟩
    have hi : i < len := by
      rcases Nat.lt_or_ge i len with h | h
      · exact h
      · rw [List.getElem?_eq_none (by omega)] at hx; cases hx
    rw [List.getElem?_take_of_lt hi] at hx
    rw [hcell i (by omega), List.getD, hx]
    rfl

/-- A slice of strings. -/
theorem open_slS {t e : TypeId} (ht : P.underlying t = some (.slice e)) (he : P.underlying e = some .string) (hc : P.cellsOf e = 1)
    (hw : Value.okWide P w .any base t v) (h : DataW.Trod enc P w 0 (fun _ => true) true t v d ps) :
    ∃ a cap, ∃ l : List ByteArray, v = .slice a l.length cap ∧ Sl w Value.string a l ∧ (∀ s ∈ l, s.size ≤ maxLen) ∧ l.length ≤ maxLen := by
  obtain ⟨a0, len, cap, rfl⟩ := okWide_slice ht hw
  obtain ⟨fuel, hf⟩ := h
  rcases open_strings ht he hc hf with ⟨hcs, _⟩ | ⟨a, len', cap', zs, hcs, _, hl, hm, hz, _, hcell, hwz⟩
  · simp [Value.cells] at hcs
    obtain ⟨rfl, rfl, rfl⟩ := hcs
    exact ⟨none, 0, [], rfl, Sl.nil, fun _ h => by simp at h, Nat.zero_le _⟩
  · simp [Value.cells] at hcs
    obtain ⟨rfl, rfl, rfl⟩ := hcs
    simp only [if_true] at hz
    have hlen : (zs.take len).length = len := by rw [List.length_take]; omega
    refine ⟨some a, cap, zs.take len, by rw [hlen], Sl.of fun i x hx => ?_, fun n hn => hwz n (List.mem_of_mem_take hn), by omega⟩
    have hi : i < len := by
      rcases Nat.lt_or_ge i len with h | h
      · exact h
      · rw [List.getElem?_eq_none (by omega)] at hx; cases hx
    rw [List.getElem?_take_of_lt hi] at hx
    rw [hcell i (by omega), List.getD, hx]
    rfl

/-- A slice of bools. -/
theorem open_slB {t e : TypeId} (ht : P.underlying t = some (.slice e)) (he : P.underlying e = some .bool) (hc : P.cellsOf e = 1)
    (hw : Value.okWide P w .any base t v) (h : DataW.Trod enc P w 0 (fun _ => true) true t v d ps) :
    ∃ a cap, ∃ l : List Bool, v = .slice a l.length cap ∧ Sl w Value.bool a l ∧ True ∧ l.length ≤ maxLen := by
  obtain ⟨a0, len, cap, rfl⟩ := okWide_slice ht hw
  obtain ⟨fuel, hf⟩ := h
  rcases Go.Deep.open_bools ht he hc hf with ⟨hcs, _⟩ | ⟨a, len', cap', B, hcs, _, hl, hm, _, hcell⟩
  · simp [Value.cells] at hcs
    obtain ⟨rfl, rfl, rfl⟩ := hcs
    exact ⟨none, 0, [], rfl, Sl.nil, trivial, Nat.zero_le _⟩
  · simp [Value.cells] at hcs
    obtain ⟨rfl, rfl, rfl⟩ := hcs
    refine ⟨some a, cap, (List.range len).map B, by simp, Sl.of fun i x hx => ?_, trivial, by simp; omega⟩
    have hi : i < len := by
      rcases Nat.lt_or_ge i len with h | h
      · exact h
      · rw [List.getElem?_eq_none (by simp; omega)] at hx; cases hx
    rw [hcell i (by omega)]
    rw [List.getElem?_map, List.getElem?_range hi] at hx
    simp at hx
    rw [hx]
end
end Go.Proofs.YteimpebfenpifaaGreatDoor

namespace Go.Proofs.YteimpebfenpifaaGreatDoor
open Go.ChangeShapes Go.WideShapes Go.ChangeAt Go.RowKit

/-- A slice that came in, of elements of n cells each. -/
def SlE {α : Type} (w : World) (n : Nat) (E : List Value → α → Prop) (a : Option Addr) (l : List α) : Prop :=
  l ≠ [] → ∃ b off, a = some ⟨b, off, none⟩ ∧ b < w.heap.size ∧
    ∀ i x, l[i]? = some x → ∃ cs, cs.length = n ∧ E cs x ∧ ∀ j u, cs[j]? = some u → w.cell? ⟨b, off + i * n + j, none⟩ = some u

theorem SlE.nil {α : Type} {w : World} {n : Nat} {E : List Value → α → Prop} {a : Option Addr} : SlE w n E a ([] : List α) := fun h => absurd rfl h

section
variable {H : Type} {enc : TypeId × Value → H} {P : Program} {w : World}

theorem open_slE {α : Type} [Inhabited α] {t e : TypeId} {n : Nat} {spare : Nat → Bool} {held : Bool} {fuel : Nat} {cs : List Value} {x : DataW H × List MemPlace}
    (E : List Value → α → Prop) (ht : P.underlying t = some (.slice e)) (hn : P.cellsOf e = n) (h0 : 0 < n)
    (hE : ∀ fuel cs x, DataW.trod enc P w 0 spare held fuel e cs = some x → ∃ y, E cs y)
    (h : DataW.trod enc P w 0 spare held fuel t cs = some x) :
    ∃ a cap, ∃ l : List α, cs = [.slice a l.length cap] ∧ SlE w n E a l ∧ l.length ≤ maxLen := by
  rcases Go.Deep.open_slice ht h with ⟨rfl, _⟩ | ⟨a, len, cap, m, k, D, Pl, rfl, _, hl, hm, hmm, _, hx⟩
  · exact ⟨none, 0, [], rfl, SlE.nil, Nat.zero_le _⟩
  · have hlm : len ≤ m := by rw [hmm]; split <;> omega
    rw [hn] at hx
    have each : ∀ i, i < len → ∃ q : List Value × α, q.1.length = n ∧ E q.1 q.2 ∧ ∀ j u, q.1[j]? = some u → w.cell? (a.add (i * n + j)) = some u := by
      intro i hi
      obtain ⟨cs', h1, h2⟩ := hx i (by omega)
      obtain ⟨_, hlen, hcell⟩ := World.cells?_some h1
      obtain ⟨y, hy⟩ := hE _ _ _ h2
      refine ⟨(cs', y), hlen, hy, fun j u hj => ?_⟩
      have hjl : j < n := by
        rcases Nat.lt_or_ge j n with h | h
        · exact h
        · rw [List.getElem?_eq_none (by simp only; omega)] at hj; cases hj
      have := hcell j hjl
      rw [Go.Deep.add_add] at this
      rw [this]; exact hj
    haveI : Inhabited (List Value × α) := ⟨([], default)⟩
    obtain ⟨q, hq⟩ := Go.Deep.choose_lt each
    refine ⟨some a, cap, (List.range len).map fun i => (q i).2, by simp, fun hne => ?_, by simp; omega⟩
    have hpos : 0 < len := by
      rcases Nat.eq_zero_or_pos len with h | h
      · subst h; exact absurd rfl hne
      · exact h
    obtain ⟨b, off, spot⟩ := a
    have hc0 : ∃ u, w.cell? ((⟨b, off, spot⟩ : Addr).add (0 * n + 0)) = some u := by
      have h1 := (hq 0 hpos).1
      have h2 : 0 < (q 0).1.length := by omega
      exact ⟨_, (hq 0 hpos).2.2 0 _ (List.getElem?_eq_getElem h2)⟩
    obtain ⟨u, hu⟩ := hc0
    have hspot : spot = none := by simpa [Addr.add] using World.cell?_spot hu
    subst hspot
    refine ⟨b, off, rfl, ?_, fun i y hy => ?_⟩
    · rw [add_plain] at hu
      exact lt_of_cell hu
    · have hi : i < len := by
        rcases Nat.lt_or_ge i len with h | h
        · exact h
        · rw [List.getElem?_eq_none (by simp; omega)] at hy; cases hy
      rw [List.getElem?_map, List.getElem?_range hi] at hy
      simp only [Option.map_some, Option.some.injEq] at hy
      subst hy
      refine ⟨(q i).1, (hq i hi).1, (hq i hi).2.1, fun j u hj => ?_⟩
      rw [Nat.add_assoc, ← add_plain]
      exact (hq i hi).2.2 j u hj

/-- Two ints. -/
def PairI (cs : List Value) (x : Int × Int) : Prop := cs = [.int .i64 x.1, .int .i64 x.2] ∧ (Lit.int .i64 x.1).wf = true ∧ (Lit.int .i64 x.2).wf = true

theorem open_pairI {t t0 t1 : TypeId} {f0 f1 : Field} {spare : Nat → Bool} {held : Bool} {fuel : Nat} {cs : List Value} {x : DataW H × List MemPlace}
    (ht : P.underlying t = some (.struct #[f0, f1])) (hc : P.cellsOf t = 2) (o0 : f0.offset = 0) (o1 : f1.offset = 1) (e0 : f0.type = t0) (e1 : f1.type = t1)
    (c0 : P.cellsOf t0 = 1) (c1 : P.cellsOf t1 = 1) (u0 : P.underlying t0 = some (.int .i64)) (u1 : P.underlying t1 = some (.int .i64))
    (h : DataW.trod enc P w 0 spare held fuel t cs = some x) : ∃ y, PairI cs y := by
  obtain ⟨y0, y1, n, _, hl, h0, h1⟩ := trod_struct2 ht h
  rw [hc] at hl
  rw [o0, e0, c0] at h0
  rw [o1, e1, c1] at h1
  match cs, hl with
  | [v0, v1], _ =>
    obtain ⟨a, ha, _, wa⟩ := DataW.trod_int u0 h0
    obtain ⟨b, hb, _, wb⟩ := DataW.trod_int u1 h1
    simp at ha hb
    exact ⟨(a, b), by simp [ha, hb], wa, wb⟩
end
end Go.Proofs.YteimpebfenpifaaGreatDoor

namespace Go.Proofs.YteimpebfenpifaaGreatDoor
open Go.RowKit

/-- Block b holds cs. -/
def Box (w : World) (b : Nat) (t : TypeId) (cs : Array Value) : Prop := w.heap[b]? = some (.cells cs t (0, 0))
theorem Box.cell {w : World} {b : Nat} {t : TypeId} {cs : Array Value} (h : Box w b t cs) (j : Nat) (v : Value) (hv : cs[j]? = some v) : w.cell? ⟨b, j, none⟩ = some v := by
  unfold Box at h
  simp only [World.cell?, h]
  exact hv
theorem Box.free {w : World} {b : Nat} {t : TypeId} {cs : Array Value} (h : Box w b t cs) (j : Nat) : w.frozen? ⟨b, j, none⟩ = false := by
  unfold Box at h
  simp [World.frozen?, h]
theorem Box.set {w : World} {b : Nat} {t : TypeId} {cs : Array Value} (h : Box w b t cs) (j : Nat) (v : Value) : Box (w.setCell ⟨b, j, none⟩ v) b t (cs.setIfInBounds j v) :=
  heap_setCell_same w b j cs t v h
theorem Box.lt {w : World} {b : Nat} {t : TypeId} {cs : Array Value} (h : Box w b t cs) : b < w.heap.size := lt_of_block h
theorem Box.of {w w' : World} {b : Nat} {t : TypeId} {cs : Array Value} (h : Box w b t cs) (e : w'.heap[b]? = w.heap[b]?) : Box w' b t cs := by unfold Box; rw [e]; exact h
theorem Box.keep {w w' : World} {b n : Nat} {t : TypeId} {cs : Array Value} (h : Box w b t cs) (hb : Below n w w') (hn : b < n) : Box w' b t cs := h.of (hb.block b hn)
theorem Box.new (w : World) (t : TypeId) (cs : Array Value) : Box (w.alloc (.cells cs t (0, 0))) w.heap.size t cs := (MapKept.heap_alloc w _).1
theorem Box.alloc {w : World} {b : Nat} {t : TypeId} {cs : Array Value} (h : Box w b t cs) (o : Obj) : Box (w.alloc o) b t cs := h.keep ((Below.refl _ _).alloc (Nat.le_refl _) o) h.lt

/-- Block b alone has changed (and blocks were made). -/
def Only (b : Nat) (w w' : World) : Prop := w.grownBy w' (some b)
theorem Only.refl (b : Nat) (w : World) : Only b w w := ⟨rfl, rfl, rfl, Nat.le_refl _, fun _ _ _ => rfl⟩
theorem Only.trans {b : Nat} {w w1 w2 : World} (h : Only b w w1) (k : Only b w1 w2) : Only b w w2 :=
  ⟨k.os.trans h.os, k.tape.trans h.tape, k.output.trans h.output, Nat.le_trans h.size k.size, fun i hi hne => (k.block i (Nat.lt_of_lt_of_le hi h.size) hne).trans (h.block i hi hne)⟩
theorem Only.set (b j : Nat) (w : World) (v : Value) : Only b w (w.setCell ⟨b, j, none⟩ v) :=
  ⟨rfl, rfl, rfl, Nat.le_of_eq (Array.size_modify ..).symm, fun i _ hne => heap_setCell_other w _ i v (fun e => hne (by rw [e]))⟩
theorem Only.of {b n : Nat} {w w' : World} (h : Below n w w') (hn : w.heap.size ≤ n) : Only b w w' := ⟨h.os, h.tape, h.output, h.size, fun i hi _ => h.block i (Nat.lt_of_lt_of_le hi hn)⟩
theorem Only.below {b : Nat} {w w' : World} (h : Only b w w') (hb : b < w.heap.size) : Below b w w' := ⟨h.os, h.tape, h.output, h.size, fun i hi => h.block i (Nat.lt_trans hi hb) (fun e => by injection e with e; omega)⟩
theorem Only.below' {b n : Nat} {w w' : World} (h : Only b w w') (hb : n ≤ b) (hn : n ≤ w.heap.size) : Below n w w' := ⟨h.os, h.tape, h.output, h.size, fun i hi => h.block i (Nat.lt_of_lt_of_le hi hn) (fun e => by injection e with e; omega)⟩
theorem Only.box {b k : Nat} {w w' : World} {t : TypeId} {cs : Array Value} (h : Only b w w') (hk : k ≠ b) (hx : Box w k t cs) : Box w' k t cs := hx.of (h.block k hx.lt (fun e => hk (by injection e)))
theorem Only.row {b : Nat} {w w' : World} {base : Nat} {e : TypeId} {sz : Nat} {v : Value} {n : Nat} {xs : List Value} (h : Only b w w') (hv : v.ownBlock ≠ some b) (hx : w.ownsRow base e sz v n xs) : w'.ownsRow base e sz v n xs := by
  refine ⟨hx.1, ?_⟩
  rcases hx.2 with ⟨rfl, h0⟩ | ⟨g, cap, cur, rfl, hg, hh, h3⟩
  · exact .inl ⟨rfl, h0⟩
  · exact .inr ⟨g, cap, cur, rfl, hg, by rw [h.block g (lt_of_block hh) (fun e => hv e)]; exact hh, h3⟩
end Go.Proofs.YteimpebfenpifaaGreatDoor

namespace Go.Proofs.YteimpebfenpifaaGreatDoor
open Go.RowKit

theorem flat_len {α : Type} (f : α → List Value) (n : Nat) (hn : ∀ x, (f x).length = n) : ∀ l : List α, (l.flatMap f).length = l.length * n
  | [] => by simp
  | x :: r => by rw [List.flatMap_cons, List.length_append, hn, flat_len f n hn r, List.length_cons, Nat.add_mul]; omega

theorem flat_get {α : Type} (f : α → List Value) (n : Nat) (hn : ∀ x, (f x).length = n) : ∀ (l : List α) (i : Nat) (x : α), l[i]? = some x → ∀ j, j < n → (l.flatMap f)[i * n + j]? = (f x)[j]?
  | [], i, x, h, _, _ => by simp at h
  | y :: r, 0, x, h, j, hj => by
    simp only [List.getElem?_cons_zero, Option.some.injEq] at h
    subst h
    rw [List.flatMap_cons, Nat.zero_mul, Nat.zero_add, List.getElem?_append_left (by rw [hn]; exact hj)]
  | y :: r, i + 1, x, h, j, hj => by
    simp only [List.getElem?_cons_succ] at h
    have h1 := flat_get f n hn r i x h j hj
    rw [List.flatMap_cons, List.getElem?_append_right (by rw [hn, Nat.add_mul]; omega), hn, ← h1]
    congr 1
    rw [Nat.add_mul]; omega

/-- Whatever holds of the row's block holds of the row. -/
theorem ownsRow_of {w w' : World} {base : Nat} {e : TypeId} {sz : Nat} {v : Value} {n : Nat} {xs : List Value} (h : w.ownsRow base e sz v n xs) (hb : ∀ k, v.ownBlock = some k → k < w.heap.size → w'.heap[k]? = w.heap[k]?) : w'.ownsRow base e sz v n xs := by
  refine ⟨h.1, ?_⟩
  rcases h.2 with ⟨rfl, h0⟩ | ⟨g, cap, cur, rfl, hg, hh, h3⟩
  · exact .inl ⟨rfl, h0⟩
  · exact .inr ⟨g, cap, cur, rfl, hg, by rw [hb g rfl (lt_of_block hh)]; exact hh, h3⟩
theorem ownsRow_lt {w : World} {base : Nat} {e : TypeId} {sz : Nat} {v : Value} {n : Nat} {xs : List Value} (h : w.ownsRow base e sz v n xs) (k : Nat) (hk : v.ownBlock = some k) : k < w.heap.size := by
  rcases h.2 with ⟨rfl, h0⟩ | ⟨g, cap, cur, rfl, hg, hh, h3⟩
  · cases hk
  · simp [Value.ownBlock] at hk; subst hk; exact lt_of_block hh
end Go.Proofs.YteimpebfenpifaaGreatDoor

namespace Go.Proofs.YteimpebfenpifaaGreatDoor
open Go.RowKit

/-- Blocks outside S are as they were (and blocks were made). -/
structure Chg (S : List Nat) (w w' : World) : Prop where
  os : w'.os = w.os
  tape : w'.tape = w.tape
  output : w'.output = w.output
  size : w.heap.size ≤ w'.heap.size
  block : ∀ k, k < w.heap.size → k ∉ S → w'.heap[k]? = w.heap[k]?
theorem Chg.refl (S : List Nat) (w : World) : Chg S w w := ⟨rfl, rfl, rfl, Nat.le_refl _, fun _ _ _ => rfl⟩
theorem Chg.trans {S : List Nat} {w w1 w2 : World} (h : Chg S w w1) (k : Chg S w1 w2) : Chg S w w2 :=
  ⟨k.os.trans h.os, k.tape.trans h.tape, k.output.trans h.output, Nat.le_trans h.size k.size, fun i hi hn => (k.block i (Nat.lt_of_lt_of_le hi h.size) hn).trans (h.block i hi hn)⟩
theorem Chg.mono {S S' : List Nat} {w w' : World} (h : Chg S w w') (hS : ∀ k ∈ S, k ∈ S') : Chg S' w w' := ⟨h.os, h.tape, h.output, h.size, fun k hk hn => h.block k hk (fun h => hn (hS k h))⟩
/-- A second change may also touch what the first one made. -/
theorem Chg.then {S S' : List Nat} {w w1 w2 : World} (h : Chg S w w1) (k : Chg S' w1 w2) (hS : ∀ i ∈ S', i ∈ S ∨ w.heap.size ≤ i) : Chg S w w2 :=
  ⟨k.os.trans h.os, k.tape.trans h.tape, k.output.trans h.output, Nat.le_trans h.size k.size, fun i hi hn =>
    (k.block i (Nat.lt_of_lt_of_le hi h.size) (fun hm => by rcases hS i hm with h1 | h1; exact hn h1; omega)).trans (h.block i hi hn)⟩
theorem Chg.of {S : List Nat} {w w' : World} {n : Nat} (h : Below n w w') (hn : w.heap.size ≤ n) : Chg S w w' := ⟨h.os, h.tape, h.output, h.size, fun k hk _ => h.block k (Nat.lt_of_lt_of_le hk hn)⟩
theorem Chg.only {b : Nat} {w w' : World} (h : Only b w w') : Chg [b] w w' := ⟨h.os, h.tape, h.output, h.size, fun k hk hn => h.block k hk (fun e => hn (by injection e with e; simp [e]))⟩
/-- What touches only blocks from n on leaves all below n. -/
theorem Chg.below {S : List Nat} {w w' : World} {n : Nat} (h : Chg S w w') (hn : n ≤ w.heap.size) (hS : ∀ k ∈ S, n ≤ k) : Below n w w' :=
  ⟨h.os, h.tape, h.output, h.size, fun k hk => h.block k (Nat.lt_of_lt_of_le hk hn) (fun hm => by have := hS k hm; omega)⟩
theorem Chg.drewN {S : List Nat} {w w' : World} (h : Chg S w w') (n : Nat) : Chg S w (w'.drewN n) := ⟨h.os, h.tape, h.output, h.size, h.block⟩
theorem Chg.drew {S : List Nat} {w w' : World} (h : Chg S w w') : Chg S w w'.drew := ⟨h.os, h.tape, h.output, h.size, h.block⟩
theorem Chg.set {S : List Nat} {w w' : World} (h : Chg S w w') (b j : Nat) (v : Value) (hb : b ∈ S ∨ w.heap.size ≤ b) : Chg S w (w'.setCell ⟨b, j, none⟩ v) :=
  h.then (Chg.only (Only.set b j w' v)) (fun i hi => by rw [List.mem_singleton] at hi; rw [hi]; exact hb)
theorem Chg.alloc {S : List Nat} {w w' : World} (h : Chg S w w') (o : Obj) : Chg S w (w'.alloc o) := h.trans (Chg.of ((Below.refl _ _).alloc (Nat.le_refl _) o) (Nat.le_refl _))
theorem Chg.grown {S : List Nat} {w w' : World} {row : Option Nat} (h : w.grownBy w' row) (hr : ∀ k, row = some k → k ∈ S) : Chg S w w' :=
  ⟨h.os, h.tape, h.output, h.size, fun k hk hn => h.block k hk (fun e => hn (hr k e.symm))⟩

/-- What lies in blocks G alone, and stays as long as these do. -/
structure Fixed (P : List Nat → World → Prop) : Prop where
  keep : ∀ G S w1 w2, P G w1 → Chg S w1 w2 → (∀ k ∈ G, k ∉ S) → P G w2
  lt : ∀ G w, P G w → ∀ k ∈ G, k < w.heap.size
def NoP (G : List Nat) (_w : World) : Prop := G = []
theorem fixed_no : Fixed NoP := ⟨fun _ _ _ _ h _ _ => h, fun G _ h k hk => by rw [h] at hk; cases hk⟩
def Both (P Q : List Nat → World → Prop) (G : List Nat) (w : World) : Prop := ∃ G1 G2, G = G1 ++ G2 ∧ P G1 w ∧ Q G2 w ∧ ∀ k ∈ G1, k ∉ G2
theorem fixed_both {P Q : List Nat → World → Prop} (hP : Fixed P) (hQ : Fixed Q) : Fixed (Both P Q) := by
  refine ⟨?_, ?_⟩
  · rintro G S w1 w2 ⟨G1, G2, rfl, h1, h2, hd⟩ hc hn
    exact ⟨G1, G2, rfl, hP.keep _ _ _ _ h1 hc (fun k hk => hn k (List.mem_append_left _ hk)), hQ.keep _ _ _ _ h2 hc (fun k hk => hn k (List.mem_append_right _ hk)), hd⟩
  · rintro G w ⟨G1, G2, rfl, h1, h2, _⟩ k hk
    rcases List.mem_append.1 hk with h | h
    · exact hP.lt _ _ h1 k h
    · exact hQ.lt _ _ h2 k h
/-- What the call owns, all from B on: P, and Q beside it. -/
def Sep (B : Nat) (P Q : List Nat → World → Prop) (w : World) : Prop := B ≤ w.heap.size ∧ ∃ G F, P G w ∧ Q F w ∧ (∀ k ∈ F, B ≤ k ∧ k ∉ G) ∧ ∀ k ∈ G, B ≤ k
/-- A call turned Q into Q': it touched Q's blocks alone, and Q' has no others but new ones. -/
def Tod (Q' : List Nat → World → Prop) (F : List Nat) (w w' : World) : Prop := ∃ F', Q' F' w' ∧ Chg F w w' ∧ ∀ k ∈ F', k ∈ F ∨ w.heap.size ≤ k
theorem Tod.trans {Q1 Q2 : List Nat → World → Prop} {F : List Nat} {w w1 w2 : World} (h : Tod Q1 F w w1) (k : ∀ F1, Q1 F1 w1 → Tod Q2 F1 w1 w2) : Tod Q2 F w w2 := by
  obtain ⟨F1, h1, h2, h3⟩ := h
  obtain ⟨F2, k1, k2, k3⟩ := k F1 h1
  refine ⟨F2, k1, h2.then k2 h3, fun i hi => ?_⟩
  rcases k3 i hi with h4 | h4
  · exact h3 i h4
  · exact .inr (Nat.le_trans h2.size h4)
/-- A call that leaves old memory alone. -/
theorem Tod.same {Q : List Nat → World → Prop} (hQ : Fixed Q) {F : List Nat} {w w' : World} (h : Q F w) (hb : Below w.heap.size w w') : Tod Q F w w' :=
  have hc : Chg [] w w' := Chg.of hb (Nat.le_refl _)
  ⟨F, hQ.keep _ _ _ _ h hc (fun _ _ h => by cases h), hc.mono (fun _ h => by cases h), fun _ h => .inl h⟩
theorem Tod.size {Q : List Nat → World → Prop} {F : List Nat} {w w' : World} (h : Tod Q F w w') : w.heap.size ≤ w'.heap.size := by
  obtain ⟨_, _, h, _⟩ := h
  exact h.size
theorem Sep.to {B : Nat} {P Q Q' : List Nat → World → Prop} {w w' : World} (hP : Fixed P) (h : Sep B P Q w) (k : ∀ F, Q F w → Tod Q' F w w') : Sep B P Q' w' ∧ Below B w w' := by
  obtain ⟨hz, G, F, h1, h2, h3, h4⟩ := h
  obtain ⟨F', k1, k2, k3⟩ := k F h2
  refine ⟨⟨Nat.le_trans hz k2.size, G, F', hP.keep _ _ _ _ h1 k2 (fun i hi hf => (h3 i hf).2 hi), k1, fun i hi => ?_, h4⟩, k2.below hz (fun i hi => (h3 i hi).1)⟩
  rcases k3 i hi with h5 | h5
  · exact h3 i h5
  · exact ⟨Nat.le_trans hz h5, fun hg => by have := hP.lt _ _ h1 i hg; omega⟩
theorem Sep.keep {B : Nat} {P Q : List Nat → World → Prop} {w w' : World} (hP : Fixed P) (hQ : Fixed Q) (h : Sep B P Q w) (hb : Below w.heap.size w w') : Sep B P Q w' := by
  obtain ⟨hz, G, F, h1, h2, h3, h4⟩ := h
  have hc : Chg [] w w' := Chg.of hb (Nat.le_refl _)
  exact ⟨Nat.le_trans hz hb.size, G, F, hP.keep _ _ _ _ h1 hc (fun _ _ h => by cases h), hQ.keep _ _ _ _ h2 hc (fun _ _ h => by cases h), h3, h4⟩
/-- What a call made joins what is owned. -/
theorem Sep.more {B : Nat} {P Q R : List Nat → World → Prop} {w w' : World} (hP : Fixed P) (hQ : Fixed Q) (h : Sep B P Q w) (hb : Below w.heap.size w w') {H : List Nat} (hR : R H w') (hn : ∀ k ∈ H, w.heap.size ≤ k) : Sep B (Both P R) Q w' := by
  obtain ⟨hz, G, F, h1, h2, h3, h4⟩ := h
  have hc : Chg [] w w' := Chg.of hb (Nat.le_refl _)
  have l1 := hP.lt _ _ h1
  have l2 := hQ.lt _ _ h2
  refine ⟨Nat.le_trans hz hb.size, G ++ H, F, ⟨G, H, rfl, hP.keep _ _ _ _ h1 hc (fun _ _ h => by cases h), hR, fun k hk hh => ?_⟩, hQ.keep _ _ _ _ h2 hc (fun _ _ h => by cases h), fun k hk => ⟨(h3 k hk).1, fun hm => ?_⟩, fun k hk => ?_⟩
  · have := l1 k hk; have := hn k hh; omega
  · rcases List.mem_append.1 hm with h5 | h5
    · exact (h3 k hk).2 h5
    · have := l2 k hk; have := hn k h5; omega
  · rcases List.mem_append.1 hk with h5 | h5
    · exact h4 k h5
    · have := hn k h5; omega
/-- The two change places: to speak of what lay beside. -/
theorem Sep.swap {B : Nat} {P Q R : List Nat → World → Prop} {w : World} (h : Sep B (Both P R) Q w) : Sep B (Both P Q) R w := by
  obtain ⟨hz, G, F, ⟨G1, G2, rfl, h1, h2, hd⟩, h3, h4, h5⟩ := h
  refine ⟨hz, G1 ++ F, G2, ⟨G1, F, rfl, h1, h3, fun k hk hf => (h4 k hf).2 (List.mem_append_left _ hk)⟩, h2, fun k hk => ⟨h5 k (List.mem_append_right _ hk), fun hm => ?_⟩, fun k hk => ?_⟩
  · rcases List.mem_append.1 hm with h6 | h6
    · exact hd k h6 hk
    · exact (h4 k h6).2 (List.mem_append_right _ hk)
  · rcases List.mem_append.1 hk with h6 | h6
    · exact h5 k (List.mem_append_left _ h6)
    · exact (h4 k h6).1
theorem Sep.first {B : Nat} {P Q : List Nat → World → Prop} {w : World} (h : Sep B P Q w) : ∃ G, P G w ∧ ∀ k ∈ G, B ≤ k := by
  obtain ⟨_, G, _, h1, _, _, h4⟩ := h
  exact ⟨G, h1, h4⟩
theorem Sep.own {B : Nat} {P Q : List Nat → World → Prop} {w : World} (h : Sep B P Q w) : ∃ F, Q F w ∧ ∀ k ∈ F, B ≤ k := by
  obtain ⟨_, _, F, _, h2, h3, _⟩ := h
  exact ⟨F, h2, fun k hk => (h3 k hk).1⟩
theorem Sep.new {B : Nat} {Q : List Nat → World → Prop} {w w' : World} (hz : B ≤ w.heap.size) (hb : w.heap.size ≤ w'.heap.size) {F : List Nat} (h : Q F w') (hn : ∀ k ∈ F, w.heap.size ≤ k) : Sep B NoP Q w' :=
  ⟨Nat.le_trans hz hb, [], F, rfl, h, fun k hk => ⟨Nat.le_trans hz (hn k hk), fun h => by cases h⟩, fun _ h => by cases h⟩
end Go.Proofs.YteimpebfenpifaaGreatDoor
