/-
  Arguments of the statements of package dev, opened: a Loc; a slice of calls.
-/
import Derived.Test.YtflobdhhjfpcdaaOpen
import Derived.Test.YtflobdhhjfpcdaaDevOps
namespace Go.Proofs.Ytflobdhhjfpcdaa
open Go.ChangeShapes Go.WideShapes Go.ChangeAt Go.RowKit

theorem cellsLoc : Try.prog.cellsOf 29 = 2 := by kernel_rfl
theorem cellsInt : Try.prog.cellsOf 3 = 1 := by kernel_rfl
theorem cellsStr : Try.prog.cellsOf 9 = 1 := by kernel_rfl
theorem cellsBool : Try.prog.cellsOf 4 = 1 := by kernel_rfl
theorem cellsBools : Try.prog.cellsOf 30 = 1 := by kernel_rfl
theorem cellsOp : Try.prog.cellsOf 32 = 5 := by kernel_rfl

/-- A call, as data. -/
structure OpD where
  act : Int
  l : Int × Int
  s : ByteArray
  ka : Option Addr
  kc : Nat
  keep : List Bool
instance : Inhabited OpD := ⟨⟨0, (0, 0), ⟨#[]⟩, none, 0, []⟩⟩
def OpD.cells (x : OpD) : List Value := [.int .i64 x.act, .int .i64 x.l.1, .int .i64 x.l.2, .string x.s, .slice x.ka x.keep.length x.kc]
def OpE (w : World) (cs : List Value) (x : OpD) : Prop := cs = x.cells ∧ Sl w Value.bool x.ka x.keep ∧ x.keep.length ≤ maxLen ∧ x.s.size ≤ maxLen

section
variable {H : Type} {enc : TypeId × Value → H} {w : World}

set_option maxRecDepth 100000 in
theorem open_loc {spare : Nat → Bool} {held : Bool} {fuel : Nat} {cs : List Value} {x : DataW H × List MemPlace} (h : DataW.trod enc Try.prog w 0 spare held fuel 29 cs = some x) : ∃ y, PairI cs y :=
  open_pairI Try.underlying29 cellsLoc rfl rfl rfl rfl cellsInt cellsInt Try.underlying3 Try.underlying3 h

theorem open_locA {base : Nat} {v : Value} {d : DataW H} {ps : List MemPlace} (hw : Value.okWide Try.prog w .any base 29 v) (h : DataW.Trod enc Try.prog w 0 (fun _ => true) true 29 v d ps) :
    ∃ y : Int × Int, v = .agg #[.int .i64 y.1, .int .i64 y.2] := by
  obtain ⟨cs, rfl, _⟩ := okWide_struct Try.underlying29 hw
  obtain ⟨fuel, hf⟩ := h
  obtain ⟨y, hy, _, _⟩ := open_loc hf
  obtain ⟨cl⟩ := cs
  simp [Value.cells] at hy
  exact ⟨y, by rw [hy]⟩

set_option maxRecDepth 100000 in
theorem open_bls {held : Bool} {fuel : Nat} {cs : List Value} {x : DataW H × List MemPlace} (h : DataW.trod enc Try.prog w 0 (fun _ => true) held fuel 30 cs = some x) :
    ∃ a cap, ∃ l : List Bool, cs = [.slice a l.length cap] ∧ Sl w Value.bool a l ∧ l.length ≤ maxLen := by
  rcases Go.Deep.open_bools Try.underlying30 Try.underlying4 cellsBool h with ⟨hcs, _⟩ | ⟨a, len', cap', B, hcs, _, hl, hm, _, hcell⟩
  · exact ⟨none, 0, [], by rw [hcs]; rfl, Sl.nil, Nat.zero_le _⟩
  · refine ⟨some a, cap', (List.range len').map B, by rw [hcs]; simp, Sl.of fun i x hx => ?_, by simp; omega⟩
    have hi : i < len' := by
      rcases Nat.lt_or_ge i len' with h | h
      · exact h
      · rw [List.getElem?_eq_none (by simp; omega)] at hx; cases hx
    rw [hcell i (by omega)]
    rw [List.getElem?_map, List.getElem?_range hi] at hx
    simp at hx
    rw [hx]

set_option maxRecDepth 100000 in
theorem open_op {held : Bool} {fuel : Nat} {cs : List Value} {x : DataW H × List MemPlace} (h : DataW.trod enc Try.prog w 0 (fun _ => true) held fuel 32 cs = some x) : ∃ y, OpE w cs y := by
  obtain ⟨xs, n, _, _, hl, hlen, hfield⟩ := DataW.trod_struct Try.underlying32 h
  rw [cellsOp] at hl
  have g0 : DataW.trod enc Try.prog w 0 _ _ n 3 ((cs.drop 0).take (Try.prog.cellsOf 3)) = xs[0]? := hfield 0 _ rfl
  have g1 : DataW.trod enc Try.prog w 0 _ _ n 29 ((cs.drop 1).take (Try.prog.cellsOf 29)) = xs[1]? := hfield 1 _ rfl
  have g2 : DataW.trod enc Try.prog w 0 _ _ n 9 ((cs.drop 3).take (Try.prog.cellsOf 9)) = xs[2]? := hfield 2 _ rfl
  have g3 : DataW.trod enc Try.prog w 0 _ _ n 30 ((cs.drop 4).take (Try.prog.cellsOf 30)) = xs[3]? := hfield 3 _ rfl
  rw [cellsInt] at g0
  rw [cellsLoc] at g1
  rw [cellsStr] at g2
  rw [cellsBools] at g3
  have hlen4 : xs.length = 4 := hlen
  match cs, hl, xs, hlen4 with
  | [v0, v1, v2, v3, v4], _, [x0, x1, x2, x3], _ =>
    obtain ⟨b, e0, _, _⟩ := DataW.trod_int Try.underlying3 g0
    obtain ⟨y, e1, _, _⟩ := open_loc g1
    obtain ⟨t, e2, _, ht⟩ := DataW.trod_string Try.underlying9 g2
    obtain ⟨ka, kc, l, e3, hs, hm⟩ := open_bls g3
    simp at e0 e1 e2 e3
    exact ⟨⟨b, y, t, ka, kc, l⟩, by simp [OpD.cells, e0, e1, e2, e3], hs, hm, ht⟩

set_option maxRecDepth 100000 in
theorem open_ops {base : Nat} {v : Value} {d : DataW H} {ps : List MemPlace} (hw : Value.okWide Try.prog w .any base 22 v) (h : DataW.Trod enc Try.prog w 0 (fun _ => true) true 22 v d ps) :
    ∃ a cap, ∃ l : List OpD, v = .slice a l.length cap ∧ SlE w 5 (OpE w) a l ∧ l.length ≤ maxLen := by
  obtain ⟨a0, len, cap, rfl⟩ := okWide_slice Try.underlying22 hw
  obtain ⟨fuel, hf⟩ := h
  obtain ⟨a, cap', l, e, hs, hm⟩ := open_slE (n := 5) (OpE w) Try.underlying22 cellsOp (by decide) (fun _ _ _ h => open_op h) hf
  simp [Value.cells] at e
  obtain ⟨rfl, rfl, rfl⟩ := e
  exact ⟨_, _, l, rfl, hs, hm⟩
end

/-- The cells of the i-th call. -/
theorem SlE.op {w : World} {a : Option Addr} {l : List OpD} (h : SlE w 5 (OpE w) a l) (i : Nat) (hi : i < l.length) : ∃ b off, a = some ⟨b, off, none⟩ ∧ b < w.heap.size ∧
    (∀ j u, l[i].cells[j]? = some u → w.cell? ⟨b, off + i * 5 + j, none⟩ = some u) ∧ Sl w Value.bool l[i].ka l[i].keep := by
  obtain ⟨b, off, e, hl, hc⟩ := h (by intro h; rw [h] at hi; simp at hi)
  obtain ⟨cs, _, ⟨rfl, hs, _, _⟩, hcell⟩ := hc i l[i] (List.getElem?_eq_getElem hi)
  exact ⟨b, off, e, hl, hcell, hs⟩
theorem Sl.keep {α : Type} {w w' : World} {f : α → Value} {a : Option Addr} {l : List α} (h : Sl w f a l) (hb : Below w.heap.size w w') : Sl w' f a l := by
  intro hne
  obtain ⟨b, off, e, hl, hc⟩ := h hne
  exact ⟨b, off, e, Nat.lt_of_lt_of_le hl hb.size, fun i x hx => by rw [hb.cell (p := ⟨b, off + i, none⟩) hl]; exact hc i x hx⟩
end Go.Proofs.Ytflobdhhjfpcdaa
