/-
  The argument of UberCrash, opened.
-/
import Derived.Test.YtcdjchpmgekjgabDoorFrame
namespace Go.Proofs.YtcdjchpmgekjgabDoor
open Go.ChangeShapes Go.WideShapes Go.ChangeAt Go.RowKit

theorem cellsInt : Tryd.prog.cellsOf 3 = 1 := by kernel_rfl
theorem cellsStr : Tryd.prog.cellsOf 9 = 1 := by kernel_rfl
theorem cellsBool : Tryd.prog.cellsOf 4 = 1 := by kernel_rfl
theorem cellsBools : Tryd.prog.cellsOf 22 = 1 := by kernel_rfl
theorem cellsTwo : Tryd.prog.cellsOf 24 = 4 := by kernel_rfl
structure TwoD where
  t : Int
  a : ByteArray
  b : ByteArray
  keep : List Bool
section
variable {H : Type} {enc : TypeId × Value → H} {w : World}
set_option maxRecDepth 100000 in
theorem open_bls {held : Bool} {fuel : Nat} {cs : List Value} {x : DataW H × List MemPlace} (h : DataW.trod enc Tryd.prog w 0 (fun _ => true) held fuel 22 cs = some x) :
    ∃ a cap, ∃ l : List Bool, cs = [.slice a l.length cap] ∧ Sl w Value.bool a l ∧ l.length ≤ maxLen := by
  rcases Go.Deep.open_bools Tryd.underlying22 Tryd.underlying4 cellsBool h with ⟨hcs, _⟩ | ⟨a, len', cap', B, hcs, _, hl, hm, _, hcell⟩
  · exact ⟨none, 0, [], by rw [hcs]; rfl, Sl.nil, Nat.zero_le _⟩
  · refine ⟨some a, cap', (List.range len').map B, by rw [hcs]; simp, Sl.of fun i x hx => ?_, by simp; omega⟩
    have hi : i < len' := by
      rcases Nat.lt_or_ge i len' with h | h
      · exact h
      · rw [List.getElem?_eq_none (by simp; omega)] at hx; cases hx
    rw [hcell i (by omega)]
    rw [List.getElem?_map, List.getElem?_range hi] at hx
    simp at hx
    rw [hx]
set_option maxRecDepth 100000 in
theorem open_two {base : Nat} {v : Value} {d : DataW H} {ps : List MemPlace} (hw : Value.okWide Tryd.prog w .any base 24 v) (h : DataW.Trod enc Tryd.prog w 0 (fun _ => true) true 24 v d ps) :
    ∃ ka kc, ∃ y : TwoD, v = .agg #[.int .i64 y.t, .string y.a, .string y.b, .slice ka y.keep.length kc] ∧ Sl w Value.bool ka y.keep ∧ y.keep.length ≤ maxLen ∧ y.a.size ≤ maxLen ∧ y.b.size ≤ maxLen := by
  obtain ⟨cs, rfl, _⟩ := okWide_struct Tryd.underlying24 hw
  obtain ⟨fuel, hf⟩ := h
  obtain ⟨xs, n, _, _, hl, hlen, hfield⟩ := DataW.trod_struct Tryd.underlying24 hf
  rw [cellsTwo] at hl
  have g0 : DataW.trod enc Tryd.prog w 0 _ _ n 3 (((Value.agg cs).cells.toList.drop 0).take (Tryd.prog.cellsOf 3)) = xs[0]? := hfield 0 _ rfl
  have g1 : DataW.trod enc Tryd.prog w 0 _ _ n 9 (((Value.agg cs).cells.toList.drop 1).take (Tryd.prog.cellsOf 9)) = xs[1]? := hfield 1 _ rfl
  have g2 : DataW.trod enc Tryd.prog w 0 _ _ n 9 (((Value.agg cs).cells.toList.drop 2).take (Tryd.prog.cellsOf 9)) = xs[2]? := hfield 2 _ rfl
  have g3 : DataW.trod enc Tryd.prog w 0 _ _ n 22 (((Value.agg cs).cells.toList.drop 3).take (Tryd.prog.cellsOf 22)) = xs[3]? := hfield 3 _ rfl
  rw [cellsInt] at g0
  rw [cellsStr] at g1 g2
  rw [cellsBools] at g3
  obtain ⟨cl⟩ := cs
  have hlen4 : xs.length = 4 := hlen
  match cl, hl, xs, hlen4 with
  | [v0, v1, v2, v3], _, [x0, x1, x2, x3], _ =>
    obtain ⟨t, e0, _, _⟩ := DataW.trod_int Tryd.underlying3 g0
    obtain ⟨a, e1, _, ha⟩ := DataW.trod_string Tryd.underlying9 g1
    obtain ⟨b, e2, _, hb⟩ := DataW.trod_string Tryd.underlying9 g2
    obtain ⟨ka, kc, l, e3, hs, hm⟩ := open_bls g3
    simp [Value.cells] at e0 e1 e2 e3
    exact ⟨ka, kc, ⟨t, a, b, l⟩, by rw [e0, e1, e2, e3], hs, hm, ha, hb⟩
end
end Go.Proofs.YtcdjchpmgekjgabDoor
