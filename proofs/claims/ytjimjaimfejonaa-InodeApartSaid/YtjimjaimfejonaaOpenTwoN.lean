/-
  An argument of type permafrostlaw15.Two, opened.
-/
import Derived.Test.YtjimjaimfejonaaFrame
namespace Go.Proofs.Ytjimjaimfejonaa
open Go.ChangeShapes Go.WideShapes Go.ChangeAt Go.RowKit

theorem cellsint_open_twon : Try.prog.cellsOf 3 = 1 := by kernel_rfl
theorem cellsstring_open_twon : Try.prog.cellsOf 9 = 1 := by kernel_rfl
theorem cells_open_twon : Try.prog.cellsOf 44 = 4 := by kernel_rfl
section
variable {H : Type} {enc : TypeId × Value → H} {w : World}
set_option maxRecDepth 100000 in
theorem open_twon {base : Nat} {v : Value} {d : DataW H} {ps : List MemPlace} (hw : Value.okWide Try.prog w .any base 44 v) (h : DataW.Trod enc Try.prog w 0 (fun _ => true) true 44 v d ps) :
    ∃ x0 : Int, ∃ x1 : Int, ∃ x2 : ByteArray, ∃ x3 : ByteArray, v = .agg #[.int .i64 x0, .int .i64 x1, .string x2, .string x3] ∧ x2.size ≤ maxLen ∧ x3.size ≤ maxLen ∧ (Lit.int .i64 x0).wf = true ∧ (Lit.int .i64 x1).wf = true := by
  obtain ⟨cs, rfl, _⟩ := okWide_struct Try.underlying44 hw
  obtain ⟨fuel, hf⟩ := h
  obtain ⟨xs, n, _, _, hl, hlen, hfield⟩ := DataW.trod_struct Try.underlying44 hf
  rw [cells_open_twon] at hl
  have g0 : DataW.trod enc Try.prog w 0 _ _ n 3 (((Value.agg cs).cells.toList.drop 0).take (Try.prog.cellsOf 3)) = xs[0]? := hfield 0 _ rfl
  rw [cellsint_open_twon] at g0
  have g1 : DataW.trod enc Try.prog w 0 _ _ n 3 (((Value.agg cs).cells.toList.drop 1).take (Try.prog.cellsOf 3)) = xs[1]? := hfield 1 _ rfl
  rw [cellsint_open_twon] at g1
  have g2 : DataW.trod enc Try.prog w 0 _ _ n 9 (((Value.agg cs).cells.toList.drop 2).take (Try.prog.cellsOf 9)) = xs[2]? := hfield 2 _ rfl
  rw [cellsstring_open_twon] at g2
  have g3 : DataW.trod enc Try.prog w 0 _ _ n 9 (((Value.agg cs).cells.toList.drop 3).take (Try.prog.cellsOf 9)) = xs[3]? := hfield 3 _ rfl
  rw [cellsstring_open_twon] at g3
  obtain ⟨cl⟩ := cs
  have hlenN : xs.length = 4 := hlen
  match cl, hl, xs, hlenN with
  | [v0, v1, v2, v3], _, [y0, y1, y2, y3], _ =>
    obtain ⟨t0, e0, _, q0⟩ := DataW.trod_int Try.underlying3 g0
    obtain ⟨t1, e1, _, q1⟩ := DataW.trod_int Try.underlying3 g1
    obtain ⟨t2, e2, _, q2⟩ := DataW.trod_string Try.underlying9 g2
    obtain ⟨t3, e3, _, q3⟩ := DataW.trod_string Try.underlying9 g3
    simp [Value.cells] at e0 e1 e2 e3
    exact ⟨t0, t1, t2, t3, by rw [e0, e1, e2, e3], q2, q3, q0, q1⟩
end
end Go.Proofs.Ytjimjaimfejonaa
