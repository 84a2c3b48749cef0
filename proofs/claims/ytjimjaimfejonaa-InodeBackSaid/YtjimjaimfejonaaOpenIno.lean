/-
  An argument of type permafrostref15.Inode, opened.
-/
import Derived.Test.YtjimjaimfejonaaFrame
namespace Go.Proofs.Ytjimjaimfejonaa
open Go.ChangeShapes Go.WideShapes Go.ChangeAt Go.RowKit

theorem cellsbool_open_ino : Try.prog.cellsOf 4 = 1 := by kernel_rfl
theorem cellsint_open_ino : Try.prog.cellsOf 3 = 1 := by kernel_rfl
theorem cells_open_ino : Try.prog.cellsOf 30 = 3 := by kernel_rfl
section
variable {H : Type} {enc : TypeId × Value → H} {w : World}
set_option maxRecDepth 100000 in
theorem open_ino {base : Nat} {v : Value} {d : DataW H} {ps : List MemPlace} (hw : Value.okWide Try.prog w .any base 30 v) (h : DataW.Trod enc Try.prog w 0 (fun _ => true) true 30 v d ps) :
    ∃ x0 : Bool, ∃ x1 : Int, ∃ x2 : Int, v = .agg #[.bool x0, .int .i64 x1, .int .i64 x2] ∧ (Lit.int .i64 x1).wf = true ∧ (Lit.int .i64 x2).wf = true := by
  obtain ⟨cs, rfl, _⟩ := okWide_struct Try.underlying30 hw
  obtain ⟨fuel, hf⟩ := h
  obtain ⟨xs, n, _, _, hl, hlen, hfield⟩ := DataW.trod_struct Try.underlying30 hf
  rw [cells_open_ino] at hl
  have g0 : DataW.trod enc Try.prog w 0 _ _ n 4 (((Value.agg cs).cells.toList.drop 0).take (Try.prog.cellsOf 4)) = xs[0]? := hfield 0 _ rfl
  rw [cellsbool_open_ino] at g0
  have g1 : DataW.trod enc Try.prog w 0 _ _ n 3 (((Value.agg cs).cells.toList.drop 1).take (Try.prog.cellsOf 3)) = xs[1]? := hfield 1 _ rfl
  rw [cellsint_open_ino] at g1
  have g2 : DataW.trod enc Try.prog w 0 _ _ n 3 (((Value.agg cs).cells.toList.drop 2).take (Try.prog.cellsOf 3)) = xs[2]? := hfield 2 _ rfl
  rw [cellsint_open_ino] at g2
  obtain ⟨cl⟩ := cs
  have hlenN : xs.length = 3 := hlen
  match cl, hl, xs, hlenN with
  | [v0, v1, v2], _, [y0, y1, y2], _ =>
    obtain ⟨t0, e0, _⟩ := DataW.trod_bool Try.underlying4 g0
    obtain ⟨t1, e1, _, q1⟩ := DataW.trod_int Try.underlying3 g1
    obtain ⟨t2, e2, _, q2⟩ := DataW.trod_int Try.underlying3 g2
    simp [Value.cells] at e0 e1 e2
    exact ⟨t0, t1, t2, by rw [e0, e1, e2], q1, q2⟩
end
end Go.Proofs.Ytjimjaimfejonaa
