/-
  Texts put together: Door, OpenUb.
-/
import Derived.Test.YtkapbkkbkfmidaaDoorRows
import Derived.Test.YtkapbkkbkfmidaaDoorMg0
import Derived.Test.YtkapbkkbkfmidaaDoorMix
import Derived.Lib.LaidTab
import Derived.LaidMore
import Derived.Stop.Joined
namespace Go.Proofs.YtkapbkkbkfmidaaDoor
open Go.ChangeShapes Go.WideShapes Go.ChangeAt Go.RowKit

theorem gRoots : Tryd.prog.globalNamed (Rows.sumOfRow.named.headD "") = some 0 := by kernel_rfl
theorem gRootsType : (Tryd.prog.globals[0]?).map (·.type) = some 116 := by kernel_rfl
theorem cells32 : Tryd.prog.cellsOf 63 = 1 := by kernel_rfl
theorem cells64 : Tryd.prog.cellsOf 116 = 64 := by kernel_rfl

def kInts : List Int := kTab.map Int.ofNat

theorem door_met (os : Os) (args : Array Value) : laidMetH Tryd.prog Rows.sumOfRow.laid ((World.doorLaid Tryd.prog 400 os).forCall (fun _ _ => 0) ⟨#[], args, []⟩).memory :=
  laidMetH_of_parts3 (fuel := 8) (laidMet_of_run' 8 (by kernel_rfl) (by kernel_rfl)) (by kernel_rfl) (by kernel_rfl)

theorem laid_tab : Rows.sumOfRow.laid = [(Rows.sumOfRow.named.headD "", Lib.tabData .u32 kInts)] := rfl

theorem kt_of_laid {W : World} (h : laidMetH Tryd.prog Rows.sumOfRow.laid W) : Kt W := by
  rw [MakeChecks.laidMetH_plain _ _ _ (by kernel_rfl), laid_tab] at h
  have hT := Lib.tabIs_of_head gRoots gRootsType Tryd.underlying116 Tryd.underlying63 cells32 cells64 h
  intro t ht
  have hl : t < kTab.length := by show t < 64; exact ht
  have hc := hT.cell gRoots t (by simpa [kInts] using hl)
  rw [hc]
  congr 2
  simp [kInts, List.getD, List.getElem?_eq_getElem hl]
end Go.Proofs.YtkapbkkbkfmidaaDoor

namespace Go.Proofs.YtkapbkkbkfmidaaDoor
open Go.ChangeShapes Go.WideShapes Go.ChangeAt Go.RowKit

theorem cellsint_open_ub : Tryd.prog.cellsOf 3 = 1 := by kernel_rfl
theorem cellsstring_open_ub : Tryd.prog.cellsOf 9 = 1 := by kernel_rfl
theorem cells_open_ub : Tryd.prog.cellsOf 26 = 2 := by kernel_rfl
section
variable {H : Type} {enc : TypeId × Value → H} {w : World}
set_option maxRecDepth 100000 in
theorem open_ub {base : Nat} {v : Value} {d : DataW H} {ps : List MemPlace} (hw : Value.okWide Tryd.prog w .any base 26 v) (h : DataW.Trod enc Tryd.prog w 0 (fun _ => true) true 26 v d ps) :
    ∃ x0 : Int, ∃ x1 : ByteArray, v = .agg #[.int .i64 x0, .string x1] ∧ x1.size ≤ maxLen ∧ (Lit.int .i64 x0).wf = true := by
  obtain ⟨cs, rfl, _⟩ := okWide_struct Tryd.underlying26 hw
  obtain ⟨fuel, hf⟩ := h
  obtain ⟨xs, n, _, _, hl, hlen, hfield⟩ := DataW.trod_struct Tryd.underlying26 hf
  rw [cells_open_ub] at hl
  have g0 : DataW.trod enc Tryd.prog w 0 _ _ n 3 (((Value.agg cs).cells.toList.drop 0).take (Tryd.prog.cellsOf 3)) = xs[0]? := hfield 0 _ rfl
  rw [cellsint_open_ub] at g0
  have g1 : DataW.trod enc Tryd.prog w 0 _ _ n 9 (((Value.agg cs).cells.toList.drop 1).take (Tryd.prog.cellsOf 9)) = xs[1]? := hfield 1 _ rfl
  rw [cellsstring_open_ub] at g1
  obtain ⟨cl⟩ := cs
  have hlenN : xs.length = 2 := hlen
  match cl, hl, xs, hlenN with
  | [v0, v1], _, [y0, y1], _ =>
    obtain ⟨t0, e0, _, q0⟩ := DataW.trod_int Tryd.underlying3 g0
    obtain ⟨t1, e1, _, q1⟩ := DataW.trod_string Tryd.underlying9 g1
    simp [Value.cells] at e0 e1
    exact ⟨t0, t1, by rw [e0, e1], q1, q0⟩
end
end Go.Proofs.YtkapbkkbkfmidaaDoor
