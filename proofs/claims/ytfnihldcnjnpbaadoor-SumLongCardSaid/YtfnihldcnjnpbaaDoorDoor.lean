/-
  What the rows over the listed variable share: the start that meets the condition, and what the condition gives the walks.
-/
import Derived.Test.YtfnihldcnjnpbaaDoorRows
import Derived.Test.YtfnihldcnjnpbaaDoorFrame
import Derived.Test.YtfnihldcnjnpbaaDoorMix
import Derived.Lib.LaidTab
import Derived.LaidMore
import Derived.Stop.Joined
namespace Go.Proofs.YtfnihldcnjnpbaaDoor
open Go.ChangeShapes Go.WideShapes Go.ChangeAt Go.RowKit

theorem gRoots : Tryd.prog.globalNamed (Rows.sumOfRow.named.headD "") = some 0 := by kernel_rfl
theorem gRootsType : (Tryd.prog.globals[0]?).map (·.type) = some 103 := by kernel_rfl
theorem cells32 : Tryd.prog.cellsOf 47 = 1 := by kernel_rfl
theorem cells64 : Tryd.prog.cellsOf 103 = 64 := by kernel_rfl

def kInts : List Int := kTab.map Int.ofNat

theorem door_met (os : Os) (args : Array Value) : laidMetH Tryd.prog Rows.sumOfRow.laid ((World.doorLaid Tryd.prog 400 os).forCall (fun _ _ => 0) ⟨#[], args, []⟩).memory :=
  laidMetH_of_parts3 (fuel := 8) (laidMet_of_run' 8 (by kernel_rfl) (by kernel_rfl)) (by kernel_rfl) (by kernel_rfl)

theorem laid_tab : Rows.sumOfRow.laid = [(Rows.sumOfRow.named.headD "", Lib.tabData .u32 kInts)] := rfl

theorem kt_of_laid {W : World} (h : laidMetH Tryd.prog Rows.sumOfRow.laid W) : Kt W := by
  rw [MakeChecks.laidMetH_plain _ _ _ (by kernel_rfl), laid_tab] at h
  have hT := Lib.tabIs_of_head gRoots gRootsType Tryd.underlying103 Tryd.underlying47 cells32 cells64 h
  intro t ht
  have hl : t < kTab.length := by show t < 64; exact ht
  have hc := hT.cell gRoots t (by simpa [kInts] using hl)
  rw [hc]
  congr 2
  simp [kInts, List.getD, List.getElem?_eq_getElem hl]
end Go.Proofs.YtfnihldcnjnpbaaDoor
