/-
  Devices of the call's own: Lost.
-/
import Derived.Test.YtflobdhhjfpcdaaDevOne
import Derived.Test.YtflobdhhjfpcdaaDevLostF
namespace Go.Proofs.Ytflobdhhjfpcdaa
open Go.RowKit Go.ChangeShapes Go.WideShapes Go.ChangeAt
section
variable {B : Nat} {P : List Nat → World → Prop} {b : Nat} {d : DevD} {w : World} (h : One B P b d w)
include h
theorem one_lost (dev : Int) : Calls Try.prog 15 #[.pointer (some ⟨b, 0, none⟩), .int .i64 dev] w fun e w' => e = .returned (.bool (devLost d dev)) ∧ w = w' := by
  obtain ⟨_, F, G, ⟨p, rfl, hd, rfl⟩, _⟩ := h
  exact dlost_any p d dev w hd
end
end Go.Proofs.Ytflobdhhjfpcdaa
