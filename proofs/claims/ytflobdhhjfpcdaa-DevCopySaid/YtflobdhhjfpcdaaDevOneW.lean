/-
  Devices of the call's own: Waits.
-/
import Derived.Test.YtflobdhhjfpcdaaDevOne
import Derived.Test.YtflobdhhjfpcdaaDevWaits
namespace Go.Proofs.Ytflobdhhjfpcdaa
open Go.RowKit Go.ChangeShapes Go.WideShapes Go.ChangeAt
section
variable {B : Nat} {P : List Nat → World → Prop} (hP : Fixed P) {b : Nat} {d : DevD} {w : World} (h : One B P b d w)
include hP h
theorem one_waits (hlen : d.waits.length ≤ 100000) : Calls Try.prog 10 #[.pointer (some ⟨b, 0, none⟩)] w fun e w' => ∃ v, e = .returned v ∧ Prs w' w.heap.size v (d.waits.map (·.1)) ∧ One B P b d w' ∧ Below B w w' := by
  obtain ⟨hz, F, G, ⟨p, rfl, hd, rfl⟩, h2, h3, h4⟩ := id h
  exact (waits_any p d w hd hlen).mono fun e w' ⟨v, h5, h6, h7⟩ => ⟨v, h5, h6, h.keep hP h7, h7.mono hz⟩
end
end Go.Proofs.Ytflobdhhjfpcdaa
