/-
  Devices of the call's own: Copy.
-/
import Derived.Test.YtflobdhhjfpcdaaDevOne
import Derived.Test.YtflobdhhjfpcdaaDevCopyF
namespace Go.Proofs.Ytflobdhhjfpcdaa
open Go.RowKit Go.ChangeShapes Go.WideShapes Go.ChangeAt
section
variable {B : Nat} {P : List Nat → World → Prop} (hP : Fixed P) {b : Nat} {d : DevD} {w : World} (h : One B P b d w)
include hP h
theorem one_copy (hlen : d.waits.length ≤ 100000) : Calls Try.prog 16 #[.pointer (some ⟨b, 0, none⟩)] w fun e w' => ∃ b2, e = .returned (.pointer (some ⟨b2, 0, none⟩)) ∧ One B (Both P (DevF b d)) b2 d w' ∧ Below B w w' := by
  obtain ⟨hz, F, G, ⟨p, rfl, hd, rfl⟩, h2, h3, h4⟩ := id h
  refine (copy_any p d w hd hlen).mono ?_
  rintro e w' ⟨q, rfl, hq, hqf, hb⟩
  have hc : Chg [] w w' := Chg.of hb (Nat.le_refl _)
  refine ⟨q.b, rfl, ⟨Nat.le_trans hz hb.size, q.fp, G ++ p.fp, ⟨q, rfl, hq, rfl⟩, ⟨G, p.fp, rfl, hP.keep _ _ _ _ h2 hc (fun _ _ h => by cases h), ⟨p, rfl, hd.chg hc (fun _ _ h => by cases h), rfl⟩, fun k hk hf => (h3 k hf).2 hk⟩, fun k hk => ⟨Nat.le_trans hz (hqf k hk), fun hm => ?_⟩, fun k hk => ?_⟩, hb.mono hz⟩
  · have h5 := hqf k hk
    rcases List.mem_append.1 hm with h6 | h6
    · have := hP.lt _ _ h2 k h6; omega
    · have := hd.lt k h6; omega
  · rcases List.mem_append.1 hk with h6 | h6
    · exact h4 k h6
    · exact (h3 k h6).1
end
end Go.Proofs.Ytflobdhhjfpcdaa
