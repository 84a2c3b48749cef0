/-
  What is decoded is encoded as it was; what is none is the empty root. No program here.
-/
import Derived.Test.YtkapbkkbkfmidaaDoorMg28
namespace Go.Proofs.YtkapbkkbkfmidaaDoor
open Go.RowKit

theorem dec_back (s : ByteArray) (h0 : (decU s).2 = 0) : mayU (decU s).1 ∧ encU (decU s).1 = (s, 0) := by
  unfold decU at h0 ⊢
  by_cases h : s.size < 42
  · rw [if_pos h] at h0; cases h0
  · rw [if_neg h] at h0 ⊢
    by_cases hc : sha (bodyOf s) = sumOf' s
    · rw [if_neg (fun e => e hc)] at h0 ⊢
      by_cases hb : valB (bodyOf s) 0 2 ≠ markB ∨ posEnd (bodyOf s) (10 + valN (bodyOf s) 8 2) ≠ 0 ∨ ¬ mayU (rawU (bodyOf s))
      · rw [if_pos hb] at h0; cases h0
      · rw [if_neg hb]
        have hu : mayU (rawU (bodyOf s)) := Classical.byContradiction fun e => hb (.inr (.inr e))
        have hp : posEnd (bodyOf s) (10 + valN (bodyOf s) 8 2) = 0 := Classical.byContradiction fun e => hb (.inr (.inl e))
        have hm : valB (bodyOf s) 0 2 = markB := Classical.byContradiction fun e => hb (.inl e)
        refine ⟨hu, ?_⟩
        rw [encU_ok hu, body_raw hm (posEnd_zero hp) hu, hc]
        refine congrArg (fun x => (x, (0 : Int))) ?_
        unfold bodyOf sumOf'
        apply bl_ext
        rw [bl_append, bl_extract, bl_extract, List.drop_zero, Nat.sub_zero]
        rw [List.take_of_length_le (l := List.drop _ _) (by rw [List.length_drop, bl_size]; omega), List.take_append_drop]
    · rw [if_pos hc] at h0; cases h0
theorem dec_none (s : ByteArray) (h0 : (decU s).2 ≠ 0) : (decU s).1 = ub0 := by
  unfold decU at h0 ⊢
  split
  · rfl
  · split
    · rfl
    · split
      · rfl
      · rename_i h1 h2 h3
        rw [if_neg h1, if_neg h2, if_neg h3] at h0
        exact absurd rfl h0
end Go.Proofs.YtkapbkkbkfmidaaDoor
