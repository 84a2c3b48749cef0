/-
  The queue's order is a strict one.
-/
import Derived.Test.YtgdlnifncmiebaaHeatA
import Derived.Lib.Strings
namespace Go.Proofs.Ytgdlnifncmiebaa

theorem bl_lt : ∀ (x y : List UInt8), Op.bytesLess x y = decide (x < y)
  | [], [] => by simp [Op.bytesLess]
  | _ :: _, [] => by simp [Op.bytesLess]
  | [], _ :: _ => by simp [Op.bytesLess]
  | a :: x, b :: y => by
    rw [Op.bytesLess, bl_lt x y]
    have e : (a == b) = decide (a = b) := by by_cases h : a = b <;> simp [h]
    rw [e]
    simp [List.cons_lt_cons_iff, Bool.decide_or, Bool.decide_and]
theorem ba_ext {x y : ByteArray} (h : x.toList = y.toList) : x = y := by
  rw [Lib.toList_data, Lib.toList_data] at h
  cases x; cases y
  simp only [ByteArray.mk.injEq]
  exact Array.toList_inj.1 h
theorem hotter_strict : Strict hotter where
  irr a := by unfold hotter; rw [if_pos rfl, bl_lt]; simp
  tr a b c h1 h2 := by
    unfold hotter at *
    split at h1
    · next e1 =>
      split at h2
      · next e2 =>
        rw [if_pos (e1.trans e2)]
        rw [bl_lt] at *
        simp only [decide_eq_true_eq] at *
        exact List.lt_trans h1 h2
      · next e2 => rw [e1, if_neg e2]; exact h2
    · next e1 =>
      split at h2
      · next e2 => rw [← e2, if_neg e1]; exact h1
      · next e2 =>
        simp only [decide_eq_true_eq] at *
        rw [if_neg (by omega)]
        simp only [decide_eq_true_eq]
        omega
  tot a b h1 h2 := by
    unfold hotter at *
    by_cases e : a.2 = b.2
    · rw [if_pos e] at h1
      rw [if_pos e.symm] at h2
      rw [bl_lt] at h1 h2
      simp only [decide_eq_false_iff_not] at h1 h2
      have := List.le_antisymm (List.not_lt.1 h2) (List.not_lt.1 h1)
      exact Prod.ext (ba_ext this) e
    · rw [if_neg e] at h1
      rw [if_neg (Ne.symm e)] at h2
      simp only [decide_eq_false_iff_not] at h1 h2
      omega
end Go.Proofs.Ytgdlnifncmiebaa
