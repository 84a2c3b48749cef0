/-
  The reference's Of as plain data: a padded text in blocks.
-/
import Derived.Test.YtfnihldcnjnpbaaDoorShaMath
import Derived.Test.YtfnihldcnjnpbaaDoorRefMath
namespace Go.Proofs.YtfnihldcnjnpbaaDoor
open Go.RowKit

def padP (s : ByteArray) : ByteArray := s ++ ⟨(padB s.size).toArray⟩
theorem padP_size (s : ByteArray) : (padP s).size = s.size + padZ s.size + 9 := by
  have h : (⟨(padB s.size).toArray⟩ : ByteArray).size = (padB s.size).length := by simp only [ByteArray.size, List.size_toArray]
  unfold padP
  rw [ByteArray.size_append, h, padB_length]
  omega
theorem padP_64 (s : ByteArray) : (padP s).size % 64 = 0 := by
  have h1 := padP_size s
  have h2 := padZ_done s.size (padZ s.size) (Nat.le_refl _)
  omega
theorem padP_last (s : ByteArray) : (padP s).extract (64 * (s.size / 64)) (padP s).size = lastB s s.size := by
  apply ba_eq
  have hle : 64 * (s.size / 64) ≤ s.data.toList.length := by rw [ba_len]; omega
  unfold padP lastB
  rw [rest_list, app_list, app_list, rest_list, fullN_mul, List.drop_append_of_le_length hle]
theorem sha_padded (s : ByteArray) : absK H0 (padP s) ((padP s).size / 64) = finS H0 s s.size := by
  have hl : (lastB s s.size).size = s.size % 64 + padZ s.size + 9 := by
    rw [← padP_last, ByteArray.size_extract]
    have := padP_size s
    omega
  have hd : (padP s).size / 64 = s.size / 64 + (lastB s s.size).size / 64 := by
    have := padP_size s
    omega
  unfold finS
  rw [hd, absK_add, padP_last, fin1_eq]
  congr 1
  exact absK_congr H0 _ fun i hi => byN_app s _ i (by omega)
theorem byN_mid (s : ByteArray) (a b i : Nat) (hi : i < b - a) : byN (s.extract a b) i = byN s (a + i) := by
  unfold byN
  rw [ext_list, List.getD, List.getD, List.getElem?_take_of_lt hi, List.getElem?_drop]
theorem absK_block (h : St) (s : ByteArray) (k : Nat) : absK h s (k + 1) = mixS (absK h s k) (wk (s.extract (64 * k) (64 * k + 64)) 64) := by
  rw [absK, wk_congr (s := s.extract (64 * k) s.size) (t := s.extract (64 * k) (64 * k + 64))]
  intro j hj
  rw [byN_rest, byN_mid _ _ _ _ (by omega)]
theorem pr_le : ∀ p ∈ prK 310, p ≤ 1000 := by rw [pr_list]; decide
end Go.Proofs.YtfnihldcnjnpbaaDoor
