/-
  The reference's Most.
-/
import Derived.Test.YtlkkgboaicjaiaaMost
namespace Go.Proofs.Ytlkkgboaicjaiaa
open Go.RowKit

theorem rmost_any (n : Int) (w : World) : Calls Try.prog 59 #[.int .i64 n] w fun e w' => e = .returned (.int .i64 (mostI n)) ∧ w = w' := by
  by_cases h : 1 ≤ n ∧ n ≤ 7
  · have hk : ∃ k : Nat, n = k ∧ 1 ≤ k ∧ k ≤ 7 := ⟨n.toNat, by omega, by omega, by omega⟩
    obtain ⟨k, rfl, hk1, hk7⟩ := hk
    go_enter Try.func59, Try.ntmps59
    go_wp2
    go_loop [3, 4] (fun n i => ∃ j : Nat, j ≤ k ∧ i = .int .i64 j ∧ n = .int .i64 ((256 : Int) ^ j)) (fun _ i => k - (RowKit.intOf i).toNat)
    case atStart => exact ⟨0, Nat.zero_le _, rfl, rfl⟩
    case round =>
      obtain ⟨j, hj, rfl, rfl⟩ := hrel
      by_cases hlt : j < k
      · have hb := p256 j (by omega)
        have hs : Hid ((256 : Int) ^ j * 256 = (256 : Int) ^ (j + 1)) := (Int.pow_succ 256 j).symm
        go_wp2
        go_round
        case rel => exact ⟨j + 1, by omega, by go_num, by rw [hs.out]⟩
        case measure => simp [RowKit.intOf]; omega
      · have hb := p256' j (by omega)
        have hjk : Hid (j = k) := by show j = k; omega
        go_wp2
        go_ret
        exact ⟨ret_int (by unfold mostI; rw [if_pos (by omega), hjk.out, Int.toNat_natCast]), rfl⟩
  · have e1 : mostI n = -1 := by unfold mostI; rw [if_neg h]
    rw [e1]
    clear e1
    by_cases h1 : n < 1
    · go_enter Try.func59, Try.ntmps59
      go_wp2
      go_ret
      exact ⟨rfl, rfl⟩
    · have h2 : 7 < n := by omega
      go_enter Try.func59, Try.ntmps59
      go_wp2
      go_ret
      exact ⟨rfl, rfl⟩
end Go.Proofs.Ytlkkgboaicjaiaa
