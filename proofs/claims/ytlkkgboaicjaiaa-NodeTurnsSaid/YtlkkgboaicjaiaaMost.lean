/-
  What fixed.Most and the reference's Most compute, and their contracts.
-/
import Derived.Test.YtlkkgboaicjaiaaRows
import Derived.WalkKit
import Derived.Test.YtlkkgboaicjaiaaPlain
namespace Go.Proofs.Ytlkkgboaicjaiaa
open Go.RowKit

/-- The greatest number of a width. -/
def mostI (n : Int) : Int := if 1 ≤ n ∧ n ≤ 7 then 256 ^ n.toNat - 1 else -1

theorem p256 (j : Nat) (h : j ≤ 6) : 1 ≤ (256 : Int) ^ j ∧ (256 : Int) ^ j ≤ 281474976710656 := by
  match j, h with
  | 0, _ => decide
  | 1, _ => decide
  | 2, _ => decide
  | 3, _ => decide
  | 4, _ => decide
  | 5, _ => decide
  | 6, _ => decide
theorem p256' (j : Nat) (h : j ≤ 7) : 1 ≤ (256 : Int) ^ j ∧ (256 : Int) ^ j ≤ 72057594037927936 := by
  match j, h with
  | 0, _ => decide
  | 1, _ => decide
  | 2, _ => decide
  | 3, _ => decide
  | 4, _ => decide
  | 5, _ => decide
  | 6, _ => decide
  | 7, _ => decide

theorem most_any (n : Int) (w : World) : Calls Try.prog 58 #[.int .i64 n] w fun e w' => e = .returned (.int .i64 (mostI n)) ∧ w = w' := by
  by_cases h : 1 ≤ n ∧ n ≤ 7
  · have h7 : n = 1 ∨ n = 2 ∨ n = 3 ∨ n = 4 ∨ n = 5 ∨ n = 6 ∨ n = 7 := by omega
    rcases h7 with rfl | rfl | rfl | rfl | rfl | rfl | rfl
    all_goals
      go_enter Try.func58, Try.ntmps58
      go_wp2
      go_ret
      exact ⟨ret_int (by decide), rfl⟩
  · have e1 : mostI n = -1 := by unfold mostI; rw [if_neg h]
    rw [e1]
    clear e1
    by_cases h1 : n < 1
    · go_enter Try.func58, Try.ntmps58
      go_wp2
      go_ret
      exact ⟨rfl, rfl⟩
    · have h2 : 7 < n := by omega
      go_enter Try.func58, Try.ntmps58
      go_wp2
      go_ret
      exact ⟨rfl, rfl⟩

end Go.Proofs.Ytlkkgboaicjaiaa
