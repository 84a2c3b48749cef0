/-
  Contracts: the reference's word and turn.
-/
import Derived.Test.YtfnihldcnjnpbaaDoorRows
import Derived.Test.YtfnihldcnjnpbaaDoorShaPlain
namespace Go.Proofs.YtfnihldcnjnpbaaDoor
open Go.RowKit

theorem word_any (n : Nat) (w : World) (hn : n ≤ 4611686018427387904) : Calls Tryd.prog 54 #[.int .i64 n] w fun e w' => e = .returned (.int .i64 (n % 4294967296 : Nat)) ∧ w = w' := by
  go_enter Tryd.func54, Tryd.ntmps54
  go_wp2
  go_ret
  exact ⟨ret_int (by simp), rfl⟩

theorem i64_or (a b : Nat) (ha : a < 4294967296) (hb : b < 4294967296) : bits .or .i64 (a : Int) (b : Int) = ((a ||| b : Nat) : Int) :=
  (bits_nat .i64 63 (by decide) i64_small a b (by omega) (by omega)).2
theorem turn_eq (x n m M N : Nat) (hx : x < 4294967296) (hM : M = 2 ^ m) (hN : N = 2 ^ n) (hn : 32 - n = m) : bits .or .i64 ((x : Int) / (N : Int)) ((x : Int) * (M : Int) % 4294967296) = ((rotr x n : Nat) : Int) := by
  have e1 : (x : Int) * (M : Int) % 4294967296 = (((x * 2 ^ (32 - n)) % 4294967296 : Nat) : Int) := by rw [hn, ← hM]; simp
  have e2 : (x : Int) / (N : Int) = ((x / 2 ^ n : Nat) : Int) := by rw [← hN]; simp
  rw [e1, e2, i64_or _ _ (Nat.lt_of_le_of_lt (Nat.div_le_self _ _) hx) (Nat.mod_lt _ (by decide)), Nat.or_comm]
  rfl

theorem turn_2 (x : Nat) (w : World) (hx : x < 4294967296) : Calls Tryd.prog 55 #[.int .i64 x, .int .i64 2] w fun e w' => e = .returned (.int .i64 (rotr x 2 : Nat)) ∧ w = w' := by
  have hx1 : (x : Int) < 4294967296 := by omega
  go_enter Tryd.func55, Tryd.ntmps55
  go_wp2
  go_ret
  exact ⟨ret_int (turn_eq x 2 30 1073741824 4 hx rfl rfl (by decide)), rfl⟩

theorem turn_6 (x : Nat) (w : World) (hx : x < 4294967296) : Calls Tryd.prog 55 #[.int .i64 x, .int .i64 6] w fun e w' => e = .returned (.int .i64 (rotr x 6 : Nat)) ∧ w = w' := by
  have hx1 : (x : Int) < 4294967296 := by omega
  go_enter Tryd.func55, Tryd.ntmps55
  go_wp2
  go_ret
  exact ⟨ret_int (turn_eq x 6 26 67108864 64 hx rfl rfl (by decide)), rfl⟩

theorem turn_7 (x : Nat) (w : World) (hx : x < 4294967296) : Calls Tryd.prog 55 #[.int .i64 x, .int .i64 7] w fun e w' => e = .returned (.int .i64 (rotr x 7 : Nat)) ∧ w = w' := by
  have hx1 : (x : Int) < 4294967296 := by omega
  go_enter Tryd.func55, Tryd.ntmps55
  go_wp2
  go_ret
  exact ⟨ret_int (turn_eq x 7 25 33554432 128 hx rfl rfl (by decide)), rfl⟩

theorem turn_11 (x : Nat) (w : World) (hx : x < 4294967296) : Calls Tryd.prog 55 #[.int .i64 x, .int .i64 11] w fun e w' => e = .returned (.int .i64 (rotr x 11 : Nat)) ∧ w = w' := by
  have hx1 : (x : Int) < 4294967296 := by omega
  go_enter Tryd.func55, Tryd.ntmps55
  go_wp2
  go_ret
  exact ⟨ret_int (turn_eq x 11 21 2097152 2048 hx rfl rfl (by decide)), rfl⟩

theorem turn_13 (x : Nat) (w : World) (hx : x < 4294967296) : Calls Tryd.prog 55 #[.int .i64 x, .int .i64 13] w fun e w' => e = .returned (.int .i64 (rotr x 13 : Nat)) ∧ w = w' := by
  have hx1 : (x : Int) < 4294967296 := by omega
  go_enter Tryd.func55, Tryd.ntmps55
  go_wp2
  go_ret
  exact ⟨ret_int (turn_eq x 13 19 524288 8192 hx rfl rfl (by decide)), rfl⟩

theorem turn_17 (x : Nat) (w : World) (hx : x < 4294967296) : Calls Tryd.prog 55 #[.int .i64 x, .int .i64 17] w fun e w' => e = .returned (.int .i64 (rotr x 17 : Nat)) ∧ w = w' := by
  have hx1 : (x : Int) < 4294967296 := by omega
  go_enter Tryd.func55, Tryd.ntmps55
  go_wp2
  go_ret
  exact ⟨ret_int (turn_eq x 17 15 32768 131072 hx rfl rfl (by decide)), rfl⟩

theorem turn_18 (x : Nat) (w : World) (hx : x < 4294967296) : Calls Tryd.prog 55 #[.int .i64 x, .int .i64 18] w fun e w' => e = .returned (.int .i64 (rotr x 18 : Nat)) ∧ w = w' := by
  have hx1 : (x : Int) < 4294967296 := by omega
  go_enter Tryd.func55, Tryd.ntmps55
  go_wp2
  go_ret
  exact ⟨ret_int (turn_eq x 18 14 16384 262144 hx rfl rfl (by decide)), rfl⟩

theorem turn_19 (x : Nat) (w : World) (hx : x < 4294967296) : Calls Tryd.prog 55 #[.int .i64 x, .int .i64 19] w fun e w' => e = .returned (.int .i64 (rotr x 19 : Nat)) ∧ w = w' := by
  have hx1 : (x : Int) < 4294967296 := by omega
  go_enter Tryd.func55, Tryd.ntmps55
  go_wp2
  go_ret
  exact ⟨ret_int (turn_eq x 19 13 8192 524288 hx rfl rfl (by decide)), rfl⟩

theorem turn_22 (x : Nat) (w : World) (hx : x < 4294967296) : Calls Tryd.prog 55 #[.int .i64 x, .int .i64 22] w fun e w' => e = .returned (.int .i64 (rotr x 22 : Nat)) ∧ w = w' := by
  have hx1 : (x : Int) < 4294967296 := by omega
  go_enter Tryd.func55, Tryd.ntmps55
  go_wp2
  go_ret
  exact ⟨ret_int (turn_eq x 22 10 1024 4194304 hx rfl rfl (by decide)), rfl⟩

theorem turn_25 (x : Nat) (w : World) (hx : x < 4294967296) : Calls Tryd.prog 55 #[.int .i64 x, .int .i64 25] w fun e w' => e = .returned (.int .i64 (rotr x 25 : Nat)) ∧ w = w' := by
  have hx1 : (x : Int) < 4294967296 := by omega
  go_enter Tryd.func55, Tryd.ntmps55
  go_wp2
  go_ret
  exact ⟨ret_int (turn_eq x 25 7 128 33554432 hx rfl rfl (by decide)), rfl⟩

theorem turn_any (x : Nat) (m : Int) (w : World) (hx : x < 4294967296) (hm : m = 2 ∨ m = 6 ∨ m = 7 ∨ m = 11 ∨ m = 13 ∨ m = 17 ∨ m = 18 ∨ m = 19 ∨ m = 22 ∨ m = 25) :
    Calls Tryd.prog 55 #[.int .i64 x, .int .i64 m] w fun e w' => e = .returned (.int .i64 (rotr x m.toNat : Nat)) ∧ w = w' := by
  rcases hm with rfl | rfl | rfl | rfl | rfl | rfl | rfl | rfl | rfl | rfl
  · exact turn_2 x w hx
  · exact turn_6 x w hx
  · exact turn_7 x w hx
  · exact turn_11 x w hx
  · exact turn_13 x w hx
  · exact turn_17 x w hx
  · exact turn_18 x w hx
  · exact turn_19 x w hx
  · exact turn_22 x w hx
  · exact turn_25 x w hx
end Go.Proofs.YtfnihldcnjnpbaaDoor
