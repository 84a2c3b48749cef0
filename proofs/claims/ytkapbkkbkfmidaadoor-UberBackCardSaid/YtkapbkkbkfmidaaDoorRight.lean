/-
  Contracts: turned right.
-/
import Derived.Test.YtkapbkkbkfmidaaDoorRows
import Derived.Test.YtkapbkkbkfmidaaDoorShaPlain
namespace Go.Proofs.YtkapbkkbkfmidaaDoor
open Go.RowKit

theorem rot_2 (x : Nat) (w : World) (hx : x < 4294967296) :
    Calls Tryd.prog 86 #[.int .u32 x, .int .i64 (-2)] w fun e w' => e = .returned (.int .u32 (rotr x 2)) ∧ w = w' := by
  have hx1 : (x : Int) < 4294967296 := by omega
  have hb : bits BinOp.and IntKind.u64 (IntKind.u64.wrap (-2)) 31 = 30 := by decide +kernel
  go_enter Tryd.func86, Tryd.ntmps86
  go_wp2
  go_ret
  exact ⟨ret_int (rot_eq x 2 30 1073741824 4 hx rfl rfl (by decide)), rfl⟩

theorem right_2 (x : Nat) (w : World) (hx : x < 4294967296) :
    Calls Tryd.prog 85 #[.int .u32 x, .int .i64 2] w fun e w' => e = .returned (.int .u32 (rotr x 2)) ∧ w = w' := by
  go_enter Tryd.func85, Tryd.ntmps85
  go_wp2_with fail
  refine (rot_2 x _ hx).mono ?_
  rintro e w' ⟨rfl, rfl⟩
  go_wp2
  go_ret
  exact ⟨rfl, rfl⟩

theorem rot_6 (x : Nat) (w : World) (hx : x < 4294967296) :
    Calls Tryd.prog 86 #[.int .u32 x, .int .i64 (-6)] w fun e w' => e = .returned (.int .u32 (rotr x 6)) ∧ w = w' := by
  have hx1 : (x : Int) < 4294967296 := by omega
  have hb : bits BinOp.and IntKind.u64 (IntKind.u64.wrap (-6)) 31 = 26 := by decide +kernel
  go_enter Tryd.func86, Tryd.ntmps86
  go_wp2
  go_ret
  exact ⟨ret_int (rot_eq x 6 26 67108864 64 hx rfl rfl (by decide)), rfl⟩

theorem right_6 (x : Nat) (w : World) (hx : x < 4294967296) :
    Calls Tryd.prog 85 #[.int .u32 x, .int .i64 6] w fun e w' => e = .returned (.int .u32 (rotr x 6)) ∧ w = w' := by
  go_enter Tryd.func85, Tryd.ntmps85
  go_wp2_with fail
  refine (rot_6 x _ hx).mono ?_
  rintro e w' ⟨rfl, rfl⟩
  go_wp2
  go_ret
  exact ⟨rfl, rfl⟩

theorem rot_7 (x : Nat) (w : World) (hx : x < 4294967296) :
    Calls Tryd.prog 86 #[.int .u32 x, .int .i64 (-7)] w fun e w' => e = .returned (.int .u32 (rotr x 7)) ∧ w = w' := by
  have hx1 : (x : Int) < 4294967296 := by omega
  have hb : bits BinOp.and IntKind.u64 (IntKind.u64.wrap (-7)) 31 = 25 := by decide +kernel
  go_enter Tryd.func86, Tryd.ntmps86
  go_wp2
  go_ret
  exact ⟨ret_int (rot_eq x 7 25 33554432 128 hx rfl rfl (by decide)), rfl⟩

theorem right_7 (x : Nat) (w : World) (hx : x < 4294967296) :
    Calls Tryd.prog 85 #[.int .u32 x, .int .i64 7] w fun e w' => e = .returned (.int .u32 (rotr x 7)) ∧ w = w' := by
  go_enter Tryd.func85, Tryd.ntmps85
  go_wp2_with fail
  refine (rot_7 x _ hx).mono ?_
  rintro e w' ⟨rfl, rfl⟩
  go_wp2
  go_ret
  exact ⟨rfl, rfl⟩

theorem rot_11 (x : Nat) (w : World) (hx : x < 4294967296) :
    Calls Tryd.prog 86 #[.int .u32 x, .int .i64 (-11)] w fun e w' => e = .returned (.int .u32 (rotr x 11)) ∧ w = w' := by
  have hx1 : (x : Int) < 4294967296 := by omega
  have hb : bits BinOp.and IntKind.u64 (IntKind.u64.wrap (-11)) 31 = 21 := by decide +kernel
  go_enter Tryd.func86, Tryd.ntmps86
  go_wp2
  go_ret
  exact ⟨ret_int (rot_eq x 11 21 2097152 2048 hx rfl rfl (by decide)), rfl⟩

theorem right_11 (x : Nat) (w : World) (hx : x < 4294967296) :
    Calls Tryd.prog 85 #[.int .u32 x, .int .i64 11] w fun e w' => e = .returned (.int .u32 (rotr x 11)) ∧ w = w' := by
  go_enter Tryd.func85, Tryd.ntmps85
  go_wp2_with fail
  refine (rot_11 x _ hx).mono ?_
  rintro e w' ⟨rfl, rfl⟩
  go_wp2
  go_ret
  exact ⟨rfl, rfl⟩

theorem rot_13 (x : Nat) (w : World) (hx : x < 4294967296) :
    Calls Tryd.prog 86 #[.int .u32 x, .int .i64 (-13)] w fun e w' => e = .returned (.int .u32 (rotr x 13)) ∧ w = w' := by
  have hx1 : (x : Int) < 4294967296 := by omega
  have hb : bits BinOp.and IntKind.u64 (IntKind.u64.wrap (-13)) 31 = 19 := by decide +kernel
  go_enter Tryd.func86, Tryd.ntmps86
  go_wp2
  go_ret
  exact ⟨ret_int (rot_eq x 13 19 524288 8192 hx rfl rfl (by decide)), rfl⟩

theorem right_13 (x : Nat) (w : World) (hx : x < 4294967296) :
    Calls Tryd.prog 85 #[.int .u32 x, .int .i64 13] w fun e w' => e = .returned (.int .u32 (rotr x 13)) ∧ w = w' := by
  go_enter Tryd.func85, Tryd.ntmps85
  go_wp2_with fail
  refine (rot_13 x _ hx).mono ?_
  rintro e w' ⟨rfl, rfl⟩
  go_wp2
  go_ret
  exact ⟨rfl, rfl⟩

theorem rot_17 (x : Nat) (w : World) (hx : x < 4294967296) :
    Calls Tryd.prog 86 #[.int .u32 x, .int .i64 (-17)] w fun e w' => e = .returned (.int .u32 (rotr x 17)) ∧ w = w' := by
  have hx1 : (x : Int) < 4294967296 := by omega
  have hb : bits BinOp.and IntKind.u64 (IntKind.u64.wrap (-17)) 31 = 15 := by decide +kernel
  go_enter Tryd.func86, Tryd.ntmps86
  go_wp2
  go_ret
  exact ⟨ret_int (rot_eq x 17 15 32768 131072 hx rfl rfl (by decide)), rfl⟩

theorem right_17 (x : Nat) (w : World) (hx : x < 4294967296) :
    Calls Tryd.prog 85 #[.int .u32 x, .int .i64 17] w fun e w' => e = .returned (.int .u32 (rotr x 17)) ∧ w = w' := by
  go_enter Tryd.func85, Tryd.ntmps85
  go_wp2_with fail
  refine (rot_17 x _ hx).mono ?_
  rintro e w' ⟨rfl, rfl⟩
  go_wp2
  go_ret
  exact ⟨rfl, rfl⟩

theorem rot_18 (x : Nat) (w : World) (hx : x < 4294967296) :
    Calls Tryd.prog 86 #[.int .u32 x, .int .i64 (-18)] w fun e w' => e = .returned (.int .u32 (rotr x 18)) ∧ w = w' := by
  have hx1 : (x : Int) < 4294967296 := by omega
  have hb : bits BinOp.and IntKind.u64 (IntKind.u64.wrap (-18)) 31 = 14 := by decide +kernel
  go_enter Tryd.func86, Tryd.ntmps86
  go_wp2
  go_ret
  exact ⟨ret_int (rot_eq x 18 14 16384 262144 hx rfl rfl (by decide)), rfl⟩

theorem right_18 (x : Nat) (w : World) (hx : x < 4294967296) :
    Calls Tryd.prog 85 #[.int .u32 x, .int .i64 18] w fun e w' => e = .returned (.int .u32 (rotr x 18)) ∧ w = w' := by
  go_enter Tryd.func85, Tryd.ntmps85
  go_wp2_with fail
  refine (rot_18 x _ hx).mono ?_
  rintro e w' ⟨rfl, rfl⟩
  go_wp2
  go_ret
  exact ⟨rfl, rfl⟩

theorem rot_19 (x : Nat) (w : World) (hx : x < 4294967296) :
    Calls Tryd.prog 86 #[.int .u32 x, .int .i64 (-19)] w fun e w' => e = .returned (.int .u32 (rotr x 19)) ∧ w = w' := by
  have hx1 : (x : Int) < 4294967296 := by omega
  have hb : bits BinOp.and IntKind.u64 (IntKind.u64.wrap (-19)) 31 = 13 := by decide +kernel
  go_enter Tryd.func86, Tryd.ntmps86
  go_wp2
  go_ret
  exact ⟨ret_int (rot_eq x 19 13 8192 524288 hx rfl rfl (by decide)), rfl⟩

theorem right_19 (x : Nat) (w : World) (hx : x < 4294967296) :
    Calls Tryd.prog 85 #[.int .u32 x, .int .i64 19] w fun e w' => e = .returned (.int .u32 (rotr x 19)) ∧ w = w' := by
  go_enter Tryd.func85, Tryd.ntmps85
  go_wp2_with fail
  refine (rot_19 x _ hx).mono ?_
  rintro e w' ⟨rfl, rfl⟩
  go_wp2
  go_ret
  exact ⟨rfl, rfl⟩

theorem rot_22 (x : Nat) (w : World) (hx : x < 4294967296) :
    Calls Tryd.prog 86 #[.int .u32 x, .int .i64 (-22)] w fun e w' => e = .returned (.int .u32 (rotr x 22)) ∧ w = w' := by
  have hx1 : (x : Int) < 4294967296 := by omega
  have hb : bits BinOp.and IntKind.u64 (IntKind.u64.wrap (-22)) 31 = 10 := by decide +kernel
  go_enter Tryd.func86, Tryd.ntmps86
  go_wp2
  go_ret
  exact ⟨ret_int (rot_eq x 22 10 1024 4194304 hx rfl rfl (by decide)), rfl⟩

theorem right_22 (x : Nat) (w : World) (hx : x < 4294967296) :
    Calls Tryd.prog 85 #[.int .u32 x, .int .i64 22] w fun e w' => e = .returned (.int .u32 (rotr x 22)) ∧ w = w' := by
  go_enter Tryd.func85, Tryd.ntmps85
  go_wp2_with fail
  refine (rot_22 x _ hx).mono ?_
  rintro e w' ⟨rfl, rfl⟩
  go_wp2
  go_ret
  exact ⟨rfl, rfl⟩

theorem rot_25 (x : Nat) (w : World) (hx : x < 4294967296) :
    Calls Tryd.prog 86 #[.int .u32 x, .int .i64 (-25)] w fun e w' => e = .returned (.int .u32 (rotr x 25)) ∧ w = w' := by
  have hx1 : (x : Int) < 4294967296 := by omega
  have hb : bits BinOp.and IntKind.u64 (IntKind.u64.wrap (-25)) 31 = 7 := by decide +kernel
  go_enter Tryd.func86, Tryd.ntmps86
  go_wp2
  go_ret
  exact ⟨ret_int (rot_eq x 25 7 128 33554432 hx rfl rfl (by decide)), rfl⟩

theorem right_25 (x : Nat) (w : World) (hx : x < 4294967296) :
    Calls Tryd.prog 85 #[.int .u32 x, .int .i64 25] w fun e w' => e = .returned (.int .u32 (rotr x 25)) ∧ w = w' := by
  go_enter Tryd.func85, Tryd.ntmps85
  go_wp2_with fail
  refine (rot_25 x _ hx).mono ?_
  rintro e w' ⟨rfl, rfl⟩
  go_wp2
  go_ret
  exact ⟨rfl, rfl⟩

theorem right_any (x : Nat) (m : Int) (w : World) (hx : x < 4294967296) (hm : m = 2 ∨ m = 6 ∨ m = 7 ∨ m = 11 ∨ m = 13 ∨ m = 17 ∨ m = 18 ∨ m = 19 ∨ m = 22 ∨ m = 25) :
    Calls Tryd.prog 85 #[.int .u32 x, .int .i64 m] w fun e w' => e = .returned (.int .u32 (rotr x m.toNat)) ∧ w = w' := by
  rcases hm with rfl | rfl | rfl | rfl | rfl | rfl | rfl | rfl | rfl | rfl
  · exact right_2 x w hx
  · exact right_6 x w hx
  · exact right_7 x w hx
  · exact right_11 x w hx
  · exact right_13 x w hx
  · exact right_17 x w hx
  · exact right_18 x w hx
  · exact right_19 x w hx
  · exact right_22 x w hx
  · exact right_25 x w hx
end Go.Proofs.YtkapbkkbkfmidaaDoor
