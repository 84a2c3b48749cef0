/-
  Plain lemmas on bytes and numbers: no program here.
-/
import Derived.WalkKit
import Derived.Lib.EndianBits
import Derived.Lib.Hide
namespace Go.Proofs.Ytlkkgboaicjaiaa
open Go.RowKit

theorem ret_int {k : IntKind} {a b : Int} (h : a = b) : Ending.returned (.int k a) = .returned (.int k b) := by rw [h]
theorem ret_str {a b : ByteArray} (h : a = b) : Ending.returned (.string a) = .returned (.string b) := by rw [h]
theorem ret_bool {a b : Bool} (h : a = b) : Ending.returned (.bool a) = .returned (.bool b) := by rw [h]

theorem str_some (s : ByteArray) (h : 0 < s.size) : ¬ s.toList = [] ∧ s.toList.isEmpty = false := by
  have e : ¬ s.toList = [] := by
    rw [ByteArray.toList_eq]
    intro e
    have h1 : s.data.toList.length = 0 := by rw [e]; rfl
    rw [Array.length_toList] at h1
    have h2 : s.size = s.data.size := rfl
    omega
  exact ⟨e, by simpa using e⟩

/-- The number that bytes tell, the lowest first. -/
def leVal : List UInt8 → Nat
  | [] => 0
  | x :: r => x.toNat + 256 * leVal r

theorem leVal_lt : ∀ l : List UInt8, leVal l < 256 ^ l.length
  | [] => by simp [leVal]
  | x :: r => by
    have h := leVal_lt r
    have hx := x.toNat_lt
    simp only [leVal, List.length_cons, Nat.pow_succ]
    omega

theorem leVal_snoc : ∀ (l : List UInt8) (x : UInt8), leVal (l ++ [x]) = leVal l + x.toNat * 256 ^ l.length
  | [], x => by simp [leVal]
  | y :: r, x => by
    have h := leVal_snoc r x
    simp only [leVal, List.cons_append, List.length_cons, Nat.pow_succ, h]
    rw [Nat.mul_add, Nat.add_assoc, ← Nat.mul_assoc, ← Nat.mul_assoc, Nat.mul_comm 256 x.toNat, Nat.mul_right_comm]

theorem take_snoc (s : ByteArray) (k : Nat) (h : k < s.size) : s.data.toList.take (k + 1) = s.data.toList.take k ++ [s[k]] := by
  rw [List.take_succ_eq_append_getElem (by simpa using h)]; rfl

theorem leVal_take (s : ByteArray) (k : Nat) (h : k < s.size) : leVal (s.data.toList.take (k + 1)) = leVal (s.data.toList.take k) + s[k].toNat * 256 ^ k := by
  rw [take_snoc s k h, leVal_snoc, List.length_take, Nat.min_eq_left (by simp; omega)]

theorem leVal_take_lt (s : ByteArray) (k : Nat) (h : k ≤ s.size) : leVal (s.data.toList.take k) < 256 ^ k := by
  have := leVal_lt (s.data.toList.take k)
  rwa [List.length_take, Nat.min_eq_left (by simpa using h)] at this

theorem i64_small (n : Int) (h0 : 0 ≤ n) (h : n < 2 ^ 63) : IntKind.i64.wrap n = n := IntWalk.i64_in n ⟨by omega, by omega⟩

theorem pow256 (j : Nat) : (256 : Nat) ^ j = 2 ^ (8 * j) := by rw [show (256 : Nat) = 2 ^ 8 from rfl, ← Nat.pow_mul]

theorem pow256_le (j : Nat) (h : j ≤ 6) : 1 ≤ 256 ^ j ∧ 256 ^ j ≤ 281474976710656 := by
  match j, h with
  | 0, _ => decide
  | 1, _ => decide
  | 2, _ => decide
  | 3, _ => decide
  | 4, _ => decide
  | 5, _ => decide
  | 6, _ => decide

/-- One round of Number. -/
theorem orStep (A x j : Nat) (hA : A < 256 ^ j) (hx : x < 256) (hj : j ≤ 6) : bits .or .i64 (A : Int) (wrap64 ((x : Int) * 2 ^ (8 * j))) = ((A + x * 256 ^ j : Nat) : Int) := by
  have hp := pow256_le j hj
  have hb : x * 256 ^ j < 72057594037927936 := Nat.lt_of_le_of_lt (Nat.mul_le_mul_left x hp.2) (by omega)
  have e : (x : Int) * 2 ^ (8 * j) = ((x * 256 ^ j : Nat) : Int) := by rw [pow256, Int.natCast_mul, Int.natCast_pow]; rfl
  rw [e, IntWalk.wrap64_in _ (by omega)]
  refine (bits_join_low .i64 63 (by decide) i64_small (8 * j) _ _ (by omega) ?_ (by omega) (by omega) ?_ (by omega)).trans (by omega)
  · rw [pow256] at hA; exact_mod_cast hA
  · rw [pow256]; exact_mod_cast Nat.mul_mod_left x (2 ^ (8 * j))
end Go.Proofs.Ytlkkgboaicjaiaa
