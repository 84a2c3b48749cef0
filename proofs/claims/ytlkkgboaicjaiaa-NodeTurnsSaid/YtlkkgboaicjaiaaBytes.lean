/-
  Byte texts as lists: what is put, and taken again.
-/
import Derived.Test.YtlkkgboaicjaiaaPos
namespace Go.Proofs.Ytlkkgboaicjaiaa
open Go.RowKit

def bl (s : ByteArray) : List UInt8 := s.data.toList
theorem bl_size (s : ByteArray) : (bl s).length = s.size := by simp [bl]
theorem bl_append (a b : ByteArray) : bl (a ++ b) = bl a ++ bl b := by simp [bl]
theorem bl_ext {a b : ByteArray} (h : bl a = bl b) : a = b := by
  apply ByteArray.ext
  exact Array.toList_inj.1 h
theorem bl_mk (l : List UInt8) : bl ⟨l.toArray⟩ = l := by simp [bl]

def vL (l : List UInt8) (k n : Nat) : List UInt8 := (l.drop k).take n
theorem vL_here {B C : List UInt8} {n : Nat} (h : B.length = n) : vL (B ++ C) 0 n = B := by
  subst h; simp [vL]
theorem vL_last {B : List UInt8} {n : Nat} (h : B.length = n) : vL B 0 n = B := by
  subst h; simp [vL]
theorem vL_skip {A T : List UInt8} {a k n : Nat} (h : A.length = a) (hk : a ≤ k) : vL (A ++ T) k n = vL T (k - a) n := by
  subst h
  unfold vL
  rw [List.drop_append, List.drop_of_length_le hk, List.nil_append]
theorem vL_join (l : List UInt8) (k n : Nat) : vL l k n ++ l.drop (k + n) = l.drop k := by
  unfold vL
  rw [← List.drop_drop]
  exact List.take_append_drop n (l.drop k)

theorem valB_bl (s : ByteArray) (k n : Nat) (h : k + n ≤ s.size) : bl (valB s k n) = vL (bl s) k n := by
  unfold valB
  rw [if_pos h]
  unfold bl vL
  rw [ByteArray.data_extract, Array.toList_extract]
  simp only [List.extract_eq_take_drop]
  congr 1
  omega
theorem valN_bl (s : ByteArray) (k n : Nat) (h : k + n ≤ s.size) : valN s k n = leVal (vL (bl s) k n) := by
  rw [← valB_bl s k n h]; rfl

theorem leVal_leL : ∀ (n k : Nat), n < 256 ^ k → leVal (leList n k) = n
  | n, 0, h => by simp at h; subst h; rfl
  | n, k + 1, h => by
    have : n / 256 < 256 ^ k := by rw [Nat.pow_succ] at h; omega
    simp only [leList, leVal, leVal_leL (n / 256) k this]
    have : (UInt8.ofNat n).toNat = n % 256 := by simp
    omega
theorem leL_leVal : ∀ l : List UInt8, leList (leVal l) l.length = l
  | [] => rfl
  | x :: r => by
    have hx := x.toNat_lt
    simp only [leVal, List.length_cons, leList]
    rw [show (x.toNat + 256 * leVal r) / 256 = leVal r by omega, leL_leVal r]
    congr 1
    apply UInt8.toNat_inj.1
    simp

theorem putB_bl (n w : Nat) (h1 : 1 ≤ w) (h7 : w ≤ 7) (h : n < 256 ^ w) : bl (putB n w) = leList n w := by
  unfold putB
  rw [if_neg, Int.toNat_natCast, Int.toNat_natCast, bl_mk]
  unfold mostI
  rw [if_pos (by omega), Int.toNat_natCast]
  have : ((n : Nat) : Int) < ((256 ^ w : Nat) : Int) := by exact_mod_cast h
  rw [Int.natCast_pow] at this
  have h2 : ((256 : Nat) : Int) ^ w = (256 : Int) ^ w := rfl
  omega

theorem posEnd_end (s : ByteArray) (k : Nat) (h : s.size = k) : posEnd s k = 0 := by
  unfold posEnd; rw [if_neg (by omega), if_pos (by omega)]

theorem put_val (s : ByteArray) (k n : Nat) (h1 : 1 ≤ n) (h7 : n ≤ 7) (h : k + n ≤ s.size) : bl (putB ((valN s k n : Nat) : Int) (n : Nat)) = vL (bl s) k n := by
  have hz : (vL (bl s) k n).length = n := by
    unfold vL; rw [List.length_take, List.length_drop, bl_size]; omega
  have hlt := leVal_lt (vL (bl s) k n)
  rw [hz] at hlt
  rw [valN_bl s k n h, putB_bl _ n h1 h7 hlt]
  have := leL_leVal (vL (bl s) k n)
  rwa [hz] at this

end Go.Proofs.Ytlkkgboaicjaiaa
