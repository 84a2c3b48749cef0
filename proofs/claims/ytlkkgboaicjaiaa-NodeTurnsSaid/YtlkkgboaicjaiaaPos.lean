/-
  A reader that stands at place k of a text, or has been cut: for the program's reader and the reference's.
-/
import Derived.Test.YtlkkgboaicjaiaaReader
namespace Go.Proofs.Ytlkkgboaicjaiaa
open Go.RowKit

def posS (s : ByteArray) (k : Nat) : ByteArray := if k ≤ s.size then s.extract k s.size else ⟨#[]⟩
def posE (s : ByteArray) (k : Nat) : Int := if k ≤ s.size then 0 else 2
def valB (s : ByteArray) (k n : Nat) : ByteArray := if k + n ≤ s.size then s.extract k (k + n) else ⟨#[]⟩
def valN (s : ByteArray) (k n : Nat) : Nat := leVal (valB s k n).data.toList
def posEnd (s : ByteArray) (k : Nat) : Int := if k < s.size then 3 else if k = s.size then 0 else 2

theorem posS_size (s : ByteArray) (k : Nat) : (posS s k).size = s.size - k := by
  unfold posS; split
  · rw [ByteArray.size_extract]; omega
  · show 0 = _; omega
theorem extract_extract' (s : ByteArray) (k n : Nat) (h : k + n ≤ s.size) : (s.extract k s.size).extract 0 n = s.extract k (k + n) := by
  rw [ByteArray.extract_extract]; congr 1 <;> omega
theorem extract_drop' (s : ByteArray) (k n : Nat) (_h : k + n ≤ s.size) : (s.extract k s.size).extract n (s.size - k) = s.extract (k + n) s.size := by
  rw [ByteArray.extract_extract]; congr 1; omega

theorem pos_bytes (s : ByteArray) (k n : Nat) : bytesR (posS s k) n = valB s k n ∧ bytesS (posS s k) (posE s k) n = posS s (k + n) ∧ bytesE (posS s k) (posE s k) n = posE s (k + n) := by
  have hz := posS_size s k
  by_cases h : k + n ≤ s.size
  · have c : ¬ ((n : Int) < 0 ∨ ((posS s k).size : Int) < n) := by rw [hz]; omega
    have c1 : ¬ (n : Int) < 0 := by omega
    have c2 : ¬ ((posS s k).size : Int) < n := by rw [hz]; omega
    unfold bytesR bytesS bytesE valB
    rw [if_neg c, if_neg c, if_neg c1, if_neg c2, if_pos h, hz, Int.toNat_natCast]
    unfold posS posE
    rw [if_pos (by omega : k ≤ s.size), if_pos h, if_pos h, if_pos (by omega : k ≤ s.size)]
    exact ⟨extract_extract' s k n h, extract_drop' s k n h, rfl⟩
  · by_cases h0 : n = 0
    · subst h0
      have hk : ¬ k ≤ s.size := by omega
      have e : posS s k = ⟨#[]⟩ := if_neg hk
      rw [e, Nat.add_zero]
      unfold valB
      rw [if_neg h, e]
      refine ⟨rfl, rfl, ?_⟩
      unfold bytesE
      rw [if_neg (by decide), if_neg (by decide)]
    have c2 : ((posS s k).size : Int) < n := by rw [hz]; omega
    have c1 : ¬ (n : Int) < 0 := by omega
    unfold bytesR bytesS bytesE valB
    rw [if_pos (Or.inr c2), if_pos (Or.inr c2), if_neg c1, if_pos c2, if_neg h]
    refine ⟨rfl, ?_, ?_⟩
    · unfold posE failS posS
      rw [if_neg h]
      by_cases hk : k ≤ s.size
      · rw [if_pos hk, if_pos rfl]
      · rw [if_neg hk, if_neg (by decide), if_neg hk]
    · unfold posE failE
      rw [if_neg h]
      by_cases hk : k ≤ s.size
      · rw [if_pos hk, if_pos rfl]
      · rw [if_neg hk, if_neg (by decide)]

theorem pos_num (s : ByteArray) (k n : Nat) (h1 : 1 ≤ n) (h7 : n ≤ 7) : numR (posS s k) n = valN s k n ∧ numS (posS s k) (posE s k) n = posS s (k + n) ∧ numE (posS s k) (posE s k) n = posE s (k + n) := by
  have hp := pos_bytes s k n
  have hk : okW (n : Int) := ⟨by omega, by omega⟩
  unfold numR numS numE
  rw [if_pos hk, if_pos hk, if_pos hk, hp.1]
  exact ⟨rfl, hp.2⟩

theorem pos_end (s : ByteArray) (k : Nat) : endR (posS s k) (posE s k) = posEnd s k := by
  unfold endR posEnd
  rw [posS_size]
  unfold posE
  split <;> split <;> (try split) <;> omega

/-- The program's reader, at place k of s. -/
def RdPos (w : World) (b : Nat) (s : ByteArray) (k : Nat) : Prop := RdAt w b (posS s k) (posE s k)

theorem read_pos (s : ByteArray) (w : World) : Calls Try.prog 42 #[.string s] w fun e w' =>
    e = .returned (.pointer (some ⟨w.heap.size, 0, none⟩)) ∧ RdPos w' w.heap.size s 0 ∧ Below w.heap.size w w' :=
  (read_any s w).mono fun e w' ⟨h1, h2, h3⟩ => ⟨h1, by
    unfold RdPos posS posE
    rw [if_pos (Nat.zero_le _), if_pos (Nat.zero_le _)]
    have : s.extract 0 s.size = s := ByteArray.extract_zero_size
    rw [this]; exact h2, h3⟩
theorem number_pos (b : Nat) (s : ByteArray) (k n : Nat) (h1 : 1 ≤ n) (h7 : n ≤ 7) (w : World) (h : RdPos w b s k) :
    Calls Try.prog 44 #[.pointer (some ⟨b, 0, none⟩), .int .i64 n] w fun e w' => e = .returned (.int .i64 (valN s k n)) ∧ RdPos w' b s (k + n) ∧ Only b w w' := by
  have hp := pos_num s k n h1 h7
  refine (number_own b _ _ n w h).mono fun e w' ⟨a, c, d⟩ => ⟨by rw [a, hp.1], ?_, d⟩
  rw [hp.2.1, hp.2.2] at c
  exact c
theorem bytes_pos (b : Nat) (s : ByteArray) (k n : Nat) (w : World) (h : RdPos w b s k) :
    Calls Try.prog 43 #[.pointer (some ⟨b, 0, none⟩), .int .i64 n] w fun e w' => e = .returned (.string (valB s k n)) ∧ RdPos w' b s (k + n) ∧ Only b w w' := by
  have hp := pos_bytes s k n
  refine (bytes_own b _ _ n w h).mono fun e w' ⟨a, c, d⟩ => ⟨by rw [a, hp.1], ?_, d⟩
  rw [hp.2.1, hp.2.2] at c
  exact c
theorem end_pos (b : Nat) (s : ByteArray) (k : Nat) (w : World) (h : RdPos w b s k) :
    Calls Try.prog 46 #[.pointer (some ⟨b, 0, none⟩)] w fun e w' => e = .returned (.int .i64 (posEnd s k)) ∧ w = w' :=
  (end_any b _ _ w h).mono fun e w' ⟨a, c⟩ => ⟨by rw [a, pos_end], c⟩
end Go.Proofs.Ytlkkgboaicjaiaa
