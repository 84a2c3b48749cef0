/-
  The ring behind several roots, some of them spoilt: which is the best.
-/
import Derived.Test.YtcdjchpmgekjgabDoorUberMath2
namespace Go.Proofs.YtcdjchpmgekjgabDoor
open Go.RowKit

def spD (d : DevD) (M : Nat) (s : ByteArray) : Nat → DevD
  | 0 => d
  | i + 1 => spoilD (spoilD (spD d M s i) (0, (((M - i) % 4 : Nat) : Int)) s) (1, (((M - i) % 4 : Nat) : Int)) s
def spU (M j : Nat) : Nat → Bool
  | 0 => false
  | i + 1 => spU M j i || decide ((M - i) % 4 = j)
def spT (l : Nat → ByteArray) (M : Nat) (s : ByteArray) (i : Nat) (dev j : Int) : ByteArray := if j < 4 ∧ spU M j.toNat i = true then s else ringT l (M + 1) dev j
theorem sp_is (l : Nat → ByteArray) (M : Nat) (hm : M + 1 ≤ 1000) (hl : ∀ i, i < M + 1 → (l i).size ≤ 960) (s : ByteArray) (hs : s.size ≤ 1024) : ∀ i, i ≤ M + 1 →
    Rg 9 (spD (ringD l (M + 1)) M s i) (spT l M s i) (spT l M s i) (fun _ => false) ∧ (spD (ringD l (M + 1)) M s i).waits = []
  | 0, _ => by
    obtain ⟨h1, h2⟩ := ring_is l (M + 1) hm hl (M + 1) (Nat.le_refl _)
    exact ⟨h1.congr (fun dev j _ _ _ => by unfold spT spU; simp) (fun dev j _ _ _ => by unfold spT spU; simp), h2⟩
  | i + 1, hi => by
    obtain ⟨h1, h2⟩ := sp_is l M hm hl s hs i (by omega)
    have hp : 0 ≤ (((M - i) % 4 : Nat) : Int) ∧ (((M - i) % 4 : Nat) : Int) < (9 : Nat) := by omega
    obtain ⟨g1, g2⟩ := h1.spoil ((0, (((M - i) % 4 : Nat) : Int)), s) (.inl rfl) hp.1 hp.2 hs
    obtain ⟨g3, g4⟩ := g1.spoil ((1, (((M - i) % 4 : Nat) : Int)), s) (.inr rfl) hp.1 hp.2 hs
    have hc : ∀ dev j : Int, two dev → 0 ≤ j → j < (9 : Nat) → upd (upd (spT l M s i) ((0, (((M - i) % 4 : Nat) : Int)), s)) ((1, (((M - i) % 4 : Nat) : Int)), s) dev j = spT l M s (i + 1) dev j := by
      intro dev j hd h0 _
      rw [show upd (upd (spT l M s i) ((0, (((M - i) % 4 : Nat) : Int)), s)) ((1, (((M - i) % 4 : Nat) : Int)), s) dev j = _ from upd_two (spT l M s i) _ s dev j hd]
      unfold spT
      conv => rhs; unfold spU
      by_cases e : j = (((M - i) % 4 : Nat) : Int)
      · rw [if_pos e, if_pos ⟨by omega, by rw [Bool.or_eq_true]; right; exact decide_eq_true (by omega)⟩]
      · rw [if_neg e]
        have hd2 : decide ((M - i) % 4 = j.toNat) = false := decide_eq_false (by omega)
        rw [hd2, Bool.or_false]
    have g2' : (spoilD (spD (ringD l (M + 1)) M s i) (0, (((M - i) % 4 : Nat) : Int)) s).waits.length ≤ 0 := by rw [h2] at g2; exact g2
    exact ⟨g3.congr hc hc, List.eq_nil_of_length_eq_zero (Nat.le_zero.1 (Nat.le_trans g4 g2'))⟩

def numT (M i j : Nat) : Option Nat := if spU M j i = true then none else lastT (M + 1) j
def leT (o : Option Nat) (b : Nat) : Bool := match o with
  | none => true
  | some t => decide (t ≤ b)
theorem num_a : ∀ M, M < 12 → ∀ S, S < 7 → (M + 1 ≤ S ∨ 3 < S) → ∀ j, j < 4 → numT M (min S (M + 1)) j = none := by decide +kernel
theorem num_b : ∀ M, M < 12 → ∀ S, S < 4 → S ≤ M → ((∀ j, j < 4 → leT (numT M S j) (M - S) = true) ∧ numT M S ((M - S) % 4) = some (M - S)) := by decide +kernel
theorem sp_root (l : Nat → ByteArray) (M : Nat) (hm : M + 1 ≤ 1000) (hl : ∀ i, i < M + 1 → (l i).size ≤ 960) (s : ByteArray) (hs : s.size < 42) (i : Nat) (hi : i ≤ M + 1) (k : Nat) (hk : k < 8) :
    rootK (spD (ringD l (M + 1)) M s i) k = tagR l (numT M i (k % 4)) := by
  have h := (sp_is l M hm hl s (by omega) i hi).1
  rw [h.root (by decide) k hk, if_neg (by simp)]
  unfold spT numT
  rw [Int.toNat_natCast]
  by_cases e : spU M (k % 4) i = true
  · rw [if_pos ⟨by omega, e⟩, if_pos e]
    exact rt_short s _ hs
  · rw [if_neg (fun h => e h.2), if_neg e]
    unfold ringT
    rw [if_pos (by omega), Int.toNat_natCast]
    exact tag_root l (M + 1) hm hl (M + 1) (k % 4) (Nat.le_refl _) (by omega)
theorem sp_small (l : Nat → ByteArray) (M : Nat) (hm : M + 1 ≤ 1000) (hl : ∀ i, i < M + 1 → (l i).size ≤ 960) (s : ByteArray) (hs : s.size < 42) (i : Nat) (hi : i ≤ M + 1) (x : Int × Int) : (tellD (spD (ringD l (M + 1)) M s i) x).size ≤ 2000 := by
  refine (sp_is l M hm hl s (by omega) i hi).1.small (fun dev j _ _ _ => ?_) x
  unfold spT
  split
  · omega
  · exact ringT_small l (M + 1) hm hl (M + 1) (Nat.le_refl _) dev j
/-- UberNewest: none is left. -/
theorem newest_none (l : Nat → ByteArray) (M : Nat) (hM : M < 12) (hl : ∀ i, i < M + 1 → (l i).size ≤ 960) (s : ByteArray) (hs : s.size < 42) (S : Nat) (hS : S < 7) (h : M + 1 ≤ S ∨ 3 < S) :
    bestU (spD (ringD l (M + 1)) M s (min S (M + 1))) = (ub0, false) :=
  best_none _ (fun k hk => by rw [sp_root l M (by omega) hl s hs _ (by omega) k hk, num_a M hM S hS h (k % 4) (by omega)]; rfl)
/-- UberNewest: the best of those that are left. -/
theorem newest_best (l : Nat → ByteArray) (M : Nat) (hM : M < 12) (hl : ∀ i, i < M + 1 → (l i).size ≤ 960) (s : ByteArray) (hs : s.size < 42) (S : Nat) (hS : S < 4) (h : S ≤ M) :
    bestU (spD (ringD l (M + 1)) M s S) = (⟨((M - S : Nat) : Int), l (M - S)⟩, true) := by
  obtain ⟨h1, h2⟩ := num_b M hM S hS h
  refine best_max _ _ (fun k hk => ?_) ⟨(M - S) % 4, by omega, ?_⟩ (by simp only; omega)
  · rw [sp_root l M (by omega) hl s hs S (by omega) k hk]
    have h3 := h1 (k % 4) (by omega)
    cases e : numT M S (k % 4) with
    | none => right; show (-1 : Int) < _; simp only; omega
    | some t =>
      rw [e] at h3
      have ht : t ≤ M - S := of_decide_eq_true h3
      by_cases e2 : t = M - S
      · subst e2; exact .inl rfl
      · right; show (t : Int) < ((M - S : Nat) : Int); omega
  · rw [sp_root l M (by omega) hl s hs S (by omega) _ (by omega), Nat.mod_mod, h2]; rfl
end Go.Proofs.YtcdjchpmgekjgabDoor
