/-
  The contract of the reference's Hex.
-/
import Derived.Test.YtfnihldcnjnpbaaDoorHex
namespace Go.Proofs.YtfnihldcnjnpbaaDoor
open Go.RowKit

set_option maxHeartbeats 1000000 in
theorem rhex_any (s : ByteArray) (w : World) (hs : s.size ≤ 70368744177664) : Calls Tryd.prog 11 #[.string s] w fun e w' => e = .returned (.string (hexB s)) ∧ Below w.heap.size w w' := by
  have hbt := byN_get s
  have hdg := byN_get ⟨#[48, 49, 50, 51, 52, 53, 54, 55, 56, 57, 97, 98, 99, 100, 101, 102]⟩
  go_enter Tryd.func11, Tryd.ntmps11
  go_wp2
  go_loopw [4, 5] (fun v i wr => ∃ k : Nat, k ≤ s.size ∧ i = .int .i64 k ∧ Hid (Buf wr w.heap.size v (hexK s k)) ∧ Hid (Below w.heap.size w wr)) (fun _ i _ => s.size - (intOf i).toNat)
  case atStart => exact ⟨0, Nat.zero_le _, rfl, by simp [hexK]; exact Buf.nil _ _, Below.refl _ _⟩
  case round =>
    obtain ⟨k, hk, rfl, HB, HL⟩ := hrel
    have hsz := HL.out.size
    by_cases hlt : k < s.size
    · have hnext := Lib.hid (hexK_succ s k hlt)
      have hkl := hexK_length s k hk
      have hx := byN_lt s k
      have q1 : 0 ≤ (byN s k : Int) / 16 := by omega
      have q2 : (byN s k : Int) / 16 < 16 := by omega
      have q3 : 0 ≤ (byN s k : Int) % 16 := by omega
      have q4 : (byN s k : Int) % 16 < 16 := by omega
      have hw1 : IntKind.u8.wrap ((byN s k : Int) / 16) = (byN s k : Int) / 16 := by rw [IntKind.wrap_u8]; omega
      have hw2 : IntKind.u8.wrap ((byN s k : Int) % 16) = (byN s k : Int) % 16 := by rw [IntKind.wrap_u8]; omega
      have hw3 : (byN s k : Int).tmod 16 = (byN s k : Int) % 16 := Int.tmod_eq_emod_of_nonneg (by omega)
      have hlt' : (k : Int) < (s.size : Int) := by omega
      go_wp2_with fail
      go_region_law ((refine step_buf_push (by rfl) _ _ (by rfl) w.heap.size _ (hexK s k) (by rfl) (by exact HB.out.alloc _) ⟨wr.heap.size, 0, none⟩ 2 2 (hx2 (byN s k)) (by rfl) (by rfl) (hex_cells (by simp) (by simp)) (by omega) (by simp; omega) ?_; intro v' w' hb' hl'; have HB' := Lib.hid hb'; have HL' := Lib.hid hl'; clear hb' hl'))
      all_goals
        rw [← hnext.out] at HB'
        have HL2 := Lib.hid (HL.out.trans (((Below.refl _ _).alloc (by omega) _).trans (show Below w.heap.size (wr.alloc _) w' from ⟨HL'.out.os, HL'.out.tape, HL'.out.output, HL'.out.size, HL'.out.block⟩)))
        clear HL' HL HB hnext
        go_wp2
        go_roundw
        case rel => exact ⟨k + 1, by omega, by go_num, HB', HL2⟩
        case measure => simp [intOf]; omega
    · have hkl : k = s.size := by omega
      subst hkl
      have hc := HB.out.text
      rw [hexK_all] at hc
      go_wp2
      go_ret
      exact ⟨rfl, HL.out⟩
end Go.Proofs.YtfnihldcnjnpbaaDoor
