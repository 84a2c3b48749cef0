/-
  The reference's Put at what fits.
-/
import Derived.Test.YtlkkgboaicjaiaaPut
import Derived.Test.YtlkkgboaicjaiaaRMost
namespace Go.Proofs.Ytlkkgboaicjaiaa
open Go.RowKit

theorem div_le (n k : Nat) : n / 256 ^ k ≤ n := Nat.div_le_self _ _
theorem div_succ (n k : Nat) : n / 256 ^ k / 256 = n / 256 ^ (k + 1) := by rw [Nat.div_div_eq_div_mul, Nat.pow_succ]

set_option maxRecDepth 100000 in
/-- The reference's Put. -/
theorem rput_yes (n wd : Nat) (w : World) (h1 : 1 ≤ wd) (h7 : wd ≤ 7) (h : (n : Int) ≤ mostI wd) : Calls Try.prog 37 #[.int .i64 n, .int .i64 wd] w fun e w' => e = .returned (.string ⟨(leList n wd).toArray⟩) ∧ Below w.heap.size w w' := by
  obtain ⟨i0, hi, hz0, hz1, hz2⟩ := info_parts infoU8
  have hn : n ≤ 72057594037927936 := by
    unfold mostI at h
    rw [if_pos (by omega), Int.toNat_natCast] at h
    have := p256' wd h7
    omega
  go_enter Try.func37, Try.ntmps37
  go_wp2_with fail
  refine (rmost_any wd _).mono ?_
  rintro e w' ⟨rfl, rfl⟩
  go_wp2
  go_loopw [0, 5, 6] (fun x v i wr => ∃ k : Nat, k ≤ wd ∧ i = .int .i64 k ∧ x = .int .i64 ((n / 256 ^ k : Nat) : Int) ∧ Hid (Buf wr w.heap.size v (leList n k)) ∧ Hid (Below w.heap.size w wr)) (fun _ _ i _ => wd - (RowKit.intOf i).toNat)
  case atStart => exact ⟨0, Nat.zero_le _, rfl, by simp, Buf.nil _ _, Below.refl _ _⟩
  case round =>
    obtain ⟨k, hk, rfl, rfl, HBr, HLr⟩ := hrel
    by_cases hlt : k < wd
    · have hd := div_le n k
      have hsn := Lib.hid (leList_snoc n k)
      have hq := Lib.hid (div_succ n k)
      generalize n / 256 ^ k = q at *
      have hsz := HLr.out.size
      have hl := leList_length n k
      go_wp2_with (at_builtin; refine wp_buf_push _ rfl _ _ rfl w.heap.size _ (leList n k) rfl (HBr.out.alloc _) ⟨wr.heap.size, 0, none⟩ 1 1 [UInt8.ofNat q] rfl rfl ?c1 (by omega) (by simp; omega) ?_)
      case c1 =>
        intro j u hj
        match j, hj with
        | 0, hj => simp at hj; subst hj; simp [Addr.add, byV]
      intro v' w' hb' hl'
      rw [← hsn.out] at hb'
      have HB' := Lib.hid hb'
      have HL' := Lib.hid (HLr.out.trans (((Below.refl _ _).alloc (by omega) _).trans hl'))
      clear hb' hl' hl
      go_wp2
      go_roundw
      case rel => exact ⟨k + 1, by omega, by go_num, by rw [← hq.out]; go_num, HB', HL'⟩
      case measure => simp [RowKit.intOf]; omega
    · have hkk : k = wd := by omega
      subst hkk
      have hc := HBr.out.text
      go_wp2
      go_ret
      exact ⟨rfl, HLr.out⟩
end Go.Proofs.Ytlkkgboaicjaiaa
