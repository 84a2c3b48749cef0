/-
  The walk of FixedLow.
-/
import Derived.Test.YtjhhgaajpojjfaaLive
import Derived.Test.YtjhhgaajpojjfaaFrame
namespace Go.Proofs.Ytjhhgaajpojjfaa.fixedLow
open Go.RowKit

theorem next_low (n wd : Nat) (h : (n : Int) ≤ mostI wd) : wd < 7 → putB n ((wd : Int) + 1) = putB n wd ++ ⟨#[0]⟩ := by
  intro h7
  have hk := okW_of n wd (by omega) h
  unfold mostI at h
  rw [if_pos hk, Int.toNat_natCast] at h
  have hlt : n < 256 ^ wd := by
    have : (n : Int) < ((256 ^ wd : Nat) : Int) := by rw [Int.natCast_pow]; show (n : Int) < (256 : Int) ^ wd; omega
    exact_mod_cast this
  unfold putB
  have hm0 : ¬ ((n : Int) < 0 ∨ mostI wd < n) := by
    unfold mostI
    rw [if_pos (by omega), Int.toNat_natCast]
    omega
  have hm : (n : Int) ≤ mostI ((wd : Int) + 1) := by
    unfold mostI
    rw [if_pos (by omega), show ((wd : Int) + 1).toNat = wd + 1 by omega, Int.pow_succ]
    omega
  rw [if_neg (by omega), if_neg hm0, show ((wd : Int) + 1).toNat = wd + 1 by omega, Int.toNat_natCast, Int.toNat_natCast, leList_snoc, Nat.div_eq_of_lt hlt]
  apply ByteArray.ext
  simp [ByteArray.data_append]

theorem walk (w : World) (a0 : Int) (w0 : (Lit.int .i64 a0).wf = true) (a1 : Int) (w1 : (Lit.int .i64 a1).wf = true) :
    Calls Try.prog 7 #[.int .i64 a0, .int .i64 a1] w fun e w' => e = .returned (.bool true) ∧ Below w.heap.size w w' := by
  by_cases h : a0 < 0 ∨ mostI a1 < a0
  · have e0 : putB a0 a1 = ⟨#[]⟩ := if_pos h
    go_enter Try.func7, Try.ntmps7
    go_wp2_with fail
    refine (put_any a0 a1 _).mono ?_
    rintro e w1 ⟨rfl, hb⟩
    rw [e0]
    have H1 := Lib.hid hb
    clear hb e0 h
    go_wp2_with fail
    refine (live_any _).mono ?_
    rintro e wl ⟨rfl, hb⟩
    have Hl := Lib.hid (H1.out.trans (hb.mono H1.out.size))
    clear hb
    go_wp2
    go_ret
    exact ⟨rfl, Hl.out⟩
  · have e0 : putB a0 a1 = _ := if_neg h
    have hk := okW_of a0 a1 (by omega) (by omega)
    obtain ⟨n, rfl⟩ : ∃ k : Nat, a0 = k := ⟨a0.toNat, by omega⟩
    obtain ⟨wd, rfl⟩ : ∃ k : Nat, a1 = k := ⟨a1.toNat, by omega⟩
    go_enter Try.func7, Try.ntmps7
    go_wp2_with fail
    refine (put_any n wd _).mono ?_
    rintro e w1 ⟨rfl, hb⟩
    have H1 := Lib.hid hb
    clear hb
    have e1 := Lib.hid (next_low n wd (by omega))
    have hsz : (putB n wd).size = wd := by rw [e0, Int.toNat_natCast, Int.toNat_natCast]; simp [ByteArray.size, leList_length]
    obtain ⟨s, hs⟩ : ∃ s, s = putB n wd := ⟨_, rfl⟩
    rw [← hs] at e1 hsz ⊢
    have hl1 : s.size ≤ wd := by omega
    have hl2 : wd ≤ s.size := by omega
    obtain ⟨hn1, hn2⟩ := str_some s (by omega)
    clear hs h hsz e0
    by_cases h7 : wd < 7
    · go_wp2_with fail
      refine (put_any n _ _).mono ?_
      rintro e w2 ⟨rfl, hb⟩
      rw [e1.out h7]
      have H2 := Lib.hid (H1.out.trans (hb.mono H1.out.size))
      clear hb H1
      go_wp2_with fail
      refine (live_any _).mono ?_
      rintro e wl ⟨rfl, hb⟩
      have Hl := Lib.hid (H2.out.trans (hb.mono H2.out.size))
      clear hb
      go_wp2
      go_ret
      exact ⟨rfl, Hl.out⟩
    · go_wp2_with fail
      refine (live_any _).mono ?_
      rintro e wl ⟨rfl, hb⟩
      have Hl := Lib.hid (H1.out.trans (hb.mono H1.out.size))
      clear hb
      go_wp2
      go_ret
      exact ⟨rfl, Hl.out⟩
end Go.Proofs.Ytjhhgaajpojjfaa.fixedLow
