/-
  The walk of FixedCut.
-/
import Derived.Test.YtjhhgaajpojjfaaLive
import Derived.Test.YtjhhgaajpojjfaaFrame
namespace Go.Proofs.Ytjhhgaajpojjfaa.fixedCut
open Go.RowKit

theorem cut_bytes (s : ByteArray) (k wd : Nat) (hk : k < s.size) (hl : s.size ≤ wd) : bytesR (s.extract 0 k) wd = ⟨#[]⟩ ∧ bytesS (s.extract 0 k) 0 wd = ⟨#[]⟩ ∧ bytesE (s.extract 0 k) 0 wd = 2 := by
  have hz : (s.extract 0 k).size = k := by rw [ByteArray.size_extract]; omega
  have h1 : ((wd : Int) < 0 ∨ ((s.extract 0 k).size : Int) < wd) := by omega
  refine ⟨if_pos h1, (if_pos h1).trans rfl, ?_⟩
  unfold bytesE
  rw [if_neg (by omega), if_pos (by omega)]
  rfl

theorem walk (w : World) (a0 : Int) (w0 : (Lit.int .i64 a0).wf = true) (a1 : Int) (w1 : (Lit.int .i64 a1).wf = true) (a2 : Int) (w2 : (Lit.int .i64 a2).wf = true) :
    Calls Try.prog 5 #[.int .i64 a0, .int .i64 a1, .int .i64 a2] w fun e w' => e = .returned (.bool true) ∧ Below w.heap.size w w' := by
  by_cases h : a0 < 0 ∨ mostI a1 < a0
  · have e0 : putB a0 a1 = ⟨#[]⟩ := if_pos h
    go_enter Try.func5, Try.ntmps5
    go_wp2_with fail
    refine (put_any a0 a1 _).mono ?_
    rintro e wa ⟨rfl, hb⟩
    rw [e0]
    have H1 := Lib.hid hb
    clear hb e0 h
    go_wp2_with fail
    refine (live_any _).mono ?_
    rintro e wl ⟨rfl, hb⟩
    have Hl := Lib.hid (H1.out.trans (hb.mono H1.out.size))
    clear hb
    go_wp2
    go_ret
    exact ⟨rfl, Hl.out⟩
  · have e0 : putB a0 a1 = _ := if_neg h
    have hk := okW_of a0 a1 (by omega) (by omega)
    obtain ⟨n, rfl⟩ : ∃ k : Nat, a0 = k := ⟨a0.toNat, by omega⟩
    obtain ⟨wd, rfl⟩ : ∃ k : Nat, a1 = k := ⟨a1.toNat, by omega⟩
    go_enter Try.func5, Try.ntmps5
    go_wp2_with fail
    refine (put_any n wd _).mono ?_
    rintro e wa ⟨rfl, hb⟩
    have H1 := Lib.hid hb
    clear hb
    have hsz : (putB n wd).size = wd := by rw [e0, Int.toNat_natCast, Int.toNat_natCast]; simp [ByteArray.size, leList_length]
    generalize putB n wd = s at *
    have hl1 : s.size ≤ wd := by omega
    have hl2 : wd ≤ s.size := by omega
    obtain ⟨hn1, hn2⟩ := str_some s (by omega)
    clear h hsz e0
    by_cases hat : a2 < 0 ∨ (s.size : Int) ≤ a2
    · by_cases hat0 : a2 < 0
      · clear hat
        go_wp2_with fail
        refine (live_any _).mono ?_
        rintro e wl ⟨rfl, hb⟩
        have Hl := Lib.hid (H1.out.trans (hb.mono H1.out.size))
        clear hb
        go_wp2
        go_ret
        exact ⟨rfl, Hl.out⟩
      · have hat1 : (s.size : Int) ≤ a2 := by omega
        clear hat
        go_wp2_with fail
        refine (live_any _).mono ?_
        rintro e wl ⟨rfl, hb⟩
        have Hl := Lib.hid (H1.out.trans (hb.mono H1.out.size))
        clear hb
        go_wp2
        go_ret
        exact ⟨rfl, Hl.out⟩
    · obtain ⟨k, rfl⟩ : ∃ k : Nat, a2 = k := ⟨a2.toNat, by omega⟩
      have hks : k < s.size := by omega
      clear hat
      go_wp2_with fail
      refine (read_any (s.extract 0 k) _).mono ?_
      rintro e wb ⟨rfl, hr, hb⟩
      have Hr := Lib.hid hr
      have H2 := Lib.hid (H1.out.trans (hb.mono H1.out.size))
      have hg := Lib.hid H1.out.size
      clear hb hr H1
      generalize wa.heap.size = g at *
      have c0 : numR (s.extract 0 k) wd = 0 := by
        have hb := cut_bytes s k wd hks hl1
        unfold numR
        rw [hb.1]
        simp [leVal]
      have c1 : numS (s.extract 0 k) 0 wd = ⟨#[]⟩ := by
        have hb := cut_bytes s k wd hks hl1
        unfold numS
        rw [if_pos (show okW wd from hk)]; exact hb.2.1
      have c2 : numE (s.extract 0 k) 0 wd = 2 := by
        have hb := cut_bytes s k wd hks hl1
        unfold numE
        rw [if_pos (show okW wd from hk)]; exact hb.2.2
      have C0 := Lib.hid c0
      have C1 := Lib.hid c1
      have C2 := Lib.hid c2
      clear c0 c1 c2
      go_wp2_with fail
      refine (number_any g _ 0 wd _ Hr.out).mono ?_
      rintro e wc ⟨rfl, hr, hb⟩
      rw [C0.out]
      rw [C1.out, C2.out] at hr
      have Hr2 := Lib.hid hr
      have H3 := Lib.hid (H2.out.trans (hb.mono hg.out))
      clear hb hr H2 Hr
      go_wp2_with fail
      refine (end_any g _ _ _ Hr2.out).mono ?_
      rintro e w' ⟨rfl, rfl⟩
      rw [show endR ⟨#[]⟩ 2 = 2 from rfl]
      go_wp2_with fail
      refine (left_any g _ _ _ Hr2.out).mono ?_
      rintro e w' ⟨rfl, rfl⟩
      go_wp2_with fail
      refine (live_any _).mono ?_
      rintro e wl ⟨rfl, hb⟩
      have Hl := Lib.hid (H3.out.trans (hb.mono H3.out.size))
      clear hb
      go_wp2
      go_ret
      exact ⟨rfl, Hl.out⟩
end Go.Proofs.Ytjhhgaajpojjfaa.fixedCut
