/-
  The walk of SpaceRefuse.
-/
import Derived.Test.YtpfcbeadoeijjaaSpaceLive
import Derived.Test.YtpfcbeadoeijjaaFrame
import Derived.Test.YtpfcbeadoeijjaaOpenSpace
import Derived.Test.YtpfcbeadoeijjaaSpaceMath
namespace Go.Proofs.Ytpfcbeadoeijjaa.spaceRefuse
open Go.RowKit

set_option maxRecDepth 100000 in
set_option maxHeartbeats 2000000 in
theorem walk (w : World) (x0 : Option Addr) (c0 : Nat) (l0 : List (Int × Int)) (s0 : SlP w x0 l0) (m0 : l0.length ≤ maxLen) (f0 : WfP l0) (a1 : Int) (w1 : (Lit.int .i64 a1).wf = true) :
    Calls Try.prog 7 #[.slice x0 l0.length c0, .int .i64 a1] w fun e w' => e = .returned (.bool true) ∧ Below w.heap.size w w' := by
  have S0 := Lib.hid s0
  have HW := Lib.hid f0
  unfold maxLen at m0
  clear s0 f0
  have HWR : Hid (WfP [(a1, 1)]) := by intro x hx; rw [List.mem_singleton.1 hx]; exact ⟨w1, by show (Lit.int .i64 1).wf = true; decide⟩
  clear w1
  by_cases hA : 100 < l0.length
  · go_enter Try.func7, Try.ntmps7
    go_wp2_with fail
    refine (live_any _).mono ?_
    rintro e wl ⟨rfl, hb⟩
    have HLL := Lib.hid ((Below.refl w.heap.size w).trans (hb.mono (Below.refl w.heap.size w).size))
    clear hb
    go_wp2
    go_ret
    exact ⟨rfl, HLL.out⟩
  · cases hm : mayL l0
    · have HG := Lib.hid (give_no (r := (a1, 1)) (.inl hm))
      have HT := Lib.hid (show totL l0 = 0 by unfold totL; rw [hm]; rfl)
      have HZ := Lib.hid (show hasL l0 a1 = false by unfold hasL; rw [hm]; rfl)
      have HM := Lib.hid hm
      clear hm
      go_enter Try.func7, Try.ntmps7
      go_wp2_with fail
      refine (own_any x0 c0 l0 _ S0.out (by omega)).mono ?_
      rintro e v1 ⟨lv, rfl, hp, hb⟩
      have P1 := Lib.hid hp
      have L1 := Lib.hid hb
      clear hp hb S0
      go_wp2_with fail
      refine (give_any _ l0 (a1, 1) _ _ P1.out (by omega) HW.out HWR.out).mono ?_
      rintro e v2 ⟨gv, rfl, hp, hb⟩
      have L2 := Lib.hid (L1.out.trans (hb.mono L1.out.size))
      have P1 := Lib.hid (P1.out.keep hb)
      have P2 := Lib.hid hp
      clear hp hb L1 
      have h2 := P2.out
      rw [HG.out] at h2 ⊢
      obtain ⟨ga, gc, e2, _⟩ := h2.slP'
      subst e2
      obtain ⟨xa, xc, e1, hsx⟩ := P1.out.slP'
      subst e1
      have SX := Lib.hid hsx
      clear hsx P1 P2 h2
      simp only [List.length_nil]
      go_wp2_with fail
      refine (may_any xa xc l0 _ SX.out (by omega) HW.out).mono ?_
      rintro e v3 ⟨rfl, hb⟩
      rw [HM.out]
      have L3 := Lib.hid (L2.out.trans (hb.mono L2.out.size))
      have SX := Lib.hid (SX.out.keep hb)
      clear hb L2 
      go_wp2_with fail
      refine (total_any xa xc l0 _ SX.out (by omega) HW.out).mono ?_
      rintro e v4 ⟨rfl, hb⟩
      rw [HT.out]
      have L4 := Lib.hid (L3.out.trans (hb.mono L3.out.size))
      have SX := Lib.hid (SX.out.keep hb)
      clear hb L3 
      go_wp2_with fail
      refine (has_any xa xc l0 a1 _ SX.out (by omega) HW.out).mono ?_
      rintro e v5 ⟨rfl, hb⟩
      rw [HZ.out]
      have L5 := Lib.hid (L4.out.trans (hb.mono L4.out.size))
      clear hb L4 SX
      go_wp2_with fail
      refine (live_any _).mono ?_
      rintro e wl ⟨rfl, hb⟩
      have HLL := Lib.hid (L5.out.trans (hb.mono L5.out.size))
      clear hb
      go_wp2
      go_ret
      exact ⟨rfl, HLL.out⟩
    · have HM := Lib.hid hm
      obtain ⟨⟨q1, q2⟩, hq⟩ : ∃ q, giveL l0 (a1, 1) = q := ⟨_, rfl⟩
      clear hm
      cases q2
      · have hn := give_empty (l := l0) (r := (a1, 1)) (by rw [hq])
        rw [hq] at hn
        simp only at hn
        subst hn
        have HQ := Lib.hid hq
        clear hq
        obtain ⟨z, hz⟩ : ∃ z, hasL l0 a1 = z := ⟨_, rfl⟩
        have HZ := Lib.hid hz
        clear hz
        cases z
        · go_enter Try.func7, Try.ntmps7
          go_wp2_with fail
          refine (own_any x0 c0 l0 _ S0.out (by omega)).mono ?_
          rintro e v1 ⟨lv, rfl, hp, hb⟩
          have P1 := Lib.hid hp
          have L1 := Lib.hid hb
          clear hp hb S0
          go_wp2_with fail
          refine (give_any _ l0 (a1, 1) _ _ P1.out (by omega) HW.out HWR.out).mono ?_
          rintro e v2 ⟨gv, rfl, hp, hb⟩
          have L2 := Lib.hid (L1.out.trans (hb.mono L1.out.size))
          have P1 := Lib.hid (P1.out.keep hb)
          have P2 := Lib.hid hp
          clear hp hb L1 
          have h2 := P2.out
          rw [HQ.out] at h2 ⊢
          obtain ⟨ga, gc, e2, _⟩ := h2.slP'
          subst e2
          obtain ⟨xa, xc, e1, hsx⟩ := P1.out.slP'
          subst e1
          have SX := Lib.hid hsx
          clear hsx P1 P2 h2
          simp only [List.length_nil]
          go_wp2_with fail
          refine (may_any xa xc l0 _ SX.out (by omega) HW.out).mono ?_
          rintro e v3 ⟨rfl, hb⟩
          rw [HM.out]
          have L3 := Lib.hid (L2.out.trans (hb.mono L2.out.size))
          have SX := Lib.hid (SX.out.keep hb)
          clear hb L2 
          go_wp2_with fail
          refine (has_any xa xc l0 a1 _ SX.out (by omega) HW.out).mono ?_
          rintro e v4 ⟨rfl, hb⟩
          rw [HZ.out]
          have L4 := Lib.hid (L3.out.trans (hb.mono L3.out.size))
          clear hb L3 SX
          go_wp2_with fail
          refine (live_any _).mono ?_
          rintro e wl ⟨rfl, hb⟩
          have HLL := Lib.hid (L4.out.trans (hb.mono L4.out.size))
          clear hb
          go_wp2
          go_ret
          exact ⟨rfl, HLL.out⟩
        · go_enter Try.func7, Try.ntmps7
          go_wp2_with fail
          refine (own_any x0 c0 l0 _ S0.out (by omega)).mono ?_
          rintro e v1 ⟨lv, rfl, hp, hb⟩
          have P1 := Lib.hid hp
          have L1 := Lib.hid hb
          clear hp hb S0
          go_wp2_with fail
          refine (give_any _ l0 (a1, 1) _ _ P1.out (by omega) HW.out HWR.out).mono ?_
          rintro e v2 ⟨gv, rfl, hp, hb⟩
          have L2 := Lib.hid (L1.out.trans (hb.mono L1.out.size))
          have P1 := Lib.hid (P1.out.keep hb)
          have P2 := Lib.hid hp
          clear hp hb L1 
          have h2 := P2.out
          rw [HQ.out] at h2 ⊢
          obtain ⟨ga, gc, e2, _⟩ := h2.slP'
          subst e2
          obtain ⟨xa, xc, e1, hsx⟩ := P1.out.slP'
          subst e1
          have SX := Lib.hid hsx
          clear hsx P1 P2 h2
          simp only [List.length_nil]
          go_wp2_with fail
          refine (may_any xa xc l0 _ SX.out (by omega) HW.out).mono ?_
          rintro e v3 ⟨rfl, hb⟩
          rw [HM.out]
          have L3 := Lib.hid (L2.out.trans (hb.mono L2.out.size))
          have SX := Lib.hid (SX.out.keep hb)
          clear hb L2 
          go_wp2_with fail
          refine (has_any xa xc l0 a1 _ SX.out (by omega) HW.out).mono ?_
          rintro e v4 ⟨rfl, hb⟩
          rw [HZ.out]
          have L4 := Lib.hid (L3.out.trans (hb.mono L3.out.size))
          clear hb L3 SX
          go_wp2_with fail
          refine (live_any _).mono ?_
          rintro e wl ⟨rfl, hb⟩
          have HLL := Lib.hid (L4.out.trans (hb.mono L4.out.size))
          clear hb
          go_wp2
          go_ret
          exact ⟨rfl, HLL.out⟩
      · have HZ := Lib.hid (give_free (l := l0) (at' := a1) (by rw [hq]))
        have HQ := Lib.hid hq
        clear hq
        go_enter Try.func7, Try.ntmps7
        go_wp2_with fail
        refine (own_any x0 c0 l0 _ S0.out (by omega)).mono ?_
        rintro e v1 ⟨lv, rfl, hp, hb⟩
        have P1 := Lib.hid hp
        have L1 := Lib.hid hb
        clear hp hb S0
        go_wp2_with fail
        refine (give_any _ l0 (a1, 1) _ _ P1.out (by omega) HW.out HWR.out).mono ?_
        rintro e v2 ⟨gv, rfl, hp, hb⟩
        have L2 := Lib.hid (L1.out.trans (hb.mono L1.out.size))
        have P1 := Lib.hid (P1.out.keep hb)
        have P2 := Lib.hid hp
        clear hp hb L1 
        have h2 := P2.out
        rw [HQ.out] at h2 ⊢
        obtain ⟨ga, gc, e2, _⟩ := h2.slP'
        subst e2
        obtain ⟨xa, xc, e1, hsx⟩ := P1.out.slP'
        subst e1
        have SX := Lib.hid hsx
        clear hsx P1 P2 h2
        generalize q1.length = gn at *
        go_wp2_with fail
        refine (may_any xa xc l0 _ SX.out (by omega) HW.out).mono ?_
        rintro e v3 ⟨rfl, hb⟩
        rw [HM.out]
        have L3 := Lib.hid (L2.out.trans (hb.mono L2.out.size))
        have SX := Lib.hid (SX.out.keep hb)
        clear hb L2 
        go_wp2_with fail
        refine (has_any xa xc l0 a1 _ SX.out (by omega) HW.out).mono ?_
        rintro e v4 ⟨rfl, hb⟩
        rw [HZ.out]
        have L4 := Lib.hid (L3.out.trans (hb.mono L3.out.size))
        clear hb L3 SX
        go_wp2_with fail
        refine (live_any _).mono ?_
        rintro e wl ⟨rfl, hb⟩
        have HLL := Lib.hid (L4.out.trans (hb.mono L4.out.size))
        clear hb
        go_wp2
        go_ret
        exact ⟨rfl, HLL.out⟩
end Go.Proofs.Ytpfcbeadoeijjaa.spaceRefuse
