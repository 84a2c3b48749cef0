/-
  The walk of SpaceTells.
-/
import Derived.Test.YtpfcbeadoeijjaaSpaceLive
import Derived.Test.YtpfcbeadoeijjaaFrame
import Derived.Test.YtpfcbeadoeijjaaOpenSpace
import Derived.Test.YtpfcbeadoeijjaaSpaceMath
import Derived.Test.YtpfcbeadoeijjaaSpaceROf
namespace Go.Proofs.Ytpfcbeadoeijjaa.spaceTells
open Go.RowKit

set_option maxRecDepth 100000 in
set_option maxHeartbeats 2000000 in
theorem walk (w : World) (x0 : Option Addr) (c0 : Nat) (l0 : List (Int × Int)) (s0 : SlP w x0 l0) (m0 : l0.length ≤ maxLen) (f0 : WfP l0) (a1 : Int) (_w1 : (Lit.int .i64 a1).wf = true) (x2 : Option Addr) (c2 : Nat) (l2 : List Bool) (s2 : Sl w Value.bool x2 l2) (_w2 : True) (m2 : l2.length ≤ maxLen) :
    Calls Try.prog 3 #[.slice x0 l0.length c0, .int .i64 a1, .slice x2 l2.length c2] w fun e w' => e = .returned (.bool true) ∧ Below w.heap.size w w' := by
  have S0 := Lib.hid s0
  have HW := Lib.hid f0
  unfold maxLen at m0
  clear s0 f0
  have S2 := Lib.hid s2
  unfold maxLen at m2
  clear s2 _w2 _w1
  by_cases hA : 100 < l0.length
  · go_enter Try.func3, Try.ntmps3
    go_wp2_with fail
    refine (live_any _).mono ?_
    rintro e wl ⟨rfl, hb⟩
    have HLL := Lib.hid ((Below.refl w.heap.size w).trans (hb.mono (Below.refl w.heap.size w).size))
    clear hb
    go_wp2
    go_ret
    exact ⟨rfl, HLL.out⟩
  · by_cases hB : 300 < l2.length
    · go_enter Try.func3, Try.ntmps3
      go_wp2_with fail
      refine (live_any _).mono ?_
      rintro e wl ⟨rfl, hb⟩
      have HLL := Lib.hid ((Below.refl w.heap.size w).trans (hb.mono (Below.refl w.heap.size w).size))
      clear hb
      go_wp2
      go_ret
      exact ⟨rfl, HLL.out⟩
    · go_enter Try.func3, Try.ntmps3
      go_wp2_with fail
      refine (own_any x0 c0 l0 _ S0.out (by omega)).mono ?_
      rintro e v1 ⟨lv, rfl, hp, hb⟩
      have P1 := Lib.hid hp
      have L1 := Lib.hid hb
      have S1 := Lib.hid (S0.out.keep hb)
      clear hp hb S0
      have SU := Lib.hid (S2.out.keepS L1.out)
      obtain ⟨xa, xc, e1, hsx⟩ := P1.out.slP'
      subst e1
      have SX := Lib.hid hsx
      clear hsx P1 S2
      obtain ⟨q, hq⟩ : ∃ q, mayL l0 = q := ⟨_, rfl⟩
      have HM := Lib.hid hq
      have hqq : (q == q) = true := by simp
      obtain ⟨t, ht⟩ : ∃ t, totL l0 = t := ⟨_, rfl⟩
      have HT := Lib.hid ht
      have htt : (t == t) = true := by simp
      obtain ⟨z, hz⟩ : ∃ z, hasL l0 a1 = z := ⟨_, rfl⟩
      have HZ := Lib.hid hz
      have hzz : (z == z) = true := by simp
      have HOL := Lib.hid (show (ofL l2).length ≤ 1000 by have := (ofTo_low l2 l2.length).2; unfold ofL; omega)
      clear hq ht hz
      go_wp2_with fail
      refine (may_any xa xc l0 _ SX.out (by omega) HW.out).mono ?_
      rintro e v2 ⟨rfl, hb⟩
      rw [HM.out]
      have L2 := Lib.hid (L1.out.trans (hb.mono L1.out.size))
      have S1 := Lib.hid (S1.out.keep hb)
      have SX := Lib.hid (SX.out.keep hb)
      have SU := Lib.hid (SU.out.keepS hb)
      clear hb L1 
      go_wp2_with fail
      refine (rmay_any x0 c0 l0 _ S1.out (by omega) HW.out).mono ?_
      rintro e v3 ⟨rfl, hb⟩
      rw [HM.out]
      have L3 := Lib.hid (L2.out.trans (hb.mono L2.out.size))
      have S1 := Lib.hid (S1.out.keep hb)
      have SX := Lib.hid (SX.out.keep hb)
      have SU := Lib.hid (SU.out.keepS hb)
      clear hb L2 
      go_wp2_with fail
      refine (total_any xa xc l0 _ SX.out (by omega) HW.out).mono ?_
      rintro e v4 ⟨rfl, hb⟩
      rw [HT.out]
      have L4 := Lib.hid (L3.out.trans (hb.mono L3.out.size))
      have S1 := Lib.hid (S1.out.keep hb)
      have SX := Lib.hid (SX.out.keep hb)
      have SU := Lib.hid (SU.out.keepS hb)
      clear hb L3 
      go_wp2_with fail
      refine (rtotal_any x0 c0 l0 _ S1.out (by omega) HW.out).mono ?_
      rintro e v5 ⟨rfl, hb⟩
      rw [HT.out]
      have L5 := Lib.hid (L4.out.trans (hb.mono L4.out.size))
      have S1 := Lib.hid (S1.out.keep hb)
      have SX := Lib.hid (SX.out.keep hb)
      have SU := Lib.hid (SU.out.keepS hb)
      clear hb L4 
      go_wp2_with fail
      refine (has_any xa xc l0 a1 _ SX.out (by omega) HW.out).mono ?_
      rintro e v6 ⟨rfl, hb⟩
      rw [HZ.out]
      have L6 := Lib.hid (L5.out.trans (hb.mono L5.out.size))
      have S1 := Lib.hid (S1.out.keep hb)
      have SX := Lib.hid (SX.out.keep hb)
      have SU := Lib.hid (SU.out.keepS hb)
      clear hb L5 
      go_wp2_with fail
      refine (rhas_any x0 c0 l0 a1 _ S1.out (by omega) HW.out).mono ?_
      rintro e v7 ⟨rfl, hb⟩
      rw [HZ.out]
      have L7 := Lib.hid (L6.out.trans (hb.mono L6.out.size))
      have SU := Lib.hid (SU.out.keepS hb)
      clear hb L6 S1 SX
      go_wp2_with fail
      refine (of_any x2 c2 l2 _ SU.out (by omega)).mono ?_
      rintro e v8 ⟨lv2, rfl, hp, hb⟩
      have L8 := Lib.hid (L7.out.trans (hb.mono L7.out.size))
      have SU := Lib.hid (SU.out.keepS hb)
      have P2 := Lib.hid hp
      clear hp hb L7 
      obtain ⟨ya, yc, e2, hsy⟩ := P2.out.slP'
      subst e2
      have SY := Lib.hid hsy
      clear hsy P2
      go_wp2_with fail
      refine (told_any ya yc (ofL l2) _ SY.out HOL.out).mono ?_
      rintro e v9 ⟨lv3, rfl, hp, hb⟩
      have L9 := Lib.hid (L8.out.trans (hb.mono L8.out.size))
      have SU := Lib.hid (SU.out.keepS hb)
      have P3 := Lib.hid hp
      clear hp hb L8 SY
      go_wp2_with fail
      refine (rof_any x2 c2 l2 _ SU.out (by omega)).mono ?_
      rintro e v10 ⟨lv4, rfl, hp, hb⟩
      have L10 := Lib.hid (L9.out.trans (hb.mono L9.out.size))
      have P3 := Lib.hid (P3.out.keep hb)
      have P4 := Lib.hid hp
      clear hp hb L9 SU
      obtain ⟨ya, yc, e2, hsy⟩ := P3.out.slP'
      subst e2
      obtain ⟨za, zc, e3, hsz⟩ := P4.out.slP'
      subst e3
      have SY := Lib.hid hsy
      have SZ := Lib.hid hsz
      clear hsy hsz P3 P4
      generalize ofL l2 = ol at *
      go_wp2_with fail
      refine (same_any ya za yc zc ol ol _ HOL.out HOL.out SY.out SZ.out).mono ?_
      rintro e v11 ⟨rfl, hb⟩
      rw [show decide (ol = ol) = true by simp]
      have L11 := Lib.hid (L10.out.trans (hb.mono L10.out.size))
      clear hb L10 SY SZ
      go_wp2_with fail
      refine (live_any _).mono ?_
      rintro e wl ⟨rfl, hb⟩
      have HLL := Lib.hid (L11.out.trans (hb.mono L11.out.size))
      clear hb
      go_wp2
      go_ret
      exact ⟨rfl, HLL.out⟩
end Go.Proofs.Ytpfcbeadoeijjaa.spaceTells
