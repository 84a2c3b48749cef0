/-
  The walk of PtrSame.
-/
import Derived.Test.YtbdnkmkagglmhaaPtrLaw
import Derived.Test.YtbdnkmkagglmhaaPtrRef
namespace Go.Proofs.Ytbdnkmkagglmhaa.ptrSame
open Go.RowKit

theorem sameD_iff (p q : PtrD) : sameD p q = true ↔ p = q := by
  unfold sameD
  rw [decide_eq_true_iff]
  exact ⟨fun h => ptrD_ext h.1 h.2.1 h.2.2.1 h.2.2.2, fun h => by subst h; exact ⟨rfl, rfl, rfl, rfl⟩⟩

set_option maxHeartbeats 4000000 in
theorem walk (w : World) (x0 : Option Addr) (c0 : Nat) (y0 : PtrD) (s0 : SlP w x0 y0.locs) (m0 : y0.locs.length ≤ maxLen) (z0 : y0.sum.size ≤ maxLen) (x1 : Option Addr) (c1 : Nat) (y1 : PtrD) (s1 : SlP w x1 y1.locs) (m1 : y1.locs.length ≤ maxLen) (z1 : y1.sum.size ≤ maxLen) :
    Calls Try.prog 12 #[ptrV x0 c0 y0, ptrV x1 c1 y1] w fun e w' => e = .returned (.bool true) ∧ Below w.heap.size w w' := by
  have PN := PB.new (cap := c0) s0 (Below.refl w.heap.size w)
  have QN := Lib.hid (PB.new (cap := c1) (s1.keep ((Below.refl _ _).alloc (Nat.le_refl _) _)) PN.bel)
  have PN := Lib.hid (PN.keep ((Below.refl _ _).alloc (Nat.le_refl _) (.cells #[.slice x1 y1.locs.length c1, .int .i64 y1.len, .int .i64 y1.birth, .string y1.sum] 59 (0, 0))))
  rw [size_alloc] at QN
  clear s0 s1
  unfold ptrV
  go_enter Try.func12, Try.ntmps12
  go_wp2_with fail
  generalize hwx : World.alloc _ _ = wx
  rw [hwx] at PN QN
  clear hwx
  generalize w.heap.size = g at PN QN ⊢
  refine (small_any x0 c0 y0 _).mono ?_
  rintro e v1 ⟨rfl, hb⟩
  have P_1 := Lib.hid (PN.out.keep hb)
  have Q_1 := Lib.hid (QN.out.keep hb)
  clear hb PN QN
  by_cases hs : smallP y0
  · have l0 : y0.locs.length ≤ 1000 := by have := hs.1; omega
    rw [decide_eq_true hs]
    obtain ⟨p0, p1, p2, p3⟩ := P_1.out.cells
    obtain ⟨q0, q1, q2, q3⟩ := Q_1.out.cells
    go_wp2_with fail
    clear p0 p1 p2 p3 q0 q1 q2 q3
    refine (small_any x1 c1 y1 _).mono ?_
    rintro e v2 ⟨rfl, hb⟩
    have P_2 := Lib.hid (P_1.out.keep hb)
    have Q_2 := Lib.hid (Q_1.out.keep hb)
    clear hb P_1 Q_1
    by_cases ht : smallP y1
    · have l1 : y1.locs.length ≤ 1000 := by have := ht.1; omega
      rw [decide_eq_true ht]
      clear hs ht
      obtain ⟨p0, p1, p2, p3⟩ := P_2.out.cells
      obtain ⟨q0, q1, q2, q3⟩ := Q_2.out.cells
      go_wp2_with fail
      clear p0 p1 p2 p3 q0 q1 q2 q3
      refine (same_any x0 x1 c0 c1 y0 y1 _ P_2.out.sl Q_2.out.sl l0 l1).mono ?_
      rintro e v3 ⟨rfl, hb⟩
      have P_3 := Lib.hid (P_2.out.keep hb)
      have Q_3 := Lib.hid (Q_2.out.keep hb)
      clear hb P_2 Q_2
      cases hsm : sameD y0 y1
      case true =>
        have HSM := Lib.hid hsm
        clear hsm
        by_cases b0 : badP y0
        · have C0 : Hid (chkP y0 = 1) := if_pos b0
          have E0 : Hid ((if badP y0 then ⟨#[]⟩ else encB y0) = (⟨#[]⟩ : ByteArray)) := if_pos b0
          clear b0
          obtain ⟨p0, p1, p2, p3⟩ := P_3.out.cells
          obtain ⟨q0, q1, q2, q3⟩ := Q_3.out.cells
          go_wp2_with fail
          clear p0 p1 p2 p3 q0 q1 q2 q3
          refine (encode_any x0 c0 y0 _ P_3.out.sl l0).mono ?_
          rintro e v4 ⟨rfl, hb⟩
          rw [E0.out]
          rw [C0.out]
          have P_4 := Lib.hid (P_3.out.keep hb)
          have Q_4 := Lib.hid (Q_3.out.keep hb)
          clear hb P_3 Q_3
          obtain ⟨p0, p1, p2, p3⟩ := P_4.out.cells
          obtain ⟨q0, q1, q2, q3⟩ := Q_4.out.cells
          go_wp2_with fail
          clear p0 p1 p2 p3 q0 q1 q2 q3
          refine (encode_any x1 c1 y1 _ Q_4.out.sl l1).mono ?_
          rintro e v5 ⟨rfl, hb⟩
          generalize (if badP y1 then (⟨#[]⟩ : ByteArray) else encB y1) = t1
          generalize chkP y1 = kk1
          have P_5 := Lib.hid (P_4.out.keep hb)
          have Q_5 := Lib.hid (Q_4.out.keep hb)
          clear hb P_4 Q_4
          obtain ⟨p0, p1, p2, p3⟩ := P_5.out.cells
          obtain ⟨q0, q1, q2, q3⟩ := Q_5.out.cells
          go_wp2_with fail
          clear p0 p1 p2 p3 q0 q1 q2 q3
          refine (rsame_any x0 x1 c0 c1 y0 y1 _ P_5.out.sl Q_5.out.sl l0 l1).mono ?_
          rintro e v6 ⟨rfl, hb⟩
          rw [HSM.out]
          have P_6 := Lib.hid (P_5.out.keep hb)
          have Q_6 := Lib.hid (Q_5.out.keep hb)
          clear hb P_5 Q_5
          obtain ⟨p0, p1, p2, p3⟩ := P_6.out.cells
          obtain ⟨q0, q1, q2, q3⟩ := Q_6.out.cells
          go_wp2_with fail
          clear p0 p1 p2 p3 q0 q1 q2 q3
          refine (same_any x0 x0 c0 c0 y0 y0 _ P_6.out.sl P_6.out.sl l0 l0).mono ?_
          rintro e v7 ⟨rfl, hb⟩
          rw [(sameD_iff y0 y0).2 rfl]
          have P_7 := Lib.hid (P_6.out.keep hb)
          have Q_7 := Lib.hid (Q_6.out.keep hb)
          clear hb P_6 Q_6
          obtain ⟨p0, p1, p2, p3⟩ := P_7.out.cells
          obtain ⟨q0, q1, q2, q3⟩ := Q_7.out.cells
          go_wp2_with fail
          clear p0 p1 p2 p3 q0 q1 q2 q3
          refine (live_any _).mono ?_
          rintro e wl ⟨rfl, hb⟩
          have HL := Lib.hid (P_7.out.bel.trans (hb.mono P_7.out.bel.size))
          clear hb
          go_wp2
          go_ret
          exact ⟨rfl, HL.out⟩
        · have C0 : Hid (chkP y0 = 0) := if_neg b0
          have E0 : Hid ((if badP y0 then ⟨#[]⟩ else encB y0) = encB y0) := if_neg b0
          by_cases b1 : badP y1
          · have C1 : Hid (chkP y1 = 1) := if_pos b1
            have E1 : Hid ((if badP y1 then ⟨#[]⟩ else encB y1) = (⟨#[]⟩ : ByteArray)) := if_pos b1
            clear b0 b1
            obtain ⟨p0, p1, p2, p3⟩ := P_3.out.cells
            obtain ⟨q0, q1, q2, q3⟩ := Q_3.out.cells
            go_wp2_with fail
            clear p0 p1 p2 p3 q0 q1 q2 q3
            refine (encode_any x0 c0 y0 _ P_3.out.sl l0).mono ?_
            rintro e v4 ⟨rfl, hb⟩
            rw [E0.out]
            rw [C0.out]
            have P_4 := Lib.hid (P_3.out.keep hb)
            have Q_4 := Lib.hid (Q_3.out.keep hb)
            clear hb P_3 Q_3
            obtain ⟨p0, p1, p2, p3⟩ := P_4.out.cells
            obtain ⟨q0, q1, q2, q3⟩ := Q_4.out.cells
            go_wp2_with fail
            clear p0 p1 p2 p3 q0 q1 q2 q3
            refine (encode_any x1 c1 y1 _ Q_4.out.sl l1).mono ?_
            rintro e v5 ⟨rfl, hb⟩
            rw [E1.out]
            rw [C1.out]
            have P_5 := Lib.hid (P_4.out.keep hb)
            have Q_5 := Lib.hid (Q_4.out.keep hb)
            clear hb P_4 Q_4
            obtain ⟨p0, p1, p2, p3⟩ := P_5.out.cells
            obtain ⟨q0, q1, q2, q3⟩ := Q_5.out.cells
            go_wp2_with fail
            clear p0 p1 p2 p3 q0 q1 q2 q3
            refine (rsame_any x0 x1 c0 c1 y0 y1 _ P_5.out.sl Q_5.out.sl l0 l1).mono ?_
            rintro e v6 ⟨rfl, hb⟩
            rw [HSM.out]
            have P_6 := Lib.hid (P_5.out.keep hb)
            have Q_6 := Lib.hid (Q_5.out.keep hb)
            clear hb P_5 Q_5
            obtain ⟨p0, p1, p2, p3⟩ := P_6.out.cells
            obtain ⟨q0, q1, q2, q3⟩ := Q_6.out.cells
            go_wp2_with fail
            clear p0 p1 p2 p3 q0 q1 q2 q3
            refine (same_any x0 x0 c0 c0 y0 y0 _ P_6.out.sl P_6.out.sl l0 l0).mono ?_
            rintro e v7 ⟨rfl, hb⟩
            rw [(sameD_iff y0 y0).2 rfl]
            have P_7 := Lib.hid (P_6.out.keep hb)
            have Q_7 := Lib.hid (Q_6.out.keep hb)
            clear hb P_6 Q_6
            obtain ⟨p0, p1, p2, p3⟩ := P_7.out.cells
            obtain ⟨q0, q1, q2, q3⟩ := Q_7.out.cells
            go_wp2_with fail
            clear p0 p1 p2 p3 q0 q1 q2 q3
            refine (live_any _).mono ?_
            rintro e wl ⟨rfl, hb⟩
            have HL := Lib.hid (P_7.out.bel.trans (hb.mono P_7.out.bel.size))
            clear hb
            go_wp2
            go_ret
            exact ⟨rfl, HL.out⟩
          · have C1 : Hid (chkP y1 = 0) := if_neg b1
            have E1 : Hid ((if badP y1 then ⟨#[]⟩ else encB y1) = encB y1) := if_neg b1
            have hst : encB y0 = encB y1 := by rw [(sameD_iff y0 y1).1 HSM.out]
            have E1 := Lib.hid (E1.out.trans hst.symm)
            clear b0 b1 hst
            obtain ⟨p0, p1, p2, p3⟩ := P_3.out.cells
            obtain ⟨q0, q1, q2, q3⟩ := Q_3.out.cells
            go_wp2_with fail
            clear p0 p1 p2 p3 q0 q1 q2 q3
            refine (encode_any x0 c0 y0 _ P_3.out.sl l0).mono ?_
            rintro e v4 ⟨rfl, hb⟩
            rw [E0.out]
            rw [C0.out]
            have P_4 := Lib.hid (P_3.out.keep hb)
            have Q_4 := Lib.hid (Q_3.out.keep hb)
            clear hb P_3 Q_3
            obtain ⟨p0, p1, p2, p3⟩ := P_4.out.cells
            obtain ⟨q0, q1, q2, q3⟩ := Q_4.out.cells
            go_wp2_with fail
            clear p0 p1 p2 p3 q0 q1 q2 q3
            refine (encode_any x1 c1 y1 _ Q_4.out.sl l1).mono ?_
            rintro e v5 ⟨rfl, hb⟩
            rw [E1.out]
            rw [C1.out]
            have P_5 := Lib.hid (P_4.out.keep hb)
            have Q_5 := Lib.hid (Q_4.out.keep hb)
            clear hb P_4 Q_4
            obtain ⟨p0, p1, p2, p3⟩ := P_5.out.cells
            obtain ⟨q0, q1, q2, q3⟩ := Q_5.out.cells
            go_wp2_with fail
            clear p0 p1 p2 p3 q0 q1 q2 q3
            refine (rsame_any x0 x1 c0 c1 y0 y1 _ P_5.out.sl Q_5.out.sl l0 l1).mono ?_
            rintro e v6 ⟨rfl, hb⟩
            rw [HSM.out]
            have P_6 := Lib.hid (P_5.out.keep hb)
            have Q_6 := Lib.hid (Q_5.out.keep hb)
            clear hb P_5 Q_5
            obtain ⟨p0, p1, p2, p3⟩ := P_6.out.cells
            obtain ⟨q0, q1, q2, q3⟩ := Q_6.out.cells
            go_wp2_with fail
            clear p0 p1 p2 p3 q0 q1 q2 q3
            refine (same_any x0 x0 c0 c0 y0 y0 _ P_6.out.sl P_6.out.sl l0 l0).mono ?_
            rintro e v7 ⟨rfl, hb⟩
            rw [(sameD_iff y0 y0).2 rfl]
            have P_7 := Lib.hid (P_6.out.keep hb)
            have Q_7 := Lib.hid (Q_6.out.keep hb)
            clear hb P_6 Q_6
            obtain ⟨p0, p1, p2, p3⟩ := P_7.out.cells
            obtain ⟨q0, q1, q2, q3⟩ := Q_7.out.cells
            go_wp2_with fail
            clear p0 p1 p2 p3 q0 q1 q2 q3
            refine (live_any _).mono ?_
            rintro e wl ⟨rfl, hb⟩
            have HL := Lib.hid (P_7.out.bel.trans (hb.mono P_7.out.bel.size))
            clear hb
            go_wp2
            go_ret
            exact ⟨rfl, HL.out⟩
      case false =>
        have HSM := Lib.hid hsm
        clear hsm
        by_cases b0 : badP y0
        · have C0 : Hid (chkP y0 = 1) := if_pos b0
          have E0 : Hid ((if badP y0 then ⟨#[]⟩ else encB y0) = (⟨#[]⟩ : ByteArray)) := if_pos b0
          clear b0
          obtain ⟨p0, p1, p2, p3⟩ := P_3.out.cells
          obtain ⟨q0, q1, q2, q3⟩ := Q_3.out.cells
          go_wp2_with fail
          clear p0 p1 p2 p3 q0 q1 q2 q3
          refine (encode_any x0 c0 y0 _ P_3.out.sl l0).mono ?_
          rintro e v4 ⟨rfl, hb⟩
          rw [E0.out]
          rw [C0.out]
          have P_4 := Lib.hid (P_3.out.keep hb)
          have Q_4 := Lib.hid (Q_3.out.keep hb)
          clear hb P_3 Q_3
          obtain ⟨p0, p1, p2, p3⟩ := P_4.out.cells
          obtain ⟨q0, q1, q2, q3⟩ := Q_4.out.cells
          go_wp2_with fail
          clear p0 p1 p2 p3 q0 q1 q2 q3
          refine (encode_any x1 c1 y1 _ Q_4.out.sl l1).mono ?_
          rintro e v5 ⟨rfl, hb⟩
          generalize (if badP y1 then (⟨#[]⟩ : ByteArray) else encB y1) = t1
          generalize chkP y1 = kk1
          have P_5 := Lib.hid (P_4.out.keep hb)
          have Q_5 := Lib.hid (Q_4.out.keep hb)
          clear hb P_4 Q_4
          obtain ⟨p0, p1, p2, p3⟩ := P_5.out.cells
          obtain ⟨q0, q1, q2, q3⟩ := Q_5.out.cells
          go_wp2_with fail
          clear p0 p1 p2 p3 q0 q1 q2 q3
          refine (rsame_any x0 x1 c0 c1 y0 y1 _ P_5.out.sl Q_5.out.sl l0 l1).mono ?_
          rintro e v6 ⟨rfl, hb⟩
          rw [HSM.out]
          have P_6 := Lib.hid (P_5.out.keep hb)
          have Q_6 := Lib.hid (Q_5.out.keep hb)
          clear hb P_5 Q_5
          obtain ⟨p0, p1, p2, p3⟩ := P_6.out.cells
          obtain ⟨q0, q1, q2, q3⟩ := Q_6.out.cells
          go_wp2_with fail
          clear p0 p1 p2 p3 q0 q1 q2 q3
          refine (same_any x0 x0 c0 c0 y0 y0 _ P_6.out.sl P_6.out.sl l0 l0).mono ?_
          rintro e v7 ⟨rfl, hb⟩
          rw [(sameD_iff y0 y0).2 rfl]
          have P_7 := Lib.hid (P_6.out.keep hb)
          have Q_7 := Lib.hid (Q_6.out.keep hb)
          clear hb P_6 Q_6
          obtain ⟨p0, p1, p2, p3⟩ := P_7.out.cells
          obtain ⟨q0, q1, q2, q3⟩ := Q_7.out.cells
          go_wp2_with fail
          clear p0 p1 p2 p3 q0 q1 q2 q3
          refine (live_any _).mono ?_
          rintro e wl ⟨rfl, hb⟩
          have HL := Lib.hid (P_7.out.bel.trans (hb.mono P_7.out.bel.size))
          clear hb
          go_wp2
          go_ret
          exact ⟨rfl, HL.out⟩
        · have C0 : Hid (chkP y0 = 0) := if_neg b0
          have E0 : Hid ((if badP y0 then ⟨#[]⟩ else encB y0) = encB y0) := if_neg b0
          by_cases b1 : badP y1
          · have C1 : Hid (chkP y1 = 1) := if_pos b1
            have E1 : Hid ((if badP y1 then ⟨#[]⟩ else encB y1) = (⟨#[]⟩ : ByteArray)) := if_pos b1
            clear b0 b1
            obtain ⟨p0, p1, p2, p3⟩ := P_3.out.cells
            obtain ⟨q0, q1, q2, q3⟩ := Q_3.out.cells
            go_wp2_with fail
            clear p0 p1 p2 p3 q0 q1 q2 q3
            refine (encode_any x0 c0 y0 _ P_3.out.sl l0).mono ?_
            rintro e v4 ⟨rfl, hb⟩
            rw [E0.out]
            rw [C0.out]
            have P_4 := Lib.hid (P_3.out.keep hb)
            have Q_4 := Lib.hid (Q_3.out.keep hb)
            clear hb P_3 Q_3
            obtain ⟨p0, p1, p2, p3⟩ := P_4.out.cells
            obtain ⟨q0, q1, q2, q3⟩ := Q_4.out.cells
            go_wp2_with fail
            clear p0 p1 p2 p3 q0 q1 q2 q3
            refine (encode_any x1 c1 y1 _ Q_4.out.sl l1).mono ?_
            rintro e v5 ⟨rfl, hb⟩
            rw [E1.out]
            rw [C1.out]
            have P_5 := Lib.hid (P_4.out.keep hb)
            have Q_5 := Lib.hid (Q_4.out.keep hb)
            clear hb P_4 Q_4
            obtain ⟨p0, p1, p2, p3⟩ := P_5.out.cells
            obtain ⟨q0, q1, q2, q3⟩ := Q_5.out.cells
            go_wp2_with fail
            clear p0 p1 p2 p3 q0 q1 q2 q3
            refine (rsame_any x0 x1 c0 c1 y0 y1 _ P_5.out.sl Q_5.out.sl l0 l1).mono ?_
            rintro e v6 ⟨rfl, hb⟩
            rw [HSM.out]
            have P_6 := Lib.hid (P_5.out.keep hb)
            have Q_6 := Lib.hid (Q_5.out.keep hb)
            clear hb P_5 Q_5
            obtain ⟨p0, p1, p2, p3⟩ := P_6.out.cells
            obtain ⟨q0, q1, q2, q3⟩ := Q_6.out.cells
            go_wp2_with fail
            clear p0 p1 p2 p3 q0 q1 q2 q3
            refine (same_any x0 x0 c0 c0 y0 y0 _ P_6.out.sl P_6.out.sl l0 l0).mono ?_
            rintro e v7 ⟨rfl, hb⟩
            rw [(sameD_iff y0 y0).2 rfl]
            have P_7 := Lib.hid (P_6.out.keep hb)
            have Q_7 := Lib.hid (Q_6.out.keep hb)
            clear hb P_6 Q_6
            obtain ⟨p0, p1, p2, p3⟩ := P_7.out.cells
            obtain ⟨q0, q1, q2, q3⟩ := Q_7.out.cells
            go_wp2_with fail
            clear p0 p1 p2 p3 q0 q1 q2 q3
            refine (live_any _).mono ?_
            rintro e wl ⟨rfl, hb⟩
            have HL := Lib.hid (P_7.out.bel.trans (hb.mono P_7.out.bel.size))
            clear hb
            go_wp2
            go_ret
            exact ⟨rfl, HL.out⟩
          · have C1 : Hid (chkP y1 = 0) := if_neg b1
            have E1 : Hid ((if badP y1 then ⟨#[]⟩ else encB y1) = encB y1) := if_neg b1
            have hne : encB y0 ≠ encB y1 := fun h => by
              have := (sameD_iff y0 y1).2 (enc_inj b0 b1 h)
              rw [HSM.out] at this; cases this
            have hq := str_ne hne
            clear b0 b1 hne
            obtain ⟨p0, p1, p2, p3⟩ := P_3.out.cells
            obtain ⟨q0, q1, q2, q3⟩ := Q_3.out.cells
            go_wp2_with fail
            clear p0 p1 p2 p3 q0 q1 q2 q3
            refine (encode_any x0 c0 y0 _ P_3.out.sl l0).mono ?_
            rintro e v4 ⟨rfl, hb⟩
            rw [E0.out]
            rw [C0.out]
            have P_4 := Lib.hid (P_3.out.keep hb)
            have Q_4 := Lib.hid (Q_3.out.keep hb)
            clear hb P_3 Q_3
            obtain ⟨p0, p1, p2, p3⟩ := P_4.out.cells
            obtain ⟨q0, q1, q2, q3⟩ := Q_4.out.cells
            go_wp2_with fail
            clear p0 p1 p2 p3 q0 q1 q2 q3
            refine (encode_any x1 c1 y1 _ Q_4.out.sl l1).mono ?_
            rintro e v5 ⟨rfl, hb⟩
            rw [E1.out]
            rw [C1.out]
            have P_5 := Lib.hid (P_4.out.keep hb)
            have Q_5 := Lib.hid (Q_4.out.keep hb)
            clear hb P_4 Q_4
            obtain ⟨p0, p1, p2, p3⟩ := P_5.out.cells
            obtain ⟨q0, q1, q2, q3⟩ := Q_5.out.cells
            go_wp2_with fail
            clear p0 p1 p2 p3 q0 q1 q2 q3
            refine (rsame_any x0 x1 c0 c1 y0 y1 _ P_5.out.sl Q_5.out.sl l0 l1).mono ?_
            rintro e v6 ⟨rfl, hb⟩
            rw [HSM.out]
            have P_6 := Lib.hid (P_5.out.keep hb)
            have Q_6 := Lib.hid (Q_5.out.keep hb)
            clear hb P_5 Q_5
            obtain ⟨p0, p1, p2, p3⟩ := P_6.out.cells
            obtain ⟨q0, q1, q2, q3⟩ := Q_6.out.cells
            go_wp2_with fail
            clear p0 p1 p2 p3 q0 q1 q2 q3
            refine (same_any x0 x0 c0 c0 y0 y0 _ P_6.out.sl P_6.out.sl l0 l0).mono ?_
            rintro e v7 ⟨rfl, hb⟩
            rw [(sameD_iff y0 y0).2 rfl]
            have P_7 := Lib.hid (P_6.out.keep hb)
            have Q_7 := Lib.hid (Q_6.out.keep hb)
            clear hb P_6 Q_6
            obtain ⟨p0, p1, p2, p3⟩ := P_7.out.cells
            obtain ⟨q0, q1, q2, q3⟩ := Q_7.out.cells
            go_wp2_with fail
            clear p0 p1 p2 p3 q0 q1 q2 q3
            refine (live_any _).mono ?_
            rintro e wl ⟨rfl, hb⟩
            have HL := Lib.hid (P_7.out.bel.trans (hb.mono P_7.out.bel.size))
            clear hb
            go_wp2
            go_ret
            exact ⟨rfl, HL.out⟩
    · rw [decide_eq_false ht]
      obtain ⟨p0, p1, p2, p3⟩ := P_2.out.cells
      obtain ⟨q0, q1, q2, q3⟩ := Q_2.out.cells
      go_wp2_with fail
      clear p0 p1 p2 p3 q0 q1 q2 q3
      refine (live_any _).mono ?_
      rintro e wl ⟨rfl, hb⟩
      have HL := Lib.hid (P_2.out.bel.trans (hb.mono P_2.out.bel.size))
      clear hb
      go_wp2
      go_ret
      exact ⟨rfl, HL.out⟩
  · rw [decide_eq_false hs]
    obtain ⟨p0, p1, p2, p3⟩ := P_1.out.cells
    obtain ⟨q0, q1, q2, q3⟩ := Q_1.out.cells
    go_wp2_with fail
    clear p0 p1 p2 p3 q0 q1 q2 q3
    refine (live_any _).mono ?_
    rintro e wl ⟨rfl, hb⟩
    have HL := Lib.hid (P_1.out.bel.trans (hb.mono P_1.out.bel.size))
    clear hb
    go_wp2
    go_ret
    exact ⟨rfl, HL.out⟩
end Go.Proofs.Ytbdnkmkagglmhaa.ptrSame
