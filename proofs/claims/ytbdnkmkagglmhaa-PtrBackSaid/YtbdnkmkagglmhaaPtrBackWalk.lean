/-
  The walk of PtrBack.
-/
import Derived.Test.YtbdnkmkagglmhaaPtrLaw
namespace Go.Proofs.Ytbdnkmkagglmhaa.ptrBack
open Go.RowKit

theorem sameD_self (p : PtrD) : sameD p p = true := by unfold sameD; simp
theorem str_eq (t : ByteArray) : (t.toList == t.toList) = true := by simp

set_option maxHeartbeats 4000000 in
theorem walk (w : World) (x0 : Option Addr) (c0 : Nat) (y0 : PtrD) (s0 : SlP w x0 y0.locs) (m0 : y0.locs.length ≤ maxLen) (z0 : y0.sum.size ≤ maxLen) (a1 : ByteArray) (w1 : a1.size ≤ 140737488351232) :
    Calls Try.prog 11 #[ptrV x0 c0 y0, .string a1] w fun e w' => e = .returned (.bool true) ∧ Below w.heap.size w w' := by
  have PN := Lib.hid (PB.new (cap := c0) s0 (Below.refl w.heap.size w))
  clear s0
  unfold ptrV
  go_enter Try.func11, Try.ntmps11
  go_wp2_with fail
  generalize hwx : World.alloc _ _ = wx
  rw [hwx] at PN
  clear hwx
  generalize w.heap.size = g at PN ⊢
  refine (small_any x0 c0 y0 _).mono ?_
  rintro e v1 ⟨rfl, hb⟩
  have P_1 := Lib.hid (PN.out.keep hb)
  clear hb PN
  by_cases hs : smallP y0
  · have l0 : y0.locs.length ≤ 1000 := by have := hs.1; omega
    rw [decide_eq_true hs]
    clear hs
    by_cases ha : 200 < a1.size
    · have hq : (200 : Int) < a1.size := by omega
      obtain ⟨p0, p1, p2, p3⟩ := P_1.out.cells
      go_wp2_with fail
      clear p0 p1 p2 p3
      refine (live_any _).mono ?_
      rintro e wl ⟨rfl, hb⟩
      have HL := Lib.hid (P_1.out.bel.trans (hb.mono P_1.out.bel.size))
      clear hb
      go_wp2
      go_ret
      exact ⟨rfl, HL.out⟩
    · have hq : (a1.size : Int) ≤ 200 := by omega
      obtain ⟨p0, p1, p2, p3⟩ := P_1.out.cells
      go_wp2_with fail
      clear p0 p1 p2 p3
      by_cases b0 : badP y0
      · have C0 : Hid (chkP y0 = 1) := if_pos b0
        have E0 : Hid ((if badP y0 then ⟨#[]⟩ else encB y0) = (⟨#[]⟩ : ByteArray)) := if_pos b0
        clear b0
        refine (encode_any x0 c0 y0 _ P_1.out.sl l0).mono ?_
        rintro e v2 ⟨rfl, hb⟩
        rw [E0.out]
        rw [C0.out]
        have P_2 := Lib.hid (P_1.out.keep hb)
        clear hb P_1
        go_wp2_with fail
        refine (decode_any a1 _ w1).mono ?_
        rintro e u3 ⟨aq, cq, rfl, hsq, hb⟩
        simp only [ptrV]
        have P_3 := Lib.hid (P_2.out.keep hb)
        clear hb P_2
        have QN := Lib.hid (PB.new (cap := cq) hsq P_3.out.bel)
        clear hsq
        by_cases hf : (decP a1).2 = 0
        · obtain ⟨hnb, henc⟩ := enc_dec a1 hf
          have HF : Hid ((decP a1).2 = 0) := hf
          have E1 : Hid ((if badP (decP a1).1 then ⟨#[]⟩ else encB (decP a1).1) = a1) := (if_neg hnb).trans henc
          have C1 : Hid (chkP (decP a1).1 = 0) := if_neg hnb
          have lq : (decP a1).1.locs.length ≤ 1000 := by
            have h := hnb
            exact Decidable.byContradiction fun hc => h (Or.inl (by omega))
          clear hf hnb henc
          rw [HF.out]
          generalize (decP a1).1 = q at *
          have k0 := QN.out.cells
          obtain ⟨k0, k1, k2, k3⟩ := k0
          go_wp2_with fail
          clear k0 k1 k2 k3
          generalize hwy : World.alloc _ _ = wy
          rw [hwy] at QN
          clear hwy
          refine (encode_any aq cq q _ QN.out.sl lq).mono ?_
          rintro e u4 ⟨rfl, hb⟩
          rw [E1.out, C1.out]
          have QB := Lib.hid (QN.out.keep hb)
          clear hb QN
          have hst := str_eq a1
          go_wp2_with fail
          refine (live_any _).mono ?_
          rintro e wl ⟨rfl, hb⟩
          have HL := Lib.hid (QB.out.bel.trans (hb.mono QB.out.bel.size))
          clear hb
          go_wp2
          go_ret
          exact ⟨rfl, HL.out⟩
        · have HQ : Hid ((decP a1).1 = nilP) := dec_err a1 hf
          have hq2 : ((decP a1).2 != 0) = true := by simpa using hf
          have hq3 : ((decP a1).2 == 0) = false := by simpa using hf
          rw [HQ.out] at QN ⊢
          clear hf
          have k0 : _ = some (Value.slice aq 0 cq) := QN.out.cells.1
          have k3 : _ = some (Value.string ⟨#[]⟩) := QN.out.cells.2.2.2
          simp only [nilP, List.length_nil] at k0 k3 ⊢
          go_wp2_with fail
          clear k0 k3
          generalize hwy : World.alloc _ _ = wy
          have hwz := QN.out.bel
          simp only [nilP, List.length_nil] at hwz
          rw [hwy] at hwz
          have HWZ := Lib.hid hwz
          clear hwy hwz
          refine (live_any _).mono ?_
          rintro e wl ⟨rfl, hb⟩
          have HL := Lib.hid (HWZ.out.trans (hb.mono HWZ.out.size))
          clear hb
          go_wp2
          go_ret
          exact ⟨rfl, HL.out⟩
      · have C0 : Hid (chkP y0 = 0) := if_neg b0
        have E0 : Hid ((if badP y0 then ⟨#[]⟩ else encB y0) = encB y0) := if_neg b0
        have D0 : Hid (decP (encB y0) = (y0, 0)) := dec_enc b0
        have hsz := encB_size b0
        have hl2 : y0.locs.length ≤ 2 := Decidable.byContradiction fun hc => b0 (Or.inl (by omega))
        have HSZ : Hid ((encB y0).size ≤ 140737488351232) := by show _ ≤ _; omega
        clear b0 hsz hl2
        refine (encode_any x0 c0 y0 _ P_1.out.sl l0).mono ?_
        rintro e v2 ⟨rfl, hb⟩
        rw [E0.out]
        rw [C0.out]
        have P_2 := Lib.hid (P_1.out.keep hb)
        clear hb P_1
        go_wp2_with fail
        refine (decode_any (encB y0) _ HSZ.out).mono ?_
        rintro e u3 ⟨ar, cr, rfl, hsr, hb⟩
        rw [D0.out] at hsr ⊢
        simp only [ptrV]
        simp only at hsr
        have P_3 := Lib.hid (P_2.out.keep hb)
        clear hb P_2
        have RN := Lib.hid (PB.new (cap := cr) hsr P_3.out.bel)
        have PR := Lib.hid (P_3.out.keep ((Below.refl _ _).alloc (Nat.le_refl _) (.cells #[.slice ar y0.locs.length cr, .int .i64 y0.len, .int .i64 y0.birth, .string y0.sum] 59 (0, 0))))
        clear hsr P_3
        obtain ⟨p0, p1, p2, p3⟩ := PR.out.cells
        obtain ⟨r0, r1, r2, r3⟩ := RN.out.cells
        go_wp2_with fail
        clear p0 p1 p2 p3 r0 r1 r2 r3
        generalize hwy : World.alloc _ _ = wy
        rw [hwy] at RN PR
        clear hwy
        refine (same_any x0 ar c0 cr y0 y0 _ PR.out.sl RN.out.sl l0 l0).mono ?_
        rintro e v4 ⟨rfl, hb⟩
        rw [sameD_self]
        have P_4 := Lib.hid (PR.out.keep hb)
        clear hb PR
        clear RN
        go_wp2_with fail
        refine (decode_any a1 _ w1).mono ?_
        rintro e u5 ⟨aq, cq, rfl, hsq, hb⟩
        simp only [ptrV]
        have P_5 := Lib.hid (P_4.out.keep hb)
        clear hb P_4
        have QN := Lib.hid (PB.new (cap := cq) hsq P_5.out.bel)
        clear hsq
        by_cases hf : (decP a1).2 = 0
        · obtain ⟨hnb, henc⟩ := enc_dec a1 hf
          have HF : Hid ((decP a1).2 = 0) := hf
          have E1 : Hid ((if badP (decP a1).1 then ⟨#[]⟩ else encB (decP a1).1) = a1) := (if_neg hnb).trans henc
          have C1 : Hid (chkP (decP a1).1 = 0) := if_neg hnb
          have lq : (decP a1).1.locs.length ≤ 1000 := by
            have h := hnb
            exact Decidable.byContradiction fun hc => h (Or.inl (by omega))
          clear hf hnb henc
          rw [HF.out]
          generalize (decP a1).1 = q at *
          have k0 := QN.out.cells
          obtain ⟨k0, k1, k2, k3⟩ := k0
          go_wp2_with fail
          clear k0 k1 k2 k3
          generalize hwy : World.alloc _ _ = wy
          rw [hwy] at QN
          clear hwy
          refine (encode_any aq cq q _ QN.out.sl lq).mono ?_
          rintro e u6 ⟨rfl, hb⟩
          rw [E1.out, C1.out]
          have QB := Lib.hid (QN.out.keep hb)
          clear hb QN
          have hst := str_eq a1
          go_wp2_with fail
          refine (live_any _).mono ?_
          rintro e wl ⟨rfl, hb⟩
          have HL := Lib.hid (QB.out.bel.trans (hb.mono QB.out.bel.size))
          clear hb
          go_wp2
          go_ret
          exact ⟨rfl, HL.out⟩
        · have HQ : Hid ((decP a1).1 = nilP) := dec_err a1 hf
          have hq2 : ((decP a1).2 != 0) = true := by simpa using hf
          have hq3 : ((decP a1).2 == 0) = false := by simpa using hf
          rw [HQ.out] at QN ⊢
          clear hf
          have k0 : _ = some (Value.slice aq 0 cq) := QN.out.cells.1
          have k3 : _ = some (Value.string ⟨#[]⟩) := QN.out.cells.2.2.2
          simp only [nilP, List.length_nil] at k0 k3 ⊢
          go_wp2_with fail
          clear k0 k3
          generalize hwy : World.alloc _ _ = wy
          have hwz := QN.out.bel
          simp only [nilP, List.length_nil] at hwz
          rw [hwy] at hwz
          have HWZ := Lib.hid hwz
          clear hwy hwz
          refine (live_any _).mono ?_
          rintro e wl ⟨rfl, hb⟩
          have HL := Lib.hid (HWZ.out.trans (hb.mono HWZ.out.size))
          clear hb
          go_wp2
          go_ret
          exact ⟨rfl, HL.out⟩
  · rw [decide_eq_false hs]
    obtain ⟨p0, p1, p2, p3⟩ := P_1.out.cells
    go_wp2_with fail
    clear p0 p1 p2 p3
    refine (live_any _).mono ?_
    rintro e wl ⟨rfl, hb⟩
    have HL := Lib.hid (P_1.out.bel.trans (hb.mono P_1.out.bel.size))
    clear hb
    go_wp2
    go_ret
    exact ⟨rfl, HL.out⟩
end Go.Proofs.Ytbdnkmkagglmhaa.ptrBack
