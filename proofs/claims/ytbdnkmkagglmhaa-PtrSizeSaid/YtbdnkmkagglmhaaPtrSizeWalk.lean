/-
  The walk of PtrSize.
-/
import Derived.Test.YtbdnkmkagglmhaaPtrLaw
namespace Go.Proofs.Ytbdnkmkagglmhaa.ptrSize
open Go.RowKit

set_option maxHeartbeats 4000000 in
theorem walk (w : World) (x0 : Option Addr) (c0 : Nat) (y0 : PtrD) (s0 : SlP w x0 y0.locs) (m0 : y0.locs.length ≤ maxLen) (z0 : y0.sum.size ≤ maxLen) (a1 : Int) (w1 : (Lit.int .i64 a1).wf = true) :
    Calls Try.prog 13 #[ptrV x0 c0 y0, .int .i64 a1] w fun e w' => e = .returned (.bool true) ∧ Below w.heap.size w w' := by
  have PN := Lib.hid (PB.new (cap := c0) s0 (Below.refl w.heap.size w))
  clear s0
  unfold ptrV
  go_enter Try.func13, Try.ntmps13
  go_wp2_with fail
  generalize hwx : World.alloc _ _ = wx
  rw [hwx] at PN
  clear hwx
  generalize w.heap.size = g at PN ⊢
  refine (small_any x0 c0 y0 _).mono ?_
  rintro e v1 ⟨rfl, hb⟩
  have P_1 := Lib.hid (PN.out.keep hb)
  clear hb PN
  by_cases hs : smallP y0
  · have l0 : y0.locs.length ≤ 1000 := by have := hs.1; omega
    rw [decide_eq_true hs]
    clear hs
    obtain ⟨p0, p1, p2, p3⟩ := P_1.out.cells
    go_wp2_with fail
    clear p0 p1 p2 p3
    by_cases b0 : badP y0
    · have C0 : Hid (chkP y0 = 1) := if_pos b0
      have E0 : Hid ((if badP y0 then ⟨#[]⟩ else encB y0) = (⟨#[]⟩ : ByteArray)) := if_pos b0
      clear b0
      refine (encode_any x0 c0 y0 _ P_1.out.sl l0).mono ?_
      rintro e v2 ⟨rfl, hb⟩
      rw [E0.out]
      rw [C0.out]
      have P_2 := Lib.hid (P_1.out.keep hb)
      clear hb P_1
      go_wp2_with fail
      refine (live_any _).mono ?_
      rintro e wl ⟨rfl, hb⟩
      have HL := Lib.hid (P_2.out.bel.trans (hb.mono P_2.out.bel.size))
      clear hb
      go_wp2
      go_ret
      exact ⟨rfl, HL.out⟩
    · have C0 : Hid (chkP y0 = 0) := if_neg b0
      have E0 : Hid ((if badP y0 then ⟨#[]⟩ else encB y0) = encB y0) := if_neg b0
      have D0 : Hid (∀ k, k < 41 + 3 * y0.locs.length → decP ((encB y0).extract 0 k) = (nilP, 2)) := dec_cut b0
      have hz := encB_size b0
      clear b0
      refine (encode_any x0 c0 y0 _ P_1.out.sl l0).mono ?_
      rintro e v2 ⟨rfl, hb⟩
      rw [E0.out]
      rw [C0.out]
      have P_2 := Lib.hid (P_1.out.keep hb)
      clear hb P_1
      clear E0
      generalize encB y0 = s at *
      have hq1 : ((s.size : Int) != 41 + 3 * (y0.locs.length : Int)) = false := by rw [bne_eq_false_iff_eq]; omega
      have hq2 : ((s.size : Int) == 41 + 3 * (y0.locs.length : Int)) = true := by rw [beq_iff_eq]; omega
      by_cases ha : a1 < 0
      · skip
        obtain ⟨p0, p1, p2, p3⟩ := P_2.out.cells
        go_wp2_with fail
        clear p0 p1 p2 p3
        refine (live_any _).mono ?_
        rintro e wl ⟨rfl, hb⟩
        have HL := Lib.hid (P_2.out.bel.trans (hb.mono P_2.out.bel.size))
        clear hb
        go_wp2
        go_ret
        exact ⟨rfl, HL.out⟩
      · obtain ⟨k, rfl⟩ : ∃ k : Nat, a1 = k := ⟨a1.toNat, by omega⟩
        by_cases hk : s.size ≤ k
        · skip
          obtain ⟨p0, p1, p2, p3⟩ := P_2.out.cells
          go_wp2_with fail
          clear p0 p1 p2 p3
          refine (live_any _).mono ?_
          rintro e wl ⟨rfl, hb⟩
          have HL := Lib.hid (P_2.out.bel.trans (hb.mono P_2.out.bel.size))
          clear hb
          go_wp2
          go_ret
          exact ⟨rfl, HL.out⟩
        · have hk2 : k < s.size := by omega
          have HD := Lib.hid (D0.out k (by omega))
          have HZ : Hid ((s.extract 0 k).size ≤ 140737488351232) := by show _ ≤ _; rw [ByteArray.size_extract]; omega
          clear hk
          obtain ⟨p0, p1, p2, p3⟩ := P_2.out.cells
          go_wp2_with fail
          clear p0 p1 p2 p3
          refine (decode_any (s.extract 0 k) _ HZ.out).mono ?_
          rintro e u ⟨aq, cq, rfl, -, hb⟩
          rw [HD.out]
          simp only [ptrV, nilP, List.length_nil]
          have P_3 := Lib.hid (P_2.out.keep hb)
          clear hb P_2
          go_wp2_with fail
          have HB := Lib.hid (P_3.out.bel.alloc P_3.out.bel.size (.cells #[.slice aq 0 cq, .int .i64 0, .int .i64 0, .string ⟨#[]⟩] 59 (0, 0)))
          refine (live_any _).mono ?_
          rintro e wl ⟨rfl, hb⟩
          have HL := Lib.hid (HB.out.trans (hb.mono HB.out.size))
          clear hb
          go_wp2
          go_ret
          exact ⟨rfl, HL.out⟩
  · rw [decide_eq_false hs]
    obtain ⟨p0, p1, p2, p3⟩ := P_1.out.cells
    go_wp2_with fail
    clear p0 p1 p2 p3
    refine (live_any _).mono ?_
    rintro e wl ⟨rfl, hb⟩
    have HL := Lib.hid (P_1.out.bel.trans (hb.mono P_1.out.bel.size))
    clear hb
    go_wp2
    go_ret
    exact ⟨rfl, HL.out⟩
end Go.Proofs.Ytbdnkmkagglmhaa.ptrSize
