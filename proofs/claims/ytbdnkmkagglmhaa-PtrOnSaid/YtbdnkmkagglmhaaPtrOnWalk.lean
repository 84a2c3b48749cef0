/-
  The walk of PtrOn.
-/
import Derived.Test.YtbdnkmkagglmhaaPtrLaw
namespace Go.Proofs.Ytbdnkmkagglmhaa.ptrOn
open Go.RowKit

set_option maxHeartbeats 2000000 in
theorem walk (w : World) (x0 : Option Addr) (c0 : Nat) (y0 : PtrD) (s0 : SlP w x0 y0.locs) (m0 : y0.locs.length ≤ maxLen) (z0 : y0.sum.size ≤ maxLen) (a1 : Int) (w1 : (Lit.int .i64 a1).wf = true) :
    Calls Try.prog 14 #[ptrV x0 c0 y0, .int .i64 a1] w fun e w' => e = .returned (.bool true) ∧ Below w.heap.size w w' := by
  have PN := Lib.hid (PB.new (cap := c0) s0 (Below.refl w.heap.size w))
  clear s0
  unfold ptrV
  go_enter Try.func14, Try.ntmps14
  go_wp2_with fail
  generalize hwx : World.alloc _ _ = wx
  rw [hwx] at PN
  clear hwx
  generalize w.heap.size = g at PN ⊢
  refine (small_any x0 c0 y0 _).mono ?_
  rintro e wa ⟨rfl, hb⟩
  have PA := Lib.hid (PN.out.keep hb)
  clear hb PN
  obtain ⟨k0, k1, k2, k3⟩ := PA.out.cells
  by_cases hs : smallP y0
  · have hlen : y0.locs.length ≤ 1000 := by have := hs.1; omega
    rw [decide_eq_true hs]
    go_wp2_with fail
    clear k0 k1 k2 k3
    refine (check_any x0 c0 y0 _ PA.out.sl hlen).mono ?_
    rintro e wb ⟨rfl, hb⟩
    have PB1 := Lib.hid (PA.out.keep hb)
    clear hb PA
    obtain ⟨k0, k1, k2, k3⟩ := PB1.out.cells
    by_cases hbad : badP y0
    · rw [show chkP y0 = 1 from if_pos hbad]
      go_wp2_with fail
      clear k0 k1 k2 k3
      refine (live_any _).mono ?_
      rintro e wl ⟨rfl, hb⟩
      have HL := Lib.hid (PB1.out.bel.trans (hb.mono PB1.out.bel.size))
      clear hb
      go_wp2
      go_ret
      exact ⟨rfl, HL.out⟩
    · rw [show chkP y0 = 0 from if_neg hbad]
      have hcnt := Lib.hid (on_count hbad)
      have HBAD := Lib.hid hbad
      clear hbad hs
      go_wp2_with fail
      clear k0 k1 k2 k3
      obtain ⟨k0, k1, k2, k3⟩ := PB1.out.cells
      refine wp_loop_rounds 3 ?_
      rw [rounds_succ]
      go_wp2_with fail
      clear k0 k1 k2 k3
      refine (on_any x0 c0 y0 0 _ PB1.out.sl hlen).mono ?_
      rintro e wc ⟨rfl, hb⟩
      have PC := Lib.hid (PB1.out.keep hb)
      clear hb PB1
      obtain ⟨k0, k1, k2, k3⟩ := PC.out.cells
      cases h0 : onP y0.locs 0
      · have H0 := Lib.hid h0
        clear h0
        go_wp2_with fail
        clear k0 k1 k2 k3
        obtain ⟨k0, k1, k2, k3⟩ := PC.out.cells
        rw [rounds_succ]
        go_wp2_with fail
        clear k0 k1 k2 k3
        refine (on_any x0 c0 y0 1 _ PC.out.sl hlen).mono ?_
        rintro e wd ⟨rfl, hb⟩
        have PD := Lib.hid (PC.out.keep hb)
        clear hb PC
        obtain ⟨k0, k1, k2, k3⟩ := PD.out.cells
        cases h1 : onP y0.locs 1
        · have hc := hcnt.out
          rw [H0.out, h1] at hc
          exfalso
          have := HBAD.out
          exact this (Or.inl (by simp at hc; omega))
        · have hc := hcnt.out
          rw [H0.out, h1] at hc
          have hq : ((1 : Int) == (y0.locs.length : Int)) = true := by simp at hc ⊢; omega
          clear hc h1
          go_wp2_with fail
          clear k0 k1 k2 k3
          obtain ⟨k0, k1, k2, k3⟩ := PD.out.cells
          rw [rounds_succ]
          by_cases d0 : a1 = 0
          · subst d0
            go_wp2_with fail
            clear k0 k1 k2 k3
            refine (live_any _).mono ?_
            rintro e wl ⟨rfl, hb⟩
            have HL := Lib.hid (PD.out.bel.trans (hb.mono PD.out.bel.size))
            clear hb
            go_wp2
            go_ret
            exact ⟨rfl, HL.out⟩
          · by_cases d1 : a1 = 1
            · subst d1
              go_wp2_with fail
              clear k0 k1 k2 k3
              refine (live_any _).mono ?_
              rintro e wl ⟨rfl, hb⟩
              have HL := Lib.hid (PD.out.bel.trans (hb.mono PD.out.bel.size))
              clear hb
              go_wp2
              go_ret
              exact ⟨rfl, HL.out⟩
            · have hn := on_none HBAD.out a1 d0 d1
              have e0 : (a1 == 0) = false := by simpa using d0
              have e1 : (a1 == 1) = false := by simpa using d1
              have HN := Lib.hid hn
              clear hn d0 d1
              go_wp2_with fail
              clear k0 k1 k2 k3
              refine (on_any x0 c0 y0 a1 _ PD.out.sl hlen).mono ?_
              rintro e we ⟨rfl, hb⟩
              rw [HN.out]
              have PE := Lib.hid (PD.out.keep hb)
              clear hb PD
              obtain ⟨k0, k1, k2, k3⟩ := PE.out.cells
              go_wp2_with fail
              clear k0 k1 k2 k3
              refine (live_any _).mono ?_
              rintro e wl ⟨rfl, hb⟩
              have HL := Lib.hid (PE.out.bel.trans (hb.mono PE.out.bel.size))
              clear hb
              go_wp2
              go_ret
              exact ⟨rfl, HL.out⟩
      · have H0 := Lib.hid h0
        clear h0
        go_wp2_with fail
        clear k0 k1 k2 k3
        obtain ⟨k0, k1, k2, k3⟩ := PC.out.cells
        rw [rounds_succ]
        go_wp2_with fail
        clear k0 k1 k2 k3
        refine (on_any x0 c0 y0 1 _ PC.out.sl hlen).mono ?_
        rintro e wd ⟨rfl, hb⟩
        have PD := Lib.hid (PC.out.keep hb)
        clear hb PC
        obtain ⟨k0, k1, k2, k3⟩ := PD.out.cells
        cases h1 : onP y0.locs 1
        · have hc := hcnt.out
          rw [H0.out, h1] at hc
          have hq : ((1 : Int) == (y0.locs.length : Int)) = true := by simp at hc ⊢; omega
          clear hc h1
          go_wp2_with fail
          clear k0 k1 k2 k3
          obtain ⟨k0, k1, k2, k3⟩ := PD.out.cells
          rw [rounds_succ]
          by_cases d0 : a1 = 0
          · subst d0
            go_wp2_with fail
            clear k0 k1 k2 k3
            refine (live_any _).mono ?_
            rintro e wl ⟨rfl, hb⟩
            have HL := Lib.hid (PD.out.bel.trans (hb.mono PD.out.bel.size))
            clear hb
            go_wp2
            go_ret
            exact ⟨rfl, HL.out⟩
          · by_cases d1 : a1 = 1
            · subst d1
              go_wp2_with fail
              clear k0 k1 k2 k3
              refine (live_any _).mono ?_
              rintro e wl ⟨rfl, hb⟩
              have HL := Lib.hid (PD.out.bel.trans (hb.mono PD.out.bel.size))
              clear hb
              go_wp2
              go_ret
              exact ⟨rfl, HL.out⟩
            · have hn := on_none HBAD.out a1 d0 d1
              have e0 : (a1 == 0) = false := by simpa using d0
              have e1 : (a1 == 1) = false := by simpa using d1
              have HN := Lib.hid hn
              clear hn d0 d1
              go_wp2_with fail
              clear k0 k1 k2 k3
              refine (on_any x0 c0 y0 a1 _ PD.out.sl hlen).mono ?_
              rintro e we ⟨rfl, hb⟩
              rw [HN.out]
              have PE := Lib.hid (PD.out.keep hb)
              clear hb PD
              obtain ⟨k0, k1, k2, k3⟩ := PE.out.cells
              go_wp2_with fail
              clear k0 k1 k2 k3
              refine (live_any _).mono ?_
              rintro e wl ⟨rfl, hb⟩
              have HL := Lib.hid (PE.out.bel.trans (hb.mono PE.out.bel.size))
              clear hb
              go_wp2
              go_ret
              exact ⟨rfl, HL.out⟩
        · have hc := hcnt.out
          rw [H0.out, h1] at hc
          have hq : ((2 : Int) == (y0.locs.length : Int)) = true := by simp at hc ⊢; omega
          clear hc h1
          go_wp2_with fail
          clear k0 k1 k2 k3
          obtain ⟨k0, k1, k2, k3⟩ := PD.out.cells
          rw [rounds_succ]
          by_cases d0 : a1 = 0
          · subst d0
            go_wp2_with fail
            clear k0 k1 k2 k3
            refine (live_any _).mono ?_
            rintro e wl ⟨rfl, hb⟩
            have HL := Lib.hid (PD.out.bel.trans (hb.mono PD.out.bel.size))
            clear hb
            go_wp2
            go_ret
            exact ⟨rfl, HL.out⟩
          · by_cases d1 : a1 = 1
            · subst d1
              go_wp2_with fail
              clear k0 k1 k2 k3
              refine (live_any _).mono ?_
              rintro e wl ⟨rfl, hb⟩
              have HL := Lib.hid (PD.out.bel.trans (hb.mono PD.out.bel.size))
              clear hb
              go_wp2
              go_ret
              exact ⟨rfl, HL.out⟩
            · have hn := on_none HBAD.out a1 d0 d1
              have e0 : (a1 == 0) = false := by simpa using d0
              have e1 : (a1 == 1) = false := by simpa using d1
              have HN := Lib.hid hn
              clear hn d0 d1
              go_wp2_with fail
              clear k0 k1 k2 k3
              refine (on_any x0 c0 y0 a1 _ PD.out.sl hlen).mono ?_
              rintro e we ⟨rfl, hb⟩
              rw [HN.out]
              have PE := Lib.hid (PD.out.keep hb)
              clear hb PD
              obtain ⟨k0, k1, k2, k3⟩ := PE.out.cells
              go_wp2_with fail
              clear k0 k1 k2 k3
              refine (live_any _).mono ?_
              rintro e wl ⟨rfl, hb⟩
              have HL := Lib.hid (PE.out.bel.trans (hb.mono PE.out.bel.size))
              clear hb
              go_wp2
              go_ret
              exact ⟨rfl, HL.out⟩
  · rw [decide_eq_false hs]
    go_wp2_with fail
    clear k0 k1 k2 k3
    refine (live_any _).mono ?_
    rintro e wl ⟨rfl, hb⟩
    have HL := Lib.hid (PA.out.bel.trans (hb.mono PA.out.bel.size))
    clear hb
    go_wp2
    go_ret
    exact ⟨rfl, HL.out⟩
end Go.Proofs.Ytbdnkmkagglmhaa.ptrOn
