/-
  The library's heap over the queue: down.
-/
import Derived.Test.YtgdlnifncmiebaaHeatB
namespace Go.Proofs.Ytgdlnifncmiebaa
open Go.RowKit Go.ChangeShapes Go.WideShapes Go.ChangeAt

set_option maxRecDepth 100000 in
set_option maxHeartbeats 4000000 in
theorem down_any (b g cap : Nat) (l : List ItD) (i n : Nat) (w : World) (h : QAt w b g cap l) (hn : n ≤ l.length) (hlen : l.length ≤ 100000) (_hi : i ≤ 100000) (hin : i < l.length) :
    Calls Try.prog 28 #[.iface 58 (.pointer (some ⟨b, 0, none⟩)), .int .i64 (i : Int), .int .i64 (n : Int)] w fun e w' => ∃ r, e = .returned (.bool r) ∧ QAt w' b g cap (downL hotter l i n) ∧ Chg [g] w w' := by
  have HQ := Lib.hid h
  obtain ⟨U, hU⟩ : ∃ U, U = downL hotter l i n := ⟨_, rfl⟩
  rw [← hU]
  have HU := Lib.hid hU
  have HLL := Lib.hid hlen
  have HNL := Lib.hid hn
  clear h hU hlen hn
  go_enter Try.func28, Try.ntmps28
  go_wp2_with fail
  go_loopw [7] (fun s wr => ∃ (k : Nat) (m : List ItD), k < m.length ∧ s = .int .i64 k ∧ Hid (m.length = l.length) ∧ Hid (QAt wr b g cap m) ∧ Hid (U = downL hotter m k n) ∧ Hid (Chg [g] w wr)) (fun s _ => 100000 - (intOf s).toNat)
  case atStart => exact ⟨i, l, hin, rfl, rfl, HQ, HU, Chg.refl _ _⟩
  case round =>
    clear HQ HU
    obtain ⟨k, m, hk, rfl, HM, HQ, HU, HC⟩ := hrel
    have hml : m.length ≤ 100000 := by have := HM.out; have := HLL.out; omega
    have hnm : n ≤ m.length := by have := HM.out; have := HNL.out; omega
    have w1 : wrap64 (2 * (k : Int)) = 2 * (k : Int) := IntWalk.wrap64_in _ (by omega)
    have w2 : wrap64 (2 * (k : Int) + 1) = 2 * (k : Int) + 1 := IntWalk.wrap64_in _ (by omega)
    have w1' : IntKind.i64.wrap (2 * (k : Int)) = 2 * (k : Int) := i64_small _ (by omega) (by omega)
    have w2' : IntKind.i64.wrap (2 * (k : Int) + 1) = 2 * (k : Int) + 1 := i64_small _ (by omega) (by omega)
    have w3' : IntKind.i64.wrap (2 * (k : Int) + 1 + 1) = 2 * (k : Int) + 1 + 1 := i64_small _ (by omega) (by omega)
    by_cases h0 : 2 * k + 1 < n
    · have e1 : decide ((n : Int) ≤ 2 * (k : Int) + 1) = false := decide_eq_false (by omega)
      have e2 : decide (2 * (k : Int) + 1 < 0) = false := decide_eq_false (by omega)
      have c0 : wr.cell? ⟨b, 0, none⟩ = some (.slice (some ⟨g, 0, none⟩) m.length cap) := HQ.out.box.cell 0 _ rfl
      have i1 := inv_less b _ _ _ wr c0
      have HUE : Hid (U = if hotter (gt m (kid hotter m k n)) (gt m k) = true then downL hotter (swapL m k (kid hotter m k n)) (kid hotter m k n) n else m) := by
        show _ = _
        rw [HU.out, downL, dif_pos h0]
      by_cases h1 : 2 * k + 2 < n
      · have e3 : decide (2 * (k : Int) + 1 + 1 < (n : Int)) = true := decide_eq_true (by omega)
        obtain ⟨x0, x1, _, _⟩ := HQ.out.row.cells (gt_some (show 2 * k + 2 < m.length by omega))
        obtain ⟨y0, y1, _, _⟩ := HQ.out.row.cells (gt_some (show 2 * k + 1 < m.length by omega))
        have hls := qless g cap m.length (2 * k + 2) (2 * k + 1) (gt m (2 * k + 2)) (gt m (2 * k + 1)) wr (by omega) (by omega) x0 x1 y0 y1
        have ec1 : ((2 * k + 2 : Nat) : Int) = 2 * (k : Int) + 1 + 1 := by omega
        have ec2 : ((2 * k + 1 : Nat) : Int) = 2 * (k : Int) + 1 := by omega
        rw [ec1, ec2] at hls
        have HLS := Lib.hid hls
        clear hls x0 x1 y0 y1 ec1 ec2
        cases hh : hotter (gt m (2 * k + 2)) (gt m (2 * k + 1))
        · have hkid : kid hotter m k n = 2 * k + 1 := by unfold kid; rw [if_neg (by rw [hh]; simp)]
          rw [hh] at HLS
          go_wp2_with fail
          refine HLS.out.mono ?_
          rintro e w4 ⟨rfl, hb⟩
          have hq1 := HQ.out.keep hb
          have HQ1 := Lib.hid hq1
          have HC1 := Lib.hid (HC.out.trans (Chg.of hb (Nat.le_refl _)))
          have c4 : w4.cell? ⟨b, 0, none⟩ = some (.slice (some ⟨g, 0, none⟩) m.length cap) := hq1.box.cell 0 _ rfl
          have i4 := inv_less b _ _ _ w4 c4
          clear hb hq1 HLS hh
          rw [hkid] at HUE
          have hc' : 2 * k + 1 < m.length := by omega
          obtain ⟨x0, x1, _, _⟩ := HQ1.out.row.cells (gt_some hc')
          obtain ⟨y0, y1, _, _⟩ := HQ1.out.row.cells (gt_some hk)
          have hls := qless g cap m.length (2 * k + 1) k (gt m (2 * k + 1)) (gt m k) w4 hc' hk x0 x1 y0 y1
          have ec1 : ((2 * k + 1 : Nat) : Int) = 2 * (k : Int) + 1 := by omega
          rw [ec1] at hls
          have HL2 := Lib.hid hls
          clear hls x0 x1 y0 y1 hkid
          cases hg : hotter (gt m (2 * k + 1)) (gt m k)
          · rw [hg] at HL2 HUE
            go_wp2_with fail
            refine HL2.out.mono ?_
            rintro e w5 ⟨rfl, hb⟩
            have HQ2 := Lib.hid (HQ1.out.keep hb)
            have HC2 := Lib.hid (HC1.out.trans (Chg.of hb (Nat.le_refl _)))
            have HUE2 : Hid (U = m) := HUE.out.trans (if_neg (by simp))
            clear hb
            go_wp2
            go_ret
            exact ⟨_, rfl, by rw [HUE2.out]; exact HQ2.out, HC2.out⟩
          · rw [hg] at HL2 HUE
            have HUE2 : Hid (U = downL hotter (swapL m k (2 * k + 1)) (2 * k + 1) n) := HUE.out.trans (if_pos rfl)
            go_wp2_with fail
            refine HL2.out.mono ?_
            rintro e w5 ⟨rfl, hb⟩
            have hq2 := HQ1.out.keep hb
            have HQ2 := Lib.hid hq2
            have HC2 := Lib.hid (HC1.out.trans (Chg.of hb (Nat.le_refl _)))
            have c2 : w5.cell? ⟨b, 0, none⟩ = some (.slice (some ⟨g, 0, none⟩) m.length cap) := hq2.box.cell 0 _ rfl
            have i2 := inv_swap b _ _ _ w5 c2
            have hsw := qswap 0 g cap k (2 * k + 1) m w5 hq2.row hk hc'
            rw [ec1] at hsw
            have HSW := Lib.hid hsw
            have HKC : Hid (k < 2 * k + 1) := by show _ < _; omega
            clear hb hq2 hsw
            go_wp2_with fail
            refine HSW.out.mono ?_
            rintro e w6 ⟨rfl, hr, hc⟩
            have hln : (swapL m k (2 * k + 1)).length = m.length := swap_len _ _ _
            have HQ3 : Hid (QAt w6 b g cap (swapL m k (2 * k + 1))) := ⟨by rw [hln]; exact HQ2.out.box.of (hc.block b HQ2.out.box.lt (by simpa using Ne.symm HQ2.out.ne)), by rw [hln]; exact hr, HQ2.out.ne⟩
            have HC3 := Lib.hid (HC2.out.trans hc)
            have HM3 : Hid ((swapL m k (2 * k + 1)).length = l.length) := hln.trans HM.out
            have HPM : Hid (2 * k + 1 < (swapL m k (2 * k + 1)).length) := by show _ < _; rw [hln]; exact hc'
            clear hr hc hln HSW
            go_wp2
            go_roundw
            case rel => exact ⟨2 * k + 1, _, HPM.out, by rw [ec1], HM3, HQ3, HUE2, HC3⟩
            case measure => have := HKC.out; simp [intOf]; omega
        · have hkid : kid hotter m k n = 2 * k + 2 := by unfold kid; rw [if_pos ⟨h1, hh⟩]
          rw [hh] at HLS
          go_wp2_with fail
          refine HLS.out.mono ?_
          rintro e w4 ⟨rfl, hb⟩
          have hq1 := HQ.out.keep hb
          have HQ1 := Lib.hid hq1
          have HC1 := Lib.hid (HC.out.trans (Chg.of hb (Nat.le_refl _)))
          have c4 : w4.cell? ⟨b, 0, none⟩ = some (.slice (some ⟨g, 0, none⟩) m.length cap) := hq1.box.cell 0 _ rfl
          have i4 := inv_less b _ _ _ w4 c4
          clear hb hq1 HLS hh
          rw [hkid] at HUE
          have hc' : 2 * k + 2 < m.length := by omega
          obtain ⟨x0, x1, _, _⟩ := HQ1.out.row.cells (gt_some hc')
          obtain ⟨y0, y1, _, _⟩ := HQ1.out.row.cells (gt_some hk)
          have hls := qless g cap m.length (2 * k + 2) k (gt m (2 * k + 2)) (gt m k) w4 hc' hk x0 x1 y0 y1
          have ec1 : ((2 * k + 2 : Nat) : Int) = 2 * (k : Int) + 1 + 1 := by omega
          rw [ec1] at hls
          have HL2 := Lib.hid hls
          clear hls x0 x1 y0 y1 hkid
          cases hg : hotter (gt m (2 * k + 2)) (gt m k)
          · rw [hg] at HL2 HUE
            go_wp2_with fail
            refine HL2.out.mono ?_
            rintro e w5 ⟨rfl, hb⟩
            have HQ2 := Lib.hid (HQ1.out.keep hb)
            have HC2 := Lib.hid (HC1.out.trans (Chg.of hb (Nat.le_refl _)))
            have HUE2 : Hid (U = m) := HUE.out.trans (if_neg (by simp))
            clear hb
            go_wp2
            go_ret
            exact ⟨_, rfl, by rw [HUE2.out]; exact HQ2.out, HC2.out⟩
          · rw [hg] at HL2 HUE
            have HUE2 : Hid (U = downL hotter (swapL m k (2 * k + 2)) (2 * k + 2) n) := HUE.out.trans (if_pos rfl)
            go_wp2_with fail
            refine HL2.out.mono ?_
            rintro e w5 ⟨rfl, hb⟩
            have hq2 := HQ1.out.keep hb
            have HQ2 := Lib.hid hq2
            have HC2 := Lib.hid (HC1.out.trans (Chg.of hb (Nat.le_refl _)))
            have c2 : w5.cell? ⟨b, 0, none⟩ = some (.slice (some ⟨g, 0, none⟩) m.length cap) := hq2.box.cell 0 _ rfl
            have i2 := inv_swap b _ _ _ w5 c2
            have hsw := qswap 0 g cap k (2 * k + 2) m w5 hq2.row hk hc'
            rw [ec1] at hsw
            have HSW := Lib.hid hsw
            have HKC : Hid (k < 2 * k + 2) := by show _ < _; omega
            clear hb hq2 hsw
            go_wp2_with fail
            refine HSW.out.mono ?_
            rintro e w6 ⟨rfl, hr, hc⟩
            have hln : (swapL m k (2 * k + 2)).length = m.length := swap_len _ _ _
            have HQ3 : Hid (QAt w6 b g cap (swapL m k (2 * k + 2))) := ⟨by rw [hln]; exact HQ2.out.box.of (hc.block b HQ2.out.box.lt (by simpa using Ne.symm HQ2.out.ne)), by rw [hln]; exact hr, HQ2.out.ne⟩
            have HC3 := Lib.hid (HC2.out.trans hc)
            have HM3 : Hid ((swapL m k (2 * k + 2)).length = l.length) := hln.trans HM.out
            have HPM : Hid (2 * k + 2 < (swapL m k (2 * k + 2)).length) := by show _ < _; rw [hln]; exact hc'
            clear hr hc hln HSW
            go_wp2
            go_roundw
            case rel => exact ⟨2 * k + 2, _, HPM.out, by rw [ec1], HM3, HQ3, HUE2, HC3⟩
            case measure => have := HKC.out; simp [intOf]; omega
      · have e3 : decide (2 * (k : Int) + 1 + 1 < (n : Int)) = false := decide_eq_false (by omega)
        have hkid : kid hotter m k n = 2 * k + 1 := by unfold kid; rw [if_neg (by omega)]
        have HQ1 := HQ
        have HC1 := HC
        rw [hkid] at HUE
        have hc' : 2 * k + 1 < m.length := by omega
        obtain ⟨x0, x1, _, _⟩ := HQ1.out.row.cells (gt_some hc')
        obtain ⟨y0, y1, _, _⟩ := HQ1.out.row.cells (gt_some hk)
        have hls := qless g cap m.length (2 * k + 1) k (gt m (2 * k + 1)) (gt m k) wr hc' hk x0 x1 y0 y1
        have ec1 : ((2 * k + 1 : Nat) : Int) = 2 * (k : Int) + 1 := by omega
        rw [ec1] at hls
        have HL2 := Lib.hid hls
        clear hls x0 x1 y0 y1 hkid
        cases hg : hotter (gt m (2 * k + 1)) (gt m k)
        · rw [hg] at HL2 HUE
          go_wp2_with fail
          refine HL2.out.mono ?_
          rintro e w5 ⟨rfl, hb⟩
          have HQ2 := Lib.hid (HQ1.out.keep hb)
          have HC2 := Lib.hid (HC1.out.trans (Chg.of hb (Nat.le_refl _)))
          have HUE2 : Hid (U = m) := HUE.out.trans (if_neg (by simp))
          clear hb
          go_wp2
          go_ret
          exact ⟨_, rfl, by rw [HUE2.out]; exact HQ2.out, HC2.out⟩
        · rw [hg] at HL2 HUE
          have HUE2 : Hid (U = downL hotter (swapL m k (2 * k + 1)) (2 * k + 1) n) := HUE.out.trans (if_pos rfl)
          go_wp2_with fail
          refine HL2.out.mono ?_
          rintro e w5 ⟨rfl, hb⟩
          have hq2 := HQ1.out.keep hb
          have HQ2 := Lib.hid hq2
          have HC2 := Lib.hid (HC1.out.trans (Chg.of hb (Nat.le_refl _)))
          have c2 : w5.cell? ⟨b, 0, none⟩ = some (.slice (some ⟨g, 0, none⟩) m.length cap) := hq2.box.cell 0 _ rfl
          have i2 := inv_swap b _ _ _ w5 c2
          have hsw := qswap 0 g cap k (2 * k + 1) m w5 hq2.row hk hc'
          rw [ec1] at hsw
          have HSW := Lib.hid hsw
          have HKC : Hid (k < 2 * k + 1) := by show _ < _; omega
          clear hb hq2 hsw
          go_wp2_with fail
          refine HSW.out.mono ?_
          rintro e w6 ⟨rfl, hr, hc⟩
          have hln : (swapL m k (2 * k + 1)).length = m.length := swap_len _ _ _
          have HQ3 : Hid (QAt w6 b g cap (swapL m k (2 * k + 1))) := ⟨by rw [hln]; exact HQ2.out.box.of (hc.block b HQ2.out.box.lt (by simpa using Ne.symm HQ2.out.ne)), by rw [hln]; exact hr, HQ2.out.ne⟩
          have HC3 := Lib.hid (HC2.out.trans hc)
          have HM3 : Hid ((swapL m k (2 * k + 1)).length = l.length) := hln.trans HM.out
          have HPM : Hid (2 * k + 1 < (swapL m k (2 * k + 1)).length) := by show _ < _; rw [hln]; exact hc'
          clear hr hc hln HSW
          go_wp2
          go_roundw
          case rel => exact ⟨2 * k + 1, _, HPM.out, by rw [ec1], HM3, HQ3, HUE2, HC3⟩
          case measure => have := HKC.out; simp [intOf]; omega
    · have e1 : decide ((n : Int) ≤ 2 * (k : Int) + 1) = true := decide_eq_true (by omega)
      have HUE : Hid (U = m) := by show _ = _; rw [HU.out, downL, dif_neg h0]
      go_wp2_with fail
      go_ret
      exact ⟨_, rfl, by rw [HUE.out]; exact HQ.out, HC.out⟩
end Go.Proofs.Ytgdlnifncmiebaa
