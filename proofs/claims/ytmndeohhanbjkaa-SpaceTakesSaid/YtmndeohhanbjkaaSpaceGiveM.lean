/-
  Contracts of package space: Give.
-/
import Derived.Test.YtmndeohhanbjkaaSpaceGiveA
import Derived.Deep.RegionHeld3
import Derived.Deep.RegionLaw
import Derived.Deep.RegionWith
import Derived.Deep.QuietTactic
import Derived.BigQuiet
namespace Go.Proofs.Ytmndeohhanbjkaa
open Go.RowKit Go.ChangeShapes Go.WideShapes Go.ChangeAt

set_option maxRecDepth 100000 in
set_option maxHeartbeats 12000000 in
theorem give_mid (lv : Value) (l : List (Int × Int)) (r : Int × Int) (w : World) (b0 : Nat) (hl : Prs 46 w b0 lv l) (hlen : l.length ≤ 1000) (hw : WfP l) (hr : WfP [r]) (hn : lv ≠ .slice none 0 0) (hv : ∀ g cap, lv = .slice (some ⟨g, 0, none⟩) l.length cap → giveF l r < cap) :
    Calls Try.prog 22 #[lv, .agg #[.int .i64 r.1, .int .i64 r.2]] w (GvRes 46 w.heap.size w (giveL l r)) := by
  obtain ⟨q, hq⟩ : ∃ q, giveL l r = q := ⟨_, rfl⟩
  rw [hq]
  have HQ := Lib.hid hq
  clear hq
  obtain ⟨ra, rn⟩ := r
  have BX := Lib.hid (Box.new w 46 #[.int .i64 ra, .int .i64 rn])
  have HL0 := Lib.hid ((Below.refl w.heap.size w).alloc (Nat.le_refl _) (.cells #[.int .i64 ra, .int .i64 rn] 46 (0, 0)))
  have HPR := Lib.hid hl
  obtain ⟨a, cap, rfl, hs⟩ := hl.slP'
  have HV := Lib.hid hv
  clear hv
  have HNN := Lib.hid hn
  clear hn
  have H := Lib.hid hs
  have HW := Lib.hid hw
  have HWR := Lib.hid hr
  clear hs hw hr hl
  simp only
  cases hm : mayL l
  · have HN := Lib.hid (show q = ([], false) by rw [← HQ.out]; exact give_no (.inl hm))
    go_enter Try.func22, Try.ntmps22
    go_wp2_with fail
    refine (may_any a cap l _ (H.out.keep HL0.out) hlen HW.out).mono ?_
    rintro e w1 ⟨rfl, hb⟩
    rw [hm]
    have HB := Lib.hid (HL0.out.trans (hb.mono HL0.out.size))
    clear hb hm
    go_wp2
    go_ret2
    exact GvRes.no HN.out HB.out
  have HM := Lib.hid hm
  go_enter Try.func22, Try.ntmps22
  go_wp2_with fail
  refine (may_any a cap l _ (H.out.keep HL0.out) hlen HW.out).mono ?_
  rintro e w1 ⟨rfl, hb⟩
  rw [hm]
  have HB := Lib.hid (HL0.out.trans (hb.mono HL0.out.size))
  have B1 := Lib.hid (BX.out.keep hb BX.out.lt)
  have k0 := B1.out.cell 0 _ rfl
  have k1 := B1.out.cell 1 _ rfl
  have ha := (Below.refl w1.heap.size w1).alloc (Nat.le_refl _) (.cells #[.int .i64 ra, .int .i64 rn] 46 (0, 0))
  have HF := Lib.hid (Box.new w1 46 #[.int .i64 ra, .int .i64 rn])
  have HB2 := Lib.hid (HB.out.trans (ha.mono HB.out.size))
  have B2 := Lib.hid (B1.out.keep ha B1.out.lt)
  clear hb hm ha
  go_wp2_with fail
  generalize World.alloc w1 _ = u1 at *
  have HFL := Lib.hid HF.out.lt
  generalize w1.heap.size = g1 at *
  refine (may_any (some ⟨g1, 0, none⟩) 1 [(ra, rn)] _ (slP_flat HFL.out (fun j u hj => HF.out.cell j u (by simpa [PrV] using hj))) (by simp) HWR.out).mono ?_
  rintro e w2 ⟨rfl, hb⟩
  have HB3 := Lib.hid (HB2.out.trans (hb.mono HB2.out.size))
  have B3 := Lib.hid (B2.out.keep hb B2.out.lt)
  clear hb HF HFL B1 B2 HB HB2 k0 k1 BX HL0
  cases hm2 : mayL [(ra, rn)]
  · have HN := Lib.hid (show q = ([], false) by rw [← HQ.out]; exact give_no (.inr hm2))
    clear hm2
    go_wp2
    go_ret2
    exact GvRes.no HN.out HB3.out
  have HM2 := Lib.hid hm2
  have HR := Lib.hid (may_mem (m := 0) (by omega) hm2 (ra, rn) (List.mem_singleton.2 rfl)).1
  have HALL := Lib.hid (fun x hx => (may_mem (l := l) (m := 0) (by omega) HM.out x hx).1)
  have k0 := B3.out.cell 0 _ rfl
  have k1 := B3.out.cell 1 _ rfl
  clear hm2
  go_wp2_with fail
  rcases HPR.out.view with ⟨e0, rfl⟩ | ⟨g, cap', e0, hc, hm, hg0, hgl, hcell⟩
  · exact absurd e0 HNN.out
  · injection e0 with q1 q2 q3
    subst q1 q3
    have HVC := HV.out g cap rfl
    unfold maxLen at hm
    have HAT : Hid (∀ i (hi : i < l.length) W, Below w.heap.size w W → W.cell? ⟨g, 0 + i * 2, none⟩ = some (.int .i64 l[i].1) ∧ W.cell? ⟨g, 0 + i * 2 + 1, none⟩ = some (.int .i64 l[i].2)) := by
      intro i hi W hW
      obtain ⟨b', off', e', _, hc0, hc1⟩ := H.out.get i hi
      injection e' with e'
      injection e' with q1 q2
      subst q1 q2
      exact ⟨(hW.cell (p := ⟨g, _, none⟩) hgl).trans hc0, (hW.cell (p := ⟨g, _, none⟩) hgl).trans hc1⟩
    have HSL := Lib.hid (H.out.keep HB3.out)
    have hgl3 := Nat.lt_of_lt_of_le hgl HB3.out.size
    clear hcell hg0
    obtain ⟨f, hf⟩ : ∃ f, giveF l (ra, rn) = f := ⟨_, rfl⟩
    obtain ⟨t, ht⟩ : ∃ t, giveT l (ra, rn) = t := ⟨_, rfl⟩
    rw [hf] at HVC
    have hfl : f ≤ l.length := by rw [← hf]; exact from_le _ _
    have htl : t ≤ l.length := by rw [← ht]; exact down_le _ _ _ _
    have hft : f ≤ t := by rw [← hf, ← ht]; exact down_ge _ _ _ _ (from_le _ _)
    have HFT := Lib.hid (And.intro hf ht)
    obtain ⟨M, hM⟩ : ∃ M : List (Int × Int), (l.drop f).take (t - f) = M := ⟨_, rfl⟩
    have hMl : M.length = t - f := by rw [← hM, List.length_take, List.length_drop]; omega
    have HMX : Hid (∀ k (hk : k < M.length) (hfk : f + k < l.length), M[k] = l[f + k]) := by
      intro k hk hfk
      subst hM
      simp
    have HM0 := Lib.hid hM
    have HRC := reached_some g 0 cap l (ra, rn) w2 HSL.out hgl3 hlen HALL.out HR.out
    simp only at HRC
    unfold giveF at hf
    unfold giveT at ht
    simp only at hf ht
    rw [hf] at HRC ht
    rw [ht] at HRC
    have HRR := Lib.hid HRC
    clear hM hf ht hgl3 HSL HRC
    refine HRR.out.mono ?_
    clear HRR
    rintro e w3 ⟨rfl, hb⟩
    have HB4 := Lib.hid (HB3.out.trans (hb.mono HB3.out.size))
    have B4 := Lib.hid (B3.out.keep hb B3.out.lt)
    have ha := (Below.refl w3.heap.size w3).alloc (Nat.le_refl _) (.cells #[.int .i64 ra, .int .i64 rn] 46 (0, 0))
    have BJ := Lib.hid (Box.new w3 46 #[.int .i64 ra, .int .i64 rn])
    have HB5 := Lib.hid (HB4.out.trans (ha.mono HB4.out.size))
    have B5 := Lib.hid (B4.out.keep ha B4.out.lt)
    have hgj : w.heap.size < w3.heap.size := B4.out.lt
    clear hb ha k0 k1
    have k0 := B4.out.cell 0 _ rfl
    have k1 := B4.out.cell 1 _ rfl
    clear B4 HB4 B3 HB3
    rcases (show f < cap ∨ f = cap by omega) with hfc | hfc
    · skip
      go_wp2_with fail
      generalize World.alloc w3 _ = u3 at *
      generalize w3.heap.size = gj at *
      clear k0 k1
      go_loopw [33] (fun i wr => ∃ (k : Nat) (j : Int × Int), k ≤ (t - f) ∧ i = .int .i64 k ∧ Hid (MayR j) ∧ Hid (foldJ (ra, rn) (ra, rn) M = foldJ (ra, rn) j (M.drop k)) ∧ Hid (Below w.heap.size w wr) ∧ Hid (Box wr w.heap.size 46 #[.int .i64 ra, .int .i64 rn]) ∧ Hid (Box wr gj 46 #[.int .i64 j.1, .int .i64 j.2])) (fun i _ => (t - f) - (intOf i).toNat)
      case atStart => exact ⟨0, (ra, rn), Nat.zero_le _, rfl, HR, rfl, HB5, B5, BJ⟩
      case round =>
        clear HB5 B5 BJ
        obtain ⟨k, j, hk, rfl, HJ, HFO, HB5, B5, BJ⟩ := hrel
        by_cases hlt : k < t - f
        · have hkM : k < M.length := by omega
          have hfk : f + k < l.length := by omega
          have HMK := Lib.hid (HMX.out k hkM hfk)
          have HX := Lib.hid (HALL.out _ (List.getElem_mem hfk))
          obtain ⟨hc0, hc1⟩ := HAT.out (f + k) hfk wr HB5.out
          have HHIT0 := @fold_hit (ra, rn) j M k hkM
          have HGO0 := @fold_go (ra, rn) j M k hkM
          rw [HMK.out] at HHIT0 HGO0
          have HHIT := Lib.hid HHIT0
          have HGO := Lib.hid HGO0
          clear HHIT0 HGO0 HMK
          generalize l[f + k] = x at *
          obtain ⟨xa, xn⟩ := x
          simp only at hc0 hc1
          rw [show 0 + (f + k) * 2 = f * 2 + k * 2 by omega] at hc0 hc1
          have ha := (Below.refl wr.heap.size wr).alloc (Nat.le_refl _) (.cells #[.int .i64 xa, .int .i64 xn] 46 (0, 0))
          have BXX := Lib.hid (Box.new wr 46 #[.int .i64 xa, .int .i64 xn])
          have HB6 := Lib.hid (HB5.out.trans (ha.mono HB5.out.size))
          have B6 := Lib.hid (B5.out.keep ha B5.out.lt)
          have BJ6 := Lib.hid (BJ.out.keep ha BJ.out.lt)
          have hgx : gj < wr.heap.size := BJ.out.lt
          have k0 := B6.out.cell 0 _ rfl
          have k1 := B6.out.cell 1 _ rfl
          have x0 := BXX.out.cell 0 _ rfl
          have x1 := BXX.out.cell 1 _ rfl
          clear ha B5 BJ HB5
          go_wp2_with fail
          generalize World.alloc wr _ = u4 at *
          generalize wr.heap.size = gx at *
          refine (meet_any (xa, xn) (ra, rn) _ HX.out HR.out).mono ?_
          rintro e w4 ⟨rfl, hb⟩
          have HB7 := Lib.hid (HB6.out.trans (hb.mono HB6.out.size))
          have B7 := Lib.hid (B6.out.keep hb B6.out.lt)
          have BJ7 := Lib.hid (BJ6.out.keep hb BJ6.out.lt)
          have BX7 := Lib.hid (BXX.out.keep hb BXX.out.lt)
          clear hb k0 k1 x0 x1 hc0 hc1 HB6 B6 BJ6 BXX
          cases hmt : meetB (xa, xn) (ra, rn)
          · have HFO2 : Hid (foldJ (ra, rn) (ra, rn) M = foldJ (ra, rn) (joinP j (xa, xn)) (M.drop (k + 1))) := by show _ = _; rw [HFO.out]; exact HGO.out hmt
            have HJ2 := Lib.hid (join_may HJ.out HX.out)
            have hj := HJ.out
            have hxx := HX.out
            obtain ⟨ja, jn⟩ := j
            unfold MayR at hj hxx
            simp only at hj hxx BJ7
            have j0 := BJ7.out.cell 0 _ rfl
            have j1 := BJ7.out.cell 1 _ rfl
            have x0 := BX7.out.cell 0 _ rfl
            have x1 := BX7.out.cell 1 _ rfl
            clear hmt
            obtain ⟨hj0, hj1, hj2⟩ := hj
            obtain ⟨hx0, hx1, hx2⟩ := hxx
            have HE1 := Lib.hid (fun v : World => end_any (ja, jn) v hj0 (by simp only; omega) (by simp only; omega) (by simp only; omega))
            have HE2 := Lib.hid (fun v : World => end_any (xa, xn) v hx0 (by simp only; omega) (by simp only; omega) (by simp only; omega))
            obtain ⟨m, hm1⟩ : ∃ m, min ja xa = m := ⟨_, rfl⟩
            obtain ⟨mx, hm2⟩ : ∃ mx, max (ja + jn) (xa + xn) = mx := ⟨_, rfl⟩
            have HJN : Hid (joinP (ja, jn) (xa, xn) = (m, mx - m)) := by show _ = _; unfold joinP; simp only; rw [hm1, hm2]
            have hmb : 0 ≤ m ∧ m ≤ mx ∧ mx ≤ 1073741824 := by omega
            obtain ⟨hmb0, hmb1, hmb2⟩ := hmb
            have g0 : IntKind.i64.wrap (mx - m) = mx - m := IntWalk.i64_in _ ⟨by omega, by omega⟩
            have HB0 : Hid (Below w.heap.size w w4.drew) := HB7.out.drew
            have B0 : Hid (Box w4.drew w.heap.size 46 #[.int .i64 ra, .int .i64 rn]) := B7.out
            have BJ0 : Hid (Box w4.drew gj 46 #[.int .i64 ja, .int .i64 jn]) := BJ7.out
            have BX0 : Hid (Box w4.drew gx 46 #[.int .i64 xa, .int .i64 xn]) := BX7.out
            have hne : gj ≠ gx := by omega
            rcases (show (ja = m ∧ ja ≤ xa) ∨ (xa = m ∧ ¬ ja ≤ xa) by omega) with ⟨rfl, c1⟩ | ⟨rfl, c1⟩ <;> rcases (show (mx = xa + xn ∧ ja + jn < xa + xn) ∨ (mx = ja + jn ∧ ¬ ja + jn < xa + xn) by omega) with ⟨rfl, c2⟩ | ⟨rfl, c2⟩
            all_goals
              clear hm1 hm2
              go_wp2_with fail
              first | (go_region_with (first | (go_at_call_of 24 (Value.agg #[.int .i64 ja, .int .i64 jn]); refine (HE1.out _).mono ?_; rintro e w5 ⟨rfl, hb⟩; have HB0 := Lib.hid (HB0.out.trans (hb.mono HB0.out.size)); have B0 := Lib.hid (B0.out.keep hb B0.out.lt); have BJ0 := Lib.hid (BJ0.out.keep hb BJ0.out.lt); have BX0 := Lib.hid (BX0.out.keep hb BX0.out.lt); clear hb j0 j1 x0 x1; have j0 := BJ0.out.cell 0 _ rfl; have j1 := BJ0.out.cell 1 _ rfl; have x0 := BX0.out.cell 0 _ rfl; have x1 := BX0.out.cell 1 _ rfl; dsimp only) | (go_at_call_of 24 (Value.agg #[.int .i64 xa, .int .i64 xn]); refine (HE2.out _).mono ?_; rintro e w6 ⟨rfl, hb⟩; have HB0 := Lib.hid (HB0.out.trans (hb.mono HB0.out.size)); have B0 := Lib.hid (B0.out.keep hb B0.out.lt); have BJ0 := Lib.hid (BJ0.out.keep hb BJ0.out.lt); have BX0 := Lib.hid (BX0.out.keep hb BX0.out.lt); clear hb j0 j1 x0 x1; have j0 := BJ0.out.cell 0 _ rfl; have j1 := BJ0.out.cell 1 _ rfl; have x0 := BX0.out.cell 0 _ rfl; have x1 := BX0.out.cell 1 _ rfl; have f0 := BJ0.out.free 0; have f1 := BJ0.out.free 1; dsimp only))) | fail
              all_goals
                go_wp2
                go_roundw
                case rel => exact ⟨k + 1, joinP (ja, jn) (xa, xn), by omega, by go_num, HJ2, HFO2, (HB0.out.setCell (p := ⟨gj, 0, none⟩) (Nat.le_of_lt hgj) _).setCell (p := ⟨gj, 1, none⟩) (Nat.le_of_lt hgj) _, (Only.trans (Only.set gj 0 w6 _) (Only.set gj 1 _ _)).box (by omega) B0.out, by rw [HJN.out]; exact box_two BJ0.out⟩
                case measure => simp [intOf]; omega
          · have HN : Hid (q = ([], false)) := by
              show q = _
              rw [← HQ.out]
              refine give_none ?_
              rw [HFT.out.1, HFT.out.2, HM0.out, HFO.out]
              exact HHIT.out hmt
            clear hmt
            go_wp2
            go_ret2
            exact GvRes.no HN.out HB7.out
        · have hkt : k = t - f := by omega
          have HS : Hid (q = (l.take f ++ [j] ++ l.drop t, true)) := by
            show q = _
            rw [← HQ.out]
            have h := HFO.out
            rw [show M.drop k = [] by rw [List.drop_eq_nil_iff]; omega] at h
            have h2 := give_some HM.out HM2.out (j := j) (by rw [HFT.out.1, HFT.out.2, HM0.out]; exact h)
            rw [HFT.out.1, HFT.out.2] at h2
            exact h2
          obtain ⟨ja, jn⟩ := j
          simp only at BJ
          have k0 := BJ.out.cell 0 _ rfl
          have k1 := BJ.out.cell 1 _ rfl
          have ha := (Below.refl wr.heap.size wr).alloc (Nat.le_refl _) (.cells #[.int .i64 ja, .int .i64 jn] 46 (0, 0))
          have BZ := Lib.hid (Box.new wr 46 #[.int .i64 ja, .int .i64 jn])
          have HB6 := Lib.hid (HB5.out.trans (ha.mono HB5.out.size))
          have HP6 := Lib.hid (HPR.out.keep HB6.out)
          clear ha B5 BJ HFO
          go_wp2_with fail
          generalize World.alloc wr _ = u4 at *
          generalize wr.heap.size = gz at *
          refine (swapped_one _ l f t gz (ja, jn) _ b0 HP6.out hlen (by omega) (by omega) BZ.out).mono ?_
          rintro e w5 ⟨v5, rfl, hp5, hb5⟩
          have HP7 := Lib.hid (hp5.base HB6.out.size)
          have HB7 := Lib.hid (HB6.out.trans (hb5.mono HB6.out.size))
          clear hp5 hb5 k0 k1 BZ HB6 HP6
          go_wp2
          go_ret2
          exact GvRes.mk HS.out HP7.out HB7.out
    · exact absurd HVC (by omega)
end Go.Proofs.Ytmndeohhanbjkaa
