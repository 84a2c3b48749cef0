/-
  Contracts of package space: Give.
-/
import Derived.Test.YtmndeohhanbjkaaSpaceGiveA
import Derived.Deep.RegionHeld3
import Derived.Deep.RegionLaw
import Derived.Deep.RegionWith
import Derived.Deep.QuietTactic
import Derived.BigQuiet
namespace Go.Proofs.Ytmndeohhanbjkaa
open Go.RowKit Go.ChangeShapes Go.WideShapes Go.ChangeAt

set_option maxRecDepth 100000 in
set_option maxHeartbeats 12000000 in
theorem give_full (lv : Value) (l : List (Int × Int)) (r : Int × Int) (w : World) (b0 : Nat) (hl : Prs 46 w b0 lv l) (hlen : l.length ≤ 1000) (hw : WfP l) (hr : WfP [r]) (hn : lv ≠ .slice none 0 0) (hv : ∀ g cap, lv = .slice (some ⟨g, 0, none⟩) l.length cap → giveF l r = cap) :
    Calls Try.prog 22 #[lv, .agg #[.int .i64 r.1, .int .i64 r.2]] w (GvRes 46 w.heap.size w (giveL l r)) := by
  obtain ⟨q, hq⟩ : ∃ q, giveL l r = q := ⟨_, rfl⟩
  rw [hq]
  have HQ := Lib.hid hq
  clear hq
  obtain ⟨ra, rn⟩ := r
  have BX := Lib.hid (Box.new w 46 #[.int .i64 ra, .int .i64 rn])
  have HL0 := Lib.hid ((Below.refl w.heap.size w).alloc (Nat.le_refl _) (.cells #[.int .i64 ra, .int .i64 rn] 46 (0, 0)))
  have HPR := Lib.hid hl
  obtain ⟨a, cap, rfl, hs⟩ := hl.slP'
  have HV := Lib.hid hv
  clear hv
  have HNN := Lib.hid hn
  clear hn
  have H := Lib.hid hs
  have HW := Lib.hid hw
  have HWR := Lib.hid hr
  clear hs hw hr hl
  simp only
  cases hm : mayL l
  · have HN := Lib.hid (show q = ([], false) by rw [← HQ.out]; exact give_no (.inl hm))
    go_enter Try.func22, Try.ntmps22
    go_wp2_with fail
    refine (may_any a cap l _ (H.out.keep HL0.out) hlen HW.out).mono ?_
    rintro e w1 ⟨rfl, hb⟩
    rw [hm]
    have HB := Lib.hid (HL0.out.trans (hb.mono HL0.out.size))
    clear hb hm
    go_wp2
    go_ret2
    exact GvRes.no HN.out HB.out
  have HM := Lib.hid hm
  go_enter Try.func22, Try.ntmps22
  go_wp2_with fail
  refine (may_any a cap l _ (H.out.keep HL0.out) hlen HW.out).mono ?_
  rintro e w1 ⟨rfl, hb⟩
  rw [hm]
  have HB := Lib.hid (HL0.out.trans (hb.mono HL0.out.size))
  have B1 := Lib.hid (BX.out.keep hb BX.out.lt)
  have k0 := B1.out.cell 0 _ rfl
  have k1 := B1.out.cell 1 _ rfl
  have ha := (Below.refl w1.heap.size w1).alloc (Nat.le_refl _) (.cells #[.int .i64 ra, .int .i64 rn] 46 (0, 0))
  have HF := Lib.hid (Box.new w1 46 #[.int .i64 ra, .int .i64 rn])
  have HB2 := Lib.hid (HB.out.trans (ha.mono HB.out.size))
  have B2 := Lib.hid (B1.out.keep ha B1.out.lt)
  clear hb hm ha
  go_wp2_with fail
  generalize World.alloc w1 _ = u1 at *
  have HFL := Lib.hid HF.out.lt
  generalize w1.heap.size = g1 at *
  refine (may_any (some ⟨g1, 0, none⟩) 1 [(ra, rn)] _ (slP_flat HFL.out (fun j u hj => HF.out.cell j u (by simpa [PrV] using hj))) (by simp) HWR.out).mono ?_
  rintro e w2 ⟨rfl, hb⟩
  have HB3 := Lib.hid (HB2.out.trans (hb.mono HB2.out.size))
  have B3 := Lib.hid (B2.out.keep hb B2.out.lt)
  clear hb HF HFL B1 B2 HB HB2 k0 k1 BX HL0
  cases hm2 : mayL [(ra, rn)]
  · have HN := Lib.hid (show q = ([], false) by rw [← HQ.out]; exact give_no (.inr hm2))
    clear hm2
    go_wp2
    go_ret2
    exact GvRes.no HN.out HB3.out
  have HM2 := Lib.hid hm2
  have HR := Lib.hid (may_mem (m := 0) (by omega) hm2 (ra, rn) (List.mem_singleton.2 rfl)).1
  have HALL := Lib.hid (fun x hx => (may_mem (l := l) (m := 0) (by omega) HM.out x hx).1)
  have k0 := B3.out.cell 0 _ rfl
  have k1 := B3.out.cell 1 _ rfl
  clear hm2
  go_wp2_with fail
  rcases HPR.out.view with ⟨e0, rfl⟩ | ⟨g, cap', e0, hc, hm, hg0, hgl, hcell⟩
  · exact absurd e0 HNN.out
  · injection e0 with q1 q2 q3
    subst q1 q3
    have HVC := HV.out g cap rfl
    unfold maxLen at hm
    have HAT : Hid (∀ i (hi : i < l.length) W, Below w.heap.size w W → W.cell? ⟨g, 0 + i * 2, none⟩ = some (.int .i64 l[i].1) ∧ W.cell? ⟨g, 0 + i * 2 + 1, none⟩ = some (.int .i64 l[i].2)) := by
      intro i hi W hW
      obtain ⟨b', off', e', _, hc0, hc1⟩ := H.out.get i hi
      injection e' with e'
      injection e' with q1 q2
      subst q1 q2
      exact ⟨(hW.cell (p := ⟨g, _, none⟩) hgl).trans hc0, (hW.cell (p := ⟨g, _, none⟩) hgl).trans hc1⟩
    have HSL := Lib.hid (H.out.keep HB3.out)
    have hgl3 := Nat.lt_of_lt_of_le hgl HB3.out.size
    clear hcell hg0
    obtain ⟨f, hf⟩ : ∃ f, giveF l (ra, rn) = f := ⟨_, rfl⟩
    obtain ⟨t, ht⟩ : ∃ t, giveT l (ra, rn) = t := ⟨_, rfl⟩
    rw [hf] at HVC
    have hfl : f ≤ l.length := by rw [← hf]; exact from_le _ _
    have htl : t ≤ l.length := by rw [← ht]; exact down_le _ _ _ _
    have hft : f ≤ t := by rw [← hf, ← ht]; exact down_ge _ _ _ _ (from_le _ _)
    have HFT := Lib.hid (And.intro hf ht)
    obtain ⟨M, hM⟩ : ∃ M : List (Int × Int), (l.drop f).take (t - f) = M := ⟨_, rfl⟩
    have hMl : M.length = t - f := by rw [← hM, List.length_take, List.length_drop]; omega
    have HMX : Hid (∀ k (hk : k < M.length) (hfk : f + k < l.length), M[k] = l[f + k]) := by
      intro k hk hfk
      subst hM
      simp
    have HM0 := Lib.hid hM
    have HRC := reached_some g 0 cap l (ra, rn) w2 HSL.out hgl3 hlen HALL.out HR.out
    simp only at HRC
    unfold giveF at hf
    unfold giveT at ht
    simp only at hf ht
    rw [hf] at HRC ht
    rw [ht] at HRC
    have HRR := Lib.hid HRC
    clear hM hf ht hgl3 HSL HRC
    refine HRR.out.mono ?_
    clear HRR
    rintro e w3 ⟨rfl, hb⟩
    have HB4 := Lib.hid (HB3.out.trans (hb.mono HB3.out.size))
    have B4 := Lib.hid (B3.out.keep hb B3.out.lt)
    have ha := (Below.refl w3.heap.size w3).alloc (Nat.le_refl _) (.cells #[.int .i64 ra, .int .i64 rn] 46 (0, 0))
    have BJ := Lib.hid (Box.new w3 46 #[.int .i64 ra, .int .i64 rn])
    have HB5 := Lib.hid (HB4.out.trans (ha.mono HB4.out.size))
    have B5 := Lib.hid (B4.out.keep ha B4.out.lt)
    have hgj : w.heap.size < w3.heap.size := B4.out.lt
    clear hb ha k0 k1
    have k0 := B4.out.cell 0 _ rfl
    have k1 := B4.out.cell 1 _ rfl
    clear B4 HB4 B3 HB3
    rcases (show f < cap ∨ f = cap by omega) with hfc | hfc
    · exact absurd HVC (by omega)
    · have hte : t = f := by omega
      have hM0 : M.length ≤ 0 := by omega
      have hcl : cap ≤ l.length := by omega
      have hcf : cap ≤ 1000 := by omega
      clear HVC hMl
      subst hte
      subst hfc
      go_wp2_with fail
      generalize World.alloc w3 _ = u3 at *
      generalize w3.heap.size = gj at *
      clear k0 k1
      go_loopw [33] (fun i wr => ∃ (k : Nat) (j : Int × Int), k ≤ 0 ∧ i = .int .i64 k ∧ Hid (MayR j) ∧ Hid (foldJ (ra, rn) (ra, rn) M = foldJ (ra, rn) j (M.drop k)) ∧ Hid (Below w.heap.size w wr) ∧ Hid (Box wr w.heap.size 46 #[.int .i64 ra, .int .i64 rn]) ∧ Hid (Box wr gj 46 #[.int .i64 j.1, .int .i64 j.2])) (fun i _ => 0 - (intOf i).toNat)
      case atStart => exact ⟨0, (ra, rn), Nat.zero_le _, rfl, HR, rfl, HB5, B5, BJ⟩
      case round =>
        clear HB5 B5 BJ
        obtain ⟨k, j, hk, rfl, HJ, HFO, HB5, B5, BJ⟩ := hrel
        have hk0 : k = 0 := by omega
        subst hk0
        have HS : Hid (q = (l.take t ++ [j] ++ l.drop t, true)) := by
          show q = _
          rw [← HQ.out]
          have h := HFO.out
          rw [show M.drop 0 = [] by rw [List.drop_eq_nil_iff]; omega] at h
          have h2 := give_some HM.out HM2.out (j := j) (by rw [HFT.out.1, HFT.out.2, HM0.out]; exact h)
          rw [HFT.out.1, HFT.out.2] at h2
          exact h2
        obtain ⟨ja, jn⟩ := j
        simp only at BJ
        have k0 := BJ.out.cell 0 _ rfl
        have k1 := BJ.out.cell 1 _ rfl
        have ha := (Below.refl wr.heap.size wr).alloc (Nat.le_refl _) (.cells #[.int .i64 ja, .int .i64 jn] 46 (0, 0))
        have BZ := Lib.hid (Box.new wr 46 #[.int .i64 ja, .int .i64 jn])
        have HB6 := Lib.hid (HB5.out.trans (ha.mono HB5.out.size))
        have HP6 := Lib.hid (HPR.out.keep HB6.out)
        clear ha B5 BJ HFO
        go_wp2_with fail
        generalize World.alloc wr _ = u4 at *
        generalize wr.heap.size = gz at *
        refine (swapped_one _ l t t gz (ja, jn) _ b0 HP6.out hlen (by omega) (by omega) BZ.out).mono ?_
        rintro e w5 ⟨v5, rfl, hp5, hb5⟩
        have HP7 := Lib.hid (hp5.base HB6.out.size)
        have HB7 := Lib.hid (HB6.out.trans (hb5.mono HB6.out.size))
        clear hp5 hb5 k0 k1 BZ HB6 HP6
        go_wp2
        go_ret2
        exact GvRes.mk HS.out HP7.out HB7.out

end Go.Proofs.Ytmndeohhanbjkaa
