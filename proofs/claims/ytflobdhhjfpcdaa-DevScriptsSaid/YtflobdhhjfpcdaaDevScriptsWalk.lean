/-
  The walk of DevScripts.
-/
import Derived.Test.YtflobdhhjfpcdaaDevLive
import Derived.Test.YtflobdhhjfpcdaaRfM
import Derived.Test.YtflobdhhjfpcdaaRfN
import Derived.Test.YtflobdhhjfpcdaaFrame
import Derived.Test.YtflobdhhjfpcdaaOpenDev
namespace Go.Proofs.Ytflobdhhjfpcdaa.devScripts
open Go.RowKit

set_option maxRecDepth 100000 in
set_option maxHeartbeats 8000000 in
theorem walk (w : World) (a0 : Int) (_w0 : (Lit.int .i64 a0).wf = true) (a1 : Int) (_w1 : (Lit.int .i64 a1).wf = true) (x2 : Option Addr) (c2 : Nat) (l2 : List OpD) (s2 : SlE w 5 (OpE w) x2 l2) (m2 : l2.length ≤ maxLen) :
    Calls Try.prog 3 #[.int .i64 a0, .int .i64 a1, .slice x2 l2.length c2] w fun e w' => e = .returned (.bool true) ∧ Below w.heap.size w w' := by
  have S2 := Lib.hid s2
  have L0 := Lib.hid (Below.refl w.heap.size w)
  have HM := Lib.hid m2
  clear s2 m2 _w0 _w1
  by_cases hA : 60 < l2.length
  · have d0 : (60 : Int) < (l2.length : Int) := by omega
    clear hA
    go_enter Try.func3, Try.ntmps3
    go_wp2_with fail
    refine (live_any _).mono ?_
    rintro e vz ⟨rfl, hb⟩
    have LZ := Lib.hid (L0.out.trans (hb.mono L0.out.size))
    clear hb
    go_wp2
    go_ret
    exact ⟨rfl, LZ.out⟩
  have d0 : ¬ (60 : Int) < (l2.length : Int) := by omega
  have H60 : Hid (l2.length ≤ 60) := by show l2.length ≤ 60; omega
  clear hA
  by_cases hB : (1 ≤ a0 ∧ a0 ≤ 512) ∧ (1 ≤ a1 ∧ a1 ≤ 512)
  rotate_left
  · have HB := Lib.hid hB
    clear hB
    go_enter Try.func3, Try.ntmps3
    go_wp2_with fail
    refine (dnew_bad a0 a1 w HB.out).mono ?_
    rintro e w' ⟨rfl, rfl⟩
    go_wp2_with fail
    refine (rnew_bad a0 a1 w HB.out).mono ?_
    rintro e w' ⟨rfl, rfl⟩
    go_wp2_with fail
    refine (live_any _).mono ?_
    rintro e vz ⟨rfl, hb⟩
    have LZ := Lib.hid (L0.out.trans (hb.mono L0.out.size))
    clear hb
    go_wp2
    go_ret
    exact ⟨rfl, LZ.out⟩
  obtain ⟨⟨p1, p2⟩, p3, p4⟩ := hB
  obtain ⟨m, rfl⟩ : ∃ m : Nat, a0 = (m : Int) := ⟨a0.toNat, by omega⟩
  obtain ⟨n, rfl⟩ : ∃ n : Nat, a1 = (n : Int) := ⟨a1.toNat, by omega⟩
  have hm : 1 ≤ m ∧ m ≤ 512 := ⟨by omega, by omega⟩
  have hn : 1 ≤ n ∧ n ≤ 512 := ⟨by omega, by omega⟩
  have HMN := Lib.hid (And.intro hm hn)
  clear p1 p2 p3 p4 hm hn
  obtain ⟨D, hD⟩ : ∃ D : Nat → DevD, D = devK (newD m n) l2 := ⟨_, rfl⟩
  have HIS : Hid (∀ k, k ≤ l2.length → InvD (D k) ∧ (∀ dev, devSize (D k) dev = devSize (newD m n) dev) ∧ (D k).waits.length ≤ k) := fun k hk => by
    rw [hD]
    have := devK_is (newD m n) l2 (inv_new m n) k hk
    refine ⟨this.1, this.2.1, ?_⟩
    have h2 := this.2.2
    rwa [show (newD m n).waits.length = 0 from rfl, Nat.zero_add] at h2
  have HSU : Hid (∀ k (h : k < l2.length), D (k + 1) = stepR (D k) l2[k]) := fun k h => by rw [hD]; exact devK_succ _ _ _ h
  have HD0 : Hid (D 0 = newD m n) := by show _ = _; rw [hD]; rfl
  clear hD
  go_enter Try.func3, Try.ntmps3
  go_wp2_with fail
  refine (one_new w.heap.size fixed_no m n _ (Nat.le_refl _) ⟨[], rfl, fun _ h => by cases h⟩ HMN.out.1 HMN.out.2).mono ?_
  rintro e w1 ⟨b, rfl, ho, hb⟩
  have H1 := Lib.hid ho
  have L1 := Lib.hid hb
  clear ho hb L0
  go_wp2_with fail
  refine (or_new fixed_no H1.out m n HMN.out.1 HMN.out.2).mono ?_
  rintro e w2 ⟨rb, rfl, ho, hb⟩
  have H2 : Hid (One w.heap.size (Both NoP (RefF rb (D 0))) b (D 0) w2) := by show One _ _ _ _ _; rw [HD0.out]; exact ho
  have L2 := Lib.hid (L1.out.trans hb)
  clear ho hb H1 L1
  go_wp2_with fail
  go_loopw [9] (fun i wr => ∃ k : Nat, k ≤ l2.length ∧ i = .int .i64 k ∧ Hid (One w.heap.size (Both NoP (RefF rb (D k))) b (D k) wr) ∧ Hid (Below w.heap.size w wr)) (fun i _ => l2.length - (RowKit.intOf i).toNat)
  case atStart => exact ⟨0, Nat.zero_le _, rfl, H2, L2⟩
  case round =>
    clear H2 L2
    obtain ⟨k, hk, rfl, H, L⟩ := hrel
    by_cases hlt : k < l2.length
    · have hk0 : (0 : Int) ≤ (k : Int) := by omega
      have hkl : (k : Int) < (l2.length : Int) := by omega
      have hkh : (k : Int) ≤ 60 := by have := H60.out; omega
      have HLT := Lib.hid hlt
      have HI := Lib.hid (HIS.out k hk)
      have HI1 := Lib.hid (HIS.out (k + 1) hlt)
      have HS := Lib.hid (HSU.out k hlt)
      obtain ⟨bb, off, rfl, hbb, hcell, hsl⟩ := S2.out.op k hlt
      have HSL := Lib.hid hsl
      have q0 : wr.cell? ⟨bb, off + k * 5, none⟩ = some (.int .i64 l2[k].act) := by rw [L.out.cell (p := ⟨bb, off + k * 5, none⟩) hbb]; exact hcell 0 _ rfl
      have q1 : wr.cell? ⟨bb, off + k * 5 + 1, none⟩ = some (.int .i64 l2[k].l.1) := by rw [L.out.cell (p := ⟨bb, off + k * 5 + 1, none⟩) hbb]; exact hcell 1 _ rfl
      have q2 : wr.cell? ⟨bb, off + k * 5 + 2, none⟩ = some (.int .i64 l2[k].l.2) := by rw [L.out.cell (p := ⟨bb, off + k * 5 + 2, none⟩) hbb]; exact hcell 2 _ rfl
      have q3 : wr.cell? ⟨bb, off + k * 5 + 3, none⟩ = some (.string l2[k].s) := by rw [L.out.cell (p := ⟨bb, off + k * 5 + 3, none⟩) hbb]; exact hcell 3 _ rfl
      have q4 : wr.cell? ⟨bb, off + k * 5 + 4, none⟩ = some (.slice l2[k].ka l2[k].keep.length l2[k].kc) := by rw [L.out.cell (p := ⟨bb, off + k * 5 + 4, none⟩) hbb]; exact hcell 4 _ rfl
      generalize l2[k] = x at *
      clear hcell hbb hsl hlt hk
      by_cases hs : 1100 < x.s.size
      · have dz : (1100 : Int) < (x.s.size : Int) := by omega
        clear hs H
        go_wp2_with fail
        refine (live_any _).mono ?_
        rintro e vz ⟨rfl, hb⟩
        have LZ := Lib.hid (L.out.trans (hb.mono L.out.size))
        clear hb
        go_wp2
        go_ret
        exact ⟨rfl, LZ.out⟩
      have dz : ¬ (1100 : Int) < (x.s.size : Int) := by omega
      clear hs
      by_cases hkp : 100 < x.keep.length
      · have dy : (100 : Int) < (x.keep.length : Int) := by omega
        clear hkp H
        go_wp2_with fail
        refine (live_any _).mono ?_
        rintro e vz ⟨rfl, hb⟩
        have LZ := Lib.hid (L.out.trans (hb.mono L.out.size))
        clear hb
        go_wp2
        go_ret
        exact ⟨rfl, LZ.out⟩
      have dy : ¬ (100 : Int) < (x.keep.length : Int) := by omega
      have HKP : Hid (x.keep.length ≤ 100000) := by show x.keep.length ≤ 100000; omega
      clear hkp
      have hdo := does_any fixed_no H.out L.out (by have := HI.out.2.2; omega) (by have := HI.out.2.2; omega) x HSL.out HKP.out
      rw [does_same HI.out.1 x, ← HS.out] at hdo
      have HDO := Lib.hid hdo
      clear hdo
      go_wp2_with fail
      refine HDO.out.mono ?_
      rintro e w3 ⟨rfl, ho, hb⟩
      have H3 := Lib.hid ho
      have L3 := Lib.hid (L.out.trans hb)
      clear ho hb H L HDO q0 q1 q2 q3 q4 dz dy
      have hw61 : (D (k + 1)).waits.length ≤ 61 := by have := HI1.out.2.2; omega
      have HW61 := Lib.hid hw61
      clear hw61
      go_wp2_with fail
      refine (one_waits (fixed_both fixed_no (fixed_ref rb _)) H3.out (Nat.le_trans HW61.out (by decide))).mono ?_
      rintro e w4 ⟨v, rfl, hp, ho, hb⟩
      obtain ⟨va, vc, rfl, hv⟩ := hp.view
      have H4 := Lib.hid ho
      have L4 := Lib.hid (L3.out.trans hb)
      have V4 := Lib.hid hv
      clear hp hv ho hb H3 L3
      go_wp2_with fail
      refine (or_waits fixed_no H4.out (Nat.le_trans HW61.out (by decide))).mono ?_
      rintro e w5 ⟨v, rfl, hp, hb⟩
      obtain ⟨ua, uc, rfl, hu⟩ := hp.view
      have H5 := Lib.hid (H4.out.keep (fixed_both fixed_no (fixed_ref rb _)) hb)
      have L5 := Lib.hid (L4.out.trans (hb.mono L4.out.size))
      have V5 := Lib.hid (V4.out.keep hb)
      have U5 := Lib.hid hu
      clear hp hu hb H4 L4 V4
      have hle : ((D (k + 1)).waits.map (·.1)).length ≤ 1000 := by rw [List.length_map]; exact Nat.le_trans HW61.out (by decide)
      have hlc := rflocs_any va ua vc uc _ _ w5 V5.out U5.out hle hle
      rw [show sameR ((D (k + 1)).waits.map (·.1)) ((D (k + 1)).waits.map (·.1)) = true from decide_eq_true rfl, List.length_map] at hlc
      have HLC := Lib.hid hlc
      clear hle hlc
      go_wp2_with fail
      refine HLC.out.mono ?_
      rintro e w6 ⟨rfl, hb⟩
      have H6 := Lib.hid (H5.out.keep (fixed_both fixed_no (fixed_ref rb _)) hb)
      have L6 := Lib.hid (L5.out.trans (hb.mono L5.out.size))
      clear hb H5 L5 V5 U5 HLC
      go_wp2_with fail
      go_loopw [10] (fun i wr => ∃ j : Nat, j ≤ k + 1 ∧ i = .int .i64 j ∧ Hid (One w.heap.size (Both NoP (RefF rb (D (k + 1)))) b (D (k + 1)) wr) ∧ Hid (Below w.heap.size w wr)) (fun i _ => k + 1 - (RowKit.intOf i).toNat)
      case atStart => exact ⟨0, Nat.zero_le _, rfl, H6, L6⟩
      case round =>
        clear H6 L6
        obtain ⟨j, hj, rfl, H, L⟩ := hrel
        by_cases hjk : j ≤ k
        · have hj0 : (0 : Int) ≤ (j : Int) := by omega
          have hjl : (j : Int) < (l2.length : Int) := by omega
          have hjk2 : (j : Int) ≤ (k : Int) := by omega
          have HJK := Lib.hid hjk
          have hjn : j < l2.length := by omega
          obtain ⟨bb2, off2, e2, hbb, hcell, hsl2⟩ := S2.out.op j hjn
          clear hsl2
          injection e2 with e2
          injection e2 with e2 e3 _
          subst e2 e3
          have q1 : wr.cell? ⟨bb, off + j * 5 + 1, none⟩ = some (.int .i64 l2[j].l.1) := by rw [L.out.cell (p := ⟨bb, off + j * 5 + 1, none⟩) hbb]; exact hcell 1 _ rfl
          have q2 : wr.cell? ⟨bb, off + j * 5 + 1 + 1, none⟩ = some (.int .i64 l2[j].l.2) := by rw [L.out.cell (p := ⟨bb, off + j * 5 + 1 + 1, none⟩) hbb]; exact hcell 2 _ rfl
          have Q1 : Hid (∀ W, Below w.heap.size w W → W.cell? ⟨bb, off + j * 5 + 1, none⟩ = some (.int .i64 l2[j].l.1)) := fun W hW => by rw [hW.cell (p := ⟨bb, off + j * 5 + 1, none⟩) hbb]; exact hcell 1 _ rfl
          have Q2 : Hid (∀ W, Below w.heap.size w W → W.cell? ⟨bb, off + j * 5 + 1 + 1, none⟩ = some (.int .i64 l2[j].l.2)) := fun W hW => by rw [hW.cell (p := ⟨bb, off + j * 5 + 1 + 1, none⟩) hbb]; exact hcell 2 _ rfl
          obtain ⟨⟨y1, y2⟩, hy⟩ : ∃ y : Int × Int, y = l2[j].l := ⟨_, rfl⟩
          rw [← hy] at q1 q2 Q1 Q2
          clear hcell hbb hy hjn hj hjk
          dsimp only at q1 q2 Q1 Q2
          have hrd := one_read (fixed_both fixed_no (fixed_ref rb (D (k + 1)))) H.out (y1, y2)
          have TS := Lib.hid (tell_same HI1.out.1 (y1, y2))
          obtain ⟨T, hT⟩ : ∃ T, T = tellD (D (k + 1)) (y1, y2) := ⟨_, rfl⟩
          rw [← hT] at hrd TS
          obtain ⟨ck, hck⟩ : ∃ ck, ck = chkD (D (k + 1)) (y1, y2) 0 := ⟨_, rfl⟩
          rw [← hck] at hrd
          have HCK := Lib.hid hck
          have HRD := Lib.hid hrd
          clear hrd hT hck
          go_wp2_with fail
          refine HRD.out.mono ?_
          rintro e w7 ⟨rfl, ho, hb⟩
          have H7 := Lib.hid ho
          have L7 := Lib.hid (L.out.trans hb)
          clear ho hb H L HRD q1 q2
          have q1 := Q1.out w7 L7.out
          have q2 := Q2.out w7 L7.out
          have hrr := or_read fixed_no H7.out (y1, y2) (Nat.le_trans HW61.out (by decide))
          rw [← TS.out, ← HCK.out] at hrr
          have HRR := Lib.hid hrr
          clear hrr
          go_wp2_with fail
          refine HRR.out.mono ?_
          rintro e w8 ⟨rfl, ho, hb⟩
          have H8 := Lib.hid ho
          have L8 := Lib.hid (L7.out.trans hb)
          clear ho hb H7 L7 HRR q1 q2 Q1 Q2
          go_wp2
          go_roundw
          case rel => exact ⟨j + 1, by have := HJK.out; omega, by go_num, H8, L8⟩
          case measure => have := HJK.out; simp [RowKit.intOf]; omega
        · have hjk2 : ¬ (j : Int) ≤ (k : Int) := by omega
          clear hjk
          go_wp2
          go_roundw
          case rel => exact ⟨k + 1, HLT.out, by go_num, H, L⟩
          case measure => have := HLT.out; simp [RowKit.intOf]; omega
    · obtain rfl : k = l2.length := by omega
      obtain ⟨p, e, hat, _, hst⟩ := one_ref fixed_no H.out
      have hz := (HIS.out l2.length (Nat.le_refl _)).2.1
      have z0 : devSize (D l2.length) 0 = m := by rw [hz]; show (List.replicate m emp).length = m; simp
      have z1 : devSize (D l2.length) 1 = n := by rw [hz]; show (List.replicate n emp).length = n; simp
      obtain ⟨E, hE⟩ : ∃ E, E = D l2.length := ⟨_, rfl⟩
      rw [← hE] at z0 z1 hat H
      clear hE hz hst hk hlt
      have hc0 : Hid (∀ dev, Calls Try.prog 14 #[.pointer (some ⟨b, 0, none⟩), .int .i64 dev] wr.drew fun e w' => e = .returned (.int .i64 (devSize E dev : Nat)) ∧ wr.drew = w') := fun dev => one_size (H.out.drew (fixed_both fixed_no (fixed_ref rb _))) dev
      have hc1 : Hid (∀ dev, Calls Try.prog 15 #[.pointer (some ⟨b, 0, none⟩), .int .i64 dev] wr.drew fun e w' => e = .returned (.bool (devLost E dev)) ∧ wr.drew = w') := fun dev => one_lost (H.out.drew (fixed_both fixed_no (fixed_ref rb _))) dev
      have Z0 := Lib.hid z0
      have Z1 := Lib.hid z1
      have b1 := hat.box.cell 1 _ rfl
      have g0 := hat.g.cell 0 _ rfl
      have g1 := hat.g.cell 1 _ rfl
      rw [e] at b1
      have L9 := Lib.hid L.out.drew
      have d0' : devLost E 0 = E.s0.lost := rfl
      have d1' : devLost E 1 = E.s1.lost := rfl
      have HDL := Lib.hid (And.intro d0' d1')
      clear z0 z1 hat H L d0' d1' e
      go_wp2_with fail
      refine wp_region_tree (fun W => W.cell? ⟨rb, 1, none⟩ = some (.slice (some ⟨p.gb, 0, none⟩) 2 2) ∧ W.cell? ⟨p.gb, 0, none⟩ = some (.bool E.s0.lost) ∧ W.cell? ⟨p.gb, 1, none⟩ = some (.bool E.s1.lost)) 30 (.quiet 0 (.quiet 2 (.make 1 (.quiet 3 (.quiet 4 (.quiet 5 (.quiet 7 (.make 6 (.quiet 8 (.quiet 9 (.quiet 10 (.quiet 11 (.quiet 13 (.quiet 14 (.quiet 15 (.quiet 16 (.quiet 17 (.quiet 18 (.make 12 (.quiet 19 (.quiet 20 (.quiet 21 (.quiet 22 (.quiet 24 (.quiet 25 (.quiet 26 (.quiet 27 (.quiet 28 (.quiet 29 (.make 23 .nil)))))))))))))))))))))))))))))) (by kernel_rfl) (by kernel_rfl) ⟨b1, g0, g1⟩ ?_
      simp only [List.drop_succ_cons, List.drop_zero]
      iterate 2 (apply wpTr_step rfl; (intro W hS K hK; obtain ⟨z0, z1, z2⟩ := hS; go_simp; exact hK _ rfl))
      refine wpTr_make rfl (fun K' hK => ?_)
      go_simp
      refine (hc0.out 0).mono ?_
      rintro e w3 ⟨rfl, rfl⟩
      rw [Z0.out]
      refine hK _ _ _ (fun _ h => h) ⟨b1, g0, g1⟩ ?_
      clear hK K'
      iterate 4 (apply wpTr_step rfl; (intro W hS K hK; obtain ⟨z0, z1, z2⟩ := hS; go_simp; exact hK _ rfl))
      refine wpTr_make rfl (fun K' hK => ?_)
      go_simp
      refine (hc0.out 1).mono ?_
      rintro e w3 ⟨rfl, rfl⟩
      rw [Z1.out]
      refine hK _ _ _ (fun _ h => h) ⟨b1, g0, g1⟩ ?_
      clear hK K'
      iterate 10 (apply wpTr_step rfl; (intro W hS K hK; obtain ⟨z0, z1, z2⟩ := hS; go_simp; exact hK _ rfl))
      refine wpTr_make rfl (fun K' hK => ?_)
      go_simp
      refine (hc1.out 0).mono ?_
      rintro e w3 ⟨rfl, rfl⟩
      rw [HDL.out.1]
      refine hK _ _ _ (fun _ h => h) ⟨b1, g0, g1⟩ ?_
      clear hK K'
      iterate 10 (apply wpTr_step rfl; (intro W hS K hK; obtain ⟨z0, z1, z2⟩ := hS; go_simp; exact hK _ rfl))
      refine wpTr_make rfl (fun K' hK => ?_)
      go_simp
      refine (hc1.out 1).mono ?_
      rintro e w3 ⟨rfl, rfl⟩
      rw [HDL.out.2]
      refine hK _ _ _ (fun _ h => h) ⟨b1, g0, g1⟩ ?_
      clear hK K' b1 g0 g1 hc0 hc1
      refine wpTr_nil ?_
      go_wp2_with fail
      refine (live_any _).mono ?_
      rintro e vz ⟨rfl, hb⟩
      have LZ := Lib.hid (L9.out.trans (hb.mono L9.out.size))
      clear hb
      go_wp2
      go_ret
      exact ⟨rfl, LZ.out⟩
end Go.Proofs.Ytflobdhhjfpcdaa.devScripts
