/-
  The walk of DevCopy.
-/
import Derived.Test.YtflobdhhjfpcdaaDevLive
import Derived.Test.YtflobdhhjfpcdaaRfO
import Derived.Test.YtflobdhhjfpcdaaFrame
import Derived.Test.YtflobdhhjfpcdaaOpenDev
namespace Go.Proofs.Ytflobdhhjfpcdaa.devCopy
open Go.RowKit

set_option maxRecDepth 100000 in
set_option maxHeartbeats 8000000 in
theorem walk (w : World) (x0 : Option Addr) (c0 : Nat) (l0 : List OpD) (s0 : SlE w 5 (OpE w) x0 l0) (m0 : l0.length ≤ maxLen) (x1 : Option Addr) (c1 : Nat) (l1 : List OpD) (s1 : SlE w 5 (OpE w) x1 l1) (m1 : l1.length ≤ maxLen) :
    Calls Try.prog 4 #[.slice x0 l0.length c0, .slice x1 l1.length c1] w fun e w' => e = .returned (.bool true) ∧ Below w.heap.size w w' := by
  have S0 := Lib.hid s0
  have S1 := Lib.hid s1
  have L0 := Lib.hid (Below.refl w.heap.size w)
  have HM := Lib.hid (And.intro m0 m1)
  clear s0 s1 m0 m1
  by_cases hA : 20 < l0.length
  · have d0 : (20 : Int) < (l0.length : Int) := by omega
    clear hA
    go_enter Try.func4, Try.ntmps4
    go_wp2_with fail
    refine (live_any _).mono ?_
    rintro e vz ⟨rfl, hb⟩
    have LZ := Lib.hid (L0.out.trans (hb.mono L0.out.size))
    clear hb
    go_wp2
    go_ret
    exact ⟨rfl, LZ.out⟩
  have d0 : ¬ (20 : Int) < (l0.length : Int) := by omega
  by_cases hB : 20 < l1.length
  · have d1 : (20 : Int) < (l1.length : Int) := by omega
    clear hA hB
    go_enter Try.func4, Try.ntmps4
    go_wp2_with fail
    refine (live_any _).mono ?_
    rintro e vz ⟨rfl, hb⟩
    have LZ := Lib.hid (L0.out.trans (hb.mono L0.out.size))
    clear hb
    go_wp2
    go_ret
    exact ⟨rfl, LZ.out⟩
  have d1 : ¬ (20 : Int) < (l1.length : Int) := by omega
  have HLN : Hid (l0.length ≤ 20 ∧ l1.length ≤ 20) := ⟨by omega, by omega⟩
  clear hA hB
  obtain ⟨D, hD⟩ : ∃ D : Nat → DevD, D = devK (newD 20 20) l0 := ⟨_, rfl⟩
  obtain ⟨D1, hD1⟩ : ∃ D1 : DevD, D1 = D l0.length := ⟨_, rfl⟩
  obtain ⟨C, hC⟩ : ∃ C : Nat → DevD, C = devK D1 l1 := ⟨_, rfl⟩
  obtain ⟨C1, hC1⟩ : ∃ C1 : DevD, C1 = C l1.length := ⟨_, rfl⟩
  obtain ⟨R, hR⟩ : ∃ R : Nat → DevD, R = devK C1 l1 := ⟨_, rfl⟩
  have hDi := devK_is (newD 20 20) l0 (inv_new 20 20)
  rw [← hD] at hDi
  have hDL : ∀ k, k ≤ l0.length → (D k).waits.length ≤ 10000 := fun k hk => by
    have := (hDi k hk).2.2
    rw [show (newD 20 20).waits.length = 0 from rfl] at this
    have := HLN.out
    omega
  have hD1i := hDi l0.length (Nat.le_refl _)
  rw [← hD1, show (newD 20 20).waits.length = 0 from rfl] at hD1i
  have hCi := devK_is D1 l1 hD1i.1
  rw [← hC] at hCi
  have hCL : ∀ k, k ≤ l1.length → (C k).waits.length ≤ 10000 := fun k hk => by
    have := (hCi k hk).2.2
    have := hD1i.2.2
    have := HLN.out
    omega
  have hC1i := hCi l1.length (Nat.le_refl _)
  rw [← hC1] at hC1i
  have hRi := devK_is C1 l1 hC1i.1
  rw [← hR] at hRi
  have hRL : ∀ k, k ≤ l1.length → (R k).waits.length ≤ 10000 := fun k hk => by
    have := (hRi k hk).2.2
    have := hC1i.2.2
    have := hD1i.2.2
    have := HLN.out
    omega
  have HDL := Lib.hid hDL
  have HCL := Lib.hid hCL
  have HRL := Lib.hid hRL
  have HD1L : Hid (D1.waits.length ≤ 20) := by show _ ≤ _; have := hD1i.2.2; have := HLN.out; omega
  have HC1L : Hid (C1.waits.length ≤ 40) := by show _ ≤ _; have := hC1i.2.2; have := HD1L.out; have := HLN.out; omega
  have HDS : Hid (∀ k (h : k < l0.length), D (k + 1) = stepR (D k) l0[k]) := fun k h => by rw [hD]; exact devK_succ _ _ _ h
  have HCS : Hid (∀ k (h : k < l1.length), C (k + 1) = stepR (C k) l1[k]) := fun k h => by rw [hC]; exact devK_succ _ _ _ h
  have HRS : Hid (∀ k (h : k < l1.length), R (k + 1) = stepR (R k) l1[k]) := fun k h => by rw [hR]; exact devK_succ _ _ _ h
  have HD0 : Hid (D 0 = newD 20 20) := by show _ = _; rw [hD]; rfl
  have HC0 : Hid (C 0 = D1) := by show _ = _; rw [hC]; rfl
  have HR0 : Hid (R 0 = C1) := by show _ = _; rw [hR]; rfl
  have HDE := Lib.hid hD1.symm
  have HCE := Lib.hid hC1.symm
  clear hDi hDL hD1i hCi hCL hC1i hRi hRL hD hD1 hC hC1 hR
  go_enter Try.func4, Try.ntmps4
  go_wp2_with fail
  refine (one_new w.heap.size fixed_no 20 20 _ (Nat.le_refl _) ⟨[], rfl, fun _ h => by cases h⟩ (by omega) (by omega)).mono ?_
  rintro e w1 ⟨b, rfl, ho, hb⟩
  have H1 := Lib.hid ho
  have L1 := Lib.hid hb
  clear ho hb L0
  go_wp2_with fail
  refine (or_new fixed_no H1.out 20 20 (by omega) (by omega)).mono ?_
  rintro e w2 ⟨rb, rfl, ho, hb⟩
  have H2 : Hid (One w.heap.size (Both NoP (RefF rb (D 0))) b (D 0) w2) := by show One _ _ _ _ _; rw [HD0.out]; exact ho
  have L2 := Lib.hid (L1.out.trans hb)
  clear ho hb H1 L1
  go_wp2_with fail
  go_loopw [7] (fun i wr => ∃ k : Nat, k ≤ l0.length ∧ i = .int .i64 k ∧ Hid (One w.heap.size (Both (NoP) (RefF rb (D k))) b (D k) wr) ∧ Hid (Below w.heap.size w wr)) (fun i _ => l0.length - (RowKit.intOf i).toNat)
  case atStart => exact ⟨0, Nat.zero_le _, rfl, H2, L2⟩
  case round =>
    clear H2 L2
    obtain ⟨k, hk, rfl, H, L⟩ := hrel
    by_cases hlt : k < l0.length
    · have hk0 : (0 : Int) ≤ (k : Int) := by omega
      have hkl : (k : Int) < (l0.length : Int) := by omega
      have hkh : (k : Int) ≤ 60 := by have := HLN.out; omega
      have HLT := Lib.hid hlt
      have hdl := HDL.out k hk
      have hrl := HDL.out k hk
      have HS := Lib.hid (HDS.out k hlt)
      have HSR := Lib.hid (HDS.out k hlt)
      obtain ⟨bb, off, hae, hbb, hcell, hsl⟩ := S0.out.op k hlt
      have HSL := Lib.hid hsl
      have q0 : wr.cell? ⟨bb, off + k * 5, none⟩ = some (.int .i64 l0[k].act) := by rw [L.out.cell (p := ⟨bb, off + k * 5, none⟩) hbb]; exact hcell 0 _ rfl
      have q1 : wr.cell? ⟨bb, off + k * 5 + 1, none⟩ = some (.int .i64 l0[k].l.1) := by rw [L.out.cell (p := ⟨bb, off + k * 5 + 1, none⟩) hbb]; exact hcell 1 _ rfl
      have q2 : wr.cell? ⟨bb, off + k * 5 + 2, none⟩ = some (.int .i64 l0[k].l.2) := by rw [L.out.cell (p := ⟨bb, off + k * 5 + 2, none⟩) hbb]; exact hcell 2 _ rfl
      have q3 : wr.cell? ⟨bb, off + k * 5 + 3, none⟩ = some (.string l0[k].s) := by rw [L.out.cell (p := ⟨bb, off + k * 5 + 3, none⟩) hbb]; exact hcell 3 _ rfl
      have q4 : wr.cell? ⟨bb, off + k * 5 + 4, none⟩ = some (.slice l0[k].ka l0[k].keep.length l0[k].kc) := by rw [L.out.cell (p := ⟨bb, off + k * 5 + 4, none⟩) hbb]; exact hcell 4 _ rfl
      generalize l0[k] = x at *
      clear hcell hbb hsl hlt hk
      have hdo := does_any fixed_no H.out L.out hdl hrl x HSL.out
      first | rw [← HS.out, ← HSR.out] at hdo | rw [← HS.out] at hdo
      have HDO := Lib.hid hdo
      clear hdo hdl hrl
      subst hae
      go_wp2_with fail
      refine HDO.out.mono ?_
      rintro e w3 ⟨rfl, ho, hb⟩
      have H3 := Lib.hid ho
      have L3 := Lib.hid (L.out.trans hb)
      clear ho hb H L HDO q0 q1 q2 q3 q4
      go_wp2
      go_roundw
      case rel => exact ⟨k + 1, HLT.out, by go_num, H3, L3⟩
      case measure => have := HLT.out; simp [RowKit.intOf]; omega
    · obtain rfl : k = l0.length := by omega
      clear hk hlt
      obtain ⟨D1', hD1⟩ : ∃ D1', D1' = D l0.length := ⟨_, rfl⟩
      rw [show D l0.length = D1 from HDE.out] at H
      clear D1' hD1
      have HF0 := Lib.hid (fixed_both fixed_no (fixed_ref rb D1))
      go_wp2_with fail
      refine (one_copy HF0.out H.out (Nat.le_trans HD1L.out (by decide))).mono ?_
      rintro e w4 ⟨c, rfl, ho, hb⟩
      have H4 := Lib.hid ho.exch
      have L4 := Lib.hid (L.out.trans hb)
      clear ho hb H L
      have HF1 := Lib.hid (fixed_both (fixed_both fixed_no (fixed_dev b D1)) (fixed_ref rb D1))
      go_wp2_with fail
      refine (one_waitsS H4.out (Nat.le_trans HD1L.out (by decide))).mono ?_
      rintro e w5 ⟨v, rfl, hp, hb⟩
      obtain ⟨wl, hwl⟩ : ∃ wl, wl = D1.waits.map (·.1) := ⟨_, rfl⟩
      have HWL := Lib.hid hwl
      rw [← hwl] at hp
      have H5 : Hid (One w.heap.size (Both (Both (Both NoP (DevF b D1)) (RowP v wl)) (RefF rb (C 0))) c (C 0) w5) := by
        show One _ _ _ _ _
        rw [HC0.out]
        exact (H4.out.addRow HF1.out hb hp).exch
      have L5 := Lib.hid (L4.out.trans (hb.mono L4.out.size))
      clear hp hb hwl H4 L4
      go_wp2_with fail
      go_loopw [10] (fun i wr => ∃ k : Nat, k ≤ l1.length ∧ i = .int .i64 k ∧ Hid (One w.heap.size (Both (Both (Both NoP (DevF b D1)) (RowP v wl)) (RefF rb (C k))) c (C k) wr) ∧ Hid (Below w.heap.size w wr)) (fun i _ => l1.length - (RowKit.intOf i).toNat)
      case atStart => exact ⟨0, Nat.zero_le _, rfl, H5, L5⟩
      case round =>
        clear H5 L5
        obtain ⟨k, hk, rfl, H, L⟩ := hrel
        by_cases hlt : k < l1.length
        · have hk0 : (0 : Int) ≤ (k : Int) := by omega
          have hkl : (k : Int) < (l1.length : Int) := by omega
          have hkh : (k : Int) ≤ 60 := by have := HLN.out; omega
          have HLT := Lib.hid hlt
          have hdl := HCL.out k hk
          have hrl := HCL.out k hk
          have HS := Lib.hid (HCS.out k hlt)
          have HSR := Lib.hid (HCS.out k hlt)
          obtain ⟨bb, off, hae, hbb, hcell, hsl⟩ := S1.out.op k hlt
          have HSL := Lib.hid hsl
          have q0 : wr.cell? ⟨bb, off + k * 5, none⟩ = some (.int .i64 l1[k].act) := by rw [L.out.cell (p := ⟨bb, off + k * 5, none⟩) hbb]; exact hcell 0 _ rfl
          have q1 : wr.cell? ⟨bb, off + k * 5 + 1, none⟩ = some (.int .i64 l1[k].l.1) := by rw [L.out.cell (p := ⟨bb, off + k * 5 + 1, none⟩) hbb]; exact hcell 1 _ rfl
          have q2 : wr.cell? ⟨bb, off + k * 5 + 2, none⟩ = some (.int .i64 l1[k].l.2) := by rw [L.out.cell (p := ⟨bb, off + k * 5 + 2, none⟩) hbb]; exact hcell 2 _ rfl
          have q3 : wr.cell? ⟨bb, off + k * 5 + 3, none⟩ = some (.string l1[k].s) := by rw [L.out.cell (p := ⟨bb, off + k * 5 + 3, none⟩) hbb]; exact hcell 3 _ rfl
          have q4 : wr.cell? ⟨bb, off + k * 5 + 4, none⟩ = some (.slice l1[k].ka l1[k].keep.length l1[k].kc) := by rw [L.out.cell (p := ⟨bb, off + k * 5 + 4, none⟩) hbb]; exact hcell 4 _ rfl
          generalize l1[k] = x at *
          clear hcell hbb hsl hlt hk
          have hdo := does_any (fixed_both (fixed_both fixed_no (fixed_dev b D1)) (fixed_row v wl)) H.out L.out hdl hrl x HSL.out
          first | rw [← HS.out, ← HSR.out] at hdo | rw [← HS.out] at hdo
          have HDO := Lib.hid hdo
          clear hdo hdl hrl
          subst hae
          go_wp2_with fail
          refine HDO.out.mono ?_
          rintro e w3 ⟨rfl, ho, hb⟩
          have H3 := Lib.hid ho
          have L3 := Lib.hid (L.out.trans hb)
          clear ho hb H L HDO q0 q1 q2 q3 q4
          go_wp2
          go_roundw
          case rel => exact ⟨k + 1, HLT.out, by go_num, H3, L3⟩
          case measure => have := HLT.out; simp [RowKit.intOf]; omega
        · obtain rfl : k = l1.length := by omega
          clear hk hlt
          rw [show C l1.length = C1 from HCE.out] at H
          have HF2 := Lib.hid (fixed_both (fixed_both fixed_no (fixed_dev b D1)) (fixed_row v wl))
          have HA := Lib.hid (((H.out.sub (sub_both (sub_exch _ _ _) _)).exch).swap)
          clear H
          have HF3 := Lib.hid (fixed_both (fixed_both (fixed_both fixed_no (fixed_row v wl)) (fixed_ref rb C1)) (fixed_dev c C1))
          go_wp2_with fail
          refine (one_copy HF3.out HA.out (Nat.le_trans HD1L.out (by decide))).mono ?_
          rintro e w4 ⟨eb, rfl, ho, hb⟩
          have HE := Lib.hid ho
          have HF4 := Lib.hid (fixed_both HF3.out (fixed_dev b D1))
          have L4 := Lib.hid (L.out.trans hb)
          clear ho hb HA L
          have HDh := Lib.hid HE.out.swap
          go_wp2_with fail
          refine (one_waitsS HDh.out (Nat.le_trans HD1L.out (by decide))).mono ?_
          rintro e w5 ⟨v5, rfl, hp, hb⟩
          obtain ⟨va, vc, rfl, hv⟩ := hp.view
          have HE5 := Lib.hid (HE.out.keep HF4.out hb)
          have L5 := Lib.hid (L4.out.trans (hb.mono L4.out.size))
          have V5 := Lib.hid hv
          clear hp hv hb HE L4 HDh
          obtain ⟨base, hrow⟩ := HE5.out.drop.drop.drop.rowP
          obtain ⟨ra, rc, hrv, hrs⟩ := hrow.view
          have R5 := Lib.hid hrs
          have HRV := Lib.hid hrv
          clear hrow hrs hrv
          have hwl := HWL.out
          have hle : wl.length ≤ 1000 := by rw [hwl, List.length_map]; exact Nat.le_trans HD1L.out (by decide)
          have hw2 : wl.length = D1.waits.length := by rw [hwl, List.length_map]
          have V5' : SlP w5 va wl := by rw [hwl]; exact V5.out
          have hlc := rflocs_any va ra vc rc wl wl w5 V5' R5.out hle hle
          rw [show sameR wl wl = true from decide_eq_true rfl, hw2] at hlc
          have HLC := Lib.hid hlc
          have HRV2 : Hid (v = .slice ra D1.waits.length rc) := by show _ = _; rw [HRV.out, hw2]
          clear hlc V5' V5
          have HV := Lib.hid hw2
          have HLE := Lib.hid hle
          clear hw2 hle hwl
          go_wp2_with fail
          rw [HRV2.out]
          refine HLC.out.mono ?_
          rintro e w6 ⟨rfl, hb⟩
          have HE6 := Lib.hid (HE5.out.keep HF4.out hb)
          have L6 := Lib.hid (L5.out.trans (hb.mono L5.out.size))
          have R6 := Lib.hid (R5.out.keep hb)
          clear hb HE5 L5 R5 HLC
          go_wp2_with fail
          refine (one_waitsS HE6.out (Nat.le_trans HD1L.out (by decide))).mono ?_
          rintro e w7 ⟨v7, rfl, hp, hb⟩
          obtain ⟨ta, tc, rfl, ht⟩ := hp.view
          have HE7 := Lib.hid (HE6.out.keep HF4.out hb)
          have L7 := Lib.hid (L6.out.trans (hb.mono L6.out.size))
          have R7 := Lib.hid (R6.out.keep hb)
          have T7 : Hid (SlP w7 ta wl) := by show SlP _ _ _; rw [HWL.out]; exact ht
          clear hp ht hb HE6 L6 R6
          have hlc := rflocs_any ta ra tc rc wl wl w7 T7.out R7.out HLE.out HLE.out
          rw [show sameR wl wl = true from decide_eq_true rfl, HV.out] at hlc
          have HLC := Lib.hid hlc
          clear hlc
          go_wp2_with fail
          refine HLC.out.mono ?_
          rintro e w8 ⟨rfl, hb⟩
          have HE8 := Lib.hid (HE7.out.keep HF4.out hb)
          have L8 := Lib.hid (L7.out.trans (hb.mono L7.out.size))
          clear hb HE7 L7 R7 T7 HLC
          have HDh := Lib.hid HE8.out.swap
          go_wp2_with fail
          refine (one_size HDh.out 0).mono ?_
          rintro e w9 ⟨rfl, rfl⟩
          go_wp2_with fail
          refine (one_size HE8.out 0).mono ?_
          rintro e w9 ⟨rfl, rfl⟩
          have H9 : Hid (One w.heap.size (Both (Both (Both NoP (RowP v wl)) (DevF c C1)) (RefF rb (R 0))) b (C 0) w8) := by
            show One _ _ _ _ _
            rw [HR0.out, HC0.out]
            exact HDh.out.drop.exch
          clear HDh HE8
          go_wp2_with fail
          go_loopw [12] (fun i wr => ∃ k : Nat, k ≤ l1.length ∧ i = .int .i64 k ∧ Hid (One w.heap.size (Both (Both (Both NoP (RowP v wl)) (DevF c C1)) (RefF rb (R k))) b (C k) wr) ∧ Hid (Below w.heap.size w wr)) (fun i _ => l1.length - (RowKit.intOf i).toNat)
          case atStart => exact ⟨0, Nat.zero_le _, rfl, H9, L8⟩
          case round =>
            clear H9 L8
            obtain ⟨k, hk, rfl, H, L⟩ := hrel
            by_cases hlt : k < l1.length
            · have hk0 : (0 : Int) ≤ (k : Int) := by omega
              have hkl : (k : Int) < (l1.length : Int) := by omega
              have hkh : (k : Int) ≤ 60 := by have := HLN.out; omega
              have HLT := Lib.hid hlt
              have hdl := HCL.out k hk
              have hrl := HRL.out k hk
              have HS := Lib.hid (HCS.out k hlt)
              have HSR := Lib.hid (HRS.out k hlt)
              obtain ⟨bb, off, hae, hbb, hcell, hsl⟩ := S1.out.op k hlt
              have HSL := Lib.hid hsl
              have q0 : wr.cell? ⟨bb, off + k * 5, none⟩ = some (.int .i64 l1[k].act) := by rw [L.out.cell (p := ⟨bb, off + k * 5, none⟩) hbb]; exact hcell 0 _ rfl
              have q1 : wr.cell? ⟨bb, off + k * 5 + 1, none⟩ = some (.int .i64 l1[k].l.1) := by rw [L.out.cell (p := ⟨bb, off + k * 5 + 1, none⟩) hbb]; exact hcell 1 _ rfl
              have q2 : wr.cell? ⟨bb, off + k * 5 + 2, none⟩ = some (.int .i64 l1[k].l.2) := by rw [L.out.cell (p := ⟨bb, off + k * 5 + 2, none⟩) hbb]; exact hcell 2 _ rfl
              have q3 : wr.cell? ⟨bb, off + k * 5 + 3, none⟩ = some (.string l1[k].s) := by rw [L.out.cell (p := ⟨bb, off + k * 5 + 3, none⟩) hbb]; exact hcell 3 _ rfl
              have q4 : wr.cell? ⟨bb, off + k * 5 + 4, none⟩ = some (.slice l1[k].ka l1[k].keep.length l1[k].kc) := by rw [L.out.cell (p := ⟨bb, off + k * 5 + 4, none⟩) hbb]; exact hcell 4 _ rfl
              generalize l1[k] = x at *
              clear hcell hbb hsl hlt hk
              have hdo := does_any (fixed_both (fixed_both fixed_no (fixed_row v wl)) (fixed_dev c C1)) H.out L.out hdl hrl x HSL.out
              first | rw [← HS.out, ← HSR.out] at hdo | rw [← HS.out] at hdo
              have HDO := Lib.hid hdo
              clear hdo hdl hrl
              subst hae
              go_wp2_with fail
              refine HDO.out.mono ?_
              rintro e w3 ⟨rfl, ho, hb⟩
              have H3 := Lib.hid ho
              have L3 := Lib.hid (L.out.trans hb)
              clear ho hb H L HDO q0 q1 q2 q3 q4
              go_wp2
              go_roundw
              case rel => exact ⟨k + 1, HLT.out, by go_num, H3, L3⟩
              case measure => have := HLT.out; simp [RowKit.intOf]; omega
            · obtain rfl : k = l1.length := by omega
              clear hk hlt
              obtain ⟨R3, hR3⟩ : ∃ R3, R3 = R l1.length := ⟨_, rfl⟩
              rw [← hR3, HCE.out] at H
              clear hR3
              have HF := Lib.hid (fixed_both (fixed_both (fixed_both fixed_no (fixed_row v wl)) (fixed_dev c C1)) (fixed_ref rb R3))
              go_wp2_with fail
              refine (one_waitsS H.out (Nat.le_trans HC1L.out (by decide))).mono ?_
              rintro e w4 ⟨v4, rfl, hp, hb⟩
              obtain ⟨va, vc, rfl, hv⟩ := hp.view
              have H4 := Lib.hid (H.out.keep HF.out hb)
              have L4 := Lib.hid (L.out.trans (hb.mono L.out.size))
              have V4 := Lib.hid hv
              clear hp hv hb H L
              have HX := Lib.hid (H4.out.exch.swap)
              go_wp2_with fail
              refine (one_waitsS HX.out (Nat.le_trans HC1L.out (by decide))).mono ?_
              rintro e w5 ⟨v5, rfl, hp, hb⟩
              obtain ⟨ua, uc, rfl, hu⟩ := hp.view
              have H5 := Lib.hid (H4.out.keep HF.out hb)
              have L5 := Lib.hid (L4.out.trans (hb.mono L4.out.size))
              have V5 := Lib.hid (V4.out.keep hb)
              have U5 := Lib.hid hu
              clear hp hu hb H4 L4 V4 HX
              have hle : (C1.waits.map (·.1)).length ≤ 1000 := by rw [List.length_map]; exact Nat.le_trans HC1L.out (by decide)
              have hlc := rflocs_any va ua vc uc _ _ w5 V5.out U5.out hle hle
              rw [show sameR (C1.waits.map (·.1)) (C1.waits.map (·.1)) = true from decide_eq_true rfl, List.length_map] at hlc
              have HLC := Lib.hid hlc
              clear hle hlc
              go_wp2_with fail
              refine HLC.out.mono ?_
              rintro e w6 ⟨rfl, hb⟩
              have H6 := Lib.hid (H5.out.keep HF.out hb)
              have L6 := Lib.hid (L5.out.trans (hb.mono L5.out.size))
              clear hb H5 L5 V5 U5 HLC
              have HX := Lib.hid (H6.out.exch.swap)
              go_wp2_with fail
              refine (one_lost H6.out 0).mono ?_
              rintro e w7 ⟨rfl, rfl⟩
              go_wp2_with fail
              refine (one_lost HX.out 0).mono ?_
              rintro e w7 ⟨rfl, rfl⟩
              go_wp2_with fail
              refine (one_lost H6.out 1).mono ?_
              rintro e w7 ⟨rfl, rfl⟩
              go_wp2_with fail
              refine (one_lost HX.out 1).mono ?_
              rintro e w7 ⟨rfl, rfl⟩
              go_wp2_with fail
              refine (live_any _).mono ?_
              rintro e vz ⟨rfl, hb⟩
              have LZ := Lib.hid (L6.out.trans (hb.mono L6.out.size))
              clear hb
              go_wp2
              go_ret
              exact ⟨rfl, LZ.out⟩
end Go.Proofs.Ytflobdhhjfpcdaa.devCopy
