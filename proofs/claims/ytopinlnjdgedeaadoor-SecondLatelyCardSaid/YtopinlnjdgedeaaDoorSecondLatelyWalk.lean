/-
  The walk of SecondLately.
-/
import Derived.Test.YtopinlnjdgedeaaDoorMg41
import Derived.Test.YtopinlnjdgedeaaDoorMg0
namespace Go.Proofs.YtopinlnjdgedeaaDoor.secondLately
open Go.RowKit

/-- What stands between two Feeds. -/
def FeJ (l : List FdD) (n B b s c : Nat) (w W : World) : Prop := ∃ d x, FdS l 4 n 40 c d x ∧ Tiny d ∧ One B (Both NoP (ScF s b x)) b d W ∧ Below B w W
theorem fe_hyps {l : List FdD} {n c : Nat} {d : DevD} {x : SecD} (h : FdS l 4 n 40 c d x) (hn : 2 ≤ n ∧ n ≤ 36) (hc : c ≤ 30) : x.f ≤ 512 ∧ x.n ≤ 512 ∧ 2 ≤ x.n ∧ x.hand ≤ 512 ∧ d.waits.length ≤ 80000 ∧ x.e.length ≤ 10000 := by
  refine ⟨by rw [h.hf]; decide, by rw [h.hn]; omega, by rw [h.hn]; omega, ?_, Nat.le_trans h.few (by decide), Nat.le_trans h.len (by omega)⟩
  have := Nat.mod_lt c (room_pos hn.1)
  have h2 := room_le n
  rw [h.hand]
  omega
theorem keyF_at2 {l : List FdD} {i : Nat} (h : i < l.length) : (l[i]).1 = keyF l i ∧ (l[i]).2 = txtF l i := ⟨(keyF_at h).1.symm, (keyF_at h).2.symm⟩

set_option maxRecDepth 100000 in
set_option maxHeartbeats 4000000 in
theorem walk (w : World) (hK : Kt w) (x0 : Option Addr) (c0 : Nat) (l0 : List FdD) (s0 : SlE w 2 FdK x0 l0) (m0 : l0.length ≤ maxLen) (a1 : Int) (_w1 : (Lit.int .i64 a1).wf = true) :
    Calls Tryd.prog 3 #[.slice x0 l0.length c0, .int .i64 a1] w fun e w' => e = .returned (.bool true) ∧ Below w.heap.size w w' := by
  have HK := Lib.hid hK
  have HBP := Lib.hid hK.pos
  have HS := Lib.hid s0
  have HPL := Lib.hid (plain_any x0 c0 l0 w s0 m0)
  clear hK s0 m0
  go_enter Tryd.func3, Tryd.ntmps3
  go_wp2_with fail
  refine HPL.out.mono ?_
  rintro e w1 ⟨⟨r, rfl, hr⟩, hb⟩
  have HB1 := Lib.hid hb
  clear hb HPL
  have HLV : Hid (∀ W, Below w.heap.size w W → Calls Tryd.prog 8 #[] W fun e w' => e = .returned (.bool true) ∧ Below W.heap.size W w') := fun W hb => live14 W (HK.out.below hb HBP.out)
  cases r with
  | false =>
    clear hr
    go_wp2_with fail
    refine (HLV.out _ HB1.out).mono ?_
    rintro e w2 ⟨rfl, hb⟩
    have HB2 := Lib.hid (HB1.out.trans (hb.mono HB1.out.size))
    clear hb
    go_wp2
    go_ret
    exact ⟨rfl, HB2.out⟩
  | true =>
    have HOK := Lib.hid (hr rfl)
    clear hr
    by_cases hn1 : a1 < 2
    · go_wp2_with fail
      refine (HLV.out _ HB1.out).mono ?_
      rintro e w2 ⟨rfl, hb⟩
      have HB2 := Lib.hid (HB1.out.trans (hb.mono HB1.out.size))
      clear hb
      go_wp2
      go_ret
      exact ⟨rfl, HB2.out⟩
    · by_cases hn2 : 36 < a1
      · go_wp2_with fail
        refine (HLV.out _ HB1.out).mono ?_
        rintro e w2 ⟨rfl, hb⟩
        have HB2 := Lib.hid (HB1.out.trans (hb.mono HB1.out.size))
        clear hb
        go_wp2
        go_ret
        exact ⟨rfl, HB2.out⟩
      · obtain ⟨n, rfl⟩ : ∃ n : Nat, a1 = n := ⟨a1.toNat, by omega⟩
        have HN : Hid (2 ≤ n ∧ n ≤ 36) := ⟨by omega, by omega⟩
        obtain ⟨B, hB⟩ : ∃ B, B = w1.heap.size := ⟨_, rfl⟩
        have HZ : Hid (w.heap.size ≤ B ∧ 0 < B) := ⟨by rw [hB]; exact HB1.out.size, by rw [hB]; exact Nat.lt_of_lt_of_le HBP.out HB1.out.size⟩
        have HKW := Lib.hid (HK.out.below HB1.out HBP.out)
        have HNEW := Lib.hid (one_new B fixed_no 4 40 w1 (Nat.le_of_eq hB) ⟨[], rfl, fun k hk => by cases hk⟩ (by decide) (by decide))
        have HF1 := Lib.hid (fun (s b : Nat) (x : SecD) => fixed_both fixed_no (fixed_sc s b x))
        clear hB
        go_wp2_with fail
        refine HNEW.out.mono ?_
        rintro e w2 ⟨b, rfl, ho, hb⟩
        have HO := Lib.hid ho
        have HBL := Lib.hid hb
        clear ho hb HNEW
        have HOP := Lib.hid (open_ok fixed_no HO.out 4 n HN.out.1 (by rw [new_size]; have := HN.out.2; omega) (by rw [new_size]; decide) (HKW.out.below HBL.out HZ.out.2) HZ.out.2 (mil_of (Tiny.new 4 40)))
        go_wp2_with fail
        refine HOP.out.mono ?_
        rintro e w3 ⟨s, rfl, ho, hb⟩
        have HJ0 : Hid (FeJ l0 n B b s 0 w1 w3) := by
          have h1 := ho
          rw [rec_new (new_tell 40)] at h1
          exact ⟨newD 4 40, newX 4 n, FdS.start l0 (by decide) HN.out.1, Tiny.new 4 40, h1, HBL.out.trans hb⟩
        clear ho hb HOP HO HBL
        go_wp2
        go_loopw [7] (fun iv wr => ∃ i : Nat, i ≤ l0.length ∧ iv = .int .i64 i ∧ Hid (FeJ l0 n B b s i w1 wr)) (fun iv _ => l0.length - (RowKit.intOf iv).toNat)
        case atStart => exact ⟨0, Nat.zero_le _, rfl, HJ0⟩
        case round =>
          clear HJ0
          obtain ⟨i, hi, rfl, HJ⟩ := hrel
          obtain ⟨d, x, hst, hty, hone, hbl⟩ := HJ.out
          have HST := Lib.hid hst
          have HTY := Lib.hid hty
          have HOX := Lib.hid hone
          have HBX := Lib.hid hbl
          have HC := Lib.hid (fe_hyps hst HN.out (Nat.le_trans hi HOK.out.2))
          clear hst hty hone hbl HJ
          by_cases hlt : i < l0.length
          · have HBW : Hid (Below w.heap.size w wr) := HB1.out.trans (HBX.out.mono HZ.out.1)
            obtain ⟨bb, off, rfl, hbb, e0, e1⟩ := HS.out.fed HBW.out i hlt
            have hw1 : wrap64 ((i : Int) + 1) = i + 1 := IntWalk.wrap64_in _ (by have := HOK.out.2; omega)
            rw [(keyF_at2 hlt).1] at e0
            rw [(keyF_at2 hlt).2] at e1
            obtain ⟨hfe, hnx⟩ := HST.out.step HOK.out.1 hlt (by have := HN.out.2; omega) (by decide) HN.out.1
            have HNX := Lib.hid hnx
            have hi0 : (0 : Int) ≤ (i : Int) := by omega
            have hil : (i : Int) < (l0.length : Int) := by omega
            have hod := HOX.out.keep (HF1.out s b x) (Below.refl _ wr).drew
            have HFE := Lib.hid (feed_any fixed_no hod HC.out.1 HC.out.2.1 HC.out.2.2.1 (HKW.out.below HBX.out.drew HZ.out.2) HZ.out.2 HC.out.2.2.2.1 HC.out.2.2.2.2.1 HC.out.2.2.2.2.2 (keyF l0 i) (txtF l0 i))
            rw [hfe] at HFE
            have HLT := Lib.hid hlt
            clear hbb hlt hfe hnx hod
            go_wp2_with fail
            refine wp_region_tree (fun W => W.cell? ⟨bb, off + i * 2, none⟩ = some (.string (keyF l0 i)) ∧ W.cell? ⟨bb, off + i * 2 + 1, none⟩ = some (.string (txtF l0 i))) 11 (.quiet 0 (.quiet 1 (.quiet 2 (.quiet 3 (.quiet 4 (.quiet 5 (.quiet 6 (.quiet 7 (.quiet 8 (.quiet 9 (.quiet 10 .nil))))))))))) (by kernel_rfl) (by kernel_rfl) ⟨e0, e1⟩ ?_
            simp only [List.drop_succ_cons, List.drop_zero]
            iterate 11 (apply wpTr_step rfl; (intro W hS K hK; obtain ⟨r1, r2⟩ := hS; go_simp; exact hK _ rfl))
            refine wpTr_nil ?_
            go_wp2_with fail
            refine HFE.out.mono ?_
            rintro e w5 ⟨rfl, ho, hb⟩
            have HJX : Hid (FeJ l0 n B b s (i + 1) w1 w5) := ⟨_, _, HNX.out, HTY.out.feed _ _ _, ho, (HBX.out.drew).trans hb⟩
            clear ho hb HFE e0 e1
            go_wp2
            go_roundw
            case rel => exact ⟨i + 1, HLT.out, by rw [hw1]; rfl, HJX⟩
            case measure => exact meas_lt HLT.out hw1
          · obtain rfl : i = l0.length := by omega
            clear hlt hi
            have HFL := Lib.hid (one_flush (HF1.out s b x) HOX.out (Nat.le_trans HST.out.few (by decide)))
            go_wp2_with fail
            refine HFL.out.mono ?_
            rintro e w4 ⟨rfl, ho, hb⟩
            obtain ⟨D, hD⟩ : ∃ D, D = flushD d := ⟨_, rfl⟩
            have HO4 : Hid (One B (Both NoP (ScF s b x)) b D w4) := by show One B (Both NoP (ScF s b x)) b D w4; rw [hD]; exact ho
            have HBL4 := Lib.hid (HBX.out.trans hb)
            have HTD : Hid (Tiny D) := by show Tiny D; rw [hD]; exact HTY.out.flush
            have HDV : Hid (devSize D 1 = 40 ∧ devLost D 1 = false) := by show devSize D 1 = 40 ∧ devLost D 1 = false; rw [hD]; exact ⟨HST.out.dv.flush.size, HST.out.dv.flush.lost⟩
            obtain ⟨hk1, hk2, hk3⟩ := open_flushed HST.out (by have := HN.out.2; omega) (by decide)
            rw [← hD] at hk1 hk2 hk3
            clear ho hb HFL HOX HBX
            have HOP := Lib.hid (open_ok (HF1.out s b x) HO4.out 4 n HN.out.1 (by rw [HDV.out.1]; have := HN.out.2; omega) (by rw [HDV.out.1]; decide) (HKW.out.below HBL4.out HZ.out.2) HZ.out.2 (mil_of HTD.out))
            go_wp2_with fail
            refine HOP.out.mono ?_
            rintro e w5 ⟨k, rfl, ho, hb⟩
            obtain ⟨xk, hxk⟩ : ∃ xk, xk = recX D (newX 4 n) := ⟨_, rfl⟩
            rw [← hxk] at ho hk1 hk2
            have HXK : Hid (xk.f = 4 ∧ xk.n = n) := by show xk.f = 4 ∧ xk.n = n; rw [hxk]; exact ⟨(lk_f _ _).1, (lk_f _ _).2⟩
            have HO5 := Lib.hid ho
            have HBL5 := Lib.hid (HBL4.out.trans hb)
            have HFS : Hid (∀ i, i < l0.length → findX D x (keyF l0 i) = if l0.length ≤ i + roomN n then ((txtF l0 i, true), x) else ((⟨#[]⟩, false), x)) := fun i hi => find_all HST.out HOK.out.1 (Nat.le_refl _) (by have := HN.out.2; omega) (by decide) HN.out.1 HST.out.hf HST.out.hn (fun _ _ => rfl) HDV.out hk3 hi
            have HFK : Hid (∀ i, i < l0.length → findX D xk (keyF l0 i) = if l0.length ≤ i + roomN n then ((txtF l0 i, true), xk) else ((⟨#[]⟩, false), xk)) := fun i hi => find_all HST.out HOK.out.1 (Nat.le_refl _) (by have := HN.out.2; omega) (by decide) HN.out.1 HXK.out.1 HXK.out.2 hk1 HDV.out hk3 hi
            have HPK : Hid (∀ k y, findS xk.e k = some y → y.pos = k ∧ 0 ≤ k ∧ k < 1000) := fun k y h => by
              obtain ⟨h1, h2⟩ := hk2 k y h
              have := h2.2.2.2.2.2
              rw [h1] at this
              exact ⟨h1, this.1, by omega⟩
            have HF2 := Lib.hid (fun (s b k : Nat) (x y : SecD) => fixed_both (fixed_both fixed_no (fixed_sc s b x)) (fixed_sc k b y))
            have HRM : Hid (1 ≤ roomN n ∧ roomN n ≤ 36) := ⟨room_pos HN.out.1, Nat.le_trans (room_le n) HN.out.2⟩
            obtain ⟨rm, hrm⟩ : ∃ rm, rm = roomN n := ⟨_, rfl⟩
            rw [← hrm] at HFS HFK HRM
            have HRE := Lib.hid hrm
            clear ho hb HOP HO4 HBL4 hk1 hk2 hk3 hD hxk hrm
            go_wp2
            go_loopw [9] (fun iv wr => ∃ i : Nat, i ≤ l0.length ∧ iv = .int .i64 i ∧ Hid (One B (Both (Both NoP (ScF s b x)) (ScF k b xk)) b D wr ∧ Below B w1 wr)) (fun iv _ => l0.length - (RowKit.intOf iv).toNat)
            case atStart => exact ⟨0, Nat.zero_le _, rfl, HO5.out, HBL5.out⟩
            case round =>
              clear HO5 HBL5
              obtain ⟨i, hi, rfl, HJ⟩ := hrel
              by_cases hlt : i < l0.length
              · have HBW : Hid (Below w.heap.size w wr) := HB1.out.trans (HJ.out.2.mono HZ.out.1)
                obtain ⟨bb, off, rfl, hbb, e0, e1⟩ := HS.out.fed HBW.out i hlt
                have hw1 : wrap64 ((i : Int) + 1) = i + 1 := IntWalk.wrap64_in _ (by have := HOK.out.2; omega)
                rw [(keyF_at2 hlt).1] at e0
                rw [(keyF_at2 hlt).2] at e1
                have hi0 : (0 : Int) ≤ (i : Int) := by omega
                have hil : (i : Int) < (l0.length : Int) := by omega
                have HLT := Lib.hid hlt
                have HFI := Lib.hid (find_any (fixed_both fixed_no (fixed_sc k b xk)) HJ.out.1.swapSc HC.out.1 HC.out.2.1 (keyF l0 i) (HKW.out.below HJ.out.2 HZ.out.2) HZ.out.2 (big_of HTD.out) HST.out.pos)
                rw [HFS.out i hlt] at HFI
                have hw2 : wrap64 ((l0.length : Int) - (rm : Int)) = (l0.length : Int) - rm := IntWalk.wrap64_in _ (by have := HOK.out.2; have := HRM.out.2; omega)
                clear hbb hlt e1
                by_cases hin : l0.length ≤ i + rm
                · rw [if_pos hin] at HFI
                  have HIN := Lib.hid hin
                  go_wp2_with fail
                  refine HFI.out.mono ?_
                  rintro e w6 ⟨rfl, ho, hb⟩
                  have HO6 := Lib.hid ho.swapSc
                  have HB6 := Lib.hid (HJ.out.2.trans hb)
                  have HBW6 : Hid (Below w.heap.size w w6) := HB1.out.trans (HB6.out.mono HZ.out.1)
                  have e0' : w6.cell? ⟨bb, off + i * 2, none⟩ = some (.string (keyF l0 i)) := by
                    obtain ⟨b3, o3, q3, _, c3, _⟩ := HS.out.fed HBW6.out i HLT.out
                    injection q3 with q3
                    injection q3 with q1 q2 _
                    subst q1
                    subst q2
                    rw [← (keyF_at2 HLT.out).1]
                    exact c3
                  clear ho hb HFI e0
                  have HFI := Lib.hid (find_any (HF1.out s b x) HO6.out (by rw [HXK.out.1]; decide) (by rw [HXK.out.2]; have := HN.out.2; omega) (keyF l0 i) (HKW.out.below HB6.out HZ.out.2) HZ.out.2 (big_of HTD.out) HPK.out)
                  rw [HFK.out i HLT.out, if_pos hin] at HFI
                  go_wp2_with fail
                  refine HFI.out.mono ?_
                  rintro e w7 ⟨rfl, ho, hb⟩
                  have HO7 := Lib.hid ho
                  have HB7 := Lib.hid (HB6.out.trans hb)
                  have HBW7 : Hid (Below w.heap.size w w7) := HB1.out.trans (HB7.out.mono HZ.out.1)
                  clear ho hb HFI e0' HO6
                  have HRO : Hid (Calls Tryd.prog 14 #[.pointer (some ⟨s, 0, none⟩)] w7 fun e w' => e = .returned (.int .i64 rm) ∧ Below w7.heap.size w7 w') := by
                    obtain ⟨m, hs, _⟩ := HO7.out.swapSc.secE (fixed_both fixed_no (fixed_sc k b xk))
                    have := room_any s b m x w7 hs.box HC.out.2.1
                    rw [HST.out.hn, ← HRE.out] at this
                    exact this
                  go_wp2_with fail
                  refine HRO.out.mono ?_
                  rintro e w8 ⟨rfl, hb⟩
                  have HO8 := Lib.hid (HO7.out.keep (HF2.out s b k x xk) hb)
                  have HB8 := Lib.hid (HB7.out.trans (hb.mono HO7.out.1))
                  have HBW8 : Hid (Below w.heap.size w w8) := HB1.out.trans (HB8.out.mono HZ.out.1)
                  have e1' : w8.cell? ⟨bb, off + i * 2 + 1, none⟩ = some (.string (txtF l0 i)) := by
                    obtain ⟨b3, o3, q3, _, _, c3⟩ := HS.out.fed HBW8.out i HLT.out
                    injection q3 with q3
                    injection q3 with q1 q2 _
                    subst q1
                    subst q2
                    rw [← (keyF_at2 HLT.out).2]
                    exact c3
                  have d1 : (l0.length : Int) - (rm : Int) ≤ (i : Int) := by omega
                  clear hb HRO HO7 hin
                  go_wp2
                  go_roundw
                  case rel => exact ⟨i + 1, HLT.out, by rw [hw1]; rfl, HO8.out, HB8.out⟩
                  case measure => exact meas_lt HLT.out hw1
                · rw [if_neg hin] at HFI
                  go_wp2_with fail
                  refine HFI.out.mono ?_
                  rintro e w6 ⟨rfl, ho, hb⟩
                  have HO6 := Lib.hid ho.swapSc
                  have HB6 := Lib.hid (HJ.out.2.trans hb)
                  have HBW6 : Hid (Below w.heap.size w w6) := HB1.out.trans (HB6.out.mono HZ.out.1)
                  have e0' : w6.cell? ⟨bb, off + i * 2, none⟩ = some (.string (keyF l0 i)) := by
                    obtain ⟨b3, o3, q3, _, c3, _⟩ := HS.out.fed HBW6.out i HLT.out
                    injection q3 with q3
                    injection q3 with q1 q2 _
                    subst q1
                    subst q2
                    rw [← (keyF_at2 HLT.out).1]
                    exact c3
                  clear ho hb HFI e0
                  have HFI := Lib.hid (find_any (HF1.out s b x) HO6.out (by rw [HXK.out.1]; decide) (by rw [HXK.out.2]; have := HN.out.2; omega) (keyF l0 i) (HKW.out.below HB6.out HZ.out.2) HZ.out.2 (big_of HTD.out) HPK.out)
                  rw [HFK.out i HLT.out, if_neg hin] at HFI
                  go_wp2_with fail
                  refine HFI.out.mono ?_
                  rintro e w7 ⟨rfl, ho, hb⟩
                  have HO7 := Lib.hid ho
                  have HB7 := Lib.hid (HB6.out.trans hb)
                  clear ho hb HFI e0' HO6
                  have HRO : Hid (Calls Tryd.prog 14 #[.pointer (some ⟨s, 0, none⟩)] w7 fun e w' => e = .returned (.int .i64 rm) ∧ Below w7.heap.size w7 w') := by
                    obtain ⟨m, hs, _⟩ := HO7.out.swapSc.secE (fixed_both fixed_no (fixed_sc k b xk))
                    have := room_any s b m x w7 hs.box HC.out.2.1
                    rw [HST.out.hn, ← HRE.out] at this
                    exact this
                  go_wp2_with fail
                  refine HRO.out.mono ?_
                  rintro e w8 ⟨rfl, hb⟩
                  have HO8 := Lib.hid (HO7.out.keep (HF2.out s b k x xk) hb)
                  have HB8 := Lib.hid (HB7.out.trans (hb.mono HO7.out.1))
                  have d1 : ¬ (l0.length : Int) - (rm : Int) ≤ (i : Int) := by omega
                  clear hb HRO HO7 hin
                  go_wp2
                  go_roundw
                  case rel => exact ⟨i + 1, HLT.out, by rw [hw1]; rfl, HO8.out, HB8.out⟩
                  case measure => exact meas_lt HLT.out hw1
              · have HBW : Hid (Below w.heap.size w wr) := HB1.out.trans (HJ.out.2.mono HZ.out.1)
                have hii : ¬ (i : Int) < (l0.length : Int) := by omega
                clear hlt hi
                go_wp2_with fail
                refine (HLV.out _ HBW.out).mono ?_
                rintro e w6 ⟨rfl, hb⟩
                have HB6 := Lib.hid (HBW.out.trans (hb.mono HBW.out.size))
                clear hb
                go_wp2
                go_ret
                exact ⟨rfl, HB6.out⟩
end Go.Proofs.YtopinlnjdgedeaaDoor.secondLately
