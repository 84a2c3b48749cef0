/-
  The walk of SecondCrash.
-/
import Derived.Test.YtopinlnjdgedeaaDoorMg41
import Derived.Test.YtopinlnjdgedeaaDoorMg0
namespace Go.Proofs.YtopinlnjdgedeaaDoor.secondCrash
open Go.RowKit

/-- What stands between two Feeds. -/
def FeJ (l : List FdD) (n B b s c : Nat) (w W : World) : Prop := ∃ d x, FdS l 4 n 40 c d x ∧ Tiny d ∧ One B (Both NoP (ScF s b x)) b d W ∧ Below B w W
theorem fe_hyps {l : List FdD} {n c : Nat} {d : DevD} {x : SecD} (h : FdS l 4 n 40 c d x) (hn : 2 ≤ n ∧ n ≤ 36) (hc : c ≤ 30) : x.f ≤ 512 ∧ x.n ≤ 512 ∧ 2 ≤ x.n ∧ x.hand ≤ 512 ∧ d.waits.length ≤ 80000 ∧ x.e.length ≤ 10000 := by
  refine ⟨by rw [h.hf]; decide, by rw [h.hn]; omega, by rw [h.hn]; omega, ?_, Nat.le_trans h.few (by decide), Nat.le_trans h.len (by omega)⟩
  have := Nat.mod_lt c (room_pos hn.1)
  have h2 := room_le n
  rw [h.hand]
  omega
theorem sl_keep {w w' : World} {a : Option Addr} {l : List Bool} (h : Sl w Value.bool a l) (hb : Below w.heap.size w w') : Sl w' Value.bool a l := fun hne => by
  obtain ⟨b, off, e, hlt, hc⟩ := h hne
  exact ⟨b, off, e, Nat.lt_of_lt_of_le hlt hb.size, fun i x hx => (hb.cell (p := ⟨b, off + i, none⟩) hlt).trans (hc i x hx)⟩
theorem keyF_at2 {l : List FdD} {i : Nat} (h : i < l.length) : (l[i]).1 = keyF l i ∧ (l[i]).2 = txtF l i := ⟨(keyF_at h).1.symm, (keyF_at h).2.symm⟩

set_option maxRecDepth 100000 in
set_option maxHeartbeats 4000000 in
theorem walk (w : World) (hK : Kt w) (x0 : Option Addr) (c0 : Nat) (l0 : List FdD) (s0 : SlE w 2 FdK x0 l0) (m0 : l0.length ≤ maxLen) (x1 : Option Addr) (c1 : Nat) (l1 : List Bool) (s1 : Sl w Value.bool x1 l1) (_w1 : True) (_m1 : l1.length ≤ maxLen) (a1 : Int) (_w2 : (Lit.int .i64 a1).wf = true) :
    Calls Tryd.prog 5 #[.slice x0 l0.length c0, .slice x1 l1.length c1, .int .i64 a1] w fun e w' => e = .returned (.bool true) ∧ Below w.heap.size w w' := by
  have HK := Lib.hid hK
  have HBP := Lib.hid hK.pos
  have HS := Lib.hid s0
  have HKE := Lib.hid s1
  have HPL := Lib.hid (plain_any x0 c0 l0 w s0 m0)
  clear hK s0 m0 s1
  go_enter Tryd.func5, Tryd.ntmps5
  go_wp2_with fail
  refine HPL.out.mono ?_
  rintro e w1 ⟨⟨r, rfl, hr⟩, hb⟩
  have HB1 := Lib.hid hb
  clear hb HPL
  have HLV : Hid (∀ W, Below w.heap.size w W → Calls Tryd.prog 8 #[] W fun e w' => e = .returned (.bool true) ∧ Below W.heap.size W w') := fun W hb => live14 W (HK.out.below hb HBP.out)
  cases r with
  | false =>
    clear hr
    go_wp2_with fail
    refine (HLV.out _ HB1.out).mono ?_
    rintro e w2 ⟨rfl, hb⟩
    have HB2 := Lib.hid (HB1.out.trans (hb.mono HB1.out.size))
    clear hb
    go_wp2
    go_ret
    exact ⟨rfl, HB2.out⟩
  | true =>
    have HOK := Lib.hid (hr rfl)
    clear hr
    by_cases hkl : (100 : Int) < (l1.length : Int)
    · go_wp2_with fail
      refine (HLV.out _ HB1.out).mono ?_
      rintro e w2 ⟨rfl, hb⟩
      have HB2 := Lib.hid (HB1.out.trans (hb.mono HB1.out.size))
      clear hb
      go_wp2
      go_ret
      exact ⟨rfl, HB2.out⟩
    · have HKL : Hid (l1.length ≤ 100) := by show _ ≤ _; omega
      by_cases hn1 : a1 < 2
      · go_wp2_with fail
        refine (HLV.out _ HB1.out).mono ?_
        rintro e w2 ⟨rfl, hb⟩
        have HB2 := Lib.hid (HB1.out.trans (hb.mono HB1.out.size))
        clear hb
        go_wp2
        go_ret
        exact ⟨rfl, HB2.out⟩
      · by_cases hn2 : 36 < a1
        · go_wp2_with fail
          refine (HLV.out _ HB1.out).mono ?_
          rintro e w2 ⟨rfl, hb⟩
          have HB2 := Lib.hid (HB1.out.trans (hb.mono HB1.out.size))
          clear hb
          go_wp2
          go_ret
          exact ⟨rfl, HB2.out⟩
        · obtain ⟨n, rfl⟩ : ∃ n : Nat, a1 = n := ⟨a1.toNat, by omega⟩
          have HN : Hid (2 ≤ n ∧ n ≤ 36) := ⟨by omega, by omega⟩
          obtain ⟨B, hB⟩ : ∃ B, B = w1.heap.size := ⟨_, rfl⟩
          have HZ : Hid (w.heap.size ≤ B ∧ 0 < B) := ⟨by rw [hB]; exact HB1.out.size, by rw [hB]; exact Nat.lt_of_lt_of_le HBP.out HB1.out.size⟩
          have HKW := Lib.hid (HK.out.below HB1.out HBP.out)
          have HNEW := Lib.hid (one_new B fixed_no 4 40 w1 (Nat.le_of_eq hB) ⟨[], rfl, fun k hk => by cases hk⟩ (by decide) (by decide))
          have HF1 := Lib.hid (fun (s b : Nat) (x : SecD) => fixed_both fixed_no (fixed_sc s b x))
          clear hB
          go_wp2_with fail
          refine HNEW.out.mono ?_
          rintro e w2 ⟨b, rfl, ho, hb⟩
          have HO := Lib.hid ho
          have HBL := Lib.hid hb
          clear ho hb HNEW
          have HOP := Lib.hid (open_ok fixed_no HO.out 4 n HN.out.1 (by rw [new_size]; have := HN.out.2; omega) (by rw [new_size]; decide) (HKW.out.below HBL.out HZ.out.2) HZ.out.2 (mil_of (Tiny.new 4 40)))
          go_wp2_with fail
          refine HOP.out.mono ?_
          rintro e w3 ⟨s, rfl, ho, hb⟩
          have HJ0 : Hid (FeJ l0 n B b s 0 w1 w3) := by
            have h1 := ho
            rw [rec_new (new_tell 40)] at h1
            exact ⟨newD 4 40, newX 4 n, FdS.start l0 (by decide) HN.out.1, Tiny.new 4 40, h1, HBL.out.trans hb⟩
          clear ho hb HOP HO HBL
          go_wp2
          go_loopw [9] (fun iv wr => ∃ i : Nat, i ≤ l0.length ∧ iv = .int .i64 i ∧ Hid (FeJ l0 n B b s i w1 wr)) (fun iv _ => l0.length - (RowKit.intOf iv).toNat)
          case atStart => exact ⟨0, Nat.zero_le _, rfl, HJ0⟩
          case round =>
            clear HJ0
            obtain ⟨i, hi, rfl, HJ⟩ := hrel
            obtain ⟨d, x, hst, hty, hone, hbl⟩ := HJ.out
            have HST := Lib.hid hst
            have HTY := Lib.hid hty
            have HOX := Lib.hid hone
            have HBX := Lib.hid hbl
            have HC := Lib.hid (fe_hyps hst HN.out (Nat.le_trans hi HOK.out.2))
            clear hst hty hone hbl HJ
            by_cases hlt : i < l0.length
            · have HBW : Hid (Below w.heap.size w wr) := HB1.out.trans (HBX.out.mono HZ.out.1)
              obtain ⟨bb, off, rfl, hbb, e0, e1⟩ := HS.out.fed HBW.out i hlt
              have hw1 : wrap64 ((i : Int) + 1) = i + 1 := IntWalk.wrap64_in _ (by have := HOK.out.2; omega)
              rw [(keyF_at2 hlt).1] at e0
              rw [(keyF_at2 hlt).2] at e1
              obtain ⟨hfe, hnx⟩ := HST.out.step HOK.out.1 hlt (by have := HN.out.2; omega) (by decide) HN.out.1
              have HNX := Lib.hid hnx
              have hi0 : (0 : Int) ≤ (i : Int) := by omega
              have hil : (i : Int) < (l0.length : Int) := by omega
              have hod := HOX.out.keep (HF1.out s b x) (Below.refl _ wr).drew
              have HFE := Lib.hid (feed_any fixed_no hod HC.out.1 HC.out.2.1 HC.out.2.2.1 (HKW.out.below HBX.out.drew HZ.out.2) HZ.out.2 HC.out.2.2.2.1 HC.out.2.2.2.2.1 HC.out.2.2.2.2.2 (keyF l0 i) (txtF l0 i))
              rw [hfe] at HFE
              have HLT := Lib.hid hlt
              clear hbb hlt hfe hnx hod
              go_wp2_with fail
              refine wp_region_tree (fun W => W.cell? ⟨bb, off + i * 2, none⟩ = some (.string (keyF l0 i)) ∧ W.cell? ⟨bb, off + i * 2 + 1, none⟩ = some (.string (txtF l0 i))) 11 (.quiet 0 (.quiet 1 (.quiet 2 (.quiet 3 (.quiet 4 (.quiet 5 (.quiet 6 (.quiet 7 (.quiet 8 (.quiet 9 (.quiet 10 .nil))))))))))) (by kernel_rfl) (by kernel_rfl) ⟨e0, e1⟩ ?_
              simp only [List.drop_succ_cons, List.drop_zero]
              iterate 11 (apply wpTr_step rfl; (intro W hS K hK; obtain ⟨r1, r2⟩ := hS; go_simp; exact hK _ rfl))
              refine wpTr_nil ?_
              go_wp2_with fail
              refine HFE.out.mono ?_
              rintro e w5 ⟨rfl, ho, hb⟩
              have HJX : Hid (FeJ l0 n B b s (i + 1) w1 w5) := ⟨_, _, HNX.out, HTY.out.feed _ _ _, ho, (HBX.out.drew).trans hb⟩
              clear ho hb HFE e0 e1
              go_wp2
              go_roundw
              case rel => exact ⟨i + 1, HLT.out, by rw [hw1]; rfl, HJX⟩
              case measure => exact meas_lt HLT.out hw1
            · obtain rfl : i = l0.length := by omega
              clear hlt hi
              have hkw : Sl wr Value.bool x1 l1 := sl_keep HKE.out (HB1.out.trans (HBX.out.mono HZ.out.1))
              have HCR := Lib.hid (one_crash (HF1.out s b x) HOX.out x1 c1 l1 hkw (Nat.le_trans HST.out.few (by decide)) (Nat.le_trans HKL.out (by decide)))
              clear hkw
              go_wp2_with fail
              refine HCR.out.mono ?_
              rintro e w4 ⟨rfl, ho, hb⟩
              obtain ⟨D, hD⟩ : ∃ D, D = crashD d l1 := ⟨_, rfl⟩
              have HO4 : Hid (One B (Both NoP (ScF s b x)) b D w4) := by show One B (Both NoP (ScF s b x)) b D w4; rw [hD]; exact ho
              have HBL4 := Lib.hid (HBX.out.trans hb)
              have HTD : Hid (Tiny D) := by show Tiny D; rw [hD]; exact HTY.out.crash HST.out.few l1
              have HDV : Hid (devSize D 1 = 40 ∧ devLost D 1 = false) := by show devSize D 1 = 40 ∧ devLost D 1 = false; rw [hD]; exact HST.out.dv.crash l1
              obtain ⟨hk1, hk2, hk3⟩ := open_crashed HST.out (by have := HN.out.2; omega) (by decide) l1
              rw [← hD] at hk1 hk2 hk3
              clear ho hb HCR HOX HBX
              have HOP := Lib.hid (open_ok (HF1.out s b x) HO4.out 4 n HN.out.1 (by rw [HDV.out.1]; have := HN.out.2; omega) (by rw [HDV.out.1]; decide) (HKW.out.below HBL4.out HZ.out.2) HZ.out.2 (mil_of HTD.out))
              go_wp2_with fail
              refine HOP.out.mono ?_
              rintro e w5 ⟨k, rfl, ho, hb⟩
              obtain ⟨xk, hxk⟩ : ∃ xk, xk = recX D (newX 4 n) := ⟨_, rfl⟩
              rw [← hxk] at ho hk1 hk2
              have HXK : Hid (xk.f = 4 ∧ xk.n = n) := by show xk.f = 4 ∧ xk.n = n; rw [hxk]; exact ⟨(lk_f _ _).1, (lk_f _ _).2⟩
              have HO5 := Lib.hid ho
              have HBL5 := Lib.hid (HBL4.out.trans hb)
              have HFK : Hid (∀ i, i < l0.length → findX D xk (keyF l0 i) = ((txtF l0 i, true), xk) ∨ findX D xk (keyF l0 i) = ((⟨#[]⟩, false), xk)) := fun i hi => by
                rcases find_sub HST.out HOK.out.1 (Nat.le_refl _) (by have := HN.out.2; omega) (by decide) HN.out.1 HXK.out.1 HXK.out.2 hk1 HDV.out hk3 hi with ⟨h, _⟩ | ⟨h, _⟩
                · exact .inl h
                · exact .inr h
              have HPK : Hid (∀ k y, findS xk.e k = some y → y.pos = k ∧ 0 ≤ k ∧ k < 1000) := fun k y h => by
                obtain ⟨h1, h2⟩ := hk2 k y h
                have := h2.2.2.2.2.2
                rw [h1] at this
                exact ⟨h1, this.1, by omega⟩
              have HXB : Hid (xk.f ≤ 512 ∧ xk.n ≤ 512) := ⟨by rw [HXK.out.1]; decide, by rw [HXK.out.2]; have := HN.out.2; omega⟩
              clear ho hb HOP HO4 HBL4 hk1 hk2 hk3 hD hxk
              go_wp2
              go_loopw [11] (fun iv wr => ∃ i : Nat, i ≤ l0.length ∧ iv = .int .i64 i ∧ Hid (One B (Both (Both NoP (ScF s b x)) (ScF k b xk)) b D wr ∧ Below B w1 wr)) (fun iv _ => l0.length - (RowKit.intOf iv).toNat)
              case atStart => exact ⟨0, Nat.zero_le _, rfl, HO5.out, HBL5.out⟩
              case round =>
                clear HO5 HBL5
                obtain ⟨i, hi, rfl, HJ⟩ := hrel
                by_cases hlt : i < l0.length
                · have HBW : Hid (Below w.heap.size w wr) := HB1.out.trans (HJ.out.2.mono HZ.out.1)
                  obtain ⟨bb, off, rfl, hbb, e0, e1⟩ := HS.out.fed HBW.out i hlt
                  have hw1 : wrap64 ((i : Int) + 1) = i + 1 := IntWalk.wrap64_in _ (by have := HOK.out.2; omega)
                  rw [(keyF_at2 hlt).1] at e0
                  have hi0 : (0 : Int) ≤ (i : Int) := by omega
                  have hil : (i : Int) < (l0.length : Int) := by omega
                  have HLT := Lib.hid hlt
                  have HFI := Lib.hid (find_any (HF1.out s b x) HJ.out.1 HXB.out.1 HXB.out.2 (keyF l0 i) (HKW.out.below HJ.out.2 HZ.out.2) HZ.out.2 (big_of HTD.out) HPK.out)
                  clear hbb hlt e1
                  rcases HFK.out i HLT.out with hin | hin
                  · rw [hin] at HFI
                    go_wp2_with fail
                    refine HFI.out.mono ?_
                    rintro e w6 ⟨rfl, ho, hb⟩
                    have HO6 := Lib.hid ho
                    have HB6 := Lib.hid (HJ.out.2.trans hb)
                    have HBW6 : Hid (Below w.heap.size w w6) := HB1.out.trans (HB6.out.mono HZ.out.1)
                    have e1' : w6.cell? ⟨bb, off + i * 2 + 1, none⟩ = some (.string (txtF l0 i)) := by
                      obtain ⟨b3, o3, q3, _, _, c3⟩ := HS.out.fed HBW6.out i HLT.out
                      injection q3 with q3
                      injection q3 with q1 q2 _
                      subst q1
                      subst q2
                      rw [← (keyF_at2 HLT.out).2]
                      exact c3
                    clear ho hb HFI e0 hin
                    go_wp2
                    go_roundw
                    case rel => exact ⟨i + 1, HLT.out, by rw [hw1]; rfl, HO6.out, HB6.out⟩
                    case measure => exact meas_lt HLT.out hw1
                  · rw [hin] at HFI
                    go_wp2_with fail
                    refine HFI.out.mono ?_
                    rintro e w6 ⟨rfl, ho, hb⟩
                    have HO6 := Lib.hid ho
                    have HB6 := Lib.hid (HJ.out.2.trans hb)
                    clear ho hb HFI e0 hin
                    go_wp2
                    go_roundw
                    case rel => exact ⟨i + 1, HLT.out, by rw [hw1]; rfl, HO6.out, HB6.out⟩
                    case measure => exact meas_lt HLT.out hw1
                · have hii : ¬ (i : Int) < (l0.length : Int) := by omega
                  clear hlt hi
                  have HEN := Lib.hid (entries_any (HF1.out s b x) HJ.out.1 HXB.out.1 HXB.out.2)
                  go_wp2_with fail
                  refine HEN.out.mono ?_
                  rintro e w6 ⟨v, rfl, hc, hb⟩
                  obtain ⟨va, vc, rfl⟩ := cgs_len hc
                  have HO6 := Lib.hid (HJ.out.1.keep (fixed_both (HF1.out s b x) (fixed_sc k b xk)) hb)
                  have HB6 := Lib.hid (HJ.out.2.trans (hb.mono HJ.out.1.1))
                  obtain ⟨ln, hln⟩ : ∃ ln, ln = (amongK xk.e xk.f 0 (roomN xk.n)).length := ⟨_, rfl⟩
                  have hle : ln ≤ roomN xk.n := by rw [hln]; exact Nat.le_trans (amongK_len _ _ _ _) (Nat.sub_le _ _)
                  rw [← hln]
                  clear hb hc HEN hln
                  have HRO : Hid (Calls Tryd.prog 14 #[.pointer (some ⟨k, 0, none⟩)] w6 fun e w' => e = .returned (.int .i64 (roomN xk.n : Nat)) ∧ Below w6.heap.size w6 w') := by
                    obtain ⟨m, hs, _⟩ := HO6.out.secE (HF1.out s b x)
                    exact room_any k b m xk w6 hs.box HXB.out.2
                  obtain ⟨rm, hrm⟩ : ∃ rm, rm = roomN xk.n := ⟨_, rfl⟩
                  rw [← hrm] at HRO hle
                  have d1 : (ln : Int) ≤ (rm : Int) := by omega
                  clear hrm hle
                  go_wp2_with fail
                  refine HRO.out.mono ?_
                  rintro e w7 ⟨rfl, hb⟩
                  have HBW7 : Hid (Below w.heap.size w w7) := HB1.out.trans ((HB6.out.trans (hb.mono HO6.out.1)).mono HZ.out.1)
                  clear hb HRO
                  go_wp2_with fail
                  refine (HLV.out _ HBW7.out).mono ?_
                  rintro e w8 ⟨rfl, hb⟩
                  have HB8 := Lib.hid (HBW7.out.trans (hb.mono HBW7.out.size))
                  clear hb
                  go_wp2
                  go_ret
                  exact ⟨rfl, HB8.out⟩
end Go.Proofs.YtopinlnjdgedeaaDoor.secondCrash
