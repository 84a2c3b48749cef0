/-
  The walk of HeatHot.
-/
import Derived.Test.YtgdlnifncmiebaaHeatLive
import Derived.Test.YtgdlnifncmiebaaHeatMath2
import Derived.Test.YtgdlnifncmiebaaHeatMath2
import Derived.Test.YtgdlnifncmiebaaHeatMath2
import Derived.Test.YtgdlnifncmiebaaHeatMath2
import Derived.Test.YtgdlnifncmiebaaHeatMath2
import Derived.Test.YtgdlnifncmiebaaHeatMath2
import Derived.Test.YtgdlnifncmiebaaHeatMath2
import Derived.Test.YtgdlnifncmiebaaHeatMath2
import Derived.Test.YtgdlnifncmiebaaHeatMath2
import Derived.Test.YtgdlnifncmiebaaHeatMath2
import Derived.Test.YtgdlnifncmiebaaHeatMath2
import Derived.Test.YtgdlnifncmiebaaHeatMath2
import Derived.Test.YtgdlnifncmiebaaFrame
import Derived.Test.YtgdlnifncmiebaaOpenHeat
namespace Go.Proofs.Ytgdlnifncmiebaa.heatHot
open Go.RowKit Go.ChangeShapes Go.WideShapes Go.ChangeAt

theorem str_geq (x y : ByteArray) (W : World) : (binOp .geq 9 (.string x) (.string y)).run Try.prog W = .ok (.bool (!Op.bytesLess x.toList y.toList)) W := by kernel_rfl

set_option maxRecDepth 100000 in
set_option maxHeartbeats 4000000 in
theorem walk (w : World) (x0 : Option Addr) (c0 : Nat) (l0 : List OpH) (s0 : SlE w 4 OpHK x0 l0) (_m0 : l0.length ≤ maxLen) (a1 : Int) (w1 : (Lit.int .i64 a1).wf = true) (a2 : Int) (_w2 : (Lit.int .i64 a2).wf = true) :
    Calls Try.prog 5 #[.slice x0 l0.length c0, .int .i64 a1, .int .i64 a2] w fun e w' => e = .returned (.bool true) ∧ Below w.heap.size w w' := by
  have HS := Lib.hid s0
  have HOS := Lib.hid (okS_of s0)
  have HIN := Lib.hid (in64_of w1)
  clear s0 w1
  by_cases hc0 : 60 < l0.length
  · have e0 : decide ((60 : Int) < (l0.length : Int)) = true := decide_eq_true (by omega)
    go_enter Try.func5, Try.ntmps5
    go_wp2_with fail
    refine (live_any _).mono ?_
    rintro e w9 ⟨rfl, hb⟩
    have HB9 : Hid (Below w.heap.size w w9) := hb
    clear hb
    go_wp2
    go_ret
    exact ⟨rfl, HB9.out⟩
  · have e0 : decide ((60 : Int) < (l0.length : Int)) = false := decide_eq_false (by omega)
    by_cases hc1 : a2 < 0
    · have e1 : decide (a2 < 0) = true := decide_eq_true hc1
      go_enter Try.func5, Try.ntmps5
      go_wp2_with fail
      refine (live_any _).mono ?_
      rintro e w9 ⟨rfl, hb⟩
      have HB9 : Hid (Below w.heap.size w w9) := hb
      clear hb
      go_wp2
      go_ret
      exact ⟨rfl, HB9.out⟩
    · have e1 : decide (a2 < 0) = false := decide_eq_false hc1
      by_cases hc2 : 100 < a2
      · have e2 : decide (100 < a2) = true := decide_eq_true hc2
        go_enter Try.func5, Try.ntmps5
        go_wp2_with fail
        refine (live_any _).mono ?_
        rintro e w9 ⟨rfl, hb⟩
        have HB9 : Hid (Below w.heap.size w w9) := hb
        clear hb
        go_wp2
        go_ret
        exact ⟨rfl, HB9.out⟩
      · have e2 : decide (100 < a2) = false := decide_eq_false hc2
        have HA2 : Hid (0 ≤ a2 ∧ a2 ≤ 100) := ⟨by omega, by omega⟩
        go_enter Try.func5, Try.ntmps5
        go_wp2_with fail
        refine (one_new w.heap.size w (Nat.le_refl _)).mono ?_
        rintro e w1 ⟨b, rfl, ho, hb⟩
        have HO := Lib.hid ho
        have HB := Lib.hid hb
        clear ho hb e0 e1 e2 hc1 hc2
        go_wp2_with fail
        go_loopw [8] (fun i wr => ∃ j : Nat, j ≤ l0.length ∧ i = .int .i64 j ∧ Hid (OneH w.heap.size NoP b (runH [] (l0.take j)) wr) ∧ Hid (Below w.heap.size w wr)) (fun i _ => l0.length - (intOf i).toNat)
        case atStart => exact ⟨0, Nat.zero_le _, rfl, HO, HB⟩
        case round =>
          clear HO HB
          rename_i hkl1
          obtain ⟨j, hj, rfl, HO, HB⟩ := hrel
          by_cases hlt : j < l0.length
          · clear hkl1
            obtain ⟨b1, off, rfl, hbl, q0, q1, q2, q3, hks, hwf, hwf2⟩ := HS.out.hop HB.out j hlt
            have h0 : (0 : Int) ≤ (j : Int) := by omega
            have hj1 : (j : Int) < (l0.length : Int) := by omega
            have HT := Lib.hid (List.take_succ_eq_append_getElem hlt)
            have HOKM := Lib.hid (run_ok (l0.take j) [] nil_ok (HOS.out.take j) (by simp only [List.length_nil, List.length_take]; omega))
            have HN64 := Lib.hid (in64_of hwf)
            have HKS := Lib.hid hks
            have HXM : Hid (l0[j] ∈ l0) := List.getElem_mem hlt
            generalize hx : l0[j] = x at *
            obtain ⟨xd, xk, xn, xm⟩ := x
            dsimp only at q0 q1 q2 q3 HN64 HKS
            clear hwf hwf2 hks hbl q0 q3 hx

            go_wp2_with fail
            refine wp_region_sched (fun W => W.cell? ⟨b1, off + j * 4 + 1, none⟩ = some (.string xk) ∧ W.cell? ⟨b1, off + j * 4 + 2, none⟩ = some (.int .i64 xn)) 11 [(0, false), (1, false), (2, false), (3, false), (4, false), (5, false), (6, false), (7, false), (8, false), (9, false), (10, false)] (by kernel_rfl) (by kernel_rfl) ⟨q1, q2⟩ ?_
            simp only [List.drop_succ_cons, List.drop_zero]
            iterate 11 (apply wpSch_step rfl; (intro W hS K hK; obtain ⟨r1, r2⟩ := hS; go_simp; exact hK _ rfl))
            refine wpSch_nil ?_
            go_wp2_with fail
            refine (one_touch fixed_no (OneH.keep fixed_no HO.out (Below.refl _ _).drew) xk xn HKS.out HOKM.out HN64.out).mono ?_
            rintro e w2 ⟨rfl, ho, hb⟩
            rw [← run_snoc [] (l0.take j) (xd, xk, xn, xm), ← HT.out] at ho
            have HO2 := Lib.hid ho
            have HB2 : Hid (Below w.heap.size w w2) := HB.out.trans (⟨hb.os, hb.tape, hb.output, hb.size, hb.block⟩ : Below w.heap.size wr w2)
            clear ho hb q1 q2
            go_wp2
            go_roundw
            case rel => exact ⟨j + 1, by omega, by go_num, HO2, HB2⟩
            case measure => simp [intOf]; omega
          · have hjl : j = l0.length := by omega
            subst hjl
            rw [List.take_of_length_le (Nat.le_refl _)] at HO
            have HOKM : Hid (OkM (runH [] l0)) := run_ok l0 [] nil_ok HOS.out (by simp only [List.length_nil]; omega)
            have HKM : Hid (KeyOk (runH [] l0)) := keyok_run l0 [] (fun _ h => by cases h) HOS.out
            have HND : Hid (NoDup (runH [] l0)) := nodup_run l0 [] List.Pairwise.nil
            generalize runH [] l0 = M at *
            go_wp2_with fail
            refine (one_hot fixed_no HO.out a1 a2 HOKM.out HIN.out.2).mono ?_
            rintro e w2 ⟨x, rfl, hx, ho, hb⟩
            have HO2 := Lib.hid (OneH.row fixed_no HO.out hb hx)
            have HB2 := Lib.hid (HB.out.trans (hb.mono HB.out.size))
            obtain ⟨l, hl⟩ : ∃ l, l = hotM M a1 a2 := ⟨_, rfl⟩
            have hlen : l.length ≤ a2.toNat := by rw [hl]; exact hot_len (M := M) a1 a2
            have HP1 : Hid (∀ i (h : i < l.length), 1 ≤ valueM M l[i] a1) := by subst hl; exact fun i h => hot_pos HND.out a1 a2 h
            have HP2 : Hid (∀ i (h : i + 1 < l.length), valueM M l[i + 1] a1 ≤ valueM M l[i] a1 ∧ (valueM M l[i] a1 = valueM M l[i + 1] a1 → Op.bytesLess l[i].toList l[i + 1].toList = true)) := by subst hl; exact fun i h => hot_order HND.out a1 a2 h
            have HP3 : Hid (∀ k, k ∉ l → 0 < valueM M k a1 → 0 < a2 → l.length = a2.toNat ∧ ∃ h : a2.toNat - 1 < l.length, valueM M k a1 ≤ valueM M l[a2.toNat - 1] a1) := by subst hl; exact fun k h1 h2 h3 => hot_out HND.out a1 a2 h1 h2 h3
            have HP4 : Hid (∀ k ∈ l, k.size ≤ maxLen) := by subst hl; exact fun k h => hot_size HKM.out h
            rw [← hl] at hx HO2
            clear hl
            obtain ⟨xa, xc, rfl, hxv⟩ := hx.view
            have HFR : Hid (Fixed (Both NoP (RowF (.slice xa l.length xc) l))) := fixed_both fixed_no (fixed_row _ _)
            clear ho hb hx hxv HO HB
            have hle : decide (a2 < (l.length : Int)) = false := decide_eq_false (by have := HA2.out; omega)
            have hln : l.length ≤ 100 := by have := HA2.out; omega
            go_wp2_with fail
            clear hle hlen
            go_loopw [10] (fun i wr => ∃ j : Nat, j ≤ l.length ∧ i = .int .i64 j ∧ Hid (OneH w.heap.size (Both NoP (RowF (.slice xa l.length xc) l)) b M wr) ∧ Hid (Below w.heap.size w wr)) (fun i _ => l.length - (intOf i).toNat)
            case atStart => exact ⟨0, Nat.zero_le _, rfl, HO2, HB2⟩
            case round =>
              clear HO2 HB2
              rename_i hkl1
              obtain ⟨j, hj, rfl, HO, HB⟩ := hrel
              by_cases hlt : j < l.length
              · clear hkl1
                obtain ⟨bx, ox, rfl, hbx, hcx⟩ : ∃ bx ox, xa = some ⟨bx, ox, none⟩ ∧ bx < wr.heap.size ∧ ∀ i y, l[i]? = some y → wr.cell? ⟨bx, ox + i, none⟩ = some (.string y) := by
                  obtain ⟨a, c, h, hs⟩ := HO.out.rowed.view
                  cases h
                  exact hs (by intro e; rw [e] at hlt; simp at hlt)
                have HCX := Lib.hid hcx
                have q0 := hcx j _ (List.getElem?_eq_getElem hlt)
                have h0 : (0 : Int) ≤ (j : Int) := by omega
                have hj1 : (j : Int) < (l.length : Int) := by omega
                have HV1 := Lib.hid (HP1.out j hlt)
                have HX1 := Lib.hid (HP4.out _ (List.getElem_mem hlt))
                obtain ⟨x, hxx⟩ : ∃ x, x = l[j] := ⟨_, rfl⟩
                rw [← hxx] at q0 HV1 HX1
                have HXX := Lib.hid hxx
                clear hcx hxx
                go_wp2_with fail
                refine (one_value HFR.out HO.out x a1 HX1.out HOKM.out HIN.out.2).mono ?_
                rintro e w4 ⟨rfl, ho, hb⟩
                have HO2 := Lib.hid ho
                have HB2 := Lib.hid (HB.out.trans (hb.mono HB.out.size))
                have HVAL : Hid (∀ W k, Below w4.heap.size w4 W → k.size ≤ maxLen → Calls Try.prog 15 #[.pointer (some ⟨b, 0, none⟩), .string k, .int .i64 a1] W fun e w' => e = .returned (.int .i64 (valueM M k a1)) ∧ Below W.heap.size W w') := fun W k hW hk => (one_value HFR.out (OneH.keep HFR.out HO2.out hW) k a1 hk HOKM.out HIN.out.2).mono fun _ _ hh => ⟨hh.1, hh.2.2⟩
                have HCX2 : Hid (∀ i y, l[i]? = some y → w4.cell? ⟨bx, ox + i, none⟩ = some (.string y)) := fun i y hy => (hb.cell (p := ⟨bx, ox + i, none⟩) hbx).trans (HCX.out i y hy)
                clear ho hb q0 hbx
                obtain ⟨v, hv⟩ : ∃ v, v = valueM M x a1 := ⟨_, rfl⟩
                rw [← hv] at HV1 ⊢
                have HVV := Lib.hid hv
                clear hv
                have d0 : decide (v < 1) = false := decide_eq_false (by have := HV1.out; omega)
                by_cases hj0 : j = 0
                · subst hj0
                  go_wp2_with fail
                  refine wp_region_sched (fun _ => True) 37 [(0, false), (1, false), (2, false), (3, false), (4, false), (5, false), (6, false), (7, false), (8, false), (9, false), (10, false), (11, false), (12, false), (14, false), (13, true), (15, false), (16, false), (17, false), (18, false), (19, false), (20, false), (21, false), (22, false), (23, false), (25, false), (24, true), (26, false), (27, false), (28, false), (29, false), (30, false), (31, false), (32, false), (33, false), (34, false), (35, false), (36, false)] (by kernel_rfl) (by kernel_rfl) trivial ?_
                  simp only [List.drop_succ_cons, List.drop_zero]
                  iterate 14 (apply wpSch_step rfl; (intro W hS K hK; go_simp; exact hK _ rfl))
                  refine wpSch_make rfl (fun K' hK => ?_)
                  go_simp
                  refine hK _ _ _ (fun _ h => h) trivial ?_
                  clear hK K'
                  iterate 10 (apply wpSch_step rfl; (intro W hS K hK; go_simp; exact hK _ rfl))
                  refine wpSch_make rfl (fun K' hK => ?_)
                  go_simp
                  refine hK _ _ _ (fun _ h => h) trivial ?_
                  clear hK K'
                  iterate 11 (apply wpSch_step rfl; (intro W hS K hK; go_simp; exact hK _ rfl))
                  refine wpSch_nil ?_
                  go_wp2
                  go_roundw
                  case rel => exact ⟨1, by omega, rfl, OneH.keep HFR.out HO2.out (Below.refl _ _).drew, HB2.out.drew⟩
                  case measure => simp [intOf]; omega
                · obtain ⟨i, hi⟩ : ∃ i, j = i + 1 := ⟨j - 1, by omega⟩
                  have d1 : decide ((0 : Int) < (j : Int)) = true := decide_eq_true (by omega)
                  have d5 : 0 < j := by omega
                  have hil : i < l.length := by omega
                  have p1 := HCX2.out i _ (List.getElem?_eq_getElem hil)
                  have p2 := HCX2.out j _ (List.getElem?_eq_getElem hlt)
                  have hord := HP2.out i (by omega)
                  have HY := Lib.hid (HP4.out _ (List.getElem_mem hil))
                  have HXX2 : x = l[i + 1]'(by omega) := by have := HXX.out; subst hi; exact this
                  rw [← HXX2, ← HVV.out] at hord
                  rw [← HXX.out] at p2
                  have HVY : Hid (∀ W, Below w4.heap.size w4 W → Calls Try.prog 15 #[.pointer (some ⟨b, 0, none⟩), .string l[i], .int .i64 a1] W fun e w' => e = .returned (.int .i64 (valueM M l[i] a1)) ∧ Below W.heap.size W w') := fun W hW => HVAL.out W _ hW HY.out
                  clear HXX2 HVAL HXX
                  generalize l[i] = y at *
                  generalize valueM M y a1 = v2 at *
                  have w1x : IntKind.i64.wrap ((j : Int) - 1) = (i : Int) := by rw [IntWalk.i64_in _ ⟨by omega, by omega⟩]; omega
                  have n0 : (0 : Int) ≤ (i : Int) := by omega
                  have n1 : (i : Int) < (l.length : Int) := by omega
                  have d2 : decide (v2 < v) = false := decide_eq_false (by have := hord.1; omega)
                  by_cases hvv : v2 = v
                  · have d3 : (v2 == v) = true := by rw [hvv]; simp
                    have d4 := hord.2 hvv
                    have hge : ∀ W, (binOp .geq 9 (.string y) (.string x)).run Try.prog W = .ok (.bool false) W := fun W => by rw [str_geq, d4]; rfl
                    clear d4
                    clear hord hvv hi hil
                    go_wp2_with fail
                    refine wp_region_sched (fun W => W.cell? ⟨bx, ox + i, none⟩ = some (.string y) ∧ W.cell? ⟨bx, ox + j, none⟩ = some (.string x)) 37 [(0, false), (1, false), (2, false), (3, false), (4, false), (5, false), (6, false), (7, false), (8, false), (9, false), (10, false), (11, false), (12, false), (14, false), (13, true), (15, false), (16, false), (17, false), (18, false), (19, false), (20, false), (21, false), (22, false), (23, false), (25, false), (24, true), (26, false), (27, false), (28, false), (29, false), (30, false), (31, false), (32, false), (33, false), (34, false), (35, false), (36, false)] (by kernel_rfl) (by kernel_rfl) ⟨p1, p2⟩ ?_
                    simp only [List.drop_succ_cons, List.drop_zero]
                    iterate 14 (apply wpSch_step rfl; (intro W hS K hK; obtain ⟨r1, r2⟩ := hS; go_simp; exact hK _ rfl))
                    refine wpSch_make rfl (fun K' hK => ?_)
                    go_simp
                    refine (HVY.out _ (Below.refl _ _).drew).mono ?_
                    rintro e w5 ⟨rfl, hb⟩
                    have HB5 : Hid (Below w4.heap.size w4 w5) := (⟨hb.os, hb.tape, hb.output, hb.size, hb.block⟩ : Below w4.heap.size w4 w5)
                    have r1 := (HB5.out.cell (p := ⟨bx, ox + i, none⟩) (lt_of_cell p1)).trans p1
                    have r2 := (HB5.out.cell (p := ⟨bx, ox + j, none⟩) (lt_of_cell p1)).trans p2
                    refine hK _ _ _ (fun _ h => h) ⟨r1, r2⟩ ?_
                    clear hK K' hb r1 r2
                    iterate 10 (apply wpSch_step rfl; (intro W hS K hK; obtain ⟨r1, r2⟩ := hS; go_simp; exact hK _ rfl))
                    refine wpSch_make rfl (fun K' hK => ?_)
                    go_simp
                    refine (HVY.out _ HB5.out).mono ?_
                    rintro e w6 ⟨rfl, hb⟩
                    have HB6 : Hid (Below w4.heap.size w4 w6) := HB5.out.trans (hb.mono HB5.out.size)
                    have r1 := (HB6.out.cell (p := ⟨bx, ox + i, none⟩) (lt_of_cell p1)).trans p1
                    have r2 := (HB6.out.cell (p := ⟨bx, ox + j, none⟩) (lt_of_cell p1)).trans p2
                    refine hK _ _ _ (fun _ h => h) ⟨r1, r2⟩ ?_
                    clear hK K' hb r1 r2
                    iterate 11 (apply wpSch_step rfl; (intro W hS K hK; obtain ⟨r1, r2⟩ := hS; go_simp; exact hK _ rfl))
                    refine wpSch_nil ?_
                    clear p1 p2
                    go_wp2
                    go_roundw
                    case rel => exact ⟨j + 1, by omega, by go_num, OneH.keep HFR.out HO2.out HB6.out, HB2.out.trans (HB6.out.mono HB2.out.size)⟩
                    case measure => simp [intOf]; omega
                  · have d3 : (v2 == v) = false := by simpa using hvv
                    clear hord hvv hi hil
                    go_wp2_with fail
                    refine wp_region_sched (fun W => W.cell? ⟨bx, ox + i, none⟩ = some (.string y) ∧ W.cell? ⟨bx, ox + j, none⟩ = some (.string x)) 37 [(0, false), (1, false), (2, false), (3, false), (4, false), (5, false), (6, false), (7, false), (8, false), (9, false), (10, false), (11, false), (12, false), (14, false), (13, true), (15, false), (16, false), (17, false), (18, false), (19, false), (20, false), (21, false), (22, false), (23, false), (25, false), (24, true), (26, false), (27, false), (28, false), (29, false), (30, false), (31, false), (32, false), (33, false), (34, false), (35, false), (36, false)] (by kernel_rfl) (by kernel_rfl) ⟨p1, p2⟩ ?_
                    simp only [List.drop_succ_cons, List.drop_zero]
                    iterate 14 (apply wpSch_step rfl; (intro W hS K hK; obtain ⟨r1, r2⟩ := hS; go_simp; exact hK _ rfl))
                    refine wpSch_make rfl (fun K' hK => ?_)
                    go_simp
                    refine (HVY.out _ (Below.refl _ _).drew).mono ?_
                    rintro e w5 ⟨rfl, hb⟩
                    have HB5 : Hid (Below w4.heap.size w4 w5) := (⟨hb.os, hb.tape, hb.output, hb.size, hb.block⟩ : Below w4.heap.size w4 w5)
                    have r1 := (HB5.out.cell (p := ⟨bx, ox + i, none⟩) (lt_of_cell p1)).trans p1
                    have r2 := (HB5.out.cell (p := ⟨bx, ox + j, none⟩) (lt_of_cell p1)).trans p2
                    refine hK _ _ _ (fun _ h => h) ⟨r1, r2⟩ ?_
                    clear hK K' hb r1 r2
                    iterate 10 (apply wpSch_step rfl; (intro W hS K hK; obtain ⟨r1, r2⟩ := hS; go_simp; exact hK _ rfl))
                    refine wpSch_make rfl (fun K' hK => ?_)
                    go_simp
                    refine (HVY.out _ HB5.out).mono ?_
                    rintro e w6 ⟨rfl, hb⟩
                    have HB6 : Hid (Below w4.heap.size w4 w6) := HB5.out.trans (hb.mono HB5.out.size)
                    have r1 := (HB6.out.cell (p := ⟨bx, ox + i, none⟩) (lt_of_cell p1)).trans p1
                    have r2 := (HB6.out.cell (p := ⟨bx, ox + j, none⟩) (lt_of_cell p1)).trans p2
                    refine hK _ _ _ (fun _ h => h) ⟨r1, r2⟩ ?_
                    clear hK K' hb r1 r2
                    iterate 11 (apply wpSch_step rfl; (intro W hS K hK; obtain ⟨r1, r2⟩ := hS; go_simp; exact hK _ rfl))
                    refine wpSch_nil ?_
                    clear p1 p2
                    go_wp2
                    go_roundw
                    case rel => exact ⟨j + 1, by omega, by go_num, OneH.keep HFR.out HO2.out HB6.out, HB2.out.trans (HB6.out.mono HB2.out.size)⟩
                    case measure => simp [intOf]; omega
              · have hjl : j = l.length := by omega
                subst hjl
                clear HP1 HP2
                go_wp2_with fail
                go_loopw [12] (fun i wr => ∃ j : Nat, j ≤ l0.length ∧ i = .int .i64 j ∧ Hid (OneH w.heap.size (Both NoP (RowF (.slice xa l.length xc) l)) b M wr) ∧ Hid (Below w.heap.size w wr)) (fun i _ => l0.length - (intOf i).toNat)
                case atStart => exact ⟨0, Nat.zero_le _, rfl, HO, HB⟩
                case round =>
                  clear HO HB
                  rename_i hkl2
                  obtain ⟨j, hj, rfl, HO, HB⟩ := hrel
                  by_cases hlt : j < l0.length
                  · by_cases hn0 : 0 < a2
                    · clear hkl2
                      have d0 : decide (0 < a2) = true := decide_eq_true hn0
                      have HN0 := Lib.hid hn0
                      obtain ⟨b1, off, rfl, hbl, q0, q1, q2, q3, hks, hwf, hwf2⟩ := HS.out.hop HB.out j hlt
                      have h0 : (0 : Int) ≤ (j : Int) := by omega
                      have hj1 : (j : Int) < (l0.length : Int) := by omega
                      have HKS := Lib.hid hks
                      generalize l0[j] = x at *
                      obtain ⟨xd, xk, xn, xm⟩ := x
                      dsimp only at q0 q1 q2 q3 HKS
                      have HQ1 := Lib.hid q1
                      clear hwf hwf2 hks q0 q2 q3 hn0
                      go_wp2_with fail
                      refine (one_value HFR.out HO.out xk a1 HKS.out HOKM.out HIN.out.2).mono ?_
                      rintro e w4 ⟨rfl, ho, hb⟩
                      have HO4 := Lib.hid ho
                      have HB4 := Lib.hid (HB.out.trans (hb.mono HB.out.size))
                      have HQ4 : Hid (w4.cell? ⟨b1, off + j * 4 + 1, none⟩ = some (.string xk)) := (hb.cell (p := ⟨b1, off + j * 4 + 1, none⟩) (lt_of_cell q1)).trans q1
                      clear ho hb q1
                      have HNEG : Hid (xk ∉ l → 0 < valueM M xk a1 → l.length = a2.toNat ∧ ∃ h : a2.toNat - 1 < l.length, valueM M xk a1 ≤ valueM M l[a2.toNat - 1] a1) := fun h1 h2 => HP3.out xk h1 h2 HN0.out
                      generalize valueM M xk a1 = v at *
                      go_wp2_with fail
                      go_loopw [14, 15] (fun t i wr2 => ∃ k : Nat, k ≤ l.length ∧ i = .int .i64 k ∧ t = .bool (hasK (l.take k) xk) ∧ Hid (OneH w.heap.size (Both NoP (RowF (.slice xa l.length xc) l)) b M wr2) ∧ Hid (Below w4.heap.size w4 wr2)) (fun _ i _ => l.length - (intOf i).toNat)
                      case atStart => exact ⟨0, Nat.zero_le _, rfl, by simp [hasK], HO4, Below.refl _ _⟩
                      case round =>
                        rename_i hkl3
                        obtain ⟨k, hk, rfl, rfl, HO5, HB5⟩ := hrel
                        by_cases hkt : k < l.length
                        · clear hkl3
                          obtain ⟨bx, ox, rfl, hbx, hcx⟩ : ∃ bx ox, xa = some ⟨bx, ox, none⟩ ∧ bx < wr.heap.size ∧ ∀ i y, l[i]? = some y → wr.cell? ⟨bx, ox + i, none⟩ = some (.string y) := by
                            obtain ⟨a, c, h, hs⟩ := HO5.out.rowed.view
                            cases h
                            exact hs (by intro e; rw [e] at hkt; simp at hkt)
                          have p1 := hcx k _ (List.getElem?_eq_getElem hkt)
                          have p2 := (HB5.out.cell (p := ⟨b1, off + j * 4 + 1, none⟩) (lt_of_cell HQ4.out)).trans HQ4.out
                          have k0 : (0 : Int) ≤ (k : Int) := by omega
                          have k1 : (k : Int) < (l.length : Int) := by omega
                          have HT : Hid (hasK (l.take (k + 1)) xk = (hasK (l.take k) xk || decide (l[k] = xk))) := by
                            show _ = _
                            unfold hasK
                            rw [List.take_succ_eq_append_getElem hkt, List.any_append]
                            simp only [List.any_cons, List.any_nil, Bool.or_false]
                          generalize l[k] = y at *
                          clear hcx hbx
                          cases hh : hasK (l.take k) xk
                          · rw [hh] at HT
                            clear hh
                            have e1 := beq_key y xk
                            by_cases hy : y = xk
                            · have HT2 : Hid (hasK (l.take (k + 1)) xk = true) := by show _ = _; rw [HT.out, decide_eq_true hy]; rfl
                              rw [decide_eq_true hy] at e1
                              clear hy
                              go_wp2_with fail
                              refine wp_region_sched (fun W => W.cell? ⟨bx, ox + k, none⟩ = some (.string y) ∧ W.cell? ⟨b1, off + j * 4 + 1, none⟩ = some (.string xk)) 11 [(0, false), (1, false), (2, false), (3, false), (4, false), (5, false), (6, false), (7, false), (8, false), (9, false), (10, false)] (by kernel_rfl) (by kernel_rfl) ⟨p1, p2⟩ ?_
                              simp only [List.drop_succ_cons, List.drop_zero]
                              iterate 11 (apply wpSch_step rfl; (intro W hS K hK; obtain ⟨r1, r2⟩ := hS; go_simp; exact hK _ rfl))
                              refine wpSch_nil ?_
                              clear p1 p2
                              go_wp2
                              go_roundw
                              case rel => exact ⟨k + 1, by omega, by go_num, by rw [HT2.out], OneH.keep HFR.out HO5.out (Below.refl _ _).drew, HB5.out.drew⟩
                              case measure => simp [intOf]; omega
                            · have HT2 : Hid (hasK (l.take (k + 1)) xk = false) := by show _ = _; rw [HT.out, decide_eq_false hy]; rfl
                              rw [decide_eq_false hy] at e1
                              clear hy
                              go_wp2_with fail
                              refine wp_region_sched (fun W => W.cell? ⟨bx, ox + k, none⟩ = some (.string y) ∧ W.cell? ⟨b1, off + j * 4 + 1, none⟩ = some (.string xk)) 11 [(0, false), (1, false), (2, false), (3, false), (4, false), (5, false), (6, false), (7, false), (8, false), (9, false), (10, false)] (by kernel_rfl) (by kernel_rfl) ⟨p1, p2⟩ ?_
                              simp only [List.drop_succ_cons, List.drop_zero]
                              iterate 11 (apply wpSch_step rfl; (intro W hS K hK; obtain ⟨r1, r2⟩ := hS; go_simp; exact hK _ rfl))
                              refine wpSch_nil ?_
                              clear p1 p2
                              go_wp2
                              go_roundw
                              case rel => exact ⟨k + 1, by omega, by go_num, by rw [HT2.out], OneH.keep HFR.out HO5.out (Below.refl _ _).drew, HB5.out.drew⟩
                              case measure => simp [intOf]; omega
                          · rw [hh] at HT
                            have HT2 : Hid (hasK (l.take (k + 1)) xk = true) := by show _ = _; rw [HT.out]; rfl
                            clear hh
                            go_wp2_with fail
                            refine wp_region_sched (fun _ => True) 11 [(0, false), (1, false), (2, false), (3, false), (4, false), (5, false), (6, false), (7, false), (8, false), (9, false), (10, false)] (by kernel_rfl) (by kernel_rfl) trivial ?_
                            simp only [List.drop_succ_cons, List.drop_zero]
                            iterate 11 (apply wpSch_step rfl; (intro W hS K hK; go_simp; exact hK _ rfl))
                            refine wpSch_nil ?_
                            clear p1 p2
                            go_wp2
                            go_roundw
                            case rel => exact ⟨k + 1, by omega, by go_num, by rw [HT2.out], OneH.keep HFR.out HO5.out (Below.refl _ _).drew, HB5.out.drew⟩
                            case measure => simp [intOf]; omega
                        · have hkl : k = l.length := by omega
                          subst hkl
                          rw [List.take_of_length_le (Nat.le_refl _)]
                          cases hin : hasK l xk
                          · by_cases hv : 0 < v
                            · obtain ⟨z1, z2, z3⟩ := HNEG.out (hasK_not.1 hin) hv
                              have d1 : decide (0 < v) = true := decide_eq_true hv
                              have d2 : decide ((l.length : Int) < a2) = false := decide_eq_false (by omega)
                              obtain ⟨p, he⟩ : ∃ p, p = a2.toNat - 1 := ⟨_, rfl⟩
                              have hel : p < l.length := by omega
                              have w1x : IntKind.i64.wrap ((l.length : Int) - 1) = (p : Int) := by rw [IntWalk.i64_in _ ⟨by omega, by omega⟩]; omega
                              have n0 : (0 : Int) ≤ (p : Int) := by omega
                              have n1 : (p : Int) < (l.length : Int) := by omega
                              obtain ⟨bx, ox, rfl, hbx, hcx⟩ : ∃ bx ox, xa = some ⟨bx, ox, none⟩ ∧ bx < wr.heap.size ∧ ∀ i y, l[i]? = some y → wr.cell? ⟨bx, ox + i, none⟩ = some (.string y) := by
                                obtain ⟨a, c, h, hs⟩ := HO5.out.rowed.view
                                cases h
                                exact hs (by intro e; rw [e] at hel; simp at hel)
                              have p1 := hcx p _ (List.getElem?_eq_getElem hel)
                              have HY := Lib.hid (HP4.out _ (List.getElem_mem hel))
                              have HVY : Hid (Calls Try.prog 15 #[.pointer (some ⟨b, 0, none⟩), .string l[p], .int .i64 a1] wr fun e w' => e = .returned (.int .i64 (valueM M l[p] a1)) ∧ Below wr.heap.size wr w') := (one_value HFR.out HO5.out _ a1 HY.out HOKM.out HIN.out.2).mono fun _ _ hh => ⟨hh.1, hh.2.2⟩
                              have hz : v ≤ valueM M l[p] a1 := by subst he; exact z3
                              generalize l[p] = y at *
                              generalize valueM M y a1 = v2 at *
                              have d3 : decide (v2 < v) = false := decide_eq_false (by omega)
                              clear hcx hbx z1 z2 z3 hz he hel hin hv
                              go_wp2_with fail
                              refine HVY.out.mono ?_
                              rintro e6 w6 ⟨rfl, hb⟩
                              have HB6 := Lib.hid hb
                              clear hb p1
                              go_wp2
                              go_roundw
                              case rel => exact ⟨j + 1, by omega, by go_num, OneH.keep HFR.out HO5.out HB6.out, HB4.out.trans ((HB5.out.trans (HB6.out.mono HB5.out.size)).mono HB4.out.size)⟩
                              case measure => simp [intOf]; omega
                            · have d1 : decide (0 < v) = false := decide_eq_false hv
                              clear hin hv
                              go_wp2
                              go_roundw
                              case rel => exact ⟨j + 1, by omega, by go_num, HO5, HB4.out.trans (HB5.out.mono HB4.out.size)⟩
                              case measure => simp [intOf]; omega
                          · clear hin
                            go_wp2
                            go_roundw
                            case rel => exact ⟨j + 1, by omega, by go_num, HO5, HB4.out.trans (HB5.out.mono HB4.out.size)⟩
                            case measure => simp [intOf]; omega
                    · have d0 : decide (0 < a2) = false := decide_eq_false hn0
                      go_wp2_with fail
                      refine (live_any _).mono ?_
                      rintro e w9 ⟨rfl, hb⟩
                      have HB9 : Hid (Below w.heap.size w w9) := (HB.out.trans (hb.mono HB.out.size))
                      clear hb
                      go_wp2
                      go_ret
                      exact ⟨rfl, HB9.out⟩
                  · have hjl : j = l0.length := by omega
                    subst hjl
                    go_wp2_with fail
                    refine (live_any _).mono ?_
                    rintro e w9 ⟨rfl, hb⟩
                    have HB9 : Hid (Below w.heap.size w w9) := (HB.out.trans (hb.mono HB.out.size))
                    clear hb
                    go_wp2
                    go_ret
                    exact ⟨rfl, HB9.out⟩
end Go.Proofs.Ytgdlnifncmiebaa.heatHot
