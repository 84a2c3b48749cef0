/-
  The walk of HeatFades.
-/
import Derived.Test.YtgdlnifncmiebaaHeatLive
import Derived.Test.YtgdlnifncmiebaaHeatMath
import Derived.Test.YtgdlnifncmiebaaHeatMath
import Derived.Test.YtgdlnifncmiebaaHeatMath
import Derived.Test.YtgdlnifncmiebaaFrame
import Derived.Test.YtgdlnifncmiebaaOpenHeat
namespace Go.Proofs.Ytgdlnifncmiebaa.heatFades
open Go.RowKit Go.ChangeShapes Go.WideShapes Go.ChangeAt

set_option maxRecDepth 100000 in
set_option maxHeartbeats 4000000 in
theorem walk (w : World) (x0 : Option Addr) (c0 : Nat) (l0 : List OpH) (s0 : SlE w 4 OpHK x0 l0) (_m0 : l0.length ≤ maxLen) (a1 : ByteArray) (w1 : a1.size ≤ 140737488351232) (a2 : Int) (w2 : (Lit.int .i64 a2).wf = true) :
    Calls Try.prog 4 #[.slice x0 l0.length c0, .string a1, .int .i64 a2] w fun e w' => e = .returned (.bool true) ∧ Below w.heap.size w w' := by
  have HS := Lib.hid s0
  have HOS := Lib.hid (okS_of s0)
  have HIN := Lib.hid (in64_of w2)
  have HK : Hid (a1.size ≤ maxLen) := by show a1.size ≤ maxLen; unfold maxLen; omega
  clear s0 w1 w2
  by_cases hc0 : 50 < l0.length
  · have e0 : decide ((50 : Int) < (l0.length : Int)) = true := decide_eq_true (by omega)
    go_enter Try.func4, Try.ntmps4
    go_wp2_with fail
    refine (live_any _).mono ?_
    rintro e w9 ⟨rfl, hb⟩
    have HB9 : Hid (Below w.heap.size w w9) := hb
    clear hb
    go_wp2
    go_ret
    exact ⟨rfl, HB9.out⟩
  · have e0 : decide ((50 : Int) < (l0.length : Int)) = false := decide_eq_false (by omega)
    by_cases hc1 : a2 < 0
    · have e1 : decide (a2 < 0) = true := decide_eq_true hc1
      go_enter Try.func4, Try.ntmps4
      go_wp2_with fail
      refine (live_any _).mono ?_
      rintro e w9 ⟨rfl, hb⟩
      have HB9 : Hid (Below w.heap.size w w9) := hb
      clear hb
      go_wp2
      go_ret
      exact ⟨rfl, HB9.out⟩
    · have e1 : decide (a2 < 0) = false := decide_eq_false hc1
      by_cases hc2 : 1099511627776 < a2
      · have e2 : decide (1099511627776 < a2) = true := decide_eq_true hc2
        go_enter Try.func4, Try.ntmps4
        go_wp2_with fail
        refine (live_any _).mono ?_
        rintro e w9 ⟨rfl, hb⟩
        have HB9 : Hid (Below w.heap.size w w9) := hb
        clear hb
        go_wp2
        go_ret
        exact ⟨rfl, HB9.out⟩
      · have e2 : decide (1099511627776 < a2) = false := decide_eq_false hc2
        go_enter Try.func4, Try.ntmps4
        go_wp2_with fail
        refine (one_new w.heap.size w (Nat.le_refl _)).mono ?_
        rintro e w1 ⟨b, rfl, ho, hb⟩
        have HO := Lib.hid ho
        have HB := Lib.hid hb
        clear ho hb e0 e1 e2
        go_wp2_with fail
        go_loopw [8] (fun i wr => ∃ j : Nat, j ≤ l0.length ∧ i = .int .i64 j ∧ Hid (OneH w.heap.size NoP b (runH [] (l0.take j)) wr) ∧ Hid (Below w.heap.size w wr) ∧ Hid (∀ y ∈ l0.take j, y.2.2.1 ≤ a2)) (fun i _ => l0.length - (intOf i).toNat)
        case atStart => exact ⟨0, Nat.zero_le _, rfl, HO, HB, fun _ h => by simp at h⟩
        case round =>
          clear HO HB
          rename_i hkl1
          obtain ⟨j, hj, rfl, HO, HB, HUP⟩ := hrel
          by_cases hlt : j < l0.length
          · clear hkl1
            obtain ⟨b1, off, rfl, hbl, q0, q1, q2, q3, hks, hwf, hwf2⟩ := HS.out.hop HB.out j hlt
            have h0 : (0 : Int) ≤ (j : Int) := by omega
            have hj1 : (j : Int) < (l0.length : Int) := by omega
            have HT := Lib.hid (List.take_succ_eq_append_getElem hlt)
            have HOKM := Lib.hid (run_ok (l0.take j) [] nil_ok (HOS.out.take j) (by simp only [List.length_nil, List.length_take]; omega))
            have HN64 := Lib.hid (in64_of hwf)
            have HKS := Lib.hid hks
            have HXM : Hid (l0[j] ∈ l0) := List.getElem_mem hlt
            generalize hx : l0[j] = x at *
            obtain ⟨xd, xk, xn, xm⟩ := x
            dsimp only at q0 q1 q2 q3 HN64 HKS
            clear hwf hwf2 hks hbl q0 q3 hx
            by_cases hx0 : xn < 0
            · have d0 : decide (xn < 0) = true := decide_eq_true hx0
              go_wp2_with fail
              refine (live_any _).mono ?_
              rintro e w9 ⟨rfl, hb⟩
              have HB9 : Hid (Below w.heap.size w w9) := (HB.out.trans (hb.mono HB.out.size))
              clear hb
              go_wp2
              go_ret
              exact ⟨rfl, HB9.out⟩
            · have d0 : decide (xn < 0) = false := decide_eq_false hx0
              by_cases hx1 : a2 < xn
              · have d1 : decide (a2 < xn) = true := decide_eq_true hx1
                go_wp2_with fail
                refine (live_any _).mono ?_
                rintro e w9 ⟨rfl, hb⟩
                have HB9 : Hid (Below w.heap.size w w9) := (HB.out.trans (hb.mono HB.out.size))
                clear hb
                go_wp2
                go_ret
                exact ⟨rfl, HB9.out⟩
              · have d1 : decide (a2 < xn) = false := decide_eq_false hx1
                have HUP2 : Hid (∀ y ∈ l0.take (j + 1), y.2.2.1 ≤ a2) := by
                  intro y hy
                  rw [HT.out] at hy
                  rcases List.mem_append.1 hy with h | h
                  · exact HUP.out y h
                  · rw [List.mem_singleton] at h; subst h; show xn ≤ a2; omega
                go_wp2_with fail
                refine wp_region_sched (fun W => W.cell? ⟨b1, off + j * 4 + 1, none⟩ = some (.string xk) ∧ W.cell? ⟨b1, off + j * 4 + 2, none⟩ = some (.int .i64 xn)) 11 [(0, false), (1, false), (2, false), (3, false), (4, false), (5, false), (6, false), (7, false), (8, false), (9, false), (10, false)] (by kernel_rfl) (by kernel_rfl) ⟨q1, q2⟩ ?_
                simp only [List.drop_succ_cons, List.drop_zero]
                iterate 11 (apply wpSch_step rfl; (intro W hS K hK; obtain ⟨r1, r2⟩ := hS; go_simp; exact hK _ rfl))
                refine wpSch_nil ?_
                go_wp2_with fail
                refine (one_touch fixed_no (OneH.keep fixed_no HO.out (Below.refl _ _).drew) xk xn HKS.out HOKM.out HN64.out).mono ?_
                rintro e w2 ⟨rfl, ho, hb⟩
                rw [← run_snoc [] (l0.take j) (xd, xk, xn, xm), ← HT.out] at ho
                have HO2 := Lib.hid ho
                have HB2 : Hid (Below w.heap.size w w2) := HB.out.trans (⟨hb.os, hb.tape, hb.output, hb.size, hb.block⟩ : Below w.heap.size wr w2)
                clear ho hb q1 q2
                go_wp2
                go_roundw
                case rel => exact ⟨j + 1, by omega, by go_num, HO2, HB2, HUP2⟩
                case measure => simp [intOf]; omega
          · have hjl : j = l0.length := by omega
            subst hjl
            rw [List.take_of_length_le (Nat.le_refl _)] at HO HUP
            have HOKM : Hid (OkM (runH [] l0)) := run_ok l0 [] nil_ok HOS.out (by simp only [List.length_nil]; omega)
            have HUPM : Hid (Upto (runH [] l0) a2) := upto_run l0 [] (fun _ h => by cases h) HUP.out
            have HLM : Hid ((runH [] l0).length < 80000) := by have := run_len l0 []; simp only [List.length_nil] at this; show _ < _; omega
            generalize runH [] l0 = M at *
            have w1x : IntKind.i64.wrap (a2 + 1) = a2 + 1 := IntWalk.i64_in _ ⟨by omega, by omega⟩
            go_wp2_with fail
            refine (one_value fixed_no HO.out a1 a2 HK.out HOKM.out HIN.out.2).mono ?_
            rintro e w2 ⟨rfl, ho, hb⟩
            have HO := Lib.hid ho
            have HB := Lib.hid (HB.out.trans (hb.mono HB.out.size))
            clear ho hb
            go_wp2_with fail
            refine (one_value fixed_no HO.out a1 (a2 + 1) HK.out HOKM.out (by omega)).mono ?_
            rintro e w3 ⟨rfl, ho, hb⟩
            rw [value_next HOKM.out HUPM.out a1]
            have HO := Lib.hid ho
            have HB := Lib.hid (HB.out.trans (hb.mono HB.out.size))
            clear ho hb w1x
            have HVT := Lib.hid (value_touch HUPM.out a1)
            have HVB := Lib.hid (value_bounds HOKM.out a1 a2)
            go_wp2_with fail
            refine (one_touch fixed_no HO.out a1 a2 HK.out HOKM.out HIN.out).mono ?_
            rintro e w4 ⟨rfl, ho, hb⟩
            have HO := Lib.hid ho
            have HB := Lib.hid (HB.out.trans hb)
            clear ho hb
            have HOKT := Lib.hid (touch_ok HOKM.out a1 HIN.out HLM.out)
            go_wp2_with fail
            refine (one_value fixed_no HO.out a1 a2 HK.out HOKT.out HIN.out.2).mono ?_
            rintro e w5 ⟨rfl, ho, hb⟩
            rw [HVT.out]
            have HB := Lib.hid (HB.out.trans (hb.mono HB.out.size))
            clear ho hb HO
            generalize valueM M a1 a2 = v at *
            have v0 := HVB.out.1
            have v1 := HVB.out.2
            have k1 : Int.tdiv v 2 = v / 2 := Int.tdiv_eq_ediv_of_nonneg v0
            have k2 : IntKind.i64.wrap (v / 2) = v / 2 := IntWalk.i64_in _ ⟨by omega, by omega⟩
            have k3 : IntKind.i64.wrap (v + 16) = v + 16 := IntWalk.i64_in _ ⟨by omega, by omega⟩
            have k4 : (if 1048576 < v + 16 then (1048576 : Int) else v + 16) = min (v + 16) 1048576 := by split <;> omega
            obtain ⟨mm, hmm⟩ : ∃ m, m = min (v + 16) 1048576 := ⟨_, rfl⟩
            rw [← hmm] at k4 ⊢
            clear v0 v1 hmm
            go_wp2_with fail
            refine (live_any _).mono ?_
            rintro e w9 ⟨rfl, hb⟩
            have HB9 : Hid (Below w.heap.size w w9) := (HB.out.trans (hb.mono HB.out.size))
            clear hb
            go_wp2
            go_ret
            exact ⟨rfl, HB9.out⟩
end Go.Proofs.Ytgdlnifncmiebaa.heatFades
