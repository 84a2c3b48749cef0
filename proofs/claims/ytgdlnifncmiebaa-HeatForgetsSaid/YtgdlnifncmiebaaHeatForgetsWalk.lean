/-
  The walk of HeatForgets.
-/
import Derived.Test.YtgdlnifncmiebaaHeatLive
import Derived.Test.YtgdlnifncmiebaaHeatRun
import Derived.Test.YtgdlnifncmiebaaFrame
import Derived.Test.YtgdlnifncmiebaaOpenHeat
namespace Go.Proofs.Ytgdlnifncmiebaa.heatForgets
open Go.RowKit Go.ChangeShapes Go.WideShapes Go.ChangeAt

set_option maxRecDepth 100000 in
set_option maxHeartbeats 4000000 in
theorem walk (w : World) (x0 : Option Addr) (c0 : Nat) (l0 : List OpH) (k0 o0 : ByteArray) (t0 : Int) (s0 : SlE w 4 OpHK x0 l0) (_m0 : l0.length ≤ maxLen) (z0 : k0.size ≤ maxLen) (y0 : o0.size ≤ maxLen) (w0 : (Lit.int .i64 t0).wf = true) :
    Calls Try.prog 8 #[.agg #[.slice x0 l0.length c0, .string k0, .string o0, .int .i64 t0]] w fun e w' => e = .returned (.bool true) ∧ Below w.heap.size w w' := by
  have HS := Lib.hid s0
  have HOS := Lib.hid (okS_of s0)
  have HIN := Lib.hid (in64_of w0)
  have HZ := Lib.hid z0
  have HY := Lib.hid y0
  have HBX : Hid (Below w.heap.size w (w.alloc (.cells #[.slice x0 l0.length c0, .string k0, .string o0, .int .i64 t0] 45))) := (Below.refl _ _).alloc (Nat.le_refl _) _
  have BX : Box (w.alloc (.cells #[.slice x0 l0.length c0, .string k0, .string o0, .int .i64 t0] 45)) w.heap.size 45 #[.slice x0 l0.length c0, .string k0, .string o0, .int .i64 t0] := Box.new w _ _
  have q0 := BX.cell 0 _ rfl
  have q1 := BX.cell 1 _ rfl
  have q2 := BX.cell 2 _ rfl
  have q3 := BX.cell 3 _ rfl
  clear s0 w0 z0 y0 BX
  have e1 := beq_key k0 o0
  by_cases hc0 : 40 < l0.length
  · have e2 : decide ((40 : Int) < (l0.length : Int)) = true := decide_eq_true (by omega)
    clear e1
    go_enter Try.func8, Try.ntmps8
    go_wp2_with fail
    go_quiet (fail)
    clear q0 q1 q2 q3
    go_wp2_with fail
    refine (live_any _).mono ?_
    rintro e w9 ⟨rfl, hb⟩
    have HB9 : Hid (Below w.heap.size w w9) := (Below.trans HBX.out (Below.mono (⟨hb.os, hb.tape, hb.output, hb.size, hb.block⟩ : Below _ (w.alloc (.cells #[.slice x0 l0.length c0, .string k0, .string o0, .int .i64 t0] 45)) w9) HBX.out.size))
    clear hb
    go_wp2
    go_ret
    exact ⟨rfl, HB9.out⟩
  · have e2 : decide ((40 : Int) < (l0.length : Int)) = false := decide_eq_false (by omega)
    by_cases hko : k0 = o0
    · rw [decide_eq_true hko] at e1
      clear hko
      go_enter Try.func8, Try.ntmps8
      go_wp2_with fail
      go_quiet (fail)
      clear q0 q1 q2 q3
      go_wp2_with fail
      refine (live_any _).mono ?_
      rintro e w9 ⟨rfl, hb⟩
      have HB9 : Hid (Below w.heap.size w w9) := (Below.trans HBX.out (Below.mono (⟨hb.os, hb.tape, hb.output, hb.size, hb.block⟩ : Below _ (w.alloc (.cells #[.slice x0 l0.length c0, .string k0, .string o0, .int .i64 t0] 45)) w9) HBX.out.size))
      clear hb
      go_wp2
      go_ret
      exact ⟨rfl, HB9.out⟩
    · rw [decide_eq_false hko] at e1
      have HKO := Lib.hid hko
      clear hko
      go_enter Try.func8, Try.ntmps8
      go_wp2_with fail
      go_quiet (fail)
      clear q0 q1 q2 q3
      have HB1 : Hid (Below w.heap.size w ((w.alloc (.cells #[.slice x0 l0.length c0, .string k0, .string o0, .int .i64 t0] 45)).drewN nq)) := ⟨HBX.out.os, HBX.out.tape, HBX.out.output, HBX.out.size, HBX.out.block⟩
      generalize (w.alloc (.cells #[.slice x0 l0.length c0, .string k0, .string o0, .int .i64 t0] 45)).drewN nq = W1 at *
      clear HBX
      go_wp2_with fail
      refine (one_new w.heap.size W1 HB1.out.size).mono ?_
      rintro e w1 ⟨b, rfl, ho, hb⟩
      have HO := Lib.hid ho
      have HB := Lib.hid (HB1.out.trans hb)
      clear ho hb e1 e2
      go_wp2_with fail
      go_loopw [8] (fun i wr => ∃ j : Nat, j ≤ l0.length ∧ i = .int .i64 j ∧ Hid (OneH w.heap.size NoP b (runH [] (l0.take j)) wr) ∧ Hid (Below w.heap.size w wr)) (fun i _ => l0.length - (intOf i).toNat)
      case atStart => exact ⟨0, Nat.zero_le _, rfl, HO, HB⟩
      case round =>
        clear HO HB
        rename_i hkl1
        obtain ⟨j, hj, rfl, HO, HB⟩ := hrel
        by_cases hlt : j < l0.length
        · clear hkl1
          obtain ⟨b1, off, rfl, hbl, q0, q1, q2, q3, hks, hwf, hwf2⟩ := HS.out.hop HB.out j hlt
          have h0 : (0 : Int) ≤ (j : Int) := by omega
          have hj1 : (j : Int) < (l0.length : Int) := by omega
          have HT := Lib.hid (List.take_succ_eq_append_getElem hlt)
          have HOKM := Lib.hid (run_ok (l0.take j) [] nil_ok (HOS.out.take j) (by simp only [List.length_nil, List.length_take]; omega))
          have HN64 := Lib.hid (in64_of hwf)
          have HKS := Lib.hid hks
          have HXM : Hid (l0[j] ∈ l0) := List.getElem_mem hlt
          generalize hx : l0[j] = x at *
          obtain ⟨xd, xk, xn, xm⟩ := x
          dsimp only at q0 q1 q2 q3 HN64 HKS
          clear hwf hwf2 hks hbl q0 q3 hx

          go_wp2_with fail
          refine wp_region_sched (fun W => W.cell? ⟨b1, off + j * 4 + 1, none⟩ = some (.string xk) ∧ W.cell? ⟨b1, off + j * 4 + 2, none⟩ = some (.int .i64 xn)) 11 [(0, false), (1, false), (2, false), (3, false), (4, false), (5, false), (6, false), (7, false), (8, false), (9, false), (10, false)] (by kernel_rfl) (by kernel_rfl) ⟨q1, q2⟩ ?_
          simp only [List.drop_succ_cons, List.drop_zero]
          iterate 11 (apply wpSch_step rfl; (intro W hS K hK; obtain ⟨r1, r2⟩ := hS; go_simp; exact hK _ rfl))
          refine wpSch_nil ?_
          go_wp2_with fail
          refine (one_touch fixed_no (OneH.keep fixed_no HO.out (Below.refl _ _).drew) xk xn HKS.out HOKM.out HN64.out).mono ?_
          rintro e w2 ⟨rfl, ho, hb⟩
          rw [← run_snoc [] (l0.take j) (xd, xk, xn, xm), ← HT.out] at ho
          have HO2 := Lib.hid ho
          have HB2 : Hid (Below w.heap.size w w2) := HB.out.trans (⟨hb.os, hb.tape, hb.output, hb.size, hb.block⟩ : Below w.heap.size wr w2)
          clear ho hb q1 q2
          go_wp2
          go_roundw
          case rel => exact ⟨j + 1, by omega, by go_num, HO2, HB2⟩
          case measure => simp [intOf]; omega
        · have hjl : j = l0.length := by omega
          subst hjl
          rw [List.take_of_length_le (Nat.le_refl _)] at HO
          have HOKM : Hid (OkM (runH [] l0)) := run_ok l0 [] nil_ok HOS.out (by simp only [List.length_nil]; omega)
          generalize runH [] l0 = M at *
          have HV : Hid (valueM (forgetM M k0) o0 t0 = valueM M o0 t0) := by
            show _ = _
            unfold valueM
            rw [forget_other (Ne.symm HKO.out)]
          have HV0 : Hid (valueM (forgetM M k0) k0 t0 = 0) := by
            show _ = _
            unfold valueM
            rw [forget_same]
          go_wp2_with fail
          refine (one_value fixed_no HO.out o0 t0 HY.out HOKM.out HIN.out.2).mono ?_
          rintro e w2 ⟨rfl, ho, hb⟩
          rw [← HV.out]
          have HO := Lib.hid ho
          have HB := Lib.hid (HB.out.trans (hb.mono HB.out.size))
          clear ho hb
          go_wp2_with fail
          refine (one_forget fixed_no HO.out k0 HZ.out).mono ?_
          rintro e w3 ⟨rfl, ho, hb⟩
          have HO := Lib.hid ho
          have HB := Lib.hid (HB.out.trans hb)
          have HOKF := Lib.hid (forget_ok HOKM.out k0)
          clear ho hb
          go_wp2_with fail
          refine (one_value fixed_no HO.out k0 t0 HZ.out HOKF.out HIN.out.2).mono ?_
          rintro e w4 ⟨rfl, ho, hb⟩
          rw [HV0.out]
          have HO := Lib.hid ho
          have HB := Lib.hid (HB.out.trans (hb.mono HB.out.size))
          clear ho hb
          go_wp2_with fail
          refine (one_value fixed_no HO.out o0 t0 HY.out HOKF.out HIN.out.2).mono ?_
          rintro e w5 ⟨rfl, ho, hb⟩
          have HB := Lib.hid (HB.out.trans (hb.mono HB.out.size))
          clear ho hb HO
          go_wp2_with fail
          refine (live_any _).mono ?_
          rintro e w9 ⟨rfl, hb⟩
          have HB9 : Hid (Below w.heap.size w w9) := (HB.out.trans (hb.mono HB.out.size))
          clear hb
          go_wp2
          go_ret
          exact ⟨rfl, HB9.out⟩
end Go.Proofs.Ytgdlnifncmiebaa.heatForgets
