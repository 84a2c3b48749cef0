/-
  Contracts of package space's statements: the reference's May.
-/
import Derived.Test.YtmndeohhanbjkaaSpaceB
import Derived.Deep.RegionHeld3
import Derived.Deep.QuietTactic
import Derived.BigQuiet
import Derived.Lib.Hide
namespace Go.Proofs.Ytmndeohhanbjkaa
open Go.RowKit Go.ChangeShapes Go.WideShapes Go.ChangeAt

/-- What stands ahead of the k-th run: where the next one may begin. -/
def leastAt (l : List (Int × Int)) : Nat → Int
  | 0 => 0
  | k + 1 => (l.getD k (0, 0)).1 + (l.getD k (0, 0)).2 + 1
def PrevOk (l : List (Int × Int)) (k : Nat) : Prop := 0 ≤ leastAt l k ∧ leastAt l k ≤ 1073741825 ∧ (∀ j, k = j + 1 → 0 ≤ (l.getD j (0, 0)).1 ∧ 0 ≤ (l.getD j (0, 0)).2)
theorem PrevOk.zero (l : List (Int × Int)) : PrevOk l 0 := ⟨Int.le_refl _, by simp [leastAt], fun j h => by omega⟩
set_option maxRecDepth 100000 in
set_option maxHeartbeats 4000000 in
theorem rmay_any (a : Option Addr) (cap : Nat) (l : List (Int × Int)) (w : World) (h : SlP w a l) (hl : l.length ≤ 1000) (hw : WfP l) :
    Calls Try.prog 11 #[.slice a l.length cap] w fun e w' => e = .returned (.bool (mayL l)) ∧ Below w.heap.size w w' := by
  have H := Lib.hid h
  have HW := Lib.hid hw
  clear h hw
  obtain ⟨r, hr⟩ : ∃ r, mayL l = r := ⟨_, rfl⟩
  rw [hr]
  have HR := Lib.hid hr
  clear hr
  go_enter Try.func11, Try.ntmps11
  go_wp2
  go_loopw [3] (fun i wr => ∃ k : Nat, k ≤ l.length ∧ i = .int .i64 k ∧ Hid (PrevOk l k) ∧ Hid (mayF (leastAt l k) (l.drop k) = r) ∧ Hid (Below w.heap.size w wr)) (fun i _ => l.length - (intOf i).toNat)
  case atStart => exact ⟨0, Nat.zero_le _, rfl, PrevOk.zero l, HR.out, Below.refl _ _⟩
  case round =>
    obtain ⟨k, hk, rfl, HL0, HM, HL⟩ := hrel
    by_cases hlt : k < l.length
    · obtain ⟨b, off, rfl, hb, hc0, hc1⟩ := (H.out.keep HL.out).get k hlt
      have HBB := Lib.hid hb
      have hwf := HW.out l[k] (List.getElem_mem hlt)
      have HB := Lib.hid (@may_bad (leastAt l k) l k hlt)
      have HG := Lib.hid (@may_good (leastAt l k) l k hlt)
      have HX : Hid (leastAt l (k + 1) = l[k].1 + l[k].2 + 1 ∧ l.getD k (0, 0) = l[k]) := by
        have e : l.getD k (0, 0) = l[k] := by simp [List.getD, List.getElem?_eq_getElem hlt]
        exact ⟨by rw [leastAt, e], e⟩
      have HPV : Hid (∀ j, k = j + 1 → wr.cell? ⟨b, off + j * 2, none⟩ = some (.int .i64 (l.getD j (0, 0)).1) ∧ wr.cell? ⟨b, off + j * 2 + 1, none⟩ = some (.int .i64 (l.getD j (0, 0)).2)) := by
        intro j hj
        have hjl : j < l.length := by omega
        obtain ⟨b', off', e', _, hd0, hd1⟩ := (H.out.keep HL.out).get j hjl
        injection e' with e'
        injection e' with e1 e2
        subst e1 e2
        have e : l.getD j (0, 0) = l[j] := by simp [List.getD, List.getElem?_eq_getElem hjl]
        rw [e]
        exact ⟨hd0, hd1⟩
      have HDN : Hid (∀ nq, Below w.heap.size w (wr.drewN nq)) := fun nq => ⟨HL.out.os, HL.out.tape, HL.out.output, HL.out.size, HL.out.block⟩
      generalize l[k] = x at *
      obtain ⟨xa, xn⟩ := x
      simp only at hc0 hc1 hwf HB HG HX
      have hwa := i64_lo hwf.1
      have hwn := i64_lo hwf.2
      have hk0 : (0 : Int) ≤ (k : Int) := by omega
      have hkl : (k : Int) < (l.length : Int) := by omega
      have hlow := HL0.out.1
      clear hb HL hwf
      by_cases c0 : xa < 0
      · have d0 : decide (xa < 0) = true := decide_eq_true (by omega)
        have HN := Lib.hid (show r = false by rw [← HM.out]; exact HB.out (by omega))
        clear hwa hwn hlow
        go_wp2_with fail
        go_quiet (fail)
        go_wp2
        go_ret
        exact ⟨ret_bool HN.out.symm, HDN.out _⟩
      have d0 : decide (xa < 0) = false := decide_eq_false (by omega)
      by_cases c1 : xn < 1
      · have d1 : decide (xn < 1) = true := decide_eq_true (by omega)
        have HN := Lib.hid (show r = false by rw [← HM.out]; exact HB.out (by omega))
        clear hwa hwn hlow
        go_wp2_with fail
        go_quiet (fail)
        go_wp2
        go_ret
        exact ⟨ret_bool HN.out.symm, HDN.out _⟩
      have d1 : decide (xn < 1) = false := decide_eq_false (by omega)
      by_cases c2 : 1073741824 < xn
      · have d2 : decide (1073741824 < xn) = true := decide_eq_true (by omega)
        have HN := Lib.hid (show r = false by rw [← HM.out]; exact HB.out (by omega))
        clear hwa hwn hlow
        go_wp2_with fail
        go_quiet (fail)
        go_wp2
        go_ret
        exact ⟨ret_bool HN.out.symm, HDN.out _⟩
      have d2 : decide (1073741824 < xn) = false := decide_eq_false (by omega)
      have g0 : IntKind.i64.wrap (1073741824 - xn) = 1073741824 - xn := IntWalk.i64_in _ ⟨by omega, by omega⟩
      by_cases c3 : 1073741824 - xn < xa
      · have d3 : decide (1073741824 - xn < xa) = true := decide_eq_true c3
        have HN := Lib.hid (show r = false by rw [← HM.out]; exact HB.out (by omega))
        clear hwa hwn hlow
        go_wp2_with fail
        go_quiet (fail)
        go_wp2
        go_ret
        exact ⟨ret_bool HN.out.symm, HDN.out _⟩
      have d3 : decide (1073741824 - xn < xa) = false := decide_eq_false (by omega)
      cases k with
      | zero =>
        have hlow0 : leastAt l 0 = 0 := rfl
        rw [hlow0] at HB HG
        clear hlow0 HPV hk0
        have d4 : decide ((0 : Int) < ((0 : Nat) : Int)) = false := by decide
        simp only [Nat.zero_mul, Nat.add_zero] at hc0 hc1
        have HN : Hid (mayF (leastAt l (0 + 1)) (l.drop (0 + 1)) = r) := by
          show _ = r
          rw [HX.out.1, ← HM.out]
          exact (HG.out (by omega)).symm
        have HL1 : Hid (PrevOk l (0 + 1)) := by
          show PrevOk l (0 + 1)
          refine ⟨by rw [HX.out.1]; omega, by rw [HX.out.1]; omega, fun q hq => ?_⟩
          have hqe : 0 = q := by omega
          rw [← hqe, HX.out.2]
          exact ⟨by simp only; omega, by simp only; omega⟩
        clear hwa hwn hlow c0 c1 c2 c3
        go_wp2_with fail
        go_quiet (fail)
        go_wp2
        go_roundw
        case rel => exact ⟨0 + 1, by omega, by go_num, HL1, HN, HDN.out _⟩
        case measure => simp [intOf]; omega
      | succ j =>
        obtain ⟨hp0, hp1⟩ := HPV.out j rfl
        obtain ⟨hq0, hq1⟩ := HL0.out.2.2 j rfl
        have hls := HL0.out.2.1
        have HLS : Hid (leastAt l (j + 1) = (l.getD j (0, 0)).1 + (l.getD j (0, 0)).2 + 1) := rfl
        have hm := HM.out
        rw [HLS.out] at HB HG hls hlow hm
        have HM := Lib.hid hm
        clear hm
        generalize l.getD j (0, 0) = y at *
        obtain ⟨ya, yn⟩ := y
        simp only at hp0 hp1 hq0 hq1 hls HB HG hlow
        have e1 : IntKind.i64.wrap (((j + 1 : Nat) : Int) - 1) = (j : Int) := by rw [IntWalk.i64_in _ ⟨by omega, by omega⟩]; omega
        have e2 : (((j + 1 : Nat) : Int) - 1) = (j : Int) := by omega
        have e3 : IntKind.i64.wrap (ya + yn) = ya + yn := IntWalk.i64_in _ ⟨by omega, by omega⟩
        have d4 : decide ((0 : Int) < ((j + 1 : Nat) : Int)) = true := decide_eq_true (by omega)
        have hj0 : (0 : Int) ≤ (j : Int) := by omega
        have hjl : (j : Int) < (l.length : Int) := by omega
        clear HPV
        by_cases c4 : xa ≤ ya + yn
        · have d5 : decide (xa ≤ ya + yn) = true := decide_eq_true c4
          have HN := Lib.hid (show r = false by rw [← HM.out]; exact HB.out (by omega))
          clear hwa hwn hlow
          go_wp2_with fail
          go_quiet (fail)
          go_wp2
          go_ret
          exact ⟨ret_bool HN.out.symm, HDN.out _⟩
        · have d5 : decide (xa ≤ ya + yn) = false := decide_eq_false c4
          have c5 : ya + yn + 1 ≤ xa := by omega
          clear c4
          have HN : Hid (mayF (leastAt l ((j + 1) + 1)) (l.drop ((j + 1) + 1)) = r) := by
            show _ = r
            rw [HX.out.1, ← HM.out]
            exact (HG.out (by omega)).symm
          have HL1 : Hid (PrevOk l ((j + 1) + 1)) := by
            show PrevOk l ((j + 1) + 1)
            refine ⟨by rw [HX.out.1]; omega, by rw [HX.out.1]; omega, fun q hq => ?_⟩
            have hqe : (j + 1) = q := by omega
            rw [← hqe, HX.out.2]
            exact ⟨by simp only; omega, by simp only; omega⟩
          clear hwa hwn hlow c0 c1 c2 c3 c5 hls hq0 hq1
          go_wp2_with fail
          go_quiet (fail)
          go_wp2
          go_roundw
          case rel => exact ⟨(j + 1) + 1, by omega, by go_num, HL1, HN, HDN.out _⟩
          case measure => simp [intOf]; omega
    · obtain rfl : k = l.length := by omega
      have HT := Lib.hid (show r = true by rw [← HM.out, List.drop_length]; rfl)
      go_wp2
      go_ret
      exact ⟨ret_bool HT.out.symm, HL.out⟩
end Go.Proofs.Ytmndeohhanbjkaa
