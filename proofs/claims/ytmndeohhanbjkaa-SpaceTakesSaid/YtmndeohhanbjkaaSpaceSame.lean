/-
  Contracts of package space's statements: Same.
-/
import Derived.Test.YtmndeohhanbjkaaSpaceB
import Derived.Deep.RegionHeld3
import Derived.Deep.QuietTactic
import Derived.BigQuiet
import Derived.Lib.Hide
namespace Go.Proofs.Ytmndeohhanbjkaa
open Go.RowKit Go.ChangeShapes Go.WideShapes Go.ChangeAt

theorem eqRunR (x1 x2 y1 y2 : Int) (w : World) : (Op.equalIn 10000 39 (.agg #[.int .i64 x1, .int .i64 x2]) (.agg #[.int .i64 y1, .int .i64 y2])).run Try.prog w = .ok (x1 == y1 && x2 == y2) w := by
  have u3 := Try.underlying3
  have a3 := Try.isAgg3
  have z3 := Try.sizeOf3
  have hS : Try.prog.underlying 39 = some (.struct (Try.prog.fieldsOf 39)) := by kernel_rfl
  have hp : Try.prog.stoodInHeld 39 = false := by kernel_rfl
  rw [show (10000 : Nat) = 9999 + 1 from rfl, run_equalIn_agg w 9999 39 _ _ hS hp]
  simp only [Program.fieldsOf, Try.underlying39]
  go_simp
  by_cases h1 : x1 = y1 <;> by_cases h2 : x2 = y2 <;> simp [h1, h2]
theorem take_eq_succ2 {l m : List (Int × Int)} {k : Nat} (h : l.take k = m.take k) (h1 : k < l.length) (h2 : k < m.length) (e : l[k] = m[k]) : l.take (k + 1) = m.take (k + 1) := by
  rw [List.take_succ_eq_append_getElem h1, List.take_succ_eq_append_getElem h2, h, e]

set_option maxRecDepth 100000 in
set_option maxHeartbeats 1000000 in
theorem same_any (xa xb : Option Addr) (ca cb : Nat) (l m : List (Int × Int)) (w : World) (hl : l.length ≤ 1000) (hm : m.length ≤ 1000) (h1 : SlP w xa l) (h2 : SlP w xb m) :
    Calls Try.prog 16 #[.slice xa l.length ca, .slice xb m.length cb] w fun e w' => e = .returned (.bool (decide (l = m))) ∧ Below w.heap.size w w' := by
  have H1 := Lib.hid h1
  have H2 := Lib.hid h2
  clear h1 h2
  by_cases hlen : l.length = m.length
  · have HLEN := Lib.hid hlen
    rw [hlen] at hl ⊢
    clear hlen
    go_enter Try.func16, Try.ntmps16
    go_wp2
    go_loopw [5] (fun i wr => ∃ k : Nat, k ≤ m.length ∧ i = .int .i64 k ∧ Hid (l.take k = m.take k) ∧ Hid (Below w.heap.size w wr)) (fun i _ => m.length - (intOf i).toNat)
    case atStart => exact ⟨0, Nat.zero_le _, rfl, rfl, Below.refl _ _⟩
    case round =>
      obtain ⟨k, hk, rfl, HT, HL⟩ := hrel
      by_cases hlt : k < m.length
      · have hltl : k < l.length := by rw [HLEN.out]; exact hlt
        obtain ⟨b1, o1, rfl, hb1, q1, q2⟩ := (H1.out.keep HL.out).get k hltl
        obtain ⟨b2, o2, rfl, hb2, q3, q4⟩ := (H2.out.keep HL.out).get k hlt
        have HS := Lib.hid (fun e : l[k] = m[k] => take_eq_succ2 HT.out hltl hlt e)
        have HN := Lib.hid (show l[k] ≠ m[k] → l ≠ m from fun h e => h (by subst e; rfl))
        have HDN : Hid (∀ nq, Below w.heap.size w (wr.drewN nq)) := fun nq => ⟨HL.out.os, HL.out.tape, HL.out.output, HL.out.size, HL.out.block⟩
        generalize l[k] = x at *
        generalize m[k] = y at *
        clear hltl hb1 hb2
        obtain ⟨x1, x2⟩ := x
        obtain ⟨y1, y2⟩ := y
        simp only at q1 q2 q3 q4
        have hq : ∀ w, (Op.equalIn 10000 39 (.agg #[.int .i64 x1, .int .i64 x2]) (.agg #[.int .i64 y1, .int .i64 y2])).run Try.prog w = .ok (x1 == y1 && x2 == y2) w := fun w => eqRunR x1 x2 y1 y2 w
        have HE : Hid ((x1 == y1 && x2 == y2) = true → (x1, x2) = (y1, y2)) := by
          intro h
          simp at h
          exact Prod.ext h.1 h.2
        have HE2 : Hid ((x1 == y1 && x2 == y2) = false → (x1, x2) ≠ (y1, y2)) := by
          intro h e
          injection e with e1 e2
          subst e1 e2
          simp at h
        generalize (x1 == y1 && x2 == y2) = bq at *
        have hki : (0 : Int) ≤ (k : Int) := by omega
        have hkl : (k : Int) < (m.length : Int) := by omega
        cases bq
        · have HF := Lib.hid (show decide (l = m) = false by simp [HN.out (HE2.out rfl)])
          go_wp2_with fail
          go_quiet (fail)
          go_wp2
          go_ret
          exact ⟨ret_bool HF.out.symm, HDN.out _⟩
        · have HS2 := Lib.hid (HS.out (HE.out rfl))
          go_wp2_with fail
          go_quiet (fail)
          go_wp2
          go_roundw
          case rel => exact ⟨k + 1, by omega, by go_num, HS2, HDN.out _⟩
          case measure => simp [intOf]; omega
      · have hkl : k = m.length := by omega
        subst hkl
        have HE : Hid (l = m) := by
          show l = m
          have := HT.out
          rw [List.take_length, List.take_of_length_le (by rw [HLEN.out]; exact Nat.le_refl _)] at this
          exact this
        clear hk
        go_wp2
        go_ret
        exact ⟨ret_bool (by simp [HE.out]), HL.out⟩
  · have hb : ((l.length : Int) != (m.length : Int)) = true := by simp; omega
    have HF := Lib.hid (show decide (l = m) = false by simp; intro e; exact hlen (by rw [e]))
    go_enter Try.func16, Try.ntmps16
    go_wp2
    go_ret
    exact ⟨ret_bool HF.out.symm, Below.refl _ _⟩
end Go.Proofs.Ytmndeohhanbjkaa
