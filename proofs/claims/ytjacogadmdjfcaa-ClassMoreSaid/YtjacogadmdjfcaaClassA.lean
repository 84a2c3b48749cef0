/-
  Package class and its reference: Check, Need, wishes.
-/
import Derived.Test.YtjacogadmdjfcaaBox
import Derived.Test.YtjacogadmdjfcaaPlain
import Derived.Deep.QuietTactic
import Derived.BigQuiet
import Derived.Lib.Hide
namespace Go.Proofs.Ytjacogadmdjfcaa
open Go.RowKit

structure PolD where
  mf : Bool
  mi : Bool
  small : Int
  arc : Int
  second : Int
def PolD.v (p : PolD) : Value := .agg #[.bool p.mf, .bool p.mi, .int .i64 p.small, .int .i64 p.arc, .int .i64 p.second]
def inB (n most : Int) : Bool := decide (0 ≤ n ∧ n ≤ most)
def okPol (p : PolD) : Bool := inB p.small 256 && inB p.arc 64 && inB p.second 508
def chkP (p : PolD) : Int := if okPol p = true then 0 else 1
def needA (p : PolD) (m d : Int) : Int := if okPol p = true ∧ inB m 1073741824 = true ∧ inB d 1073741824 = true then m + d else 0
def needB (p : PolD) (m d : Int) : Int := if okPol p = true ∧ inB m 1073741824 = true ∧ inB d 1073741824 = true then (if p.mf = true then m else 0) + (if (p.small != 0) = true then d else 0) else 0
def wantF (p : PolD) (kind size : Int) : Bool := ((kind == 0) && p.mf) || ((kind == 1) && (p.small != 0) && decide (size ≤ p.small))
def wantB (p : PolD) (kind : Int) : Bool := (kind == 0) && p.mf && p.mi
theorem chk_01 (p : PolD) : chkP p = 0 ∨ chkP p = 1 := by unfold chkP; split <;> simp
theorem inB_lo {n m : Int} (h : inB n m = true) : 0 ≤ n := by unfold inB at h; simp at h; exact h.1
theorem inB_hi {n m : Int} (h : inB n m = true) : n ≤ m := by unfold inB at h; simp at h; exact h.2

theorem within_any (n most : Int) (w : World) : Calls Try.prog 38 #[.int .i64 n, .int .i64 most] w fun e w' => e = .returned (.bool (inB n most)) ∧ w = w' := by
  by_cases h : 0 ≤ n
  · have e : inB n most = decide (n ≤ most) := by unfold inB; simp [h]
    rw [e]
    clear e
    go_enter Try.func38, Try.ntmps38
    go_wp2
    go_ret
    exact ⟨rfl, rfl⟩
  · have e : inB n most = false := by unfold inB; simp; omega
    rw [e]
    clear e
    go_enter Try.func38, Try.ntmps38
    go_wp2
    go_ret
    exact ⟨rfl, rfl⟩

theorem in_any (n most : Int) (w : World) : Calls Try.prog 40 #[.int .i64 n, .int .i64 most] w fun e w' => e = .returned (.bool (inB n most)) ∧ w = w' := by
  by_cases h : 0 ≤ n
  · have e : inB n most = decide (n ≤ most) := by unfold inB; simp [h]
    rw [e]
    clear e
    go_enter Try.func40, Try.ntmps40
    go_wp2
    go_ret
    exact ⟨rfl, rfl⟩
  · have e : inB n most = false := by unfold inB; simp; omega
    rw [e]
    clear e
    go_enter Try.func40, Try.ntmps40
    go_wp2
    go_ret
    exact ⟨rfl, rfl⟩

set_option maxRecDepth 100000 in
theorem check_any (p : PolD) (w : World) : Calls Try.prog 20 #[.agg #[.bool p.mf, .bool p.mi, .int .i64 p.small, .int .i64 p.arc, .int .i64 p.second]] w fun e w' => e = .returned (.int .i64 (chkP p)) ∧ Below w.heap.size w w' := by
  obtain ⟨mf, mi, s, a, c⟩ := p
  show Calls Try.prog _ #[.agg #[.bool mf, .bool mi, .int .i64 s, .int .i64 a, .int .i64 c]] w _
  have B := Box.new w 23 #[.bool mf, .bool mi, .int .i64 s, .int .i64 a, .int .i64 c]
  have L := (Below.refl w.heap.size w).alloc (Nat.le_refl _) (.cells #[.bool mf, .bool mi, .int .i64 s, .int .i64 a, .int .i64 c] 23 (0, 0))
  have k2 := B.cell 2 _ rfl
  have k3 := B.cell 3 _ rfl
  have k4 := B.cell 4 _ rfl
  have HL := Lib.hid L
  clear B L
  obtain ⟨r, hr⟩ : ∃ r, chkP ⟨mf, mi, s, a, c⟩ = r := ⟨_, rfl⟩
  rw [hr]
  unfold chkP okPol at hr
  simp only at hr
  have HR := Lib.hid hr
  clear hr
  cases h1 : inB s 256
  · go_enter Try.func20, Try.ntmps20
    go_wp2_with fail
    refine (within_any _ _ _).mono ?_
    rintro e w' ⟨rfl, rfl⟩
    rw [h1]
    go_wp2
    go_ret
    exact ⟨ret_int (by rw [← HR.out]; simp [*]), HL.out⟩
  cases h2 : inB a 64
  · go_enter Try.func20, Try.ntmps20
    go_wp2_with fail
    refine (within_any _ _ _).mono ?_
    rintro e w' ⟨rfl, rfl⟩
    rw [h1]
    go_wp2_with fail
    refine (within_any _ _ _).mono ?_
    rintro e w' ⟨rfl, rfl⟩
    rw [h2]
    go_wp2
    go_ret
    exact ⟨ret_int (by rw [← HR.out]; simp [*]), HL.out⟩
  cases h3 : inB c 508
  all_goals
    go_enter Try.func20, Try.ntmps20
    go_wp2_with fail
    refine (within_any _ _ _).mono ?_
    rintro e w' ⟨rfl, rfl⟩
    rw [h1]
    go_wp2_with fail
    refine (within_any _ _ _).mono ?_
    rintro e w' ⟨rfl, rfl⟩
    rw [h2]
    go_wp2_with fail
    refine (within_any _ _ _).mono ?_
    rintro e w' ⟨rfl, rfl⟩
    rw [h3]
    go_wp2
    go_ret
    exact ⟨ret_int (by rw [← HR.out]; simp [*]), HL.out⟩

set_option maxRecDepth 100000 in
theorem rcheck_any (p : PolD) (w : World) : Calls Try.prog 21 #[.agg #[.bool p.mf, .bool p.mi, .int .i64 p.small, .int .i64 p.arc, .int .i64 p.second]] w fun e w' => e = .returned (.int .i64 (chkP p)) ∧ Below w.heap.size w w' := by
  obtain ⟨mf, mi, s, a, c⟩ := p
  show Calls Try.prog _ #[.agg #[.bool mf, .bool mi, .int .i64 s, .int .i64 a, .int .i64 c]] w _
  have B := Box.new w 23 #[.bool mf, .bool mi, .int .i64 s, .int .i64 a, .int .i64 c]
  have L := (Below.refl w.heap.size w).alloc (Nat.le_refl _) (.cells #[.bool mf, .bool mi, .int .i64 s, .int .i64 a, .int .i64 c] 23 (0, 0))
  have k2 := B.cell 2 _ rfl
  have k3 := B.cell 3 _ rfl
  have k4 := B.cell 4 _ rfl
  have HL := Lib.hid L
  clear B L
  obtain ⟨r, hr⟩ : ∃ r, chkP ⟨mf, mi, s, a, c⟩ = r := ⟨_, rfl⟩
  rw [hr]
  unfold chkP okPol at hr
  simp only at hr
  have HR := Lib.hid hr
  clear hr
  cases h1 : inB s 256
  · go_enter Try.func21, Try.ntmps21
    go_wp2_with fail
    refine (in_any _ _ _).mono ?_
    rintro e w' ⟨rfl, rfl⟩
    rw [h1]
    go_wp2
    go_ret
    exact ⟨ret_int (by rw [← HR.out]; simp [*]), HL.out⟩
  cases h2 : inB a 64
  · go_enter Try.func21, Try.ntmps21
    go_wp2_with fail
    refine (in_any _ _ _).mono ?_
    rintro e w' ⟨rfl, rfl⟩
    rw [h1]
    go_wp2_with fail
    refine (in_any _ _ _).mono ?_
    rintro e w' ⟨rfl, rfl⟩
    rw [h2]
    go_wp2
    go_ret
    exact ⟨ret_int (by rw [← HR.out]; simp [*]), HL.out⟩
  cases h3 : inB c 508
  all_goals
    go_enter Try.func21, Try.ntmps21
    go_wp2_with fail
    refine (in_any _ _ _).mono ?_
    rintro e w' ⟨rfl, rfl⟩
    rw [h1]
    go_wp2_with fail
    refine (in_any _ _ _).mono ?_
    rintro e w' ⟨rfl, rfl⟩
    rw [h2]
    go_wp2_with fail
    refine (in_any _ _ _).mono ?_
    rintro e w' ⟨rfl, rfl⟩
    rw [h3]
    go_wp2
    go_ret
    exact ⟨ret_int (by rw [← HR.out]; simp [*]), HL.out⟩
end Go.Proofs.Ytjacogadmdjfcaa
