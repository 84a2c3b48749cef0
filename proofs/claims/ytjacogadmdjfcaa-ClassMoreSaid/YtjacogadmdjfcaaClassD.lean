/-
  Contracts of package class and its reference: Choose.
-/
import Derived.Test.YtjacogadmdjfcaaClassC
import Derived.Deep.QuietTactic
import Derived.BigQuiet
namespace Go.Proofs.Ytjacogadmdjfcaa
open Go.RowKit

set_option maxRecDepth 100000 in
set_option maxHeartbeats 2000000 in
theorem choose_any (p : PolD) (k size : Int) (xa : Option Addr) (ca : Nat) (l : List Int) (w : World) (hl : l.length ≤ maxLen) (h : Sl w (Value.int .i64) xa l) :
    Calls Try.prog 15 #[.agg #[.bool p.mf, .bool p.mi, .int .i64 p.small, .int .i64 p.arc, .int .i64 p.second], .int .i64 k, .int .i64 size, .slice xa l.length ca] w (SlRes w.heap.size w (chooseP p k size l)) := by
  obtain ⟨mf, mi, s, a, c⟩ := p
  have B := Box.new w 23 #[.bool mf, .bool mi, .int .i64 s, .int .i64 a, .int .i64 c]
  have HL := Lib.hid ((Below.refl w.heap.size w).alloc (Nat.le_refl _) (.cells #[.bool mf, .bool mi, .int .i64 s, .int .i64 a, .int .i64 c] 23 (0, 0)))
  have HS := Lib.hid (size_alloc w (.cells #[.bool mf, .bool mi, .int .i64 s, .int .i64 a, .int .i64 c] 23 (0, 0)))
  have k0 := B.cell 0 _ rfl
  have k1 := B.cell 1 _ rfl
  have k2 := B.cell 2 _ rfl
  have k3 := B.cell 3 _ rfl
  have k4 := B.cell 4 _ rfl
  obtain ⟨r, hr⟩ : ∃ r, chooseP ⟨mf, mi, s, a, c⟩ k size l = r := ⟨_, rfl⟩
  rw [hr]
  have HR := Lib.hid hr
  have H := Lib.hid h
  unfold maxLen at hl
  clear hr h
  rcases chk_01 ⟨mf, mi, s, a, c⟩ with hc | hc
  case inr =>
    have HN := Lib.hid (show r = ([], 1) by rw [← HR.out]; exact choose_bad (by rw [hc]; simp))
    go_enter Try.func15, Try.ntmps15
    go_wp2_with fail
    refine (check_any ⟨mf, mi, s, a, c⟩ _).mono ?_
    rintro e w1 ⟨rfl, hb⟩
    rw [hc]
    have HB := Lib.hid (HL.out.trans (hb.mono HL.out.size))
    have B1 := B.keep hb B.lt
    have HBX := Lib.hid B1
    have k0 := B1.cell 0 _ rfl
    have k1 := B1.cell 1 _ rfl
    have k2 := B1.cell 2 _ rfl
    have k3 := B1.cell 3 _ rfl
    have k4 := B1.cell 4 _ rfl
    clear hb B1 B
    go_wp2
    go_ret2
    exact SlRes.nil HN.out HB.out
  have HC := Lib.hid hc
  by_cases hk : k = 0 ∨ k = 1
  case neg =>
    have hk0 : (k != 0) = true := by simp; omega
    have hk1 : (k != 1) = true := by simp; omega
    have HN := Lib.hid (show r = ([], 1) by rw [← HR.out]; exact choose_bad (by intro h; exact hk h.2.1))
    clear hk
    go_enter Try.func15, Try.ntmps15
    go_wp2_with fail
    refine (check_any ⟨mf, mi, s, a, c⟩ _).mono ?_
    rintro e w1 ⟨rfl, hb⟩
    rw [hc]
    have HB := Lib.hid (HL.out.trans (hb.mono HL.out.size))
    have B1 := B.keep hb B.lt
    have HBX := Lib.hid B1
    have k0 := B1.cell 0 _ rfl
    have k1 := B1.cell 1 _ rfl
    have k2 := B1.cell 2 _ rfl
    have k3 := B1.cell 3 _ rfl
    have k4 := B1.cell 4 _ rfl
    clear hb B1 B
    go_wp2
    go_ret2
    exact SlRes.nil HN.out HB.out
  have HKK := Lib.hid hk
  cases hs : inB size 960
  case false =>
    have HN := Lib.hid (show r = ([], 1) by rw [← HR.out]; exact choose_bad (by rw [hs]; simp))
    rcases hk with rfl | rfl
    all_goals
      go_enter Try.func15, Try.ntmps15
      go_wp2_with fail
      refine (check_any ⟨mf, mi, s, a, c⟩ _).mono ?_
      rintro e w1 ⟨rfl, hb⟩
      rw [hc]
      have HB := Lib.hid (HL.out.trans (hb.mono HL.out.size))
      have B1 := B.keep hb B.lt
      have HBX := Lib.hid B1
      have k0 := B1.cell 0 _ rfl
      have k1 := B1.cell 1 _ rfl
      have k2 := B1.cell 2 _ rfl
      have k3 := B1.cell 3 _ rfl
      have k4 := B1.cell 4 _ rfl
      clear hb B1 B
      go_wp2_with fail
      refine (within_any _ _ _).mono ?_
      rintro e w' ⟨rfl, rfl⟩
      rw [hs]
      go_wp2
      go_ret2
      exact SlRes.nil HN.out HB.out
  by_cases hlen : l.length = 2
  case neg =>
    have HN := Lib.hid (show r = ([], 1) by rw [← HR.out]; exact choose_len hlen)
    have hb2 : ((l.length : Int) != 2) = true := by simp; omega
    clear hlen
    rcases hk with rfl | rfl
    all_goals
      go_enter Try.func15, Try.ntmps15
      go_wp2_with fail
      refine (check_any ⟨mf, mi, s, a, c⟩ _).mono ?_
      rintro e w1 ⟨rfl, hb⟩
      rw [hc]
      have HB := Lib.hid (HL.out.trans (hb.mono HL.out.size))
      have B1 := B.keep hb B.lt
      have HBX := Lib.hid B1
      have k0 := B1.cell 0 _ rfl
      have k1 := B1.cell 1 _ rfl
      have k2 := B1.cell 2 _ rfl
      have k3 := B1.cell 3 _ rfl
      have k4 := B1.cell 4 _ rfl
      clear hb B1 B
      go_wp2_with fail
      refine (within_any _ _ _).mono ?_
      rintro e w' ⟨rfl, rfl⟩
      rw [hs]
      go_wp2
      go_ret2
      exact SlRes.nil HN.out HB.out
  obtain ⟨x, y, rfl⟩ : ∃ x y, l = [x, y] := by
    match l, hlen with
    | [x, y], _ => exact ⟨x, y, rfl⟩
  obtain ⟨fb, fo, rfl, hfb, hfc⟩ := H.out (by simp)
  have q0 := hfc 0 x rfl
  have q1 := hfc 1 y rfl
  rw [Nat.add_zero] at q0
  clear hfc H hlen
  simp only [List.length_cons, List.length_nil, Nat.zero_add, Nat.reduceAdd] at hl ⊢
  have HS := Lib.hid hs
  by_cases hx : x < 0
  case pos =>
    have HN := Lib.hid (show r = ([], 1) by rw [← HR.out]; exact choose_neg (by omega))
    rcases hk with rfl | rfl
    all_goals
      go_enter Try.func15, Try.ntmps15
      go_wp2_with fail
      refine (check_any ⟨mf, mi, s, a, c⟩ _).mono ?_
      rintro e w1 ⟨rfl, hb⟩
      rw [hc]
      have HB := Lib.hid (HL.out.trans (hb.mono HL.out.size))
      have B1 := B.keep hb B.lt
      have HBX := Lib.hid B1
      have k0 := B1.cell 0 _ rfl
      have k1 := B1.cell 1 _ rfl
      have k2 := B1.cell 2 _ rfl
      have k3 := B1.cell 3 _ rfl
      have k4 := B1.cell 4 _ rfl
      have L0 := HB.out
      rw [← L0.cell (p := ⟨fb, fo, none⟩) hfb] at q0
      rw [← L0.cell (p := ⟨fb, fo + 1, none⟩) hfb] at q1
      clear L0
      clear hb B1 B
      go_wp2_with fail
      refine (within_any _ _ _).mono ?_
      rintro e w' ⟨rfl, rfl⟩
      rw [hs]
      go_wp2
      go_ret2
      exact SlRes.nil HN.out HB.out
  by_cases hy : y < 0
  case pos =>
    have HN := Lib.hid (show r = ([], 1) by rw [← HR.out]; exact choose_neg (by omega))
    have hx' : decide (x < 0) = false := by simpa using hx
    rcases hk with rfl | rfl
    all_goals
      go_enter Try.func15, Try.ntmps15
      go_wp2_with fail
      refine (check_any ⟨mf, mi, s, a, c⟩ _).mono ?_
      rintro e w1 ⟨rfl, hb⟩
      rw [hc]
      have HB := Lib.hid (HL.out.trans (hb.mono HL.out.size))
      have B1 := B.keep hb B.lt
      have HBX := Lib.hid B1
      have k0 := B1.cell 0 _ rfl
      have k1 := B1.cell 1 _ rfl
      have k2 := B1.cell 2 _ rfl
      have k3 := B1.cell 3 _ rfl
      have k4 := B1.cell 4 _ rfl
      have L0 := HB.out
      rw [← L0.cell (p := ⟨fb, fo, none⟩) hfb] at q0
      rw [← L0.cell (p := ⟨fb, fo + 1, none⟩) hfb] at q1
      clear L0
      clear hb B1 B
      go_wp2_with fail
      refine (within_any _ _ _).mono ?_
      rintro e w' ⟨rfl, rfl⟩
      rw [hs]
      go_wp2
      go_ret2
      exact SlRes.nil HN.out HB.out
  have HG := Lib.hid (choose_good HC.out HKK.out HS.out (show 0 ≤ x by omega) (show 0 ≤ y by omega))
  have hx' : decide (x < 0) = false := by simpa using hx
  have hy' : decide (y < 0) = false := by simpa using hy
  have HLE := Lib.hid (@wantB_le ⟨mf, mi, s, a, c⟩ k size)
  obtain ⟨f, hf⟩ : ∃ f, wantF ⟨mf, mi, s, a, c⟩ k size = f := ⟨_, rfl⟩
  obtain ⟨g, hg⟩ : ∃ g, wantB ⟨mf, mi, s, a, c⟩ k = g := ⟨_, rfl⟩
  have HFG : Hid (chooseP ⟨mf, mi, s, a, c⟩ k size [x, y] = (if f = true ∧ 0 < y then (if g = true ∧ 0 < x then ([1, 0], 0) else ([1], 0)) else if 0 < x then ([0], 0) else ([], 6))) := by
    show _ = _
    rw [HG.out, hf, hg]
  have HWF := Lib.hid hf
  have HWG := Lib.hid hg
  have HGF : Hid (f = false → g = false) := by show f = false → g = false; rw [← hf, ← hg]; exact HLE.out
  clear hf hg HG HLE
  rcases hk with rfl | rfl
  all_goals
    rcases Int.lt_or_le 0 x with px | px
    all_goals
      rcases Int.lt_or_le 0 y with py | py
      all_goals
        go_enter Try.func15, Try.ntmps15
        go_wp2_with fail
        refine (check_any ⟨mf, mi, s, a, c⟩ _).mono ?_
        rintro e w1 ⟨rfl, hb⟩
        rw [hc]
        have HB := Lib.hid (HL.out.trans (hb.mono HL.out.size))
        have B1 := B.keep hb B.lt
        have HBX := Lib.hid B1
        have k0 := B1.cell 0 _ rfl
        have k1 := B1.cell 1 _ rfl
        have k2 := B1.cell 2 _ rfl
        have k3 := B1.cell 3 _ rfl
        have k4 := B1.cell 4 _ rfl
        have L0 := HB.out
        rw [← L0.cell (p := ⟨fb, fo, none⟩) hfb] at q0
        rw [← L0.cell (p := ⟨fb, fo + 1, none⟩) hfb] at q1
        clear L0
        clear hb B1 B
        go_wp2_with fail
        refine (within_any _ _ _).mono ?_
        rintro e w' ⟨rfl, rfl⟩
        rw [hs]
        first | (have dx : decide (0 < x) = true := decide_eq_true px) | (have dx : decide (0 < x) = false := decide_eq_false (Int.not_lt.2 px))
        first | (have dy : decide (0 < y) = true := decide_eq_true py) | (have dy : decide (0 < y) = false := decide_eq_false (Int.not_lt.2 py))
        have PX := Lib.hid px
        have PY := Lib.hid py
        clear px py
        go_wp2_with fail
        go_quiet (fail)
        have HD : Hid (∀ nq, Below w.heap.size w (w1.drewN nq)) := fun nq => ⟨HB.out.os, HB.out.tape, HB.out.output, HB.out.size, HB.out.block⟩
        have z0 : (w1.drewN nq).cell? ⟨w.heap.size, 0, none⟩ = some (.bool mf) := k0
        have z1 : (w1.drewN nq).cell? ⟨w.heap.size, 1, none⟩ = some (.bool mi) := k1
        have z2 : (w1.drewN nq).cell? ⟨w.heap.size, 2, none⟩ = some (.int .i64 s) := k2
        have z3 : (w1.drewN nq).cell? ⟨w.heap.size, 3, none⟩ = some (.int .i64 a) := k3
        have z4 : (w1.drewN nq).cell? ⟨w.heap.size, 4, none⟩ = some (.int .i64 c) := k4
        go_wp2_with fail
        refine (wishes_any ⟨mf, mi, s, a, c⟩ _ size _).mono ?_
        rintro e w2 ⟨rfl, hb2⟩
        rw [HWF.out, HWG.out]
        have HB2 := Lib.hid ((HD.out nq).trans (hb2.mono (HD.out nq).size))
        clear hb2 HD k0 k1 k2 k3 k4 z0 z1 z2 z3 z4 q0 q1 hx' hy'
        have px := PX.out
        have py := PY.out
        cases f
        · have hg' := HGF.out rfl
          subst hg'
          go_wp2
          go_ret2
          first
            | exact SlRes.nil (by rw [← HR.out, HFG.out]; simp [px, py, show ∀ z : Int, z ≤ 0 → ¬ 0 < z from fun z h => Int.not_lt.2 h]) HB2.out
            | exact SlRes.one (by rw [← HR.out, HFG.out]; simp [px, py, show ∀ z : Int, z ≤ 0 → ¬ 0 < z from fun z h => Int.not_lt.2 h]) HB2.out HB2.out.size
        · cases g
          all_goals
            go_wp2
            go_ret2
            first
              | exact SlRes.nil (by rw [← HR.out, HFG.out]; simp [px, py, show ∀ z : Int, z ≤ 0 → ¬ 0 < z from fun z h => Int.not_lt.2 h]) HB2.out
              | exact SlRes.one (by rw [← HR.out, HFG.out]; simp [px, py, show ∀ z : Int, z ≤ 0 → ¬ 0 < z from fun z h => Int.not_lt.2 h]) HB2.out HB2.out.size
              | exact SlRes.two (by rw [← HR.out, HFG.out]; simp [px, py, show ∀ z : Int, z ≤ 0 → ¬ 0 < z from fun z h => Int.not_lt.2 h]) HB2.out HB2.out.size
end Go.Proofs.Ytjacogadmdjfcaa
