/-
  Contracts of package class and its reference: the reference's Choose.
-/
import Derived.Test.YtjacogadmdjfcaaClassC
import Derived.Deep.QuietTactic
import Derived.BigQuiet
namespace Go.Proofs.Ytjacogadmdjfcaa
open Go.RowKit

set_option maxRecDepth 100000 in
set_option maxHeartbeats 2000000 in
theorem rchoose_any (p : PolD) (k size : Int) (xa : Option Addr) (ca : Nat) (l : List Int) (w : World) (hl : l.length ≤ maxLen) (h : Sl w (Value.int .i64) xa l) :
    Calls Try.prog 16 #[.agg #[.bool p.mf, .bool p.mi, .int .i64 p.small, .int .i64 p.arc, .int .i64 p.second], .int .i64 k, .int .i64 size, .slice xa l.length ca] w (SlRes w.heap.size w (chooseP p k size l)) := by
  obtain ⟨mf, mi, s, a, c⟩ := p
  have B := Box.new w 23 #[.bool mf, .bool mi, .int .i64 s, .int .i64 a, .int .i64 c]
  have HL := Lib.hid ((Below.refl w.heap.size w).alloc (Nat.le_refl _) (.cells #[.bool mf, .bool mi, .int .i64 s, .int .i64 a, .int .i64 c] 23 (0, 0)))
  have HS := Lib.hid (size_alloc w (.cells #[.bool mf, .bool mi, .int .i64 s, .int .i64 a, .int .i64 c] 23 (0, 0)))
  have k0 := B.cell 0 _ rfl
  have k1 := B.cell 1 _ rfl
  have k2 := B.cell 2 _ rfl
  have k3 := B.cell 3 _ rfl
  have k4 := B.cell 4 _ rfl
  obtain ⟨r, hr⟩ : ∃ r, chooseP ⟨mf, mi, s, a, c⟩ k size l = r := ⟨_, rfl⟩
  rw [hr]
  have HR := Lib.hid hr
  have H := Lib.hid h
  unfold maxLen at hl
  clear hr h
  rcases chk_01 ⟨mf, mi, s, a, c⟩ with hc | hc
  case inr =>
    have HN := Lib.hid (show r = ([], 1) by rw [← HR.out]; exact choose_bad (by rw [hc]; simp))
    go_enter Try.func16, Try.ntmps16
    go_wp2_with fail
    refine (rcheck_any ⟨mf, mi, s, a, c⟩ _).mono ?_
    rintro e w1 ⟨rfl, hb⟩
    rw [hc]
    have HB := Lib.hid (HL.out.trans (hb.mono HL.out.size))
    have B1 := B.keep hb B.lt
    have HBX := Lib.hid B1
    have k0 := B1.cell 0 _ rfl
    have k1 := B1.cell 1 _ rfl
    have k2 := B1.cell 2 _ rfl
    have k3 := B1.cell 3 _ rfl
    have k4 := B1.cell 4 _ rfl
    clear hb B1 B
    go_wp2
    go_ret2
    exact SlRes.nil HN.out HB.out
  have HC := Lib.hid hc
  cases hk1 : inB k 1
  case false =>
    have HN := Lib.hid (show r = ([], 1) by rw [← HR.out]; exact choose_bad (by intro h; rcases h.2.1 with e | e <;> subst e <;> exact absurd hk1 (by decide)))
    go_enter Try.func16, Try.ntmps16
    go_wp2_with fail
    refine (rcheck_any ⟨mf, mi, s, a, c⟩ _).mono ?_
    rintro e w1 ⟨rfl, hb⟩
    rw [hc]
    have HB := Lib.hid (HL.out.trans (hb.mono HL.out.size))
    have B1 := B.keep hb B.lt
    have HBX := Lib.hid B1
    have k0 := B1.cell 0 _ rfl
    have k1 := B1.cell 1 _ rfl
    have k2 := B1.cell 2 _ rfl
    have k3 := B1.cell 3 _ rfl
    have k4 := B1.cell 4 _ rfl
    clear hb B1 B
    go_wp2_with fail
    refine (in_any _ _ _).mono ?_
    rintro e w' ⟨rfl, rfl⟩
    rw [hk1]
    go_wp2
    go_ret2
    exact SlRes.nil HN.out HB.out
  have hk : k = 0 ∨ k = 1 := by have h0 := inB_lo hk1; have h1 := inB_hi hk1; omega
  have HKK := Lib.hid hk
  cases hs : inB size 960
  case false =>
    have HN := Lib.hid (show r = ([], 1) by rw [← HR.out]; exact choose_bad (by rw [hs]; simp))
    go_enter Try.func16, Try.ntmps16
    go_wp2_with fail
    refine (rcheck_any ⟨mf, mi, s, a, c⟩ _).mono ?_
    rintro e w1 ⟨rfl, hb⟩
    rw [hc]
    have HB := Lib.hid (HL.out.trans (hb.mono HL.out.size))
    have B1 := B.keep hb B.lt
    have HBX := Lib.hid B1
    have k0 := B1.cell 0 _ rfl
    have k1 := B1.cell 1 _ rfl
    have k2 := B1.cell 2 _ rfl
    have k3 := B1.cell 3 _ rfl
    have k4 := B1.cell 4 _ rfl
    clear hb B1 B
    go_wp2_with fail
    refine (in_any _ _ _).mono ?_
    rintro e w' ⟨rfl, rfl⟩
    rw [hk1]
    go_wp2_with fail
    refine (in_any _ _ _).mono ?_
    rintro e w' ⟨rfl, rfl⟩
    rw [hs]
    go_wp2
    go_ret2
    exact SlRes.nil HN.out HB.out
  by_cases hlen : l.length = 2
  case neg =>
    have HN := Lib.hid (show r = ([], 1) by rw [← HR.out]; exact choose_len hlen)
    have hb2 : ((l.length : Int) != 2) = true := by simp; omega
    clear hlen
    go_enter Try.func16, Try.ntmps16
    go_wp2_with fail
    refine (rcheck_any ⟨mf, mi, s, a, c⟩ _).mono ?_
    rintro e w1 ⟨rfl, hb⟩
    rw [hc]
    have HB := Lib.hid (HL.out.trans (hb.mono HL.out.size))
    have B1 := B.keep hb B.lt
    have HBX := Lib.hid B1
    have k0 := B1.cell 0 _ rfl
    have k1 := B1.cell 1 _ rfl
    have k2 := B1.cell 2 _ rfl
    have k3 := B1.cell 3 _ rfl
    have k4 := B1.cell 4 _ rfl
    clear hb B1 B
    go_wp2_with fail
    refine (in_any _ _ _).mono ?_
    rintro e w' ⟨rfl, rfl⟩
    rw [hk1]
    go_wp2_with fail
    refine (in_any _ _ _).mono ?_
    rintro e w' ⟨rfl, rfl⟩
    rw [hs]
    go_wp2
    go_ret2
    exact SlRes.nil HN.out HB.out
  obtain ⟨x, y, rfl⟩ : ∃ x y, l = [x, y] := by
    match l, hlen with
    | [x, y], _ => exact ⟨x, y, rfl⟩
  obtain ⟨fb, fo, rfl, hfb, hfc⟩ := H.out (by simp)
  have q0 := hfc 0 x rfl
  have q1 := hfc 1 y rfl
  rw [Nat.add_zero] at q0
  clear hfc H hlen
  simp only [List.length_cons, List.length_nil, Nat.zero_add, Nat.reduceAdd] at hl ⊢
  have HS := Lib.hid hs
  by_cases hx : x < 0
  case pos =>
    have HN := Lib.hid (show r = ([], 1) by rw [← HR.out]; exact choose_neg (by omega))
    go_enter Try.func16, Try.ntmps16
    go_wp2_with fail
    refine (rcheck_any ⟨mf, mi, s, a, c⟩ _).mono ?_
    rintro e w1 ⟨rfl, hb⟩
    rw [hc]
    have HB := Lib.hid (HL.out.trans (hb.mono HL.out.size))
    have B1 := B.keep hb B.lt
    have HBX := Lib.hid B1
    have k0 := B1.cell 0 _ rfl
    have k1 := B1.cell 1 _ rfl
    have k2 := B1.cell 2 _ rfl
    have k3 := B1.cell 3 _ rfl
    have k4 := B1.cell 4 _ rfl
    have L0 := HB.out
    rw [← L0.cell (p := ⟨fb, fo, none⟩) hfb] at q0
    rw [← L0.cell (p := ⟨fb, fo + 1, none⟩) hfb] at q1
    clear L0
    clear hb B1 B
    go_wp2_with fail
    refine (in_any _ _ _).mono ?_
    rintro e w' ⟨rfl, rfl⟩
    rw [hk1]
    go_wp2_with fail
    refine (in_any _ _ _).mono ?_
    rintro e w' ⟨rfl, rfl⟩
    rw [hs]
    go_wp2
    go_ret2
    exact SlRes.nil HN.out HB.out
  by_cases hy : y < 0
  case pos =>
    have HN := Lib.hid (show r = ([], 1) by rw [← HR.out]; exact choose_neg (by omega))
    have hx' : decide (x < 0) = false := by simpa using hx
    go_enter Try.func16, Try.ntmps16
    go_wp2_with fail
    refine (rcheck_any ⟨mf, mi, s, a, c⟩ _).mono ?_
    rintro e w1 ⟨rfl, hb⟩
    rw [hc]
    have HB := Lib.hid (HL.out.trans (hb.mono HL.out.size))
    have B1 := B.keep hb B.lt
    have HBX := Lib.hid B1
    have k0 := B1.cell 0 _ rfl
    have k1 := B1.cell 1 _ rfl
    have k2 := B1.cell 2 _ rfl
    have k3 := B1.cell 3 _ rfl
    have k4 := B1.cell 4 _ rfl
    have L0 := HB.out
    rw [← L0.cell (p := ⟨fb, fo, none⟩) hfb] at q0
    rw [← L0.cell (p := ⟨fb, fo + 1, none⟩) hfb] at q1
    clear L0
    clear hb B1 B
    go_wp2_with fail
    refine (in_any _ _ _).mono ?_
    rintro e w' ⟨rfl, rfl⟩
    rw [hk1]
    go_wp2_with fail
    refine (in_any _ _ _).mono ?_
    rintro e w' ⟨rfl, rfl⟩
    rw [hs]
    go_wp2
    go_ret2
    exact SlRes.nil HN.out HB.out
  have HG := Lib.hid (choose_good HC.out HKK.out HS.out (show 0 ≤ x by omega) (show 0 ≤ y by omega))
  have hx' : decide (x < 0) = false := by simpa using hx
  have hy' : decide (y < 0) = false := by simpa using hy
  obtain ⟨f, hf⟩ : ∃ f, wantF ⟨mf, mi, s, a, c⟩ k size = f := ⟨_, rfl⟩
  have HFG : Hid (chooseP ⟨mf, mi, s, a, c⟩ k size [x, y] = (if f = true ∧ 0 < y then (if wantB ⟨mf, mi, s, a, c⟩ k = true ∧ 0 < x then ([1, 0], 0) else ([1], 0)) else if 0 < x then ([0], 0) else ([], 6))) := by
    show _ = _
    rw [HG.out, hf]
  have HWF := Lib.hid hf
  clear hf HG
  rcases hk with rfl | rfl
  all_goals
    rcases Int.lt_or_le 0 x with px | px
    all_goals
      rcases Int.lt_or_le 0 y with py | py
      all_goals
        go_enter Try.func16, Try.ntmps16
        go_wp2_with fail
        refine (rcheck_any ⟨mf, mi, s, a, c⟩ _).mono ?_
        rintro e w1 ⟨rfl, hb⟩
        rw [hc]
        have HB := Lib.hid (HL.out.trans (hb.mono HL.out.size))
        have B1 := B.keep hb B.lt
        have HBX := Lib.hid B1
        have k0 := B1.cell 0 _ rfl
        have k1 := B1.cell 1 _ rfl
        have k2 := B1.cell 2 _ rfl
        have k3 := B1.cell 3 _ rfl
        have k4 := B1.cell 4 _ rfl
        have L0 := HB.out
        rw [← L0.cell (p := ⟨fb, fo, none⟩) hfb] at q0
        rw [← L0.cell (p := ⟨fb, fo + 1, none⟩) hfb] at q1
        clear L0
        clear hb B1 B
        go_wp2_with fail
        refine (in_any _ _ _).mono ?_
        rintro e w' ⟨rfl, rfl⟩
        rw [hk1]
        go_wp2_with fail
        refine (in_any _ _ _).mono ?_
        rintro e w' ⟨rfl, rfl⟩
        rw [hs]
        first | (have dx : decide (0 < x) = true := decide_eq_true px) | (have dx : decide (0 < x) = false := decide_eq_false (Int.not_lt.2 px))
        first | (have dy : decide (0 < y) = true := decide_eq_true py) | (have dy : decide (0 < y) = false := decide_eq_false (Int.not_lt.2 py))
        have PX := Lib.hid px
        have PY := Lib.hid py
        clear px py
        go_wp2_with fail
        refine (wants_any ⟨mf, mi, s, a, c⟩ _ size (by first | exact Or.inl rfl | exact Or.inr rfl) _).mono ?_
        rintro e w2 ⟨rfl, hb2⟩
        rw [HWF.out]
        have HB2 := Lib.hid (HB.out.trans (hb2.mono HB.out.size))
        have B2 := HBX.out.keep hb2 HBX.out.lt
        have z0 := B2.cell 0 _ rfl
        have z1 := B2.cell 1 _ rfl
        have hlt := Nat.lt_of_lt_of_le hfb HB.out.size
        rw [← hb2.cell (p := ⟨fb, fo, none⟩) hlt] at q0
        rw [← hb2.cell (p := ⟨fb, fo + 1, none⟩) hlt] at q1
        clear hb2 B2 k0 k1 k2 k3 k4 hx' hy' hlt
        have HW2 := Lib.hid (show wantF ⟨mf, mi, s, a, c⟩ _ size = f from HWF.out)
        clear HWF
        cases f
        · go_wp2
          have px := PX.out
          have py := PY.out
          go_ret2
          first
            | exact SlRes.nil (by rw [← HR.out, HFG.out]; simp [px, show ∀ z : Int, z ≤ 0 → ¬ 0 < z from fun z h => Int.not_lt.2 h]) HB2.out
            | exact SlRes.one (by rw [← HR.out, HFG.out]; simp [px, show ∀ z : Int, z ≤ 0 → ¬ 0 < z from fun z h => Int.not_lt.2 h]) HB2.out HB2.out.size
        · cases mi
          all_goals
            go_wp2
            have px := PX.out
            have py := PY.out
            have hw2 := HW2.out
            go_ret2
            first
              | exact SlRes.nil (by rw [← HR.out, HFG.out]; simp [px, py, show ∀ z : Int, z ≤ 0 → ¬ 0 < z from fun z h => Int.not_lt.2 h]) HB2.out
              | exact SlRes.one (by rw [← HR.out, HFG.out]; simp [px, py, wantB, show ∀ z : Int, z ≤ 0 → ¬ 0 < z from fun z h => Int.not_lt.2 h]) HB2.out HB2.out.size
              | exact SlRes.two (by rw [← HR.out, HFG.out]; simp [wantF] at hw2; simp [px, py, wantB, hw2]) HB2.out HB2.out.size
end Go.Proofs.Ytjacogadmdjfcaa
