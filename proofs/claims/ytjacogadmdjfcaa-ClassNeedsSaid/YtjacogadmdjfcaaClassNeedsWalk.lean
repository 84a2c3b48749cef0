/-
  The walk of ClassNeeds.
-/
import Derived.Test.YtjacogadmdjfcaaClassLive
import Derived.Test.YtjacogadmdjfcaaFrame
import Derived.Test.YtjacogadmdjfcaaOpenClass
import Derived.Deep.QuietTactic
import Derived.BigQuiet
namespace Go.Proofs.Ytjacogadmdjfcaa.classNeeds
open Go.RowKit

theorem needs_all {p : PolD} {m d : Int} (hp : okPol p = true) (hm : 0 ≤ m) (hd : 0 ≤ d) (hm' : m ≤ 1048576) (hd' : d ≤ 1048576) :
    ∃ x y : Int, 0 ≤ x ∧ x ≤ m ∧ 0 ≤ y ∧ y ≤ d ∧ needA p m 0 = m ∧ needB p m 0 = x ∧ needA p 0 d = d ∧ needB p 0 d = y ∧ needA p m d = m + d ∧ needB p m d = x + y := by
  have h1 : inB m 1073741824 = true := by unfold inB; simp; omega
  have h2 : inB d 1073741824 = true := by unfold inB; simp; omega
  have h0 : inB 0 1073741824 = true := by decide
  refine ⟨if p.mf = true then m else 0, if (p.small != 0) = true then d else 0, ?_, ?_, ?_, ?_, ?_, ?_, ?_, ?_, ?_, ?_⟩
  · split <;> omega
  · split <;> omega
  · split <;> omega
  · split <;> omega
  all_goals first | (unfold needA; simp [hp, h0, h1, h2]; done) | (unfold needB; simp [hp, h0, h1, h2])

set_option maxRecDepth 100000 in
set_option maxHeartbeats 2000000 in
theorem walk (w : World) (y0 : PolD) (a1 : Int) (w1 : (Lit.int .i64 a1).wf = true) (a2 : Int) (w2 : (Lit.int .i64 a2).wf = true) :
    Calls Try.prog 8 #[.agg #[.bool y0.mf, .bool y0.mi, .int .i64 y0.small, .int .i64 y0.arc, .int .i64 y0.second], .int .i64 a1, .int .i64 a2] w fun e w' => e = .returned (.bool true) ∧ Below w.heap.size w w' := by
  obtain ⟨mf, mi, s, a, c⟩ := y0
  show Calls _ _ #[.agg #[.bool mf, .bool mi, .int .i64 s, .int .i64 a, .int .i64 c], _, _] _ _
  have BX := Lib.hid (Box.new w 23 #[.bool mf, .bool mi, .int .i64 s, .int .i64 a, .int .i64 c])
  have HB0 := Lib.hid ((Below.refl w.heap.size w).alloc (Nat.le_refl _) (.cells #[.bool mf, .bool mi, .int .i64 s, .int .i64 a, .int .i64 c] 23 (0, 0)))
  have k0 := BX.out.cell 0 _ rfl
  have k1 := BX.out.cell 1 _ rfl
  have k2 := BX.out.cell 2 _ rfl
  have k3 := BX.out.cell 3 _ rfl
  have k4 := BX.out.cell 4 _ rfl
  clear w1 w2
  generalize a1 = m at *
  generalize a2 = d at *
  by_cases hp : okPol ⟨mf, mi, s, a, c⟩ = true
  case neg =>
    have hc : chkP ⟨mf, mi, s, a, c⟩ = 1 := by unfold chkP; rw [if_neg hp]
    clear hp
    go_enter Try.func8, Try.ntmps8
    go_wp2_with fail
    refine (check_any ⟨mf, mi, s, a, c⟩ _).mono ?_
    rintro e v1 ⟨rfl, hb⟩
    rw [hc]
    have HB := Lib.hid (HB0.out.trans (hb.mono HB0.out.size))
    have B1 := Lib.hid (BX.out.keep hb BX.out.lt)
    have k0 := B1.out.cell 0 _ rfl
    have k1 := B1.out.cell 1 _ rfl
    have k2 := B1.out.cell 2 _ rfl
    have k3 := B1.out.cell 3 _ rfl
    have k4 := B1.out.cell 4 _ rfl
    clear k0 k1 k2 k3 k4 hb HB0 BX
    go_wp2_with fail
    refine (live_any _).mono ?_
    rintro e wl ⟨rfl, hb⟩
    have HL := Lib.hid (HB.out.trans (hb.mono HB.out.size))
    clear hb
    go_wp2
    go_ret
    exact ⟨rfl, HL.out⟩
  have HP := Lib.hid hp
  have hc : chkP ⟨mf, mi, s, a, c⟩ = 0 := by unfold chkP; rw [if_pos hp]
  clear hp
  by_cases hG0 : m < 0
  · go_enter Try.func8, Try.ntmps8
    go_wp2_with fail
    refine (check_any ⟨mf, mi, s, a, c⟩ _).mono ?_
    rintro e v1 ⟨rfl, hb⟩
    rw [hc]
    have HB := Lib.hid (HB0.out.trans (hb.mono HB0.out.size))
    have B1 := Lib.hid (BX.out.keep hb BX.out.lt)
    have k0 := B1.out.cell 0 _ rfl
    have k1 := B1.out.cell 1 _ rfl
    have k2 := B1.out.cell 2 _ rfl
    have k3 := B1.out.cell 3 _ rfl
    have k4 := B1.out.cell 4 _ rfl
    clear hb HB0 BX
    go_wp2_with fail
    refine (live_any _).mono ?_
    rintro e wl ⟨rfl, hb⟩
    have HL := Lib.hid (HB.out.trans (hb.mono HB.out.size))
    clear hb
    go_wp2
    go_ret
    exact ⟨rfl, HL.out⟩
  by_cases hG1 : d < 0
  · go_enter Try.func8, Try.ntmps8
    go_wp2_with fail
    refine (check_any ⟨mf, mi, s, a, c⟩ _).mono ?_
    rintro e v1 ⟨rfl, hb⟩
    rw [hc]
    have HB := Lib.hid (HB0.out.trans (hb.mono HB0.out.size))
    have B1 := Lib.hid (BX.out.keep hb BX.out.lt)
    have k0 := B1.out.cell 0 _ rfl
    have k1 := B1.out.cell 1 _ rfl
    have k2 := B1.out.cell 2 _ rfl
    have k3 := B1.out.cell 3 _ rfl
    have k4 := B1.out.cell 4 _ rfl
    clear hb HB0 BX
    go_wp2_with fail
    refine (live_any _).mono ?_
    rintro e wl ⟨rfl, hb⟩
    have HL := Lib.hid (HB.out.trans (hb.mono HB.out.size))
    clear hb
    go_wp2
    go_ret
    exact ⟨rfl, HL.out⟩
  by_cases hG2 : 1048576 < m
  · go_enter Try.func8, Try.ntmps8
    go_wp2_with fail
    refine (check_any ⟨mf, mi, s, a, c⟩ _).mono ?_
    rintro e v1 ⟨rfl, hb⟩
    rw [hc]
    have HB := Lib.hid (HB0.out.trans (hb.mono HB0.out.size))
    have B1 := Lib.hid (BX.out.keep hb BX.out.lt)
    have k0 := B1.out.cell 0 _ rfl
    have k1 := B1.out.cell 1 _ rfl
    have k2 := B1.out.cell 2 _ rfl
    have k3 := B1.out.cell 3 _ rfl
    have k4 := B1.out.cell 4 _ rfl
    clear hb HB0 BX
    go_wp2_with fail
    refine (live_any _).mono ?_
    rintro e wl ⟨rfl, hb⟩
    have HL := Lib.hid (HB.out.trans (hb.mono HB.out.size))
    clear hb
    go_wp2
    go_ret
    exact ⟨rfl, HL.out⟩
  by_cases hG3 : 1048576 < d
  · go_enter Try.func8, Try.ntmps8
    go_wp2_with fail
    refine (check_any ⟨mf, mi, s, a, c⟩ _).mono ?_
    rintro e v1 ⟨rfl, hb⟩
    rw [hc]
    have HB := Lib.hid (HB0.out.trans (hb.mono HB0.out.size))
    have B1 := Lib.hid (BX.out.keep hb BX.out.lt)
    have k0 := B1.out.cell 0 _ rfl
    have k1 := B1.out.cell 1 _ rfl
    have k2 := B1.out.cell 2 _ rfl
    have k3 := B1.out.cell 3 _ rfl
    have k4 := B1.out.cell 4 _ rfl
    clear hb HB0 BX
    go_wp2_with fail
    refine (live_any _).mono ?_
    rintro e wl ⟨rfl, hb⟩
    have HL := Lib.hid (HB.out.trans (hb.mono HB.out.size))
    clear hb
    go_wp2
    go_ret
    exact ⟨rfl, HL.out⟩
  obtain ⟨x, y, hx0, hxm, hy0, hyd, e1, e2, e3, e4, e5, e6⟩ := needs_all HP.out (show 0 ≤ m by omega) (show 0 ≤ d by omega) (show m ≤ 1048576 by omega) (show d ≤ 1048576 by omega)
  have E := Lib.hid (And.intro e1 (And.intro e2 (And.intro e3 (And.intro e4 (And.intro e5 e6)))))
  have b1 : 0 ≤ m := by omega
  have b2 : 0 ≤ d := by omega
  have b3 : m ≤ 1048576 := by omega
  have b4 : d ≤ 1048576 := by omega
  clear e1 e2 e3 e4 e5 e6 hG0 hG1 hG2 hG3
  go_enter Try.func8, Try.ntmps8
  go_wp2_with fail
  refine (check_any ⟨mf, mi, s, a, c⟩ _).mono ?_
  rintro e v1 ⟨rfl, hb⟩
  rw [hc]
  have HB := Lib.hid (HB0.out.trans (hb.mono HB0.out.size))
  have B1 := Lib.hid (BX.out.keep hb BX.out.lt)
  have k0 := B1.out.cell 0 _ rfl
  have k1 := B1.out.cell 1 _ rfl
  have k2 := B1.out.cell 2 _ rfl
  have k3 := B1.out.cell 3 _ rfl
  have k4 := B1.out.cell 4 _ rfl
  clear hb HB0 BX
  go_wp2_with fail
  refine (need_any ⟨mf, mi, s, a, c⟩ m 0 _).mono ?_
  rintro e v2 ⟨rfl, hb⟩
  rw [E.out.1, E.out.2.1]
  have HB := Lib.hid (HB.out.trans (hb.mono HB.out.size))
  have B2 := Lib.hid (B1.out.keep hb B1.out.lt)
  clear k0 k1 k2 k3 k4 hb B1
  have k0 := B2.out.cell 0 _ rfl
  have k1 := B2.out.cell 1 _ rfl
  have k2 := B2.out.cell 2 _ rfl
  have k3 := B2.out.cell 3 _ rfl
  have k4 := B2.out.cell 4 _ rfl
  go_wp2_with fail
  refine (need_any ⟨mf, mi, s, a, c⟩ 0 d _).mono ?_
  rintro e v3 ⟨rfl, hb⟩
  rw [E.out.2.2.1, E.out.2.2.2.1]
  have HB := Lib.hid (HB.out.trans (hb.mono HB.out.size))
  have B3 := Lib.hid (B2.out.keep hb B2.out.lt)
  clear k0 k1 k2 k3 k4 hb B2
  have k0 := B3.out.cell 0 _ rfl
  have k1 := B3.out.cell 1 _ rfl
  have k2 := B3.out.cell 2 _ rfl
  have k3 := B3.out.cell 3 _ rfl
  have k4 := B3.out.cell 4 _ rfl
  go_wp2_with fail
  refine (need_any ⟨mf, mi, s, a, c⟩ m d _).mono ?_
  rintro e v4 ⟨rfl, hb⟩
  rw [E.out.2.2.2.2.1, E.out.2.2.2.2.2]
  have HB := Lib.hid (HB.out.trans (hb.mono HB.out.size))
  have B4 := Lib.hid (B3.out.keep hb B3.out.lt)
  clear k0 k1 k2 k3 k4 hb B3
  have k0 := B4.out.cell 0 _ rfl
  have k1 := B4.out.cell 1 _ rfl
  have k2 := B4.out.cell 2 _ rfl
  have k3 := B4.out.cell 3 _ rfl
  have k4 := B4.out.cell 4 _ rfl
  have h : x + y ≤ m + d := by omega
  go_wp2_with fail
  refine (live_any _).mono ?_
  rintro e wl ⟨rfl, hb⟩
  have HL := Lib.hid (HB.out.trans (hb.mono HB.out.size))
  clear hb
  go_wp2
  go_ret
  exact ⟨rfl, HL.out⟩
end Go.Proofs.Ytjacogadmdjfcaa.classNeeds
