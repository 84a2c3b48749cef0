/-
  The walk of ClassRoom.
-/
import Derived.Test.YtjacogadmdjfcaaClassLive
import Derived.Test.YtjacogadmdjfcaaFrame
import Derived.Test.YtjacogadmdjfcaaOpenClass
import Derived.Deep.QuietTactic
import Derived.BigQuiet
namespace Go.Proofs.Ytjacogadmdjfcaa.classRoom
open Go.RowKit

theorem choose_out {p : PolD} {k z x y : Int} (hc : chkP p = 0) (hk : k = 0 ∨ k = 1) (hz : inB z 960 = true) (hx : 0 ≤ x) (hy : 0 ≤ y) :
    (chooseP p k z [x, y] = ([], 6) ∧ x = 0) ∨ (chooseP p k z [x, y] = ([0], 0) ∧ 0 < x) ∨ (chooseP p k z [x, y] = ([1], 0) ∧ 0 < y) ∨ (chooseP p k z [x, y] = ([1, 0], 0) ∧ 0 < x ∧ 0 < y) := by
  rw [choose_good hc hk hz hx hy]
  split
  · next h =>
    split
    · next h2 => exact .inr (.inr (.inr ⟨rfl, h2.2, h.2⟩))
    · exact .inr (.inr (.inl ⟨rfl, h.2⟩))
  · split
    · next h => exact .inr (.inl ⟨rfl, h⟩)
    · exact .inl ⟨rfl, by omega⟩

set_option maxRecDepth 100000 in
set_option maxHeartbeats 2000000 in
theorem walk (w : World) (y0 : PolD) (k0 z0 : Int) (x0 : Option Addr) (c0 : Nat) (l0 : List Int) (s0 : Sl w (Value.int .i64) x0 l0) (m0 : l0.length ≤ maxLen) :
    Calls Try.prog 4 #[.agg #[.bool y0.mf, .bool y0.mi, .int .i64 y0.small, .int .i64 y0.arc, .int .i64 y0.second, .int .i64 k0, .int .i64 z0, .slice x0 l0.length c0]] w fun e w' => e = .returned (.bool true) ∧ Below w.heap.size w w' := by
  obtain ⟨mf, mi, s, a, c⟩ := y0
  generalize k0 = k at *
  generalize z0 = z at *
  have S0 := Lib.hid s0
  unfold maxLen at m0
  clear s0
  show Calls _ _ #[.agg #[.bool mf, .bool mi, .int .i64 s, .int .i64 a, .int .i64 c, .int .i64 k, .int .i64 z, .slice x0 l0.length c0]] _ _
  by_cases hp : okPol ⟨mf, mi, s, a, c⟩ = true
  case neg =>
    have hc : chkP ⟨mf, mi, s, a, c⟩ = 1 := by unfold chkP; rw [if_neg hp]
    clear hp
    have BX := Lib.hid (Box.new w 26 #[.bool mf, .bool mi, .int .i64 s, .int .i64 a, .int .i64 c, .int .i64 k, .int .i64 z, .slice x0 l0.length c0])
    have HB0 := Lib.hid ((Below.refl w.heap.size w).alloc (Nat.le_refl _) (.cells #[.bool mf, .bool mi, .int .i64 s, .int .i64 a, .int .i64 c, .int .i64 k, .int .i64 z, .slice x0 l0.length c0] 26 (0, 0)))
    have k0 := BX.out.cell 0 _ rfl
    have k1 := BX.out.cell 1 _ rfl
    have k2 := BX.out.cell 2 _ rfl
    have k3 := BX.out.cell 3 _ rfl
    have k4 := BX.out.cell 4 _ rfl
    have k5 := BX.out.cell 5 _ rfl
    have k6 := BX.out.cell 6 _ rfl
    have k7 := BX.out.cell 7 _ rfl
    go_enter Try.func4, Try.ntmps4
    go_wp2_with fail
    refine (check_any ⟨mf, mi, s, a, c⟩ _).mono ?_
    rintro e v1 ⟨rfl, hb⟩
    rw [hc]
    have HB := Lib.hid (HB0.out.trans (hb.mono HB0.out.size))
    have B1 := Lib.hid (BX.out.keep hb BX.out.lt)
    clear k0 k1 k2 k3 k4 k5 k6 k7 hb HB0 BX
    have k0 := B1.out.cell 0 _ rfl
    have k1 := B1.out.cell 1 _ rfl
    have k2 := B1.out.cell 2 _ rfl
    have k3 := B1.out.cell 3 _ rfl
    have k4 := B1.out.cell 4 _ rfl
    have k5 := B1.out.cell 5 _ rfl
    have k6 := B1.out.cell 6 _ rfl
    have k7 := B1.out.cell 7 _ rfl
    go_wp2_with fail
    refine (live_any _).mono ?_
    rintro e wl ⟨rfl, hb⟩
    have HL := Lib.hid (HB.out.trans (hb.mono HB.out.size))
    clear hb
    go_wp2
    go_ret
    exact ⟨rfl, HL.out⟩
  have hc : chkP ⟨mf, mi, s, a, c⟩ = 0 := by unfold chkP; rw [if_pos hp]
  have HC := Lib.hid hc
  clear hp
  by_cases hlen : l0.length = 2
  case neg =>
    have hb2 : ((l0.length : Int) != 2) = true := by simp; omega
    clear hlen
    have BX := Lib.hid (Box.new w 26 #[.bool mf, .bool mi, .int .i64 s, .int .i64 a, .int .i64 c, .int .i64 k, .int .i64 z, .slice x0 l0.length c0])
    have HB0 := Lib.hid ((Below.refl w.heap.size w).alloc (Nat.le_refl _) (.cells #[.bool mf, .bool mi, .int .i64 s, .int .i64 a, .int .i64 c, .int .i64 k, .int .i64 z, .slice x0 l0.length c0] 26 (0, 0)))
    have k0 := BX.out.cell 0 _ rfl
    have k1 := BX.out.cell 1 _ rfl
    have k2 := BX.out.cell 2 _ rfl
    have k3 := BX.out.cell 3 _ rfl
    have k4 := BX.out.cell 4 _ rfl
    have k5 := BX.out.cell 5 _ rfl
    have k6 := BX.out.cell 6 _ rfl
    have k7 := BX.out.cell 7 _ rfl
    go_enter Try.func4, Try.ntmps4
    go_wp2_with fail
    refine (check_any ⟨mf, mi, s, a, c⟩ _).mono ?_
    rintro e v1 ⟨rfl, hb⟩
    rw [hc]
    have HB := Lib.hid (HB0.out.trans (hb.mono HB0.out.size))
    have B1 := Lib.hid (BX.out.keep hb BX.out.lt)
    clear k0 k1 k2 k3 k4 k5 k6 k7 hb HB0 BX
    have k0 := B1.out.cell 0 _ rfl
    have k1 := B1.out.cell 1 _ rfl
    have k2 := B1.out.cell 2 _ rfl
    have k3 := B1.out.cell 3 _ rfl
    have k4 := B1.out.cell 4 _ rfl
    have k5 := B1.out.cell 5 _ rfl
    have k6 := B1.out.cell 6 _ rfl
    have k7 := B1.out.cell 7 _ rfl
    go_wp2_with fail
    refine (live_any _).mono ?_
    rintro e wl ⟨rfl, hb⟩
    have HL := Lib.hid (HB.out.trans (hb.mono HB.out.size))
    clear hb
    go_wp2
    go_ret
    exact ⟨rfl, HL.out⟩
  obtain ⟨x, y, rfl⟩ : ∃ x y, l0 = [x, y] := by
    match l0, hlen with
    | [x, y], _ => exact ⟨x, y, rfl⟩
  have SF := Lib.hid S0.out
  obtain ⟨fb, fo, rfl, hfb, hfc⟩ := S0.out (by simp)
  have HFB := Lib.hid hfb
  have Q0 := Lib.hid (hfc 0 x rfl)
  have Q1 := Lib.hid (hfc 1 y rfl)
  clear hfb hfc S0 hlen
  show Calls _ _ #[.agg #[.bool mf, .bool mi, .int .i64 s, .int .i64 a, .int .i64 c, .int .i64 k, .int .i64 z, .slice (some ⟨fb, fo, none⟩) 2 c0]] _ _
  have BX := Lib.hid (Box.new w 26 #[.bool mf, .bool mi, .int .i64 s, .int .i64 a, .int .i64 c, .int .i64 k, .int .i64 z, .slice (some ⟨fb, fo, none⟩) 2 c0])
  have HB0 := Lib.hid ((Below.refl w.heap.size w).alloc (Nat.le_refl _) (.cells #[.bool mf, .bool mi, .int .i64 s, .int .i64 a, .int .i64 c, .int .i64 k, .int .i64 z, .slice (some ⟨fb, fo, none⟩) 2 c0] 26 (0, 0)))
  have k0 := BX.out.cell 0 _ rfl
  have k1 := BX.out.cell 1 _ rfl
  have k2 := BX.out.cell 2 _ rfl
  have k3 := BX.out.cell 3 _ rfl
  have k4 := BX.out.cell 4 _ rfl
  have k5 := BX.out.cell 5 _ rfl
  have k6 := BX.out.cell 6 _ rfl
  have k7 := BX.out.cell 7 _ rfl
  by_cases hG0 : k < 0
  · go_enter Try.func4, Try.ntmps4
    go_wp2_with fail
    refine (check_any ⟨mf, mi, s, a, c⟩ _).mono ?_
    rintro e v1 ⟨rfl, hb⟩
    rw [hc]
    have HB := Lib.hid (HB0.out.trans (hb.mono HB0.out.size))
    have B1 := Lib.hid (BX.out.keep hb BX.out.lt)
    clear k0 k1 k2 k3 k4 k5 k6 k7 hb HB0 BX
    have k0 := B1.out.cell 0 _ rfl
    have k1 := B1.out.cell 1 _ rfl
    have k2 := B1.out.cell 2 _ rfl
    have k3 := B1.out.cell 3 _ rfl
    have k4 := B1.out.cell 4 _ rfl
    have k5 := B1.out.cell 5 _ rfl
    have k6 := B1.out.cell 6 _ rfl
    have k7 := B1.out.cell 7 _ rfl
    have q0 : v1.cell? ⟨fb, fo, none⟩ = some (.int .i64 x) := by rw [HB.out.cell (p := ⟨fb, fo, none⟩) HFB.out]; exact Q0.out
    have q1 : v1.cell? ⟨fb, fo + 1, none⟩ = some (.int .i64 y) := by rw [HB.out.cell (p := ⟨fb, fo + 1, none⟩) HFB.out]; exact Q1.out
    go_wp2_with fail
    refine (live_any _).mono ?_
    rintro e wl ⟨rfl, hb⟩
    have HL := Lib.hid (HB.out.trans (hb.mono HB.out.size))
    clear hb
    go_wp2
    go_ret
    exact ⟨rfl, HL.out⟩
  by_cases hG1 : 1 < k
  · go_enter Try.func4, Try.ntmps4
    go_wp2_with fail
    refine (check_any ⟨mf, mi, s, a, c⟩ _).mono ?_
    rintro e v1 ⟨rfl, hb⟩
    rw [hc]
    have HB := Lib.hid (HB0.out.trans (hb.mono HB0.out.size))
    have B1 := Lib.hid (BX.out.keep hb BX.out.lt)
    clear k0 k1 k2 k3 k4 k5 k6 k7 hb HB0 BX
    have k0 := B1.out.cell 0 _ rfl
    have k1 := B1.out.cell 1 _ rfl
    have k2 := B1.out.cell 2 _ rfl
    have k3 := B1.out.cell 3 _ rfl
    have k4 := B1.out.cell 4 _ rfl
    have k5 := B1.out.cell 5 _ rfl
    have k6 := B1.out.cell 6 _ rfl
    have k7 := B1.out.cell 7 _ rfl
    have q0 : v1.cell? ⟨fb, fo, none⟩ = some (.int .i64 x) := by rw [HB.out.cell (p := ⟨fb, fo, none⟩) HFB.out]; exact Q0.out
    have q1 : v1.cell? ⟨fb, fo + 1, none⟩ = some (.int .i64 y) := by rw [HB.out.cell (p := ⟨fb, fo + 1, none⟩) HFB.out]; exact Q1.out
    go_wp2_with fail
    refine (live_any _).mono ?_
    rintro e wl ⟨rfl, hb⟩
    have HL := Lib.hid (HB.out.trans (hb.mono HB.out.size))
    clear hb
    go_wp2
    go_ret
    exact ⟨rfl, HL.out⟩
  by_cases hG2 : z < 0
  · go_enter Try.func4, Try.ntmps4
    go_wp2_with fail
    refine (check_any ⟨mf, mi, s, a, c⟩ _).mono ?_
    rintro e v1 ⟨rfl, hb⟩
    rw [hc]
    have HB := Lib.hid (HB0.out.trans (hb.mono HB0.out.size))
    have B1 := Lib.hid (BX.out.keep hb BX.out.lt)
    clear k0 k1 k2 k3 k4 k5 k6 k7 hb HB0 BX
    have k0 := B1.out.cell 0 _ rfl
    have k1 := B1.out.cell 1 _ rfl
    have k2 := B1.out.cell 2 _ rfl
    have k3 := B1.out.cell 3 _ rfl
    have k4 := B1.out.cell 4 _ rfl
    have k5 := B1.out.cell 5 _ rfl
    have k6 := B1.out.cell 6 _ rfl
    have k7 := B1.out.cell 7 _ rfl
    have q0 : v1.cell? ⟨fb, fo, none⟩ = some (.int .i64 x) := by rw [HB.out.cell (p := ⟨fb, fo, none⟩) HFB.out]; exact Q0.out
    have q1 : v1.cell? ⟨fb, fo + 1, none⟩ = some (.int .i64 y) := by rw [HB.out.cell (p := ⟨fb, fo + 1, none⟩) HFB.out]; exact Q1.out
    go_wp2_with fail
    refine (live_any _).mono ?_
    rintro e wl ⟨rfl, hb⟩
    have HL := Lib.hid (HB.out.trans (hb.mono HB.out.size))
    clear hb
    go_wp2
    go_ret
    exact ⟨rfl, HL.out⟩
  by_cases hG3 : 960 < z
  · go_enter Try.func4, Try.ntmps4
    go_wp2_with fail
    refine (check_any ⟨mf, mi, s, a, c⟩ _).mono ?_
    rintro e v1 ⟨rfl, hb⟩
    rw [hc]
    have HB := Lib.hid (HB0.out.trans (hb.mono HB0.out.size))
    have B1 := Lib.hid (BX.out.keep hb BX.out.lt)
    clear k0 k1 k2 k3 k4 k5 k6 k7 hb HB0 BX
    have k0 := B1.out.cell 0 _ rfl
    have k1 := B1.out.cell 1 _ rfl
    have k2 := B1.out.cell 2 _ rfl
    have k3 := B1.out.cell 3 _ rfl
    have k4 := B1.out.cell 4 _ rfl
    have k5 := B1.out.cell 5 _ rfl
    have k6 := B1.out.cell 6 _ rfl
    have k7 := B1.out.cell 7 _ rfl
    have q0 : v1.cell? ⟨fb, fo, none⟩ = some (.int .i64 x) := by rw [HB.out.cell (p := ⟨fb, fo, none⟩) HFB.out]; exact Q0.out
    have q1 : v1.cell? ⟨fb, fo + 1, none⟩ = some (.int .i64 y) := by rw [HB.out.cell (p := ⟨fb, fo + 1, none⟩) HFB.out]; exact Q1.out
    go_wp2_with fail
    refine (live_any _).mono ?_
    rintro e wl ⟨rfl, hb⟩
    have HL := Lib.hid (HB.out.trans (hb.mono HB.out.size))
    clear hb
    go_wp2
    go_ret
    exact ⟨rfl, HL.out⟩
  by_cases hG4 : x < 0
  · go_enter Try.func4, Try.ntmps4
    go_wp2_with fail
    refine (check_any ⟨mf, mi, s, a, c⟩ _).mono ?_
    rintro e v1 ⟨rfl, hb⟩
    rw [hc]
    have HB := Lib.hid (HB0.out.trans (hb.mono HB0.out.size))
    have B1 := Lib.hid (BX.out.keep hb BX.out.lt)
    clear k0 k1 k2 k3 k4 k5 k6 k7 hb HB0 BX
    have k0 := B1.out.cell 0 _ rfl
    have k1 := B1.out.cell 1 _ rfl
    have k2 := B1.out.cell 2 _ rfl
    have k3 := B1.out.cell 3 _ rfl
    have k4 := B1.out.cell 4 _ rfl
    have k5 := B1.out.cell 5 _ rfl
    have k6 := B1.out.cell 6 _ rfl
    have k7 := B1.out.cell 7 _ rfl
    have q0 : v1.cell? ⟨fb, fo, none⟩ = some (.int .i64 x) := by rw [HB.out.cell (p := ⟨fb, fo, none⟩) HFB.out]; exact Q0.out
    have q1 : v1.cell? ⟨fb, fo + 1, none⟩ = some (.int .i64 y) := by rw [HB.out.cell (p := ⟨fb, fo + 1, none⟩) HFB.out]; exact Q1.out
    go_wp2_with fail
    refine (live_any _).mono ?_
    rintro e wl ⟨rfl, hb⟩
    have HL := Lib.hid (HB.out.trans (hb.mono HB.out.size))
    clear hb
    go_wp2
    go_ret
    exact ⟨rfl, HL.out⟩
  by_cases hG5 : y < 0
  · go_enter Try.func4, Try.ntmps4
    go_wp2_with fail
    refine (check_any ⟨mf, mi, s, a, c⟩ _).mono ?_
    rintro e v1 ⟨rfl, hb⟩
    rw [hc]
    have HB := Lib.hid (HB0.out.trans (hb.mono HB0.out.size))
    have B1 := Lib.hid (BX.out.keep hb BX.out.lt)
    clear k0 k1 k2 k3 k4 k5 k6 k7 hb HB0 BX
    have k0 := B1.out.cell 0 _ rfl
    have k1 := B1.out.cell 1 _ rfl
    have k2 := B1.out.cell 2 _ rfl
    have k3 := B1.out.cell 3 _ rfl
    have k4 := B1.out.cell 4 _ rfl
    have k5 := B1.out.cell 5 _ rfl
    have k6 := B1.out.cell 6 _ rfl
    have k7 := B1.out.cell 7 _ rfl
    have q0 : v1.cell? ⟨fb, fo, none⟩ = some (.int .i64 x) := by rw [HB.out.cell (p := ⟨fb, fo, none⟩) HFB.out]; exact Q0.out
    have q1 : v1.cell? ⟨fb, fo + 1, none⟩ = some (.int .i64 y) := by rw [HB.out.cell (p := ⟨fb, fo + 1, none⟩) HFB.out]; exact Q1.out
    go_wp2_with fail
    refine (live_any _).mono ?_
    rintro e wl ⟨rfl, hb⟩
    have HL := Lib.hid (HB.out.trans (hb.mono HB.out.size))
    clear hb
    go_wp2
    go_ret
    exact ⟨rfl, HL.out⟩
  have hz : inB z 960 = true := by unfold inB; simp; omega
  have hO := choose_out HC.out (show k = 0 ∨ k = 1 by omega) hz (show 0 ≤ x by omega) (show 0 ≤ y by omega)
  clear hz
  rcases hO with ⟨hE, rfl⟩ | ⟨hE, px⟩ | ⟨hE, py⟩ | ⟨hE, px, py⟩
  · have HE := Lib.hid hE
    clear hE
    go_enter Try.func4, Try.ntmps4
    go_wp2_with fail
    refine (check_any ⟨mf, mi, s, a, c⟩ _).mono ?_
    rintro e v1 ⟨rfl, hb⟩
    rw [hc]
    have HB := Lib.hid (HB0.out.trans (hb.mono HB0.out.size))
    have B1 := Lib.hid (BX.out.keep hb BX.out.lt)
    clear k0 k1 k2 k3 k4 k5 k6 k7 hb HB0 BX
    have k0 := B1.out.cell 0 _ rfl
    have k1 := B1.out.cell 1 _ rfl
    have k2 := B1.out.cell 2 _ rfl
    have k3 := B1.out.cell 3 _ rfl
    have k4 := B1.out.cell 4 _ rfl
    have k5 := B1.out.cell 5 _ rfl
    have k6 := B1.out.cell 6 _ rfl
    have k7 := B1.out.cell 7 _ rfl
    have q0 : v1.cell? ⟨fb, fo, none⟩ = some (.int .i64 0) := by rw [HB.out.cell (p := ⟨fb, fo, none⟩) HFB.out]; exact Q0.out
    have q1 : v1.cell? ⟨fb, fo + 1, none⟩ = some (.int .i64 y) := by rw [HB.out.cell (p := ⟨fb, fo + 1, none⟩) HFB.out]; exact Q1.out
    go_wp2_with fail
    refine (choose_any ⟨mf, mi, s, a, c⟩ k z _ c0 [0, y] _ (small_len (by simp)) (SF.out.keep (HB.out.mono (Nat.le_refl _)))).mono ?_
    rintro e v2 ⟨a1, c1, rfl, hs, hb⟩
    rw [HE.out] at hs ⊢
    have A1 : Hid (Sl v2 (Value.int .i64) a1 []) := hs
    have HB2 := Lib.hid (HB.out.trans (hb.mono HB.out.size))
    have B2 := Lib.hid (B1.out.keep hb B1.out.lt)
    clear hs hb q0 q1 B1 HB k0 k1 k2 k3 k4 k5 k6 k7
    have k0 := B2.out.cell 0 _ rfl
    have k1 := B2.out.cell 1 _ rfl
    have k2 := B2.out.cell 2 _ rfl
    have k3 := B2.out.cell 3 _ rfl
    have k4 := B2.out.cell 4 _ rfl
    have k5 := B2.out.cell 5 _ rfl
    have k6 := B2.out.cell 6 _ rfl
    have k7 := B2.out.cell 7 _ rfl
    have q0 : v2.cell? ⟨fb, fo, none⟩ = some (.int .i64 0) := by rw [HB2.out.cell (p := ⟨fb, fo, none⟩) HFB.out]; exact Q0.out
    have q1 : v2.cell? ⟨fb, fo + 1, none⟩ = some (.int .i64 y) := by rw [HB2.out.cell (p := ⟨fb, fo + 1, none⟩) HFB.out]; exact Q1.out
    go_wp2_with fail
    refine (live_any _).mono ?_
    rintro e wl ⟨rfl, hb⟩
    have HL := Lib.hid (HB2.out.trans (hb.mono HB2.out.size))
    clear hb
    go_wp2
    go_ret
    exact ⟨rfl, HL.out⟩
  · have HE := Lib.hid hE
    have Hpx := Lib.hid px
    clear hE
    go_enter Try.func4, Try.ntmps4
    go_wp2_with fail
    refine (check_any ⟨mf, mi, s, a, c⟩ _).mono ?_
    rintro e v1 ⟨rfl, hb⟩
    rw [hc]
    have HB := Lib.hid (HB0.out.trans (hb.mono HB0.out.size))
    have B1 := Lib.hid (BX.out.keep hb BX.out.lt)
    clear k0 k1 k2 k3 k4 k5 k6 k7 hb HB0 BX
    have k0 := B1.out.cell 0 _ rfl
    have k1 := B1.out.cell 1 _ rfl
    have k2 := B1.out.cell 2 _ rfl
    have k3 := B1.out.cell 3 _ rfl
    have k4 := B1.out.cell 4 _ rfl
    have k5 := B1.out.cell 5 _ rfl
    have k6 := B1.out.cell 6 _ rfl
    have k7 := B1.out.cell 7 _ rfl
    have q0 : v1.cell? ⟨fb, fo, none⟩ = some (.int .i64 x) := by rw [HB.out.cell (p := ⟨fb, fo, none⟩) HFB.out]; exact Q0.out
    have q1 : v1.cell? ⟨fb, fo + 1, none⟩ = some (.int .i64 y) := by rw [HB.out.cell (p := ⟨fb, fo + 1, none⟩) HFB.out]; exact Q1.out
    go_wp2_with fail
    refine (choose_any ⟨mf, mi, s, a, c⟩ k z _ c0 [x, y] _ (small_len (by simp)) (SF.out.keep (HB.out.mono (Nat.le_refl _)))).mono ?_
    rintro e v2 ⟨a1, c1, rfl, hs, hb⟩
    rw [HE.out] at hs ⊢
    have A1 : Hid (Sl v2 (Value.int .i64) a1 [0]) := hs
    have HB2 := Lib.hid (HB.out.trans (hb.mono HB.out.size))
    have B2 := Lib.hid (B1.out.keep hb B1.out.lt)
    clear hs hb q0 q1 B1 HB k0 k1 k2 k3 k4 k5 k6 k7
    obtain ⟨lb, lo, rfl, hlb, hlc⟩ := A1.out (by simp)
    have HLB := Lib.hid hlb
    have R0 := Lib.hid (hlc 0 0 rfl)
    clear hlb hlc A1
    have r0 : v2.cell? ⟨lb, lo, none⟩ = some (.int .i64 0) := R0.out
    go_wp2_with fail
    go_quiet (fail)
    have HD : Hid (Below v2.heap.size v2 (v2.drewN nq)) := ⟨rfl, rfl, rfl, Nat.le_refl _, fun _ _ => rfl⟩
    clear r0
    go_wp2
    go_loopw [5] (fun i wr => ∃ j : Nat, j ≤ 1 ∧ i = .int .i64 j ∧ Hid (Below v2.heap.size v2 wr)) (fun i _ => 1 - (intOf i).toNat)
    case atStart => exact ⟨0, Nat.zero_le _, rfl, HD⟩
    case round =>
      clear HD
      obtain ⟨j, hj, rfl, HD⟩ := hrel
      by_cases hlt : j < 1
      · obtain rfl : j = 0 := by omega
        have hx1 := Nat.lt_of_lt_of_le HFB.out HB2.out.size
        have k7 : wr.cell? ⟨w.heap.size, 7, none⟩ = some (.slice (some ⟨fb, fo, none⟩) 2 c0) := by rw [HD.out.cell (p := ⟨w.heap.size, 7, none⟩) B2.out.lt]; exact B2.out.cell 7 _ rfl
        have q0 : wr.cell? ⟨fb, fo, none⟩ = some (.int .i64 x) := by rw [HD.out.cell (p := ⟨fb, fo, none⟩) hx1, HB2.out.cell (p := ⟨fb, fo, none⟩) HFB.out]; exact Q0.out
        have rj : wr.cell? ⟨lb, lo, none⟩ = some (.int .i64 0) := by rw [HD.out.cell (p := ⟨lb, lo, none⟩) HLB.out]; exact R0.out
        have HDN : Hid (∀ nq, Below v2.heap.size v2 (wr.drewN nq)) := fun nq => ⟨HD.out.os, HD.out.tape, HD.out.output, HD.out.size, HD.out.block⟩
        clear HD hx1 hlt hj
        go_wp2_with fail
        go_quiet (fail)
        go_wp2
        go_roundw
        case rel => exact ⟨1, by omega, by go_num, HDN.out _⟩
        case measure => simp [intOf]
      · obtain rfl : j = 1 := by omega
        have HB := Lib.hid (HB2.out.trans (HD.out.mono HB2.out.size))
        clear hlt hj
        go_wp2_with fail
        refine (live_any _).mono ?_
        rintro e wl ⟨rfl, hb⟩
        have HL := Lib.hid (HB.out.trans (hb.mono HB.out.size))
        clear hb
        go_wp2
        go_ret
        exact ⟨rfl, HL.out⟩
  · have HE := Lib.hid hE
    have Hpy := Lib.hid py
    clear hE
    go_enter Try.func4, Try.ntmps4
    go_wp2_with fail
    refine (check_any ⟨mf, mi, s, a, c⟩ _).mono ?_
    rintro e v1 ⟨rfl, hb⟩
    rw [hc]
    have HB := Lib.hid (HB0.out.trans (hb.mono HB0.out.size))
    have B1 := Lib.hid (BX.out.keep hb BX.out.lt)
    clear k0 k1 k2 k3 k4 k5 k6 k7 hb HB0 BX
    have k0 := B1.out.cell 0 _ rfl
    have k1 := B1.out.cell 1 _ rfl
    have k2 := B1.out.cell 2 _ rfl
    have k3 := B1.out.cell 3 _ rfl
    have k4 := B1.out.cell 4 _ rfl
    have k5 := B1.out.cell 5 _ rfl
    have k6 := B1.out.cell 6 _ rfl
    have k7 := B1.out.cell 7 _ rfl
    have q0 : v1.cell? ⟨fb, fo, none⟩ = some (.int .i64 x) := by rw [HB.out.cell (p := ⟨fb, fo, none⟩) HFB.out]; exact Q0.out
    have q1 : v1.cell? ⟨fb, fo + 1, none⟩ = some (.int .i64 y) := by rw [HB.out.cell (p := ⟨fb, fo + 1, none⟩) HFB.out]; exact Q1.out
    go_wp2_with fail
    refine (choose_any ⟨mf, mi, s, a, c⟩ k z _ c0 [x, y] _ (small_len (by simp)) (SF.out.keep (HB.out.mono (Nat.le_refl _)))).mono ?_
    rintro e v2 ⟨a1, c1, rfl, hs, hb⟩
    rw [HE.out] at hs ⊢
    have A1 : Hid (Sl v2 (Value.int .i64) a1 [1]) := hs
    have HB2 := Lib.hid (HB.out.trans (hb.mono HB.out.size))
    have B2 := Lib.hid (B1.out.keep hb B1.out.lt)
    clear hs hb q0 q1 B1 HB k0 k1 k2 k3 k4 k5 k6 k7
    obtain ⟨lb, lo, rfl, hlb, hlc⟩ := A1.out (by simp)
    have HLB := Lib.hid hlb
    have R0 := Lib.hid (hlc 0 1 rfl)
    clear hlb hlc A1
    have r0 : v2.cell? ⟨lb, lo, none⟩ = some (.int .i64 1) := R0.out
    go_wp2_with fail
    go_quiet (fail)
    have HD : Hid (Below v2.heap.size v2 (v2.drewN nq)) := ⟨rfl, rfl, rfl, Nat.le_refl _, fun _ _ => rfl⟩
    clear r0
    go_wp2
    go_loopw [5] (fun i wr => ∃ j : Nat, j ≤ 1 ∧ i = .int .i64 j ∧ Hid (Below v2.heap.size v2 wr)) (fun i _ => 1 - (intOf i).toNat)
    case atStart => exact ⟨0, Nat.zero_le _, rfl, HD⟩
    case round =>
      clear HD
      obtain ⟨j, hj, rfl, HD⟩ := hrel
      by_cases hlt : j < 1
      · obtain rfl : j = 0 := by omega
        have hx1 := Nat.lt_of_lt_of_le HFB.out HB2.out.size
        have k7 : wr.cell? ⟨w.heap.size, 7, none⟩ = some (.slice (some ⟨fb, fo, none⟩) 2 c0) := by rw [HD.out.cell (p := ⟨w.heap.size, 7, none⟩) B2.out.lt]; exact B2.out.cell 7 _ rfl
        have q1 : wr.cell? ⟨fb, fo + 1, none⟩ = some (.int .i64 y) := by rw [HD.out.cell (p := ⟨fb, fo + 1, none⟩) hx1, HB2.out.cell (p := ⟨fb, fo + 1, none⟩) HFB.out]; exact Q1.out
        have rj : wr.cell? ⟨lb, lo, none⟩ = some (.int .i64 1) := by rw [HD.out.cell (p := ⟨lb, lo, none⟩) HLB.out]; exact R0.out
        have HDN : Hid (∀ nq, Below v2.heap.size v2 (wr.drewN nq)) := fun nq => ⟨HD.out.os, HD.out.tape, HD.out.output, HD.out.size, HD.out.block⟩
        clear HD hx1 hlt hj
        go_wp2_with fail
        go_quiet (fail)
        go_wp2
        go_roundw
        case rel => exact ⟨1, by omega, by go_num, HDN.out _⟩
        case measure => simp [intOf]
      · obtain rfl : j = 1 := by omega
        have HB := Lib.hid (HB2.out.trans (HD.out.mono HB2.out.size))
        clear hlt hj
        go_wp2_with fail
        refine (live_any _).mono ?_
        rintro e wl ⟨rfl, hb⟩
        have HL := Lib.hid (HB.out.trans (hb.mono HB.out.size))
        clear hb
        go_wp2
        go_ret
        exact ⟨rfl, HL.out⟩
  · have HE := Lib.hid hE
    have Hpx := Lib.hid px
    have Hpy := Lib.hid py
    clear hE
    go_enter Try.func4, Try.ntmps4
    go_wp2_with fail
    refine (check_any ⟨mf, mi, s, a, c⟩ _).mono ?_
    rintro e v1 ⟨rfl, hb⟩
    rw [hc]
    have HB := Lib.hid (HB0.out.trans (hb.mono HB0.out.size))
    have B1 := Lib.hid (BX.out.keep hb BX.out.lt)
    clear k0 k1 k2 k3 k4 k5 k6 k7 hb HB0 BX
    have k0 := B1.out.cell 0 _ rfl
    have k1 := B1.out.cell 1 _ rfl
    have k2 := B1.out.cell 2 _ rfl
    have k3 := B1.out.cell 3 _ rfl
    have k4 := B1.out.cell 4 _ rfl
    have k5 := B1.out.cell 5 _ rfl
    have k6 := B1.out.cell 6 _ rfl
    have k7 := B1.out.cell 7 _ rfl
    have q0 : v1.cell? ⟨fb, fo, none⟩ = some (.int .i64 x) := by rw [HB.out.cell (p := ⟨fb, fo, none⟩) HFB.out]; exact Q0.out
    have q1 : v1.cell? ⟨fb, fo + 1, none⟩ = some (.int .i64 y) := by rw [HB.out.cell (p := ⟨fb, fo + 1, none⟩) HFB.out]; exact Q1.out
    go_wp2_with fail
    refine (choose_any ⟨mf, mi, s, a, c⟩ k z _ c0 [x, y] _ (small_len (by simp)) (SF.out.keep (HB.out.mono (Nat.le_refl _)))).mono ?_
    rintro e v2 ⟨a1, c1, rfl, hs, hb⟩
    rw [HE.out] at hs ⊢
    have A1 : Hid (Sl v2 (Value.int .i64) a1 [1, 0]) := hs
    have HB2 := Lib.hid (HB.out.trans (hb.mono HB.out.size))
    have B2 := Lib.hid (B1.out.keep hb B1.out.lt)
    clear hs hb q0 q1 B1 HB k0 k1 k2 k3 k4 k5 k6 k7
    obtain ⟨lb, lo, rfl, hlb, hlc⟩ := A1.out (by simp)
    have HLB := Lib.hid hlb
    have R0 := Lib.hid (hlc 0 1 rfl)
    have R1 := Lib.hid (hlc 1 0 rfl)
    clear hlb hlc A1
    have r0 : v2.cell? ⟨lb, lo, none⟩ = some (.int .i64 1) := R0.out
    have r1 : v2.cell? ⟨lb, lo + 1, none⟩ = some (.int .i64 0) := R1.out
    go_wp2_with fail
    go_quiet (fail)
    have HD : Hid (Below v2.heap.size v2 (v2.drewN nq)) := ⟨rfl, rfl, rfl, Nat.le_refl _, fun _ _ => rfl⟩
    clear r0 r1
    go_wp2
    go_loopw [5] (fun i wr => ∃ j : Nat, j ≤ 2 ∧ i = .int .i64 j ∧ Hid (Below v2.heap.size v2 wr)) (fun i _ => 2 - (intOf i).toNat)
    case atStart => exact ⟨0, Nat.zero_le _, rfl, HD⟩
    case round =>
      clear HD
      obtain ⟨j, hj, rfl, HD⟩ := hrel
      by_cases hlt : j < 2
      · rcases (show j = 0 ∨ j = 1 by omega) with rfl | rfl
        · have hx1 := Nat.lt_of_lt_of_le HFB.out HB2.out.size
          have k7 : wr.cell? ⟨w.heap.size, 7, none⟩ = some (.slice (some ⟨fb, fo, none⟩) 2 c0) := by rw [HD.out.cell (p := ⟨w.heap.size, 7, none⟩) B2.out.lt]; exact B2.out.cell 7 _ rfl
          have q1 : wr.cell? ⟨fb, fo + 1, none⟩ = some (.int .i64 y) := by rw [HD.out.cell (p := ⟨fb, fo + 1, none⟩) hx1, HB2.out.cell (p := ⟨fb, fo + 1, none⟩) HFB.out]; exact Q1.out
          have rj : wr.cell? ⟨lb, lo, none⟩ = some (.int .i64 1) := by rw [HD.out.cell (p := ⟨lb, lo, none⟩) HLB.out]; exact R0.out
          have HDN : Hid (∀ nq, Below v2.heap.size v2 (wr.drewN nq)) := fun nq => ⟨HD.out.os, HD.out.tape, HD.out.output, HD.out.size, HD.out.block⟩
          clear HD hx1 hlt hj
          go_wp2_with fail
          go_quiet (fail)
          go_wp2
          go_roundw
          case rel => exact ⟨1, by omega, by go_num, HDN.out _⟩
          case measure => simp [intOf]
        · have hx1 := Nat.lt_of_lt_of_le HFB.out HB2.out.size
          have k7 : wr.cell? ⟨w.heap.size, 7, none⟩ = some (.slice (some ⟨fb, fo, none⟩) 2 c0) := by rw [HD.out.cell (p := ⟨w.heap.size, 7, none⟩) B2.out.lt]; exact B2.out.cell 7 _ rfl
          have q0 : wr.cell? ⟨fb, fo, none⟩ = some (.int .i64 x) := by rw [HD.out.cell (p := ⟨fb, fo, none⟩) hx1, HB2.out.cell (p := ⟨fb, fo, none⟩) HFB.out]; exact Q0.out
          have rj : wr.cell? ⟨lb, lo + 1, none⟩ = some (.int .i64 0) := by rw [HD.out.cell (p := ⟨lb, lo + 1, none⟩) HLB.out]; exact R1.out
          have HDN : Hid (∀ nq, Below v2.heap.size v2 (wr.drewN nq)) := fun nq => ⟨HD.out.os, HD.out.tape, HD.out.output, HD.out.size, HD.out.block⟩
          clear HD hx1 hlt hj
          go_wp2_with fail
          go_quiet (fail)
          go_wp2
          go_roundw
          case rel => exact ⟨2, by omega, by go_num, HDN.out _⟩
          case measure => simp [intOf]
      · obtain rfl : j = 2 := by omega
        have HB := Lib.hid (HB2.out.trans (HD.out.mono HB2.out.size))
        clear hlt hj
        go_wp2_with fail
        refine (live_any _).mono ?_
        rintro e wl ⟨rfl, hb⟩
        have HL := Lib.hid (HB.out.trans (hb.mono HB.out.size))
        clear hb
        go_wp2
        go_ret
        exact ⟨rfl, HL.out⟩
end Go.Proofs.Ytjacogadmdjfcaa.classRoom
