/-
  The walk of ClassMore.
-/
import Derived.Test.YtjacogadmdjfcaaClassLive
import Derived.Test.YtjacogadmdjfcaaFrame
import Derived.Test.YtjacogadmdjfcaaOpenClass
import Derived.Deep.QuietTactic
import Derived.BigQuiet
import Derived.Deep.RegionHeld3
namespace Go.Proofs.Ytjacogadmdjfcaa.classMore
open Go.RowKit

theorem choose_out {p : PolD} {k z x y : Int} (hc : chkP p = 0) (hk : k = 0 ∨ k = 1) (hz : inB z 960 = true) (hx : 0 ≤ x) (hy : 0 ≤ y) :
    (chooseP p k z [x, y] = ([], 6) ∧ x = 0) ∨ (chooseP p k z [x, y] = ([0], 0) ∧ 0 < x) ∨ (chooseP p k z [x, y] = ([1], 0) ∧ 0 < y) ∨ (chooseP p k z [x, y] = ([1, 0], 0) ∧ 0 < x ∧ 0 < y) := by
  rw [choose_good hc hk hz hx hy]
  split
  · next h =>
    split
    · next h2 => exact .inr (.inr (.inr ⟨rfl, h2.2, h.2⟩))
    · exact .inr (.inr (.inl ⟨rfl, h.2⟩))
  · split
    · next h => exact .inr (.inl ⟨rfl, h⟩)
    · exact .inl ⟨rfl, by omega⟩

abbrev S10 (w : World) (mf mi : Bool) (s a c k z x y : Int) (fb fo c0 : Nat) (w' : World) : Prop :=  w'.cell? ⟨w.heap.size, 0, none⟩ = some (.bool mf) ∧ w'.cell? ⟨w.heap.size, 1, none⟩ = some (.bool mi) ∧ w'.cell? ⟨w.heap.size, 2, none⟩ = some (.int .i64 s) ∧ w'.cell? ⟨w.heap.size, 3, none⟩ = some (.int .i64 a) ∧ w'.cell? ⟨w.heap.size, 4, none⟩ = some (.int .i64 c) ∧ w'.cell? ⟨w.heap.size, 5, none⟩ = some (.int .i64 k) ∧ w'.cell? ⟨w.heap.size, 6, none⟩ = some (.int .i64 z) ∧ w'.cell? ⟨w.heap.size, 7, none⟩ = some (.slice (some ⟨fb, fo, none⟩) 2 c0) ∧ w'.cell? ⟨fb, fo, none⟩ = some (.int .i64 x) ∧ w'.cell? ⟨fb, fo + 1, none⟩ = some (.int .i64 y)
theorem S10.below {w : World} {mf mi : Bool} {s a c k z x y : Int} {fb fo c0 : Nat} {u v : World} (h : S10 w mf mi s a c k z x y fb fo c0 u) (hb : Below u.heap.size u v) : S10 w mf mi s a c k z x y fb fo c0 v := by
  obtain ⟨h0, h1, h2, h3, h4, h5, h6, h7, h8, h9⟩ := h
  exact ⟨(hb.cell (lt_of_cell h0)).trans h0, (hb.cell (lt_of_cell h1)).trans h1, (hb.cell (lt_of_cell h2)).trans h2, (hb.cell (lt_of_cell h3)).trans h3, (hb.cell (lt_of_cell h4)).trans h4, (hb.cell (lt_of_cell h5)).trans h5, (hb.cell (lt_of_cell h6)).trans h6, (hb.cell (lt_of_cell h7)).trans h7, (hb.cell (lt_of_cell h8)).trans h8, (hb.cell (lt_of_cell h9)).trans h9⟩
theorem choose_more {p : PolD} {k z x y m : Int} (hc : chkP p = 0) (hk : k = 0 ∨ k = 1) (hz : inB z 960 = true) (hx : 1 ≤ x) (hy : 1 ≤ y) (hm : 0 ≤ m) :
    ∃ L : List Int, L.length ≤ 100 ∧ chooseP p k z [x, y] = (L, 0) ∧ chooseP p k z [x + m, y + m] = (L, 0) := by
  rw [choose_good hc hk hz (by omega) (by omega), choose_good hc hk hz (by omega) (by omega)]
  have h1 : 0 < x := by omega
  have h2 : 0 < y := by omega
  have h3 : 0 < x + m := by omega
  have h4 : 0 < y + m := by omega
  simp only [h1, h2, h3, h4, and_true, if_true]
  cases wantF p k z <;> cases wantB p k <;> simp

set_option maxRecDepth 100000 in
set_option maxHeartbeats 6000000 in
theorem core (w : World) (mf mi : Bool) (s a c k z x y m : Int) (fb fo c0 : Nat) (hc : chkP ⟨mf, mi, s, a, c⟩ = 0) (hk : k = 0 ∨ k = 1) (z1 : 0 ≤ z) (z2 : z ≤ 960) (x1 : 1 ≤ x) (x2 : x ≤ 1073741824) (y1 : 1 ≤ y) (y2 : y ≤ 1073741824) (m1 : 0 ≤ m) (m2 : m ≤ 1073741824)
    (HFB : Hid (fb < w.heap.size)) (Q0 : Hid (w.cell? ⟨fb, fo, none⟩ = some (.int .i64 x))) (Q1 : Hid (w.cell? ⟨fb, fo + 1, none⟩ = some (.int .i64 y))) (SF : Hid (Sl w (Value.int .i64) (some ⟨fb, fo, none⟩) [x, y])) :
    Calls Try.prog 7 #[.agg #[.bool mf, .bool mi, .int .i64 s, .int .i64 a, .int .i64 c, .int .i64 k, .int .i64 z, .slice (some ⟨fb, fo, none⟩) 2 c0], .int .i64 m] w fun e w' => e = .returned (.bool true) ∧ Below w.heap.size w w' := by
  have BX := Lib.hid (Box.new w 26 #[.bool mf, .bool mi, .int .i64 s, .int .i64 a, .int .i64 c, .int .i64 k, .int .i64 z, .slice (some ⟨fb, fo, none⟩) 2 c0])
  have HB0 := Lib.hid ((Below.refl w.heap.size w).alloc (Nat.le_refl _) (.cells #[.bool mf, .bool mi, .int .i64 s, .int .i64 a, .int .i64 c, .int .i64 k, .int .i64 z, .slice (some ⟨fb, fo, none⟩) 2 c0] 26 (0, 0)))
  have k0 := BX.out.cell 0 _ rfl
  have k1 := BX.out.cell 1 _ rfl
  have k2 := BX.out.cell 2 _ rfl
  have k3 := BX.out.cell 3 _ rfl
  have k4 := BX.out.cell 4 _ rfl
  have k5 := BX.out.cell 5 _ rfl
  have k6 := BX.out.cell 6 _ rfl
  have k7 := BX.out.cell 7 _ rfl
  have HC := Lib.hid hc
  have HKK := Lib.hid hk
  have kk0 : 0 ≤ k := by omega
  have kk1 : k ≤ 1 := by omega
  clear hk
  have hz : inB z 960 = true := by unfold inB; simp; omega
  obtain ⟨L, hL, e1, e2⟩ := choose_more HC.out HKK.out hz x1 y1 m1
  have HE := Lib.hid e1
  have HE2 := Lib.hid e2
  have HLL := Lib.hid hL
  clear hz e1 e2 hL
  go_enter Try.func7, Try.ntmps7
  go_wp2_with fail
  refine (check_any ⟨mf, mi, s, a, c⟩ _).mono ?_
  rintro e v1 ⟨rfl, hb⟩
  rw [hc]
  have HB := Lib.hid (HB0.out.trans (hb.mono HB0.out.size))
  have B1 := Lib.hid (BX.out.keep hb BX.out.lt)
  clear k0 k1 k2 k3 k4 k5 k6 k7 hb HB0 BX
  have k0 := B1.out.cell 0 _ rfl
  have k1 := B1.out.cell 1 _ rfl
  have k2 := B1.out.cell 2 _ rfl
  have k3 := B1.out.cell 3 _ rfl
  have k4 := B1.out.cell 4 _ rfl
  have k5 := B1.out.cell 5 _ rfl
  have k6 := B1.out.cell 6 _ rfl
  have k7 := B1.out.cell 7 _ rfl
  have q0 : v1.cell? ⟨fb, fo, none⟩ = some (.int .i64 x) := by rw [HB.out.cell (p := ⟨fb, fo, none⟩) HFB.out]; exact Q0.out
  have q1 : v1.cell? ⟨fb, fo + 1, none⟩ = some (.int .i64 y) := by rw [HB.out.cell (p := ⟨fb, fo + 1, none⟩) HFB.out]; exact Q1.out
  go_wp2_with fail
  refine (choose_any ⟨mf, mi, s, a, c⟩ k z _ c0 [x, y] _ (small_len (by simp)) (SF.out.keep (HB.out.mono (Nat.le_refl _)))).mono ?_
  rintro e v2 ⟨a1, c1, rfl, hs, hb⟩
  rw [HE.out] at hs ⊢
  have A1 : Hid (Sl v2 (Value.int .i64) a1 L) := hs
  have HB2 := Lib.hid (HB.out.trans (hb.mono HB.out.size))
  have B2 := Lib.hid (B1.out.keep hb B1.out.lt)
  clear hs hb q0 q1 B1 HB k0 k1 k2 k3 k4 k5 k6 k7
  dsimp only
  have k0 := B2.out.cell 0 _ rfl
  have k1 := B2.out.cell 1 _ rfl
  have k2 := B2.out.cell 2 _ rfl
  have k3 := B2.out.cell 3 _ rfl
  have k4 := B2.out.cell 4 _ rfl
  have k5 := B2.out.cell 5 _ rfl
  have k6 := B2.out.cell 6 _ rfl
  have k7 := B2.out.cell 7 _ rfl
  have q0 : v2.cell? ⟨fb, fo, none⟩ = some (.int .i64 x) := by rw [HB2.out.cell (p := ⟨fb, fo, none⟩) HFB.out]; exact Q0.out
  have q1 : v2.cell? ⟨fb, fo + 1, none⟩ = some (.int .i64 y) := by rw [HB2.out.cell (p := ⟨fb, fo + 1, none⟩) HFB.out]; exact Q1.out
  have g0 : IntKind.i64.wrap (x + m) = x + m := IntWalk.i64_in _ ⟨by omega, by omega⟩
  have g1 : IntKind.i64.wrap (y + m) = y + m := IntWalk.i64_in _ ⟨by omega, by omega⟩
  have HS0 : Hid (S10 w mf mi s a c k z x y fb fo c0 v2) := ⟨k0, k1, k2, k3, k4, k5, k6, k7, q0, q1⟩
  have HN : Hid (Box (v2.alloc (.cells #[.int .i64 (x + m), .int .i64 (y + m)] 3 (0, 0))).drew v2.heap.size 3 #[.int .i64 (x + m), .int .i64 (y + m)]) := Box.new v2 3 #[.int .i64 (x + m), .int .i64 (y + m)]
  have ha : Below v2.heap.size v2 (v2.alloc (.cells #[.int .i64 (x + m), .int .i64 (y + m)] 3 (0, 0))).drew := ((Below.refl _ _).alloc (Nat.le_refl _) _).drew
  have A3 := Lib.hid (A1.out.keep ha)
  have HB3 := Lib.hid (HB2.out.trans (ha.mono HB2.out.size))
  have HS2 := Lib.hid (HS0.out.below ha)
  have HS : Hid (S10 w mf mi s a c k z x y fb fo c0 v2.drew) := HS0.out
  clear ha A1 k0 k1 k2 k3 k4 k5 k6 k7 q0 q1 kk0 kk1 x1 x2 y1 y2 m1 m2 z1 z2
  go_wp2_with fail
  go_region_held3 (fun w' =>  w'.cell? ⟨w.heap.size, 0, none⟩ = some (.bool mf) ∧ w'.cell? ⟨w.heap.size, 1, none⟩ = some (.bool mi) ∧ w'.cell? ⟨w.heap.size, 2, none⟩ = some (.int .i64 s) ∧ w'.cell? ⟨w.heap.size, 3, none⟩ = some (.int .i64 a) ∧ w'.cell? ⟨w.heap.size, 4, none⟩ = some (.int .i64 c) ∧ w'.cell? ⟨w.heap.size, 5, none⟩ = some (.int .i64 k) ∧ w'.cell? ⟨w.heap.size, 6, none⟩ = some (.int .i64 z) ∧ w'.cell? ⟨w.heap.size, 7, none⟩ = some (.slice (some ⟨fb, fo, none⟩) 2 c0) ∧ w'.cell? ⟨fb, fo, none⟩ = some (.int .i64 x) ∧ w'.cell? ⟨fb, fo + 1, none⟩ = some (.int .i64 y)) (first | with_reducible exact HS.out | with_reducible exact HS2.out)
    ((go_at_call 15; refine (choose_any ⟨mf, mi, s, a, c⟩ k z _ 2 [x + m, y + m] _ (small_len (by simp)) (Sl.box _ HN.out)).mono ?_; rintro e v3 ⟨a2, c2, rfl, hs, hb⟩; rw [HE2.out] at hs ⊢; have A2 : Hid (Sl v3 (Value.int .i64) a2 L) := hs; have A4 := Lib.hid (A3.out.keep hb); have HB4 := Lib.hid (HB3.out.trans (hb.mono HB3.out.size)); have HS2 := Lib.hid (HS2.out.below hb); clear hs hb A3 HB3 HN; dsimp only))
  clear HS HS0 HS2 g0 g1
  go_wp2_with fail
  refine (ints_any _ _ _ _ L L _ (small_len HLL.out) (small_len HLL.out) A4.out A2.out).mono ?_
  rintro e v4 ⟨rfl, hb⟩
  rw [show decide (L = L) = true by simp]
  have HB5 := Lib.hid (HB4.out.trans (hb.mono HB4.out.size))
  clear hb A4 A2 HB4
  go_wp2_with fail
  refine (live_any _).mono ?_
  rintro e wl ⟨rfl, hb⟩
  have HL := Lib.hid (HB5.out.trans (hb.mono HB5.out.size))
  clear hb
  go_wp2
  go_ret
  exact ⟨rfl, HL.out⟩

set_option maxRecDepth 100000 in
set_option maxHeartbeats 8000000 in
theorem walk (w : World) (y0 : PolD) (k0 z0 : Int) (x0 : Option Addr) (c0 : Nat) (l0 : List Int) (s0 : Sl w (Value.int .i64) x0 l0) (m0 : l0.length ≤ maxLen) (a1 : Int) (w1 : (Lit.int .i64 a1).wf = true) :
    Calls Try.prog 7 #[.agg #[.bool y0.mf, .bool y0.mi, .int .i64 y0.small, .int .i64 y0.arc, .int .i64 y0.second, .int .i64 k0, .int .i64 z0, .slice x0 l0.length c0], .int .i64 a1] w fun e w' => e = .returned (.bool true) ∧ Below w.heap.size w w' := by
  obtain ⟨mf, mi, s, a, c⟩ := y0
  generalize k0 = k at *
  generalize z0 = z at *
  generalize a1 = m at *
  clear w1
  have S0 := Lib.hid s0
  unfold maxLen at m0
  clear s0
  show Calls _ _ #[.agg #[.bool mf, .bool mi, .int .i64 s, .int .i64 a, .int .i64 c, .int .i64 k, .int .i64 z, .slice x0 l0.length c0], _] _ _
  by_cases hp : okPol ⟨mf, mi, s, a, c⟩ = true
  case neg =>
    have hc : chkP ⟨mf, mi, s, a, c⟩ = 1 := by unfold chkP; rw [if_neg hp]
    clear hp
    have BX := Lib.hid (Box.new w 26 #[.bool mf, .bool mi, .int .i64 s, .int .i64 a, .int .i64 c, .int .i64 k, .int .i64 z, .slice x0 l0.length c0])
    have HB0 := Lib.hid ((Below.refl w.heap.size w).alloc (Nat.le_refl _) (.cells #[.bool mf, .bool mi, .int .i64 s, .int .i64 a, .int .i64 c, .int .i64 k, .int .i64 z, .slice x0 l0.length c0] 26 (0, 0)))
    have k0 := BX.out.cell 0 _ rfl
    have k1 := BX.out.cell 1 _ rfl
    have k2 := BX.out.cell 2 _ rfl
    have k3 := BX.out.cell 3 _ rfl
    have k4 := BX.out.cell 4 _ rfl
    have k5 := BX.out.cell 5 _ rfl
    have k6 := BX.out.cell 6 _ rfl
    have k7 := BX.out.cell 7 _ rfl
    go_enter Try.func7, Try.ntmps7
    go_wp2_with fail
    refine (check_any ⟨mf, mi, s, a, c⟩ _).mono ?_
    rintro e v1 ⟨rfl, hb⟩
    rw [hc]
    have HB := Lib.hid (HB0.out.trans (hb.mono HB0.out.size))
    have B1 := Lib.hid (BX.out.keep hb BX.out.lt)
    clear k0 k1 k2 k3 k4 k5 k6 k7 hb HB0 BX
    have k0 := B1.out.cell 0 _ rfl
    have k1 := B1.out.cell 1 _ rfl
    have k2 := B1.out.cell 2 _ rfl
    have k3 := B1.out.cell 3 _ rfl
    have k4 := B1.out.cell 4 _ rfl
    have k5 := B1.out.cell 5 _ rfl
    have k6 := B1.out.cell 6 _ rfl
    have k7 := B1.out.cell 7 _ rfl
    go_wp2_with fail
    refine (live_any _).mono ?_
    rintro e wl ⟨rfl, hb⟩
    have HL := Lib.hid (HB.out.trans (hb.mono HB.out.size))
    clear hb
    go_wp2
    go_ret
    exact ⟨rfl, HL.out⟩
  have hc : chkP ⟨mf, mi, s, a, c⟩ = 0 := by unfold chkP; rw [if_pos hp]
  have HC := Lib.hid hc
  clear hp
  by_cases hlen : l0.length = 2
  case neg =>
    have hb2 : ((l0.length : Int) != 2) = true := by simp; omega
    clear hlen
    have BX := Lib.hid (Box.new w 26 #[.bool mf, .bool mi, .int .i64 s, .int .i64 a, .int .i64 c, .int .i64 k, .int .i64 z, .slice x0 l0.length c0])
    have HB0 := Lib.hid ((Below.refl w.heap.size w).alloc (Nat.le_refl _) (.cells #[.bool mf, .bool mi, .int .i64 s, .int .i64 a, .int .i64 c, .int .i64 k, .int .i64 z, .slice x0 l0.length c0] 26 (0, 0)))
    have k0 := BX.out.cell 0 _ rfl
    have k1 := BX.out.cell 1 _ rfl
    have k2 := BX.out.cell 2 _ rfl
    have k3 := BX.out.cell 3 _ rfl
    have k4 := BX.out.cell 4 _ rfl
    have k5 := BX.out.cell 5 _ rfl
    have k6 := BX.out.cell 6 _ rfl
    have k7 := BX.out.cell 7 _ rfl
    go_enter Try.func7, Try.ntmps7
    go_wp2_with fail
    refine (check_any ⟨mf, mi, s, a, c⟩ _).mono ?_
    rintro e v1 ⟨rfl, hb⟩
    rw [hc]
    have HB := Lib.hid (HB0.out.trans (hb.mono HB0.out.size))
    have B1 := Lib.hid (BX.out.keep hb BX.out.lt)
    clear k0 k1 k2 k3 k4 k5 k6 k7 hb HB0 BX
    have k0 := B1.out.cell 0 _ rfl
    have k1 := B1.out.cell 1 _ rfl
    have k2 := B1.out.cell 2 _ rfl
    have k3 := B1.out.cell 3 _ rfl
    have k4 := B1.out.cell 4 _ rfl
    have k5 := B1.out.cell 5 _ rfl
    have k6 := B1.out.cell 6 _ rfl
    have k7 := B1.out.cell 7 _ rfl
    go_wp2_with fail
    refine (live_any _).mono ?_
    rintro e wl ⟨rfl, hb⟩
    have HL := Lib.hid (HB.out.trans (hb.mono HB.out.size))
    clear hb
    go_wp2
    go_ret
    exact ⟨rfl, HL.out⟩
  obtain ⟨x, y, rfl⟩ : ∃ x y, l0 = [x, y] := by
    match l0, hlen with
    | [x, y], _ => exact ⟨x, y, rfl⟩
  have SF := Lib.hid S0.out
  obtain ⟨fb, fo, rfl, hfb, hfc⟩ := S0.out (by simp)
  have HFB := Lib.hid hfb
  have Q0 := Lib.hid (hfc 0 x rfl)
  have Q1 := Lib.hid (hfc 1 y rfl)
  clear hfb hfc S0 hlen
  show Calls _ _ #[.agg #[.bool mf, .bool mi, .int .i64 s, .int .i64 a, .int .i64 c, .int .i64 k, .int .i64 z, .slice (some ⟨fb, fo, none⟩) 2 c0], _] _ _
  have BX := Lib.hid (Box.new w 26 #[.bool mf, .bool mi, .int .i64 s, .int .i64 a, .int .i64 c, .int .i64 k, .int .i64 z, .slice (some ⟨fb, fo, none⟩) 2 c0])
  have HB0 := Lib.hid ((Below.refl w.heap.size w).alloc (Nat.le_refl _) (.cells #[.bool mf, .bool mi, .int .i64 s, .int .i64 a, .int .i64 c, .int .i64 k, .int .i64 z, .slice (some ⟨fb, fo, none⟩) 2 c0] 26 (0, 0)))
  have k0 := BX.out.cell 0 _ rfl
  have k1 := BX.out.cell 1 _ rfl
  have k2 := BX.out.cell 2 _ rfl
  have k3 := BX.out.cell 3 _ rfl
  have k4 := BX.out.cell 4 _ rfl
  have k5 := BX.out.cell 5 _ rfl
  have k6 := BX.out.cell 6 _ rfl
  have k7 := BX.out.cell 7 _ rfl
  by_cases hG0 : k < 0
  · go_enter Try.func7, Try.ntmps7
    go_wp2_with fail
    refine (check_any ⟨mf, mi, s, a, c⟩ _).mono ?_
    rintro e v1 ⟨rfl, hb⟩
    rw [hc]
    have HB := Lib.hid (HB0.out.trans (hb.mono HB0.out.size))
    have B1 := Lib.hid (BX.out.keep hb BX.out.lt)
    clear k0 k1 k2 k3 k4 k5 k6 k7 hb HB0 BX
    have k0 := B1.out.cell 0 _ rfl
    have k1 := B1.out.cell 1 _ rfl
    have k2 := B1.out.cell 2 _ rfl
    have k3 := B1.out.cell 3 _ rfl
    have k4 := B1.out.cell 4 _ rfl
    have k5 := B1.out.cell 5 _ rfl
    have k6 := B1.out.cell 6 _ rfl
    have k7 := B1.out.cell 7 _ rfl
    have q0 : v1.cell? ⟨fb, fo, none⟩ = some (.int .i64 x) := by rw [HB.out.cell (p := ⟨fb, fo, none⟩) HFB.out]; exact Q0.out
    have q1 : v1.cell? ⟨fb, fo + 1, none⟩ = some (.int .i64 y) := by rw [HB.out.cell (p := ⟨fb, fo + 1, none⟩) HFB.out]; exact Q1.out
    go_wp2_with fail
    refine (live_any _).mono ?_
    rintro e wl ⟨rfl, hb⟩
    have HL := Lib.hid (HB.out.trans (hb.mono HB.out.size))
    clear hb
    go_wp2
    go_ret
    exact ⟨rfl, HL.out⟩
  by_cases hG1 : 1 < k
  · go_enter Try.func7, Try.ntmps7
    go_wp2_with fail
    refine (check_any ⟨mf, mi, s, a, c⟩ _).mono ?_
    rintro e v1 ⟨rfl, hb⟩
    rw [hc]
    have HB := Lib.hid (HB0.out.trans (hb.mono HB0.out.size))
    have B1 := Lib.hid (BX.out.keep hb BX.out.lt)
    clear k0 k1 k2 k3 k4 k5 k6 k7 hb HB0 BX
    have k0 := B1.out.cell 0 _ rfl
    have k1 := B1.out.cell 1 _ rfl
    have k2 := B1.out.cell 2 _ rfl
    have k3 := B1.out.cell 3 _ rfl
    have k4 := B1.out.cell 4 _ rfl
    have k5 := B1.out.cell 5 _ rfl
    have k6 := B1.out.cell 6 _ rfl
    have k7 := B1.out.cell 7 _ rfl
    have q0 : v1.cell? ⟨fb, fo, none⟩ = some (.int .i64 x) := by rw [HB.out.cell (p := ⟨fb, fo, none⟩) HFB.out]; exact Q0.out
    have q1 : v1.cell? ⟨fb, fo + 1, none⟩ = some (.int .i64 y) := by rw [HB.out.cell (p := ⟨fb, fo + 1, none⟩) HFB.out]; exact Q1.out
    go_wp2_with fail
    refine (live_any _).mono ?_
    rintro e wl ⟨rfl, hb⟩
    have HL := Lib.hid (HB.out.trans (hb.mono HB.out.size))
    clear hb
    go_wp2
    go_ret
    exact ⟨rfl, HL.out⟩
  by_cases hG2 : z < 0
  · go_enter Try.func7, Try.ntmps7
    go_wp2_with fail
    refine (check_any ⟨mf, mi, s, a, c⟩ _).mono ?_
    rintro e v1 ⟨rfl, hb⟩
    rw [hc]
    have HB := Lib.hid (HB0.out.trans (hb.mono HB0.out.size))
    have B1 := Lib.hid (BX.out.keep hb BX.out.lt)
    clear k0 k1 k2 k3 k4 k5 k6 k7 hb HB0 BX
    have k0 := B1.out.cell 0 _ rfl
    have k1 := B1.out.cell 1 _ rfl
    have k2 := B1.out.cell 2 _ rfl
    have k3 := B1.out.cell 3 _ rfl
    have k4 := B1.out.cell 4 _ rfl
    have k5 := B1.out.cell 5 _ rfl
    have k6 := B1.out.cell 6 _ rfl
    have k7 := B1.out.cell 7 _ rfl
    have q0 : v1.cell? ⟨fb, fo, none⟩ = some (.int .i64 x) := by rw [HB.out.cell (p := ⟨fb, fo, none⟩) HFB.out]; exact Q0.out
    have q1 : v1.cell? ⟨fb, fo + 1, none⟩ = some (.int .i64 y) := by rw [HB.out.cell (p := ⟨fb, fo + 1, none⟩) HFB.out]; exact Q1.out
    go_wp2_with fail
    refine (live_any _).mono ?_
    rintro e wl ⟨rfl, hb⟩
    have HL := Lib.hid (HB.out.trans (hb.mono HB.out.size))
    clear hb
    go_wp2
    go_ret
    exact ⟨rfl, HL.out⟩
  by_cases hG3 : 960 < z
  · go_enter Try.func7, Try.ntmps7
    go_wp2_with fail
    refine (check_any ⟨mf, mi, s, a, c⟩ _).mono ?_
    rintro e v1 ⟨rfl, hb⟩
    rw [hc]
    have HB := Lib.hid (HB0.out.trans (hb.mono HB0.out.size))
    have B1 := Lib.hid (BX.out.keep hb BX.out.lt)
    clear k0 k1 k2 k3 k4 k5 k6 k7 hb HB0 BX
    have k0 := B1.out.cell 0 _ rfl
    have k1 := B1.out.cell 1 _ rfl
    have k2 := B1.out.cell 2 _ rfl
    have k3 := B1.out.cell 3 _ rfl
    have k4 := B1.out.cell 4 _ rfl
    have k5 := B1.out.cell 5 _ rfl
    have k6 := B1.out.cell 6 _ rfl
    have k7 := B1.out.cell 7 _ rfl
    have q0 : v1.cell? ⟨fb, fo, none⟩ = some (.int .i64 x) := by rw [HB.out.cell (p := ⟨fb, fo, none⟩) HFB.out]; exact Q0.out
    have q1 : v1.cell? ⟨fb, fo + 1, none⟩ = some (.int .i64 y) := by rw [HB.out.cell (p := ⟨fb, fo + 1, none⟩) HFB.out]; exact Q1.out
    go_wp2_with fail
    refine (live_any _).mono ?_
    rintro e wl ⟨rfl, hb⟩
    have HL := Lib.hid (HB.out.trans (hb.mono HB.out.size))
    clear hb
    go_wp2
    go_ret
    exact ⟨rfl, HL.out⟩
  by_cases hG4 : x < 1
  · go_enter Try.func7, Try.ntmps7
    go_wp2_with fail
    refine (check_any ⟨mf, mi, s, a, c⟩ _).mono ?_
    rintro e v1 ⟨rfl, hb⟩
    rw [hc]
    have HB := Lib.hid (HB0.out.trans (hb.mono HB0.out.size))
    have B1 := Lib.hid (BX.out.keep hb BX.out.lt)
    clear k0 k1 k2 k3 k4 k5 k6 k7 hb HB0 BX
    have k0 := B1.out.cell 0 _ rfl
    have k1 := B1.out.cell 1 _ rfl
    have k2 := B1.out.cell 2 _ rfl
    have k3 := B1.out.cell 3 _ rfl
    have k4 := B1.out.cell 4 _ rfl
    have k5 := B1.out.cell 5 _ rfl
    have k6 := B1.out.cell 6 _ rfl
    have k7 := B1.out.cell 7 _ rfl
    have q0 : v1.cell? ⟨fb, fo, none⟩ = some (.int .i64 x) := by rw [HB.out.cell (p := ⟨fb, fo, none⟩) HFB.out]; exact Q0.out
    have q1 : v1.cell? ⟨fb, fo + 1, none⟩ = some (.int .i64 y) := by rw [HB.out.cell (p := ⟨fb, fo + 1, none⟩) HFB.out]; exact Q1.out
    go_wp2_with fail
    refine (live_any _).mono ?_
    rintro e wl ⟨rfl, hb⟩
    have HL := Lib.hid (HB.out.trans (hb.mono HB.out.size))
    clear hb
    go_wp2
    go_ret
    exact ⟨rfl, HL.out⟩
  by_cases hG5 : y < 1
  · go_enter Try.func7, Try.ntmps7
    go_wp2_with fail
    refine (check_any ⟨mf, mi, s, a, c⟩ _).mono ?_
    rintro e v1 ⟨rfl, hb⟩
    rw [hc]
    have HB := Lib.hid (HB0.out.trans (hb.mono HB0.out.size))
    have B1 := Lib.hid (BX.out.keep hb BX.out.lt)
    clear k0 k1 k2 k3 k4 k5 k6 k7 hb HB0 BX
    have k0 := B1.out.cell 0 _ rfl
    have k1 := B1.out.cell 1 _ rfl
    have k2 := B1.out.cell 2 _ rfl
    have k3 := B1.out.cell 3 _ rfl
    have k4 := B1.out.cell 4 _ rfl
    have k5 := B1.out.cell 5 _ rfl
    have k6 := B1.out.cell 6 _ rfl
    have k7 := B1.out.cell 7 _ rfl
    have q0 : v1.cell? ⟨fb, fo, none⟩ = some (.int .i64 x) := by rw [HB.out.cell (p := ⟨fb, fo, none⟩) HFB.out]; exact Q0.out
    have q1 : v1.cell? ⟨fb, fo + 1, none⟩ = some (.int .i64 y) := by rw [HB.out.cell (p := ⟨fb, fo + 1, none⟩) HFB.out]; exact Q1.out
    go_wp2_with fail
    refine (live_any _).mono ?_
    rintro e wl ⟨rfl, hb⟩
    have HL := Lib.hid (HB.out.trans (hb.mono HB.out.size))
    clear hb
    go_wp2
    go_ret
    exact ⟨rfl, HL.out⟩
  by_cases hG6 : 1073741824 < x
  · go_enter Try.func7, Try.ntmps7
    go_wp2_with fail
    refine (check_any ⟨mf, mi, s, a, c⟩ _).mono ?_
    rintro e v1 ⟨rfl, hb⟩
    rw [hc]
    have HB := Lib.hid (HB0.out.trans (hb.mono HB0.out.size))
    have B1 := Lib.hid (BX.out.keep hb BX.out.lt)
    clear k0 k1 k2 k3 k4 k5 k6 k7 hb HB0 BX
    have k0 := B1.out.cell 0 _ rfl
    have k1 := B1.out.cell 1 _ rfl
    have k2 := B1.out.cell 2 _ rfl
    have k3 := B1.out.cell 3 _ rfl
    have k4 := B1.out.cell 4 _ rfl
    have k5 := B1.out.cell 5 _ rfl
    have k6 := B1.out.cell 6 _ rfl
    have k7 := B1.out.cell 7 _ rfl
    have q0 : v1.cell? ⟨fb, fo, none⟩ = some (.int .i64 x) := by rw [HB.out.cell (p := ⟨fb, fo, none⟩) HFB.out]; exact Q0.out
    have q1 : v1.cell? ⟨fb, fo + 1, none⟩ = some (.int .i64 y) := by rw [HB.out.cell (p := ⟨fb, fo + 1, none⟩) HFB.out]; exact Q1.out
    go_wp2_with fail
    refine (live_any _).mono ?_
    rintro e wl ⟨rfl, hb⟩
    have HL := Lib.hid (HB.out.trans (hb.mono HB.out.size))
    clear hb
    go_wp2
    go_ret
    exact ⟨rfl, HL.out⟩
  by_cases hG7 : 1073741824 < y
  · go_enter Try.func7, Try.ntmps7
    go_wp2_with fail
    refine (check_any ⟨mf, mi, s, a, c⟩ _).mono ?_
    rintro e v1 ⟨rfl, hb⟩
    rw [hc]
    have HB := Lib.hid (HB0.out.trans (hb.mono HB0.out.size))
    have B1 := Lib.hid (BX.out.keep hb BX.out.lt)
    clear k0 k1 k2 k3 k4 k5 k6 k7 hb HB0 BX
    have k0 := B1.out.cell 0 _ rfl
    have k1 := B1.out.cell 1 _ rfl
    have k2 := B1.out.cell 2 _ rfl
    have k3 := B1.out.cell 3 _ rfl
    have k4 := B1.out.cell 4 _ rfl
    have k5 := B1.out.cell 5 _ rfl
    have k6 := B1.out.cell 6 _ rfl
    have k7 := B1.out.cell 7 _ rfl
    have q0 : v1.cell? ⟨fb, fo, none⟩ = some (.int .i64 x) := by rw [HB.out.cell (p := ⟨fb, fo, none⟩) HFB.out]; exact Q0.out
    have q1 : v1.cell? ⟨fb, fo + 1, none⟩ = some (.int .i64 y) := by rw [HB.out.cell (p := ⟨fb, fo + 1, none⟩) HFB.out]; exact Q1.out
    go_wp2_with fail
    refine (live_any _).mono ?_
    rintro e wl ⟨rfl, hb⟩
    have HL := Lib.hid (HB.out.trans (hb.mono HB.out.size))
    clear hb
    go_wp2
    go_ret
    exact ⟨rfl, HL.out⟩
  by_cases hG8 : m < 0
  · go_enter Try.func7, Try.ntmps7
    go_wp2_with fail
    refine (check_any ⟨mf, mi, s, a, c⟩ _).mono ?_
    rintro e v1 ⟨rfl, hb⟩
    rw [hc]
    have HB := Lib.hid (HB0.out.trans (hb.mono HB0.out.size))
    have B1 := Lib.hid (BX.out.keep hb BX.out.lt)
    clear k0 k1 k2 k3 k4 k5 k6 k7 hb HB0 BX
    have k0 := B1.out.cell 0 _ rfl
    have k1 := B1.out.cell 1 _ rfl
    have k2 := B1.out.cell 2 _ rfl
    have k3 := B1.out.cell 3 _ rfl
    have k4 := B1.out.cell 4 _ rfl
    have k5 := B1.out.cell 5 _ rfl
    have k6 := B1.out.cell 6 _ rfl
    have k7 := B1.out.cell 7 _ rfl
    have q0 : v1.cell? ⟨fb, fo, none⟩ = some (.int .i64 x) := by rw [HB.out.cell (p := ⟨fb, fo, none⟩) HFB.out]; exact Q0.out
    have q1 : v1.cell? ⟨fb, fo + 1, none⟩ = some (.int .i64 y) := by rw [HB.out.cell (p := ⟨fb, fo + 1, none⟩) HFB.out]; exact Q1.out
    go_wp2_with fail
    refine (live_any _).mono ?_
    rintro e wl ⟨rfl, hb⟩
    have HL := Lib.hid (HB.out.trans (hb.mono HB.out.size))
    clear hb
    go_wp2
    go_ret
    exact ⟨rfl, HL.out⟩
  by_cases hG9 : 1073741824 < m
  · go_enter Try.func7, Try.ntmps7
    go_wp2_with fail
    refine (check_any ⟨mf, mi, s, a, c⟩ _).mono ?_
    rintro e v1 ⟨rfl, hb⟩
    rw [hc]
    have HB := Lib.hid (HB0.out.trans (hb.mono HB0.out.size))
    have B1 := Lib.hid (BX.out.keep hb BX.out.lt)
    clear k0 k1 k2 k3 k4 k5 k6 k7 hb HB0 BX
    have k0 := B1.out.cell 0 _ rfl
    have k1 := B1.out.cell 1 _ rfl
    have k2 := B1.out.cell 2 _ rfl
    have k3 := B1.out.cell 3 _ rfl
    have k4 := B1.out.cell 4 _ rfl
    have k5 := B1.out.cell 5 _ rfl
    have k6 := B1.out.cell 6 _ rfl
    have k7 := B1.out.cell 7 _ rfl
    have q0 : v1.cell? ⟨fb, fo, none⟩ = some (.int .i64 x) := by rw [HB.out.cell (p := ⟨fb, fo, none⟩) HFB.out]; exact Q0.out
    have q1 : v1.cell? ⟨fb, fo + 1, none⟩ = some (.int .i64 y) := by rw [HB.out.cell (p := ⟨fb, fo + 1, none⟩) HFB.out]; exact Q1.out
    go_wp2_with fail
    refine (live_any _).mono ?_
    rintro e wl ⟨rfl, hb⟩
    have HL := Lib.hid (HB.out.trans (hb.mono HB.out.size))
    clear hb
    go_wp2
    go_ret
    exact ⟨rfl, HL.out⟩
  exact core w mf mi s a c k z x y m fb fo c0 hc (by omega) (by omega) (by omega) (by omega) (by omega) (by omega) (by omega) (by omega) (by omega) HFB Q0 Q1 SF
end Go.Proofs.Ytjacogadmdjfcaa.classMore
