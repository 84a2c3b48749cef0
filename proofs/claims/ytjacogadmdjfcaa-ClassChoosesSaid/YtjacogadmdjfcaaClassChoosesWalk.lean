/-
  The walk of ClassChooses.
-/
import Derived.Test.YtjacogadmdjfcaaClassLive
import Derived.Test.YtjacogadmdjfcaaFrame
import Derived.Test.YtjacogadmdjfcaaOpenClass
import Derived.Deep.QuietTactic
import Derived.BigQuiet
import Derived.Deep.RegionHeld3
namespace Go.Proofs.Ytjacogadmdjfcaa.classChooses
open Go.RowKit

theorem choose_short (p : PolD) (k z : Int) (l : List Int) : (chooseP p k z l).1.length ≤ 100 := by
  unfold chooseP
  split
  · split
    · split
      · split <;> simp
      · split <;> simp
    · simp
  · simp

abbrev S5 (g : Nat) (mf mi : Bool) (s a c : Int) (w' : World) : Prop := w'.cell? ⟨g, 0, none⟩ = some (.bool mf) ∧ w'.cell? ⟨g, 1, none⟩ = some (.bool mi) ∧ w'.cell? ⟨g, 2, none⟩ = some (.int .i64 s) ∧ w'.cell? ⟨g, 3, none⟩ = some (.int .i64 a) ∧ w'.cell? ⟨g, 4, none⟩ = some (.int .i64 c)
theorem S5.below {g : Nat} {mf mi : Bool} {s a c : Int} {u v : World} (h : S5 g mf mi s a c u) (hb : Below u.heap.size u v) : S5 g mf mi s a c v := by
  obtain ⟨h0, h1, h2, h3, h4⟩ := h
  exact ⟨(hb.cell (lt_of_cell h0)).trans h0, (hb.cell (lt_of_cell h1)).trans h1, (hb.cell (lt_of_cell h2)).trans h2, (hb.cell (lt_of_cell h3)).trans h3, (hb.cell (lt_of_cell h4)).trans h4⟩

set_option maxRecDepth 100000 in
set_option maxHeartbeats 2000000 in
theorem walk (w : World) (y0 : PolD) (k0 z0 : Int) (x0 : Option Addr) (c0 : Nat) (l0 : List Int) (s0 : Sl w (Value.int .i64) x0 l0) (m0 : l0.length ≤ maxLen) (a1 : Int) (w1 : (Lit.int .i64 a1).wf = true) (a2 : Int) (w2 : (Lit.int .i64 a2).wf = true) :
    Calls Try.prog 3 #[.agg #[.bool y0.mf, .bool y0.mi, .int .i64 y0.small, .int .i64 y0.arc, .int .i64 y0.second, .int .i64 k0, .int .i64 z0, .slice x0 l0.length c0], .int .i64 a1, .int .i64 a2] w fun e w' => e = .returned (.bool true) ∧ Below w.heap.size w w' := by
  obtain ⟨mf, mi, s, a, c⟩ := y0
  generalize k0 = k at *
  generalize z0 = z at *
  generalize a1 = m at *
  generalize a2 = d at *
  have S0 := Lib.hid s0
  have M0 := Lib.hid m0
  unfold maxLen at m0
  clear s0 w1 w2
  show Calls _ _ #[.agg #[.bool mf, .bool mi, .int .i64 s, .int .i64 a, .int .i64 c, .int .i64 k, .int .i64 z, .slice x0 l0.length c0], _, _] _ _
  have BX := Lib.hid (Box.new w 26 #[.bool mf, .bool mi, .int .i64 s, .int .i64 a, .int .i64 c, .int .i64 k, .int .i64 z, .slice x0 l0.length c0])
  have HB0 := Lib.hid ((Below.refl w.heap.size w).alloc (Nat.le_refl _) (.cells #[.bool mf, .bool mi, .int .i64 s, .int .i64 a, .int .i64 c, .int .i64 k, .int .i64 z, .slice x0 l0.length c0] 26 (0, 0)))
  have k0 := BX.out.cell 0 _ rfl
  have k1 := BX.out.cell 1 _ rfl
  have k2 := BX.out.cell 2 _ rfl
  have k3 := BX.out.cell 3 _ rfl
  have k4 := BX.out.cell 4 _ rfl
  have k5 := BX.out.cell 5 _ rfl
  have k6 := BX.out.cell 6 _ rfl
  have k7 := BX.out.cell 7 _ rfl
  by_cases hlen : 20 < l0.length
  · go_enter Try.func3, Try.ntmps3
    go_wp2_with fail
    refine (live_any _).mono ?_
    rintro e wl ⟨rfl, hb⟩
    have HL := Lib.hid (HB0.out.trans (hb.mono HB0.out.size))
    clear hb
    go_wp2
    go_ret
    exact ⟨rfl, HL.out⟩
  · go_enter Try.func3, Try.ntmps3
    go_wp2_with fail
    have HB := HB0
    have B0 := BX
    clear HB0 BX
    obtain ⟨r, hr⟩ : ∃ r, chooseP ⟨mf, mi, s, a, c⟩ k z l0 = r := ⟨_, rfl⟩
    have HR := Lib.hid hr
    have HLL : Hid (r.1.length ≤ 100) := by show _ ≤ _; rw [← hr]; exact choose_short _ _ _ _
    clear hr
    obtain ⟨L, er⟩ := r
    obtain ⟨na, hna⟩ : ∃ r, needA ⟨mf, mi, s, a, c⟩ m d = r := ⟨_, rfl⟩
    obtain ⟨nb, hnb⟩ : ∃ r, needB ⟨mf, mi, s, a, c⟩ m d = r := ⟨_, rfl⟩
    have HN := Lib.hid (And.intro hna hnb)
    clear hna hnb
    refine (choose_any ⟨mf, mi, s, a, c⟩ k z x0 c0 l0 _ M0.out (S0.out.keep HB.out)).mono ?_
    rintro e v1 ⟨a1, c1, rfl, hs, hb⟩
    rw [HR.out] at hs ⊢
    have A1 : Hid (Sl v1 (Value.int .i64) a1 L) := hs
    clear hs
    dsimp only
    have HB := Lib.hid (HB.out.trans (hb.mono HB.out.size))
    have B1 := Lib.hid (B0.out.keep hb B0.out.lt)
    clear k0 k1 k2 k3 k4 k5 k6 k7 hb B0
    have k0 := B1.out.cell 0 _ rfl
    have k1 := B1.out.cell 1 _ rfl
    have k2 := B1.out.cell 2 _ rfl
    have k3 := B1.out.cell 3 _ rfl
    have k4 := B1.out.cell 4 _ rfl
    have k5 := B1.out.cell 5 _ rfl
    have k6 := B1.out.cell 6 _ rfl
    have k7 := B1.out.cell 7 _ rfl
    go_wp2_with fail
    refine (rchoose_any ⟨mf, mi, s, a, c⟩ k z x0 c0 l0 _ M0.out (S0.out.keep HB.out)).mono ?_
    rintro e v2 ⟨a2, c2, rfl, hs, hb⟩
    rw [HR.out] at hs ⊢
    have A2 : Hid (Sl v2 (Value.int .i64) a2 L) := hs
    have A1 := Lib.hid (A1.out.keep hb)
    clear hs
    dsimp only
    have HB := Lib.hid (HB.out.trans (hb.mono HB.out.size))
    have B2 := Lib.hid (B1.out.keep hb B1.out.lt)
    clear k0 k1 k2 k3 k4 k5 k6 k7 hb B1
    have k0 := B2.out.cell 0 _ rfl
    have k1 := B2.out.cell 1 _ rfl
    have k2 := B2.out.cell 2 _ rfl
    have k3 := B2.out.cell 3 _ rfl
    have k4 := B2.out.cell 4 _ rfl
    have k5 := B2.out.cell 5 _ rfl
    have k6 := B2.out.cell 6 _ rfl
    have k7 := B2.out.cell 7 _ rfl
    go_wp2_with fail
    refine (need_any ⟨mf, mi, s, a, c⟩ m d _).mono ?_
    rintro e v3 ⟨rfl, hb⟩
    rw [HN.out.1, HN.out.2]
    have A1 := Lib.hid (A1.out.keep hb)
    have A2 := Lib.hid (A2.out.keep hb)
    have HB := Lib.hid (HB.out.trans (hb.mono HB.out.size))
    have B3 := Lib.hid (B2.out.keep hb B2.out.lt)
    clear k0 k1 k2 k3 k4 k5 k6 k7 hb B2
    have k0 := B3.out.cell 0 _ rfl
    have k1 := B3.out.cell 1 _ rfl
    have k2 := B3.out.cell 2 _ rfl
    have k3 := B3.out.cell 3 _ rfl
    have k4 := B3.out.cell 4 _ rfl
    have k5 := B3.out.cell 5 _ rfl
    have k6 := B3.out.cell 6 _ rfl
    have k7 := B3.out.cell 7 _ rfl
    go_wp2_with fail
    refine (rneed_any ⟨mf, mi, s, a, c⟩ m d _).mono ?_
    rintro e v4 ⟨rfl, hb⟩
    rw [HN.out.1, HN.out.2]
    have A1 := Lib.hid (A1.out.keep hb)
    have A2 := Lib.hid (A2.out.keep hb)
    have HB := Lib.hid (HB.out.trans (hb.mono HB.out.size))
    have B4 := Lib.hid (B3.out.keep hb B3.out.lt)
    clear k0 k1 k2 k3 k4 k5 k6 k7 hb B3
    have k0 := B4.out.cell 0 _ rfl
    have k1 := B4.out.cell 1 _ rfl
    have k2 := B4.out.cell 2 _ rfl
    have k3 := B4.out.cell 3 _ rfl
    have k4 := B4.out.cell 4 _ rfl
    have k5 := B4.out.cell 5 _ rfl
    have k6 := B4.out.cell 6 _ rfl
    have k7 := B4.out.cell 7 _ rfl
    have HS : Hid (S5 w.heap.size mf mi s a c v4.drew) := ⟨k0, k1, k2, k3, k4⟩
    have HB : Hid (Below w.heap.size w v4.drew) := HB.out.drew
    have A1 : Hid (Sl v4.drew (Value.int .i64) a1 L) := A1.out
    have A2 : Hid (Sl v4.drew (Value.int .i64) a2 L) := A2.out

    have hchk : (chkP ⟨mf, mi, s, a, c⟩ == chkP ⟨mf, mi, s, a, c⟩) = true := by simp
    generalize hq : chkP ⟨mf, mi, s, a, c⟩ = q at hchk
    have HQ := Lib.hid hq

    clear k0 k1 k2 k3 k4 k5 k6 k7 B4 hq
    go_wp2_with fail
    go_region_held3 (fun w' => w'.cell? ⟨w.heap.size, 0, none⟩ = some (.bool mf) ∧ w'.cell? ⟨w.heap.size, 1, none⟩ = some (.bool mi) ∧ w'.cell? ⟨w.heap.size, 2, none⟩ = some (.int .i64 s) ∧ w'.cell? ⟨w.heap.size, 3, none⟩ = some (.int .i64 a) ∧ w'.cell? ⟨w.heap.size, 4, none⟩ = some (.int .i64 c)) (with_reducible exact HS.out)
      (first
        | (go_at_call 19; refine (ints_any _ _ _ _ L L _ (small_len HLL.out) (small_len HLL.out) A1.out A2.out).mono ?_; rintro e v5 ⟨rfl, hb⟩; rw [show decide (L = L) = true by simp]; have HS := Lib.hid (HS.out.below hb); have HB := Lib.hid (HB.out.trans (hb.mono HB.out.size)); clear hb)
        | (go_at_call 20; refine (check_any ⟨mf, mi, s, a, c⟩ _).mono ?_; rintro e v6 ⟨rfl, hb⟩; rw [HQ.out]; have HS := Lib.hid (HS.out.below hb); have HB := Lib.hid (HB.out.trans (hb.mono HB.out.size)); clear hb)
        | (go_at_call 21; refine (rcheck_any ⟨mf, mi, s, a, c⟩ _).mono ?_; rintro e v7 ⟨rfl, hb⟩; rw [HQ.out]; have HS := Lib.hid (HS.out.below hb); have HB := Lib.hid (HB.out.trans (hb.mono HB.out.size)); clear hb)
        | (go_at_call 14; refine (live_any _).mono ?_; rintro e v8 ⟨rfl, hb⟩; have HS := Lib.hid (HS.out.below hb); have HB := Lib.hid (HB.out.trans (hb.mono HB.out.size)); clear hb))
    all_goals
      go_wp2
      go_ret
      exact ⟨rfl, HB.out⟩
end Go.Proofs.Ytjacogadmdjfcaa.classChooses
