/-
  The walk of ClassPlain.
-/
import Derived.Test.YtjacogadmdjfcaaClassLive
import Derived.Test.YtjacogadmdjfcaaFrame
import Derived.Test.YtjacogadmdjfcaaOpenClass
import Derived.Deep.QuietTactic
import Derived.BigQuiet
namespace Go.Proofs.Ytjacogadmdjfcaa.classPlain
open Go.RowKit

theorem plain_choose {k s x y : Int} (hk : k = 0 ∨ k = 1) (hs : inB s 960 = true) (hx : 0 ≤ x) (hy : 0 ≤ y) : chooseP ⟨false, true, 0, 0, 0⟩ k s [x, y] = if 0 < x then ([0], 0) else ([], 6) := by
  rw [choose_good (by decide) hk hs hx hy]
  have e : wantF ⟨false, true, 0, 0, 0⟩ k s = false := by unfold wantF; simp
  rw [e]
  simp
theorem plain_a (s : Int) : needB ⟨false, true, 0, 0, 0⟩ s s = 0 := by unfold needB; simp

set_option maxRecDepth 100000 in
set_option maxHeartbeats 2000000 in
theorem walk (w : World) (a0 b0 c0 e0 : Int) :
    Calls Try.prog 5 #[.agg #[.int .i64 a0, .int .i64 b0, .int .i64 c0, .int .i64 e0]] w fun e w' => e = .returned (.bool true) ∧ Below w.heap.size w w' := by
  have BX := Box.new w 38 #[.int .i64 a0, .int .i64 b0, .int .i64 c0, .int .i64 e0]
  have HB0 := Lib.hid ((Below.refl w.heap.size w).alloc (Nat.le_refl _) (.cells #[.int .i64 a0, .int .i64 b0, .int .i64 c0, .int .i64 e0] 38 (0, 0)))
  have k0 := BX.cell 0 _ rfl
  have k1 := BX.cell 1 _ rfl
  have k2 := BX.cell 2 _ rfl
  have k3 := BX.cell 3 _ rfl
  clear BX
  by_cases hG0 : a0 < 0
  · go_enter Try.func5, Try.ntmps5
    go_wp2_with fail
    go_quiet (fail)
    have HB : Hid (Below w.heap.size w ((w.alloc (.cells #[.int .i64 a0, .int .i64 b0, .int .i64 c0, .int .i64 e0] 38 (0, 0))).drewN nq)) := ⟨HB0.out.os, HB0.out.tape, HB0.out.output, HB0.out.size, HB0.out.block⟩
    go_wp2_with fail
    refine (live_any _).mono ?_
    rintro e wl ⟨rfl, hb⟩
    have HL := Lib.hid (HB.out.trans (hb.mono HB.out.size))
    clear hb
    go_wp2
    go_ret
    exact ⟨rfl, HL.out⟩
  by_cases hG1 : 1 < a0
  · go_enter Try.func5, Try.ntmps5
    go_wp2_with fail
    go_quiet (fail)
    have HB : Hid (Below w.heap.size w ((w.alloc (.cells #[.int .i64 a0, .int .i64 b0, .int .i64 c0, .int .i64 e0] 38 (0, 0))).drewN nq)) := ⟨HB0.out.os, HB0.out.tape, HB0.out.output, HB0.out.size, HB0.out.block⟩
    go_wp2_with fail
    refine (live_any _).mono ?_
    rintro e wl ⟨rfl, hb⟩
    have HL := Lib.hid (HB.out.trans (hb.mono HB.out.size))
    clear hb
    go_wp2
    go_ret
    exact ⟨rfl, HL.out⟩
  by_cases hG2 : b0 < 0
  · go_enter Try.func5, Try.ntmps5
    go_wp2_with fail
    go_quiet (fail)
    have HB : Hid (Below w.heap.size w ((w.alloc (.cells #[.int .i64 a0, .int .i64 b0, .int .i64 c0, .int .i64 e0] 38 (0, 0))).drewN nq)) := ⟨HB0.out.os, HB0.out.tape, HB0.out.output, HB0.out.size, HB0.out.block⟩
    go_wp2_with fail
    refine (live_any _).mono ?_
    rintro e wl ⟨rfl, hb⟩
    have HL := Lib.hid (HB.out.trans (hb.mono HB.out.size))
    clear hb
    go_wp2
    go_ret
    exact ⟨rfl, HL.out⟩
  by_cases hG3 : 960 < b0
  · go_enter Try.func5, Try.ntmps5
    go_wp2_with fail
    go_quiet (fail)
    have HB : Hid (Below w.heap.size w ((w.alloc (.cells #[.int .i64 a0, .int .i64 b0, .int .i64 c0, .int .i64 e0] 38 (0, 0))).drewN nq)) := ⟨HB0.out.os, HB0.out.tape, HB0.out.output, HB0.out.size, HB0.out.block⟩
    go_wp2_with fail
    refine (live_any _).mono ?_
    rintro e wl ⟨rfl, hb⟩
    have HL := Lib.hid (HB.out.trans (hb.mono HB.out.size))
    clear hb
    go_wp2
    go_ret
    exact ⟨rfl, HL.out⟩
  by_cases hG4 : c0 < 0
  · go_enter Try.func5, Try.ntmps5
    go_wp2_with fail
    go_quiet (fail)
    have HB : Hid (Below w.heap.size w ((w.alloc (.cells #[.int .i64 a0, .int .i64 b0, .int .i64 c0, .int .i64 e0] 38 (0, 0))).drewN nq)) := ⟨HB0.out.os, HB0.out.tape, HB0.out.output, HB0.out.size, HB0.out.block⟩
    go_wp2_with fail
    refine (live_any _).mono ?_
    rintro e wl ⟨rfl, hb⟩
    have HL := Lib.hid (HB.out.trans (hb.mono HB.out.size))
    clear hb
    go_wp2
    go_ret
    exact ⟨rfl, HL.out⟩
  by_cases hG5 : e0 < 0
  · go_enter Try.func5, Try.ntmps5
    go_wp2_with fail
    go_quiet (fail)
    have HB : Hid (Below w.heap.size w ((w.alloc (.cells #[.int .i64 a0, .int .i64 b0, .int .i64 c0, .int .i64 e0] 38 (0, 0))).drewN nq)) := ⟨HB0.out.os, HB0.out.tape, HB0.out.output, HB0.out.size, HB0.out.block⟩
    go_wp2_with fail
    refine (live_any _).mono ?_
    rintro e wl ⟨rfl, hb⟩
    have HL := Lib.hid (HB.out.trans (hb.mono HB.out.size))
    clear hb
    go_wp2
    go_ret
    exact ⟨rfl, HL.out⟩
  have hb : inB b0 960 = true := by unfold inB; simp; omega
  have HC := Lib.hid (plain_choose (show a0 = 0 ∨ a0 = 1 by omega) hb (show 0 ≤ c0 by omega) (show 0 ≤ e0 by omega))
  clear hb
  by_cases hx : 0 < c0
  · have HC2 : Hid (chooseP ⟨false, true, 0, 0, 0⟩ a0 b0 [c0, e0] = ([0], 0)) := by show _ = _; rw [HC.out, if_pos hx]
    have hx0 : (c0 == 0) = false := by simp; omega
    clear HC hx
    go_enter Try.func5, Try.ntmps5
    go_wp2_with fail
    go_quiet (fail)
    have HB : Hid (Below w.heap.size w ((w.alloc (.cells #[.int .i64 a0, .int .i64 b0, .int .i64 c0, .int .i64 e0] 38 (0, 0))).drewN nq)) := ⟨HB0.out.os, HB0.out.tape, HB0.out.output, HB0.out.size, HB0.out.block⟩
    go_wp2_with fail
    have ha := (Below.refl _ (World.drewN (w.alloc (.cells #[.int .i64 a0, .int .i64 b0, .int .i64 c0, .int .i64 e0] 38 (0, 0))) nq)).alloc (Nat.le_refl _) (.cells #[.int .i64 c0, .int .i64 e0] 3 (0, 0))
    have HF := Lib.hid (Box.new (World.drewN (w.alloc (.cells #[.int .i64 a0, .int .i64 b0, .int .i64 c0, .int .i64 e0] 38 (0, 0))) nq) 3 #[.int .i64 c0, .int .i64 e0])
    have HB1 := Lib.hid (HB.out.trans (ha.mono HB.out.size))
    rw [show (World.drewN (w.alloc (.cells #[.int .i64 a0, .int .i64 b0, .int .i64 c0, .int .i64 e0] 38 (0, 0))) nq).heap.size = w.heap.size + 1 from size_alloc w _] at HF
    clear ha HB0 HB k0 k1 k2 k3
    generalize World.alloc (World.drewN _ _) _ = u0 at *
    refine (choose_any ⟨false, true, 0, 0, 0⟩ a0 b0 _ 2 [c0, e0] _ (small_len (by simp)) (Sl.box _ HF.out)).mono ?_
    rintro e v1 ⟨a1, c1, rfl, hs, hb⟩
    rw [HC2.out] at hs ⊢
    have A1 : Hid (Sl v1 (Value.int .i64) a1 [0]) := hs
    have L1 := Lib.hid (HB1.out.trans (hb.mono HB1.out.size))
    clear hs hb HF HB1
    go_wp2_with fail
    refine (need_any ⟨false, true, 0, 0, 0⟩ b0 b0 _).mono ?_
    rintro e v2 ⟨rfl, hb⟩
    rw [plain_a]
    have L2 := Lib.hid (L1.out.trans (hb.mono L1.out.size))
    have A1 := Lib.hid (A1.out.keep hb)
    clear hb L1
    have ha := (Below.refl v2.heap.size v2).alloc (Nat.le_refl _) (.cells #[.int .i64 0] 3 (0, 0))
    have HF := Lib.hid (Box.new v2 3 #[.int .i64 0])
    have L := Lib.hid (L2.out.trans (ha.mono L2.out.size))
    have A1 := Lib.hid (A1.out.keep ha)
    clear ha
    go_wp2_with fail
    generalize World.alloc v2 _ = u2 at *
    generalize v2.heap.size = g2 at *
    refine (ints_any _ _ _ 1 [0] [0] _ small_len small_len A1.out (Sl.box _ HF.out)).mono ?_
    rintro e v3 ⟨rfl, hb⟩
    rw [show decide (([0] : List Int) = [0]) = true from by decide]
    have L3 := Lib.hid (L.out.trans (hb.mono L.out.size))
    clear hb HF L L2
    go_wp2_with fail
    refine (live_any _).mono ?_
    rintro e wl ⟨rfl, hb⟩
    have HL := Lib.hid (L3.out.trans (hb.mono L3.out.size))
    clear hb
    go_wp2
    go_ret
    exact ⟨rfl, HL.out⟩
  · have HC2 : Hid (chooseP ⟨false, true, 0, 0, 0⟩ a0 b0 [c0, e0] = ([], 6)) := by show _ = _; rw [HC.out, if_neg hx]
    have hx0 : (c0 == 0) = true := by simp; omega
    clear HC hx
    go_enter Try.func5, Try.ntmps5
    go_wp2_with fail
    go_quiet (fail)
    have HB : Hid (Below w.heap.size w ((w.alloc (.cells #[.int .i64 a0, .int .i64 b0, .int .i64 c0, .int .i64 e0] 38 (0, 0))).drewN nq)) := ⟨HB0.out.os, HB0.out.tape, HB0.out.output, HB0.out.size, HB0.out.block⟩
    go_wp2_with fail
    have ha := (Below.refl _ (World.drewN (w.alloc (.cells #[.int .i64 a0, .int .i64 b0, .int .i64 c0, .int .i64 e0] 38 (0, 0))) nq)).alloc (Nat.le_refl _) (.cells #[.int .i64 c0, .int .i64 e0] 3 (0, 0))
    have HF := Lib.hid (Box.new (World.drewN (w.alloc (.cells #[.int .i64 a0, .int .i64 b0, .int .i64 c0, .int .i64 e0] 38 (0, 0))) nq) 3 #[.int .i64 c0, .int .i64 e0])
    have HB1 := Lib.hid (HB.out.trans (ha.mono HB.out.size))
    rw [show (World.drewN (w.alloc (.cells #[.int .i64 a0, .int .i64 b0, .int .i64 c0, .int .i64 e0] 38 (0, 0))) nq).heap.size = w.heap.size + 1 from size_alloc w _] at HF
    clear ha HB0 HB k0 k1 k2 k3
    generalize World.alloc (World.drewN _ _) _ = u0 at *
    refine (choose_any ⟨false, true, 0, 0, 0⟩ a0 b0 _ 2 [c0, e0] _ (small_len (by simp)) (Sl.box _ HF.out)).mono ?_
    rintro e v1 ⟨a1, c1, rfl, hs, hb⟩
    rw [HC2.out] at hs ⊢
    have A1 : Hid (Sl v1 (Value.int .i64) a1 []) := hs
    have L1 := Lib.hid (HB1.out.trans (hb.mono HB1.out.size))
    clear hs hb HF HB1
    go_wp2_with fail
    refine (need_any ⟨false, true, 0, 0, 0⟩ b0 b0 _).mono ?_
    rintro e v2 ⟨rfl, hb⟩
    rw [plain_a]
    have L2 := Lib.hid (L1.out.trans (hb.mono L1.out.size))
    clear hb L1
    go_wp2_with fail
    refine (live_any _).mono ?_
    rintro e wl ⟨rfl, hb⟩
    have HL := Lib.hid (L2.out.trans (hb.mono L2.out.size))
    clear hb
    go_wp2
    go_ret
    exact ⟨rfl, HL.out⟩
end Go.Proofs.Ytjacogadmdjfcaa.classPlain
