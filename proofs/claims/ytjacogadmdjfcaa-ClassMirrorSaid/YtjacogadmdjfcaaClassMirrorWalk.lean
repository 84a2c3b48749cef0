/-
  The walk of ClassMirror.
-/
import Derived.Test.YtjacogadmdjfcaaClassLive
import Derived.Test.YtjacogadmdjfcaaFrame
import Derived.Test.YtjacogadmdjfcaaOpenClass
import Derived.Deep.QuietTactic
import Derived.BigQuiet
namespace Go.Proofs.Ytjacogadmdjfcaa.classMirror
open Go.RowKit

theorem mirror_choose {s x y m : Int} (hs : inB s 960 = true) (hm : inB m 256 = true) (hx : 0 < x) (hy : 0 < y) : chooseP ⟨true, true, m, 0, 0⟩ 0 s [x, y] = ([1, 0], 0) := by
  have hc : chkP ⟨true, true, m, 0, 0⟩ = 0 := by unfold chkP okPol; simp [hm]; decide
  rw [choose_good hc (Or.inl rfl) hs (by omega) (by omega)]
  have e : wantF ⟨true, true, m, 0, 0⟩ 0 s = true := by unfold wantF; simp
  have f : wantB ⟨true, true, m, 0, 0⟩ 0 = true := by unfold wantB; simp
  rw [e, f]
  simp [hx, hy]

set_option maxRecDepth 100000 in
set_option maxHeartbeats 2000000 in
theorem walk (w : World) (a0 b0 c0 e0 : Int) :
    Calls Try.prog 6 #[.agg #[.int .i64 a0, .int .i64 b0, .int .i64 c0, .int .i64 e0]] w fun e w' => e = .returned (.bool true) ∧ Below w.heap.size w w' := by
  have BX := Box.new w 38 #[.int .i64 a0, .int .i64 b0, .int .i64 c0, .int .i64 e0]
  have HB0 := Lib.hid ((Below.refl w.heap.size w).alloc (Nat.le_refl _) (.cells #[.int .i64 a0, .int .i64 b0, .int .i64 c0, .int .i64 e0] 38 (0, 0)))
  have k0 := BX.cell 0 _ rfl
  have k1 := BX.cell 1 _ rfl
  have k2 := BX.cell 2 _ rfl
  have k3 := BX.cell 3 _ rfl
  clear BX
  by_cases hG0 : a0 < 0
  · go_enter Try.func6, Try.ntmps6
    go_wp2_with fail
    go_quiet (fail)
    have HB : Hid (Below w.heap.size w ((w.alloc (.cells #[.int .i64 a0, .int .i64 b0, .int .i64 c0, .int .i64 e0] 38 (0, 0))).drewN nq)) := ⟨HB0.out.os, HB0.out.tape, HB0.out.output, HB0.out.size, HB0.out.block⟩
    go_wp2_with fail
    refine (live_any _).mono ?_
    rintro e wl ⟨rfl, hb⟩
    have HL := Lib.hid (HB.out.trans (hb.mono HB.out.size))
    clear hb
    go_wp2
    go_ret
    exact ⟨rfl, HL.out⟩
  by_cases hG1 : 960 < a0
  · go_enter Try.func6, Try.ntmps6
    go_wp2_with fail
    go_quiet (fail)
    have HB : Hid (Below w.heap.size w ((w.alloc (.cells #[.int .i64 a0, .int .i64 b0, .int .i64 c0, .int .i64 e0] 38 (0, 0))).drewN nq)) := ⟨HB0.out.os, HB0.out.tape, HB0.out.output, HB0.out.size, HB0.out.block⟩
    go_wp2_with fail
    refine (live_any _).mono ?_
    rintro e wl ⟨rfl, hb⟩
    have HL := Lib.hid (HB.out.trans (hb.mono HB.out.size))
    clear hb
    go_wp2
    go_ret
    exact ⟨rfl, HL.out⟩
  by_cases hG2 : b0 < 1
  · go_enter Try.func6, Try.ntmps6
    go_wp2_with fail
    go_quiet (fail)
    have HB : Hid (Below w.heap.size w ((w.alloc (.cells #[.int .i64 a0, .int .i64 b0, .int .i64 c0, .int .i64 e0] 38 (0, 0))).drewN nq)) := ⟨HB0.out.os, HB0.out.tape, HB0.out.output, HB0.out.size, HB0.out.block⟩
    go_wp2_with fail
    refine (live_any _).mono ?_
    rintro e wl ⟨rfl, hb⟩
    have HL := Lib.hid (HB.out.trans (hb.mono HB.out.size))
    clear hb
    go_wp2
    go_ret
    exact ⟨rfl, HL.out⟩
  by_cases hG3 : c0 < 1
  · go_enter Try.func6, Try.ntmps6
    go_wp2_with fail
    go_quiet (fail)
    have HB : Hid (Below w.heap.size w ((w.alloc (.cells #[.int .i64 a0, .int .i64 b0, .int .i64 c0, .int .i64 e0] 38 (0, 0))).drewN nq)) := ⟨HB0.out.os, HB0.out.tape, HB0.out.output, HB0.out.size, HB0.out.block⟩
    go_wp2_with fail
    refine (live_any _).mono ?_
    rintro e wl ⟨rfl, hb⟩
    have HL := Lib.hid (HB.out.trans (hb.mono HB.out.size))
    clear hb
    go_wp2
    go_ret
    exact ⟨rfl, HL.out⟩
  by_cases hG4 : e0 < 0
  · go_enter Try.func6, Try.ntmps6
    go_wp2_with fail
    go_quiet (fail)
    have HB : Hid (Below w.heap.size w ((w.alloc (.cells #[.int .i64 a0, .int .i64 b0, .int .i64 c0, .int .i64 e0] 38 (0, 0))).drewN nq)) := ⟨HB0.out.os, HB0.out.tape, HB0.out.output, HB0.out.size, HB0.out.block⟩
    go_wp2_with fail
    refine (live_any _).mono ?_
    rintro e wl ⟨rfl, hb⟩
    have HL := Lib.hid (HB.out.trans (hb.mono HB.out.size))
    clear hb
    go_wp2
    go_ret
    exact ⟨rfl, HL.out⟩
  by_cases hG5 : 256 < e0
  · go_enter Try.func6, Try.ntmps6
    go_wp2_with fail
    go_quiet (fail)
    have HB : Hid (Below w.heap.size w ((w.alloc (.cells #[.int .i64 a0, .int .i64 b0, .int .i64 c0, .int .i64 e0] 38 (0, 0))).drewN nq)) := ⟨HB0.out.os, HB0.out.tape, HB0.out.output, HB0.out.size, HB0.out.block⟩
    go_wp2_with fail
    refine (live_any _).mono ?_
    rintro e wl ⟨rfl, hb⟩
    have HL := Lib.hid (HB.out.trans (hb.mono HB.out.size))
    clear hb
    go_wp2
    go_ret
    exact ⟨rfl, HL.out⟩
  have h1 : inB a0 960 = true := by unfold inB; simp; omega
  have h2 : inB e0 256 = true := by unfold inB; simp; omega
  have HC2 := Lib.hid (mirror_choose h1 h2 (show 0 < b0 by omega) (show 0 < c0 by omega))
  clear h1 h2
  go_enter Try.func6, Try.ntmps6
  go_wp2_with fail
  go_quiet (fail)
  have HB : Hid (Below w.heap.size w ((w.alloc (.cells #[.int .i64 a0, .int .i64 b0, .int .i64 c0, .int .i64 e0] 38 (0, 0))).drewN nq)) := ⟨HB0.out.os, HB0.out.tape, HB0.out.output, HB0.out.size, HB0.out.block⟩
  go_wp2_with fail
  have ha := (Below.refl _ (World.drewN (w.alloc (.cells #[.int .i64 a0, .int .i64 b0, .int .i64 c0, .int .i64 e0] 38 (0, 0))) nq)).alloc (Nat.le_refl _) (.cells #[.int .i64 b0, .int .i64 c0] 3 (0, 0))
  have HF := Lib.hid (Box.new (World.drewN (w.alloc (.cells #[.int .i64 a0, .int .i64 b0, .int .i64 c0, .int .i64 e0] 38 (0, 0))) nq) 3 #[.int .i64 b0, .int .i64 c0])
  have HB1 := Lib.hid (HB.out.trans (ha.mono HB.out.size))
  rw [show (World.drewN (w.alloc (.cells #[.int .i64 a0, .int .i64 b0, .int .i64 c0, .int .i64 e0] 38 (0, 0))) nq).heap.size = w.heap.size + 1 from size_alloc w _] at HF
  clear ha HB0 HB k0 k1 k2 k3
  generalize World.alloc (World.drewN _ _) _ = u0 at *
  refine (choose_any ⟨true, true, e0, 0, 0⟩ 0 a0 _ 2 [b0, c0] _ (small_len (by simp)) (Sl.box _ HF.out)).mono ?_
  rintro e v1 ⟨a1, c1, rfl, hs, hb⟩
  rw [HC2.out] at hs ⊢
  have A1 : Hid (Sl v1 (Value.int .i64) a1 [1, 0]) := hs
  have L1 := Lib.hid (HB1.out.trans (hb.mono HB1.out.size))
  clear hs hb HF HB1
  have ha := (Below.refl v1.heap.size v1).alloc (Nat.le_refl _) (.cells #[.int .i64 1, .int .i64 0] 3 (0, 0))
  have HF := Lib.hid (Box.new v1 3 #[.int .i64 1, .int .i64 0])
  have L := Lib.hid (L1.out.trans (ha.mono L1.out.size))
  have A1 := Lib.hid (A1.out.keep ha)
  clear ha
  go_wp2_with fail
  generalize World.alloc v1 _ = u1 at *
  generalize v1.heap.size = g1 at *
  refine (ints_any _ _ _ 2 [1, 0] [1, 0] _ small_len small_len A1.out (Sl.box _ HF.out)).mono ?_
  rintro e v2 ⟨rfl, hb⟩
  rw [show decide (([1, 0] : List Int) = [1, 0]) = true from by decide]
  have L2 := Lib.hid (L.out.trans (hb.mono L.out.size))
  clear hb HF L L1
  go_wp2_with fail
  refine (live_any _).mono ?_
  rintro e wl ⟨rfl, hb⟩
  have HL := Lib.hid (L2.out.trans (hb.mono L2.out.size))
  clear hb
  go_wp2
  go_ret
  exact ⟨rfl, HL.out⟩
end Go.Proofs.Ytjacogadmdjfcaa.classMirror
