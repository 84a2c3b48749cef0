/-
  What a mark is worth.
-/
import Derived.Test.YtgdlnifncmiebaaHeatA
import Derived.Handy
namespace Go.Proofs.Ytgdlnifncmiebaa
open Go.RowKit Go.ChangeShapes Go.WideShapes Go.ChangeAt

/-- A count c of tick t, at now. -/
def worthOf (c t now : Int) : Int := if now ≤ t then c else c / 2 ^ min (now - t).toNat 30
theorem u64_mod (x : Int) : IntKind.u64.wrap x = x % 18446744073709551616 := by
  unfold IntKind.wrap
  simp [IntKind.bits, IntKind.signed]
theorem u64_gap (t now : Int) (ht : -9223372036854775808 ≤ t) (hn : now ≤ 9223372036854775807) (h : t < now) : IntKind.u64.wrap (IntKind.u64.wrap now - IntKind.u64.wrap t) = now - t := by
  rw [u64_mod, u64_mod, u64_mod]
  omega

set_option maxRecDepth 100000 in
set_option maxHeartbeats 2000000 in
theorem worth_early (c t now : Int) (w : World) (h : now ≤ t) :
    Calls Try.prog 21 #[.agg #[.int .i64 c, .int .i64 t], .int .i64 now] w fun e w' => e = .returned (.int .i64 c) ∧ Below w.heap.size w w' := by
  go_enter Try.func21, Try.ntmps21
  have hd : decide (now ≤ t) = true := by simpa using h
  go_wp2_with fail
  go_ret
  exact ⟨by simp, (Below.refl _ _).alloc (Nat.le_refl _) _⟩
set_option maxRecDepth 100000 in
set_option maxHeartbeats 2000000 in
theorem worth_late (c t now : Int) (w : World) (h : t < now) (ht : -9223372036854775808 ≤ t) (hn : now ≤ 9223372036854775807) :
    Calls Try.prog 21 #[.agg #[.int .i64 c, .int .i64 t], .int .i64 now] w fun e w' => e = .returned (.int .i64 (c / 2 ^ min (now - t).toNat 30)) ∧ Below w.heap.size w w' := by
  have HG := Lib.hid (u64_gap t now ht hn h)
  go_enter Try.func21, Try.ntmps21
  have hd : decide (now ≤ t) = false := by simpa using h
  clear h ht hn
  go_wp2_with fail
  · rw [HG.out] at h
    have e : min (now - t).toNat 30 = 30 := by omega
    go_ret
    exact ⟨by rw [e]; simp, (Below.refl _ _).alloc (Nat.le_refl _) _⟩
  · rw [HG.out] at h
    have e : min (IntKind.u64.wrap (IntKind.u64.wrap now - IntKind.u64.wrap t)).toNat 64 = min (now - t).toNat 30 := by rw [HG.out]; omega
    rw [e]
    go_ret
    exact ⟨by simp, (Below.refl _ _).alloc (Nat.le_refl _) _⟩
theorem worth_any (c t now : Int) (w : World) (ht : -9223372036854775808 ≤ t) (hn : now ≤ 9223372036854775807) :
    Calls Try.prog 21 #[.agg #[.int .i64 c, .int .i64 t], .int .i64 now] w fun e w' => e = .returned (.int .i64 (worthOf c t now)) ∧ Below w.heap.size w w' := by
  by_cases h : now ≤ t
  · unfold worthOf; rw [if_pos h]; exact worth_early c t now w h
  · unfold worthOf; rw [if_neg h]; exact worth_late c t now w (by omega) ht hn
end Go.Proofs.Ytgdlnifncmiebaa
