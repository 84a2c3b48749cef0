/-
  Contracts of package dev: mayBe, Size, Lost.
-/
import Derived.Test.YtflobdhhjfpcdaaDevPlain
namespace Go.Proofs.Ytflobdhhjfpcdaa
open Go.RowKit

theorem mayBe_any (n : Int) (w : World) : Calls Try.prog 22 #[.int .i64 n] w fun e w' => e = .returned (.bool (decide (1 ≤ n ∧ n ≤ 512))) ∧ w = w' := by
  by_cases h : 1 ≤ n
  · have e : decide (1 ≤ n ∧ n ≤ 512) = decide (n ≤ 512) := by simp [h]
    rw [e]
    clear e
    go_enter Try.func22, Try.ntmps22
    go_wp2
    go_ret
    exact ⟨rfl, rfl⟩
  · have e : decide (1 ≤ n ∧ n ≤ 512) = false := by simp; omega
    rw [e]
    clear e
    go_enter Try.func22, Try.ntmps22
    go_wp2
    go_ret
    exact ⟨rfl, rfl⟩

theorem dsize_nil (dev : Int) (w : World) : Calls Try.prog 14 #[.pointer none, .int .i64 dev] w fun e w' => e = .returned (.int .i64 0) ∧ w = w' := by
  go_enter Try.func14, Try.ntmps14
  go_wp2
  go_ret
  exact ⟨rfl, rfl⟩

set_option maxRecDepth 100000 in
theorem dsize_any (p : DevP) (d : DevD) (dev : Int) (w : World) (h : DevAt w p d) : Calls Try.prog 14 #[.pointer (some ⟨p.b, 0, none⟩), .int .i64 dev] w fun e w' => e = .returned (.int .i64 (devSize d dev : Nat)) ∧ w = w' := by
  have c0 : w.cell? ⟨p.b, 0, none⟩ = some (.slice (some ⟨p.h0, 0, none⟩) d.s0.has.length p.ch0) := h.box.cell 0 _ rfl
  have c3 : w.cell? ⟨p.b, 3, none⟩ = some (.slice (some ⟨p.h1, 0, none⟩) d.s1.has.length p.ch1) := h.box.cell 3 _ rfl
  clear h
  by_cases h0 : dev < 0
  · rw [show devSize d dev = 0 from by unfold devSize; rw [if_neg (by omega), if_neg (by omega)]]
    go_enter Try.func14, Try.ntmps14
    go_wp2
    go_ret
    exact ⟨rfl, rfl⟩
  · by_cases h2 : 2 ≤ dev
    · rw [show devSize d dev = 0 from by unfold devSize; rw [if_neg (by omega), if_neg (by omega)]]
      go_enter Try.func14, Try.ntmps14
      go_wp2
      go_ret
      exact ⟨rfl, rfl⟩
    · have hd : dev = 0 ∨ dev = 1 := by omega
      clear h0 h2
      rcases hd with rfl | rfl
      · rw [show devSize d 0 = d.s0.has.length from rfl]
        go_enter Try.func14, Try.ntmps14
        go_wp2
        go_ret
        exact ⟨rfl, rfl⟩
      · rw [show devSize d 1 = d.s1.has.length from rfl]
        go_enter Try.func14, Try.ntmps14
        go_wp2
        go_ret
        exact ⟨rfl, rfl⟩

end Go.Proofs.Ytflobdhhjfpcdaa
