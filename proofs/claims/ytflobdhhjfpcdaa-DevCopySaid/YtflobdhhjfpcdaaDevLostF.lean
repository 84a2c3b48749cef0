/-
  Contracts of package dev: Lost.
-/
import Derived.Test.YtflobdhhjfpcdaaDevA
namespace Go.Proofs.Ytflobdhhjfpcdaa
open Go.RowKit

theorem dlost_nil (dev : Int) (w : World) : Calls Try.prog 15 #[.pointer none, .int .i64 dev] w fun e w' => e = .returned (.bool false) ∧ w = w' := by
  go_enter Try.func15, Try.ntmps15
  go_wp2_with fail
  refine (dsize_nil dev _).mono ?_
  rintro e w' ⟨rfl, rfl⟩
  go_wp2
  go_ret
  exact ⟨rfl, rfl⟩

set_option maxRecDepth 100000 in
theorem dlost_any (p : DevP) (d : DevD) (dev : Int) (w : World) (h : DevAt w p d) : Calls Try.prog 15 #[.pointer (some ⟨p.b, 0, none⟩), .int .i64 dev] w fun e w' => e = .returned (.bool (devLost d dev)) ∧ w = w' := by
  have H := Lib.hid h
  have c2 : w.cell? ⟨p.b, 2, none⟩ = some (.bool d.s0.lost) := h.box.cell 2 _ rfl
  have c5 : w.cell? ⟨p.b, 5, none⟩ = some (.bool d.s1.lost) := h.box.cell 5 _ rfl
  have n0 := h.n0.1
  have n1 := h.n1.1
  clear h
  by_cases hd : dev = 0 ∨ dev = 1
  · rcases hd with rfl | rfl
    · rw [show devLost d 0 = d.s0.lost from rfl]
      go_enter Try.func15, Try.ntmps15
      go_wp2_with fail
      refine (dsize_any p d 0 _ H.out).mono ?_
      rintro e w' ⟨rfl, rfl⟩
      rw [show devSize d 0 = d.s0.has.length from rfl]
      go_wp2
      go_ret
      exact ⟨rfl, rfl⟩
    · rw [show devLost d 1 = d.s1.lost from rfl]
      go_enter Try.func15, Try.ntmps15
      go_wp2_with fail
      refine (dsize_any p d 1 _ H.out).mono ?_
      rintro e w' ⟨rfl, rfl⟩
      rw [show devSize d 1 = d.s1.has.length from rfl]
      go_wp2
      go_ret
      exact ⟨rfl, rfl⟩
  · have e1 : devLost d dev = false := by unfold devLost; rw [if_neg (by omega), if_neg (by omega)]
    have e2 : devSize d dev = 0 := by unfold devSize; rw [if_neg (by omega), if_neg (by omega)]
    have E2 := Lib.hid e2
    rw [e1]
    clear e1 e2 hd
    go_enter Try.func15, Try.ntmps15
    go_wp2_with fail
    refine (dsize_any p d dev _ H.out).mono ?_
    rintro e w' ⟨rfl, rfl⟩
    rw [E2.out]
    go_wp2
    go_ret
    exact ⟨rfl, rfl⟩
end Go.Proofs.Ytflobdhhjfpcdaa
