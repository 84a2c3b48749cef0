/-
  The walk of FixedNil.
-/
import Derived.Test.YtjhhgaajpojjfaaLive
import Derived.Test.YtjhhgaajpojjfaaFrame
namespace Go.Proofs.Ytjhhgaajpojjfaa.fixedNil
open Go.RowKit

theorem walk (w : World) (a0 : Int) (w0 : (Lit.int .i64 a0).wf = true) :
    Calls Try.prog 6 #[.int .i64 a0] w fun e w' => e = .returned (.bool true) ∧ Below w.heap.size w w' := by
  go_enter Try.func6, Try.ntmps6
  go_wp2_with fail
  refine (number_nil a0 _).mono ?_
  rintro e w' ⟨rfl, rfl⟩
  go_wp2_with fail
  refine (text_nil a0 _).mono ?_
  rintro e w' ⟨rfl, rfl⟩
  go_wp2_with fail
  refine (bytes_nil a0 _).mono ?_
  rintro e w' ⟨rfl, rfl⟩
  go_wp2_with fail
  refine (left_nil _).mono ?_
  rintro e w' ⟨rfl, rfl⟩
  go_wp2_with fail
  refine (end_nil _).mono ?_
  rintro e w' ⟨rfl, rfl⟩
  go_wp2_with fail
  refine (live_any _).mono ?_
  rintro e wl ⟨rfl, hb⟩
  have Hl := Lib.hid hb
  clear hb
  go_wp2
  go_ret
  exact ⟨rfl, Hl.out⟩
end Go.Proofs.Ytjhhgaajpojjfaa.fixedNil
