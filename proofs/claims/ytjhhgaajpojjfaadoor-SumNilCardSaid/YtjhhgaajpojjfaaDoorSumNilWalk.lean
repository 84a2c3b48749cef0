/-
  The walk of SumNil.
-/
import Derived.Test.YtjhhgaajpojjfaaDoorSumLive
import Derived.Test.YtjhhgaajpojjfaaDoorFrame
namespace Go.Proofs.YtjhhgaajpojjfaaDoor.sumNil
open Go.RowKit

theorem walk (w : World) (hK : Kt w) (a0 : ByteArray) (w0 : a0.size ≤ 140737488351232) :
    Calls Tryd.prog 6 #[.string a0] w fun e w' => e = .returned (.bool true) ∧ Below w.heap.size w w' := by
  have HK := Lib.hid hK
  have HP := Lib.hid hK.pos
  clear hK
  go_enter Tryd.func6, Tryd.ntmps6
  go_wp2_with fail
  refine (write_nil a0 _).mono ?_
  rintro e w' ⟨rfl, rfl⟩
  go_wp2_with fail
  refine (sum_nil _ HK.out).mono ?_
  rintro e wB1 ⟨rfl, hb⟩
  have B1 := Lib.hid hb
  clear hb
  go_wp2_with fail
  refine (of_any ⟨#[]⟩ _ (by decide) (HK.out.below B1.out HP.out)).mono ?_
  rintro e wB2 ⟨rfl, hb⟩
  have B2 := Lib.hid (B1.out.trans (hb.mono B1.out.size))
  clear hb
  generalize sha ⟨#[]⟩ = d at *
  go_wp2_with fail
  refine (len_nil _).mono ?_
  rintro e w' ⟨rfl, rfl⟩
  go_wp2_with fail
  refine (live_any _ (HK.out.below B2.out HP.out)).mono ?_
  rintro e wl ⟨rfl, hb⟩
  have Hl := Lib.hid (B2.out.trans (hb.mono B2.out.size))
  clear hb
  go_wp2
  go_ret
  exact ⟨rfl, Hl.out⟩
end Go.Proofs.YtjhhgaajpojjfaaDoor.sumNil
