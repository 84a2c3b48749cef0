/-
  The walk of SumOf.
-/
import Derived.Test.YtfnihldcnjnpbaaDoorSumLive
import Derived.Test.YtfnihldcnjnpbaaDoorFrame
import Derived.Test.YtfnihldcnjnpbaaDoorOf
import Derived.Test.YtfnihldcnjnpbaaDoorRefHex
namespace Go.Proofs.YtfnihldcnjnpbaaDoor.sumOf
open Go.RowKit

set_option maxRecDepth 100000 in
set_option maxHeartbeats 1000000 in
theorem walk (w : World) (hK : Kt w) (a0 : ByteArray) (_w0 : a0.size ≤ 140737488351232) :
    Calls Tryd.prog 3 #[.string a0] w fun e w' => e = .returned (.bool true) ∧ Below w.heap.size w w' := by
  have HK := Lib.hid hK
  have HP := Lib.hid hK.pos
  clear hK
  by_cases hl : 300 < a0.size
  · go_enter Tryd.func3, Tryd.ntmps3
    go_wp2_with fail
    refine (live_any _ HK.out).mono ?_
    rintro e wl ⟨rfl, hb⟩
    have Hl := Lib.hid hb
    clear hb
    go_wp2
    go_ret
    exact ⟨rfl, Hl.out⟩
  · go_enter Tryd.func3, Tryd.ntmps3
    go_wp2_with fail
    refine (of_any a0 _ (by omega) HK.out).mono ?_
    rintro e w1 ⟨rfl, hb⟩
    have B1 := Lib.hid hb
    clear hb
    go_wp2_with fail
    refine (rof_any a0 _ (by omega)).mono ?_
    rintro e w2 ⟨rfl, hb⟩
    have B2 := Lib.hid (B1.out.trans (hb.mono B1.out.size))
    clear hb
    generalize sha a0 = d at *
    go_wp2_with fail
    refine (hex_any a0 _ (by omega)).mono ?_
    rintro e w3 ⟨rfl, hb⟩
    have B3 := Lib.hid (B2.out.trans (hb.mono B2.out.size))
    clear hb
    go_wp2_with fail
    refine (rhex_any a0 _ (by omega)).mono ?_
    rintro e w4 ⟨rfl, hb⟩
    have B4 := Lib.hid (B3.out.trans (hb.mono B3.out.size))
    clear hb
    generalize hexB a0 = x at *
    go_wp2_with fail
    refine (live_any _ (HK.out.below B4.out HP.out)).mono ?_
    rintro e wl ⟨rfl, hb⟩
    have Hl := Lib.hid (B4.out.trans (hb.mono B4.out.size))
    clear hb
    go_wp2
    go_ret
    exact ⟨rfl, Hl.out⟩
end Go.Proofs.YtfnihldcnjnpbaaDoor.sumOf
