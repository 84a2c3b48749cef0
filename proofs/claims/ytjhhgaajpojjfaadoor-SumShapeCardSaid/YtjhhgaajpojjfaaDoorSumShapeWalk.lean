/-
  The walk of SumShape.
-/
import Derived.Test.YtjhhgaajpojjfaaDoorSumLive
import Derived.Test.YtjhhgaajpojjfaaDoorFrame
namespace Go.Proofs.YtjhhgaajpojjfaaDoor.sumShape
open Go.RowKit

theorem digest_length (s : St) : (digest s).length = 32 := digK_length s 8 (Nat.le_refl _)
theorem sha_size (s : ByteArray) : (sha s).size = 32 := by
  show ((digest _).toArray).size = 32
  rw [List.size_toArray, digest_length]

theorem walk (w : World) (hK : Kt w) (a0 : ByteArray) (w0 : a0.size ≤ 140737488351232) :
    Calls Tryd.prog 7 #[.string a0] w fun e w' => e = .returned (.bool true) ∧ Below w.heap.size w w' := by
  have HK := Lib.hid hK
  have HP := Lib.hid hK.pos
  clear hK
  by_cases hl : 300 < a0.size
  · go_enter Tryd.func7, Tryd.ntmps7
    go_wp2_with fail
    refine (live_any _ HK.out).mono ?_
    rintro e wl ⟨rfl, hb⟩
    have Hl := Lib.hid hb
    clear hb
    go_wp2
    go_ret
    exact ⟨rfl, Hl.out⟩
  · go_enter Tryd.func7, Tryd.ntmps7
    go_wp2_with fail
    refine (of_any a0 _ (by omega) HK.out).mono ?_
    rintro e wB1 ⟨rfl, hb⟩
    have B1 := Lib.hid hb
    clear hb
    have hz := sha_size a0
    generalize hd : sha a0 = d at *
    have HD := Lib.hid hd
    clear hd
    go_wp2_with fail
    refine (of_any a0 _ (by omega) (HK.out.below B1.out HP.out)).mono ?_
    rintro e wB2 ⟨rfl, hb⟩
    rw [HD.out]
    have B2 := Lib.hid (B1.out.trans (hb.mono B1.out.size))
    clear hb
    go_wp2_with fail
    refine (hex_any d _ (by omega)).mono ?_
    rintro e wB3 ⟨rfl, hb⟩
    have B3 := Lib.hid (B2.out.trans (hb.mono B2.out.size))
    clear hb
    have hz2 : (hexB d).size = 64 := by rw [hexB_size, hz]
    generalize hexB d = x at *
    go_wp2_with fail
    refine (live_any _ (HK.out.below B3.out HP.out)).mono ?_
    rintro e wl ⟨rfl, hb⟩
    have Hl := Lib.hid (B3.out.trans (hb.mono B3.out.size))
    clear hb
    go_wp2
    go_ret
    exact ⟨rfl, Hl.out⟩
end Go.Proofs.YtjhhgaajpojjfaaDoor.sumShape
