/-
  The walk of PathSplits.
-/
import Derived.Test.YtjimjaimfejonaaDoorPathLive
import Derived.Test.YtjimjaimfejonaaDoorFrame
namespace Go.Proofs.YtjimjaimfejonaaDoor.pathSplits
open Go Go.RowKit

set_option maxRecDepth 100000 in
set_option maxHeartbeats 2000000 in
theorem walk (w : World) (a0 : ByteArray) (_ : a0.size ≤ 140737488351232) (a1 : ByteArray) (_ : a1.size ≤ 140737488351232) : Calls Tryd.prog 3 #[.string a0, .string a1] w fun e w' => e = .returned (.bool true) ∧ Below w.heap.size w w' := by
  by_cases h1 : a0.size ≤ 2000
  · have d1 : ((2000 : Int) < (a0.size : Int)) = False := eq_false (by omega)
    by_cases h2 : a1.size ≤ 2000
    · have d2 : ((2000 : Int) < (a1.size : Int)) = False := eq_false (by omega)
      have H1 := Lib.hid (show a0.size ≤ 5000 by omega)
      have H2 := Lib.hid (show a1.size ≤ 5000 by omega)
      have HLN := Lib.hid (show (splitD a0).1.length ≤ 100000 from Nat.le_trans (split_len a0) (by omega))
      clear h1 h2
      go_enter Tryd.func3, Tryd.ntmps3
      go_wp2_with fail
      refine (split_any a0 (Nat.le_trans H1.out (by decide)) _).mono ?_
      rintro e w1 ⟨v, rfl, hk, hb⟩
      have HB1 := Lib.hid hb
      obtain ⟨xa, xc, rfl, hs1, _⟩ := hk.shape
      have HS := Lib.hid hs1
      clear hk hs1
      clear hb
      go_wp2_with fail
      refine (rsplit_any a0 H1.out _).mono ?_
      rintro e w2 ⟨v, rfl, hk, hb⟩
      have HB2 := Lib.hid (HB1.out.trans (hb.mono HB1.out.size))
      obtain ⟨ya, yc, rfl, hs2, _⟩ := hk.shape
      have HS := Lib.hid (HS.out.keepB hb)
      have HT := Lib.hid hs2
      clear hk hs2
      clear hb HB1
      go_wp2_with fail
      refine (parent_any a0 H1.out _).mono ?_
      rintro e w3 ⟨rfl, hb⟩
      have HB3 := Lib.hid (HB2.out.trans (hb.mono HB2.out.size))
      have HS := Lib.hid (HS.out.keepB hb)
      have HT := Lib.hid (HT.out.keepB hb)
      unfold parV
      clear hb HB2
      go_wp2_with fail
      refine (rparent_any a0 H1.out _).mono ?_
      rintro e w4 ⟨rfl, hb⟩
      have HB4 := Lib.hid (HB3.out.trans (hb.mono HB3.out.size))
      have HS := Lib.hid (HS.out.keepB hb)
      have HT := Lib.hid (HT.out.keepB hb)
      unfold parV
      clear hb HB3
      generalize (parD a0).p = pp at *
      generalize (parD a0).n = pn at *
      generalize (parD a0).e = pe at *
      generalize (splitD a0).2 = ea at *
      go_wp2_with fail
      refine (same_keys xa ya xc yc _ _ _ HS.out HT.out HLN.out).mono ?_
      rintro e w5 ⟨rfl, hb⟩
      have HB5 := Lib.hid (HB4.out.trans (hb.mono HB4.out.size))
      simp only [decide_true]
      clear hb HB4
      go_wp2_with fail
      refine (within_any a0 a1 H1.out H2.out _).mono ?_
      rintro e w6 ⟨rfl, hb⟩
      have HB6 := Lib.hid (HB5.out.trans (hb.mono HB5.out.size))
      clear hb HB5
      go_wp2_with fail
      refine (rwithin_any a0 a1 H1.out H2.out _).mono ?_
      rintro e w7 ⟨rfl, hb⟩
      have HB7 := Lib.hid (HB6.out.trans (hb.mono HB6.out.size))
      generalize witD a0 a1 = R
      clear HS HT HLN d1 d2
      clear hb HB6
      go_wp2_with fail
      refine (live_any _).mono ?_
      rintro e wl ⟨rfl, hb⟩
      have HL := Lib.hid (HB7.out.trans (hb.mono HB7.out.size))
      clear hb
      go_wp2
      go_ret
      exact ⟨rfl, HL.out⟩
    · have d2 : ((2000 : Int) < (a1.size : Int)) = True := eq_true (by omega)
      clear h2
      go_enter Tryd.func3, Tryd.ntmps3
      go_wp2_with fail
      refine (live_any _).mono ?_
      rintro e wl ⟨rfl, hb⟩
      have HL := Lib.hid hb
      clear hb
      go_wp2
      go_ret
      exact ⟨rfl, HL.out⟩
  · have d1 : ((2000 : Int) < (a0.size : Int)) = True := eq_true (by omega)
    clear h1
    go_enter Tryd.func3, Tryd.ntmps3
    go_wp2_with fail
    refine (live_any _).mono ?_
    rintro e wl ⟨rfl, hb⟩
    have HL := Lib.hid hb
    clear hb
    go_wp2
    go_ret
    exact ⟨rfl, HL.out⟩
end Go.Proofs.YtjimjaimfejonaaDoor.pathSplits
