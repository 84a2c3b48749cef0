/-
  Text, the reference's.
-/
import Derived.Test.YtlkkgboaicjaiaaFText
import Derived.Test.YtlkkgboaicjaiaaRefPut
namespace Go.Proofs.Ytlkkgboaicjaiaa
open Go.RowKit

theorem rtext_any (s : ByteArray) (wd : Int) (w : World) (hs : s.size ≤ 140737488351232) : Calls Try.prog 38 #[.string s, .int .i64 wd] w fun e w' => e = .returned (.string (textB s wd)) ∧ Below w.heap.size w w' := by
  by_cases h : mostI wd < s.size
  · rw [show textB s wd = _ from if_pos h]
    go_enter Try.func38, Try.ntmps38
    go_wp2_with fail
    refine (rmost_any wd _).mono ?_
    rintro e w' ⟨rfl, rfl⟩
    go_wp2
    go_ret
    exact ⟨rfl, Below.refl _ _⟩
  · rw [show textB s wd = _ from if_neg h]
    have hp := putB_size s.size wd
    go_enter Try.func38, Try.ntmps38
    go_wp2_with fail
    refine (rmost_any wd _).mono ?_
    rintro e w' ⟨rfl, rfl⟩
    go_wp2_with fail
    refine (rput_any s.size wd _).mono ?_
    rintro e w' ⟨rfl, hb⟩
    have Hb := Lib.hid hb
    clear hb
    generalize hx : putB s.size wd = x at *
    have Hx := Lib.hid hx
    clear hx
    go_wp2
    go_ret
    exact ⟨ret_str (by rw [Hx.out]), Hb.out⟩
end Go.Proofs.Ytlkkgboaicjaiaa
