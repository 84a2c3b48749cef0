/-
  Text, the program's.
-/
import Derived.Test.YtlkkgboaicjaiaaPut
namespace Go.Proofs.Ytlkkgboaicjaiaa
open Go.RowKit

def textB (s : ByteArray) (w : Int) : ByteArray := if mostI w < s.size then ⟨#[]⟩ else putB s.size w ++ s

theorem ftext_any (s : ByteArray) (wd : Int) (w : World) (hs : s.size ≤ 140737488351232) : Calls Try.prog 35 #[.string s, .int .i64 wd] w fun e w' => e = .returned (.string (textB s wd)) ∧ Below w.heap.size w w' := by
  by_cases h : mostI wd < s.size
  · rw [show textB s wd = _ from if_pos h]
    go_enter Try.func35, Try.ntmps35
    go_wp2_with fail
    refine (most_any wd _).mono ?_
    rintro e w' ⟨rfl, rfl⟩
    go_wp2
    go_ret
    exact ⟨rfl, Below.refl _ _⟩
  · rw [show textB s wd = _ from if_neg h]
    have hp := putB_size s.size wd
    go_enter Try.func35, Try.ntmps35
    go_wp2_with fail
    refine (most_any wd _).mono ?_
    rintro e w' ⟨rfl, rfl⟩
    go_wp2_with fail
    refine (put_any s.size wd _).mono ?_
    rintro e w' ⟨rfl, hb⟩
    have Hb := Lib.hid hb
    clear hb
    generalize hx : putB s.size wd = x at *
    have Hx := Lib.hid hx
    clear hx
    go_wp2
    go_ret
    exact ⟨ret_str (by rw [Hx.out]), Hb.out⟩
end Go.Proofs.Ytlkkgboaicjaiaa
