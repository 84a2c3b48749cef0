/-
  Text, the program's and the reference's; the reference's Put at every input.
-/
import Derived.Test.YtjhhgaajpojjfaaPut
namespace Go.Proofs.Ytjhhgaajpojjfaa
open Go.RowKit

theorem rput_no (n wd : Int) (w : World) (h : n < 0 ∨ mostI wd < n) : Calls Try.prog 10 #[.int .i64 n, .int .i64 wd] w fun e w' => e = .returned (.string (putB n wd)) ∧ w = w' := by
  rw [show putB n wd = ⟨#[]⟩ from if_pos h]
  by_cases h1 : n < 0
  · clear h
    go_enter Try.func10, Try.ntmps10
    go_wp2
    go_ret
    exact ⟨rfl, rfl⟩
  · have h2 : mostI wd < n := by omega
    clear h
    go_enter Try.func10, Try.ntmps10
    go_wp2_with fail
    refine (rmost_any wd _).mono ?_
    rintro e w' ⟨rfl, rfl⟩
    go_wp2
    go_ret
    exact ⟨rfl, rfl⟩

theorem rput_any (n wd : Int) (w : World) : Calls Try.prog 10 #[.int .i64 n, .int .i64 wd] w fun e w' => e = .returned (.string (putB n wd)) ∧ Below w.heap.size w w' := by
  by_cases h : n < 0 ∨ mostI wd < n
  · exact (rput_no n wd w h).mono fun e w' ⟨he, hw⟩ => ⟨he, by rw [← hw]; exact Below.refl _ _⟩
  · rw [show putB n wd = _ from if_neg h]
    have hk := okW_of n wd (by omega) (by omega)
    obtain ⟨n', rfl⟩ : ∃ k : Nat, n = k := ⟨n.toNat, by omega⟩
    obtain ⟨wd', rfl⟩ : ∃ k : Nat, wd = k := ⟨wd.toNat, by omega⟩
    exact rput_yes n' wd' w (by omega) (by omega) (by omega)

theorem putB_size (n w : Int) : (putB n w).size ≤ 7 := by
  unfold putB
  split
  · exact Nat.zero_le _
  · have hk := okW_of n w (by omega) (by omega)
    simp [ByteArray.size, leList_length]
    omega

def textB (s : ByteArray) (w : Int) : ByteArray := if mostI w < s.size then ⟨#[]⟩ else putB s.size w ++ s

theorem ftext_any (s : ByteArray) (wd : Int) (w : World) (hs : s.size ≤ 140737488351232) : Calls Try.prog 11 #[.string s, .int .i64 wd] w fun e w' => e = .returned (.string (textB s wd)) ∧ Below w.heap.size w w' := by
  by_cases h : mostI wd < s.size
  · rw [show textB s wd = _ from if_pos h]
    go_enter Try.func11, Try.ntmps11
    go_wp2_with fail
    refine (most_any wd _).mono ?_
    rintro e w' ⟨rfl, rfl⟩
    go_wp2
    go_ret
    exact ⟨rfl, Below.refl _ _⟩
  · rw [show textB s wd = _ from if_neg h]
    have hp := putB_size s.size wd
    go_enter Try.func11, Try.ntmps11
    go_wp2_with fail
    refine (most_any wd _).mono ?_
    rintro e w' ⟨rfl, rfl⟩
    go_wp2_with fail
    refine (put_any s.size wd _).mono ?_
    rintro e w' ⟨rfl, hb⟩
    have Hb := Lib.hid hb
    clear hb
    generalize hx : putB s.size wd = x at *
    have Hx := Lib.hid hx
    clear hx
    go_wp2
    go_ret
    exact ⟨ret_str (by rw [Hx.out]), Hb.out⟩
theorem rtext_any (s : ByteArray) (wd : Int) (w : World) (hs : s.size ≤ 140737488351232) : Calls Try.prog 12 #[.string s, .int .i64 wd] w fun e w' => e = .returned (.string (textB s wd)) ∧ Below w.heap.size w w' := by
  by_cases h : mostI wd < s.size
  · rw [show textB s wd = _ from if_pos h]
    go_enter Try.func12, Try.ntmps12
    go_wp2_with fail
    refine (rmost_any wd _).mono ?_
    rintro e w' ⟨rfl, rfl⟩
    go_wp2
    go_ret
    exact ⟨rfl, Below.refl _ _⟩
  · rw [show textB s wd = _ from if_neg h]
    have hp := putB_size s.size wd
    go_enter Try.func12, Try.ntmps12
    go_wp2_with fail
    refine (rmost_any wd _).mono ?_
    rintro e w' ⟨rfl, rfl⟩
    go_wp2_with fail
    refine (rput_any s.size wd _).mono ?_
    rintro e w' ⟨rfl, hb⟩
    have Hb := Lib.hid hb
    clear hb
    generalize hx : putB s.size wd = x at *
    have Hx := Lib.hid hx
    clear hx
    go_wp2
    go_ret
    exact ⟨ret_str (by rw [Hx.out]), Hb.out⟩
end Go.Proofs.Ytjhhgaajpojjfaa
