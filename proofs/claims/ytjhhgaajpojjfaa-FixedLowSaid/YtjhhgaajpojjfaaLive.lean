/-
  live, the closed part of each statement of package fixed.
-/
import Derived.Test.YtjhhgaajpojjfaaText
import Derived.Test.YtjhhgaajpojjfaaReader
namespace Go.Proofs.Ytjhhgaajpojjfaa
open Go.RowKit

def S0 : ByteArray := ⟨#[2, 1, 2, 104, 105, 33]⟩
def S1 : ByteArray := ⟨#[2, 104, 105, 33]⟩
def S2 : ByteArray := ⟨#[33]⟩
theorem c1 : numR S0 2 = 258 := by decide +kernel
theorem c2 : numS S0 0 2 = S1 := by decide +kernel
theorem c3 : numE S0 0 2 = 0 := by decide +kernel
theorem c4 : textR S1 0 1 = ⟨#[104, 105]⟩ := by decide +kernel
theorem c5 : textS S1 0 1 = S2 := by decide +kernel
theorem c6 : textE S1 0 1 = 0 := by decide +kernel
theorem c7 : endR S2 0 = 3 := by decide +kernel
theorem c8 : bytesR S2 2 = ⟨#[]⟩ := by decide +kernel
theorem c9 : bytesS S2 0 2 = ⟨#[]⟩ := by decide +kernel
theorem c10 : bytesE S2 0 2 = 2 := by decide +kernel
theorem c11 : endR ⟨#[]⟩ 2 = 2 := by decide +kernel
theorem c12 : bytesR ⟨#[]⟩ 1 = ⟨#[]⟩ := by decide +kernel
theorem c13 : putB 258 2 = ⟨#[2, 1]⟩ := by decide +kernel
theorem c14 : putB 256 1 = ⟨#[]⟩ := by decide +kernel
theorem c15 : putB (-1) 3 = ⟨#[]⟩ := by decide +kernel
theorem c16 : textB ⟨#[97, 98]⟩ 1 = ⟨#[2, 97, 98]⟩ := by decide +kernel
theorem c17 : mostI 2 = 65535 := by decide +kernel
theorem c18 : mostI 8 = -1 := by decide +kernel

set_option maxHeartbeats 1000000 in
theorem live_any (w : World) : Calls Try.prog 8 #[] w fun e w' => e = .returned (.bool true) ∧ Below w.heap.size w w' := by
  go_enter Try.func8, Try.ntmps8
  go_wp2_with fail
  refine (read_any S0 _).mono ?_
  rintro e w0 ⟨rfl, hr, hb⟩
  have Hr0 := Lib.hid hr
  have Hb0 := Lib.hid hb
  clear hr hb
  generalize hg : w.heap.size = g at *
  have Hg := Lib.hid hg
  clear hg
  go_wp2_with fail
  refine (number_any g S0 0 2 _ Hr0.out).mono ?_
  rintro e w1 ⟨rfl, hr, hb⟩
  rw [c2, c3] at hr
  rw [c1]
  have Hr1 := Lib.hid hr
  have Hb1 := Lib.hid (Hb0.out.trans hb)
  clear hr hb Hr0 Hb0
  go_wp2_with fail
  refine (text_any g S1 0 1 _ Hr1.out).mono ?_
  rintro e w2 ⟨rfl, hr, hb⟩
  rw [c5, c6] at hr
  rw [c4]
  have Hr2 := Lib.hid hr
  have Hb2 := Lib.hid (Hb1.out.trans hb)
  clear hr hb Hr1 Hb1
  go_wp2_with fail
  refine (left_any g S2 0 _ Hr2.out).mono ?_
  rintro e w' ⟨rfl, rfl⟩
  go_wp2_with fail
  refine (end_any g S2 0 _ Hr2.out).mono ?_
  rintro e w' ⟨rfl, rfl⟩
  rw [c7]
  go_wp2_with fail
  refine (bytes_any g S2 0 2 _ Hr2.out).mono ?_
  rintro e w3 ⟨rfl, hr, hb⟩
  rw [c9, c10] at hr
  rw [c8]
  have Hr3 := Lib.hid hr
  have Hb3 := Lib.hid (Hb2.out.trans hb)
  clear hr hb Hr2 Hb2
  go_wp2_with fail
  refine (end_any g _ _ _ Hr3.out).mono ?_
  rintro e w' ⟨rfl, rfl⟩
  rw [c11]
  go_wp2_with fail
  refine (bytes_any g _ _ 1 _ Hr3.out).mono ?_
  rintro e w4 ⟨rfl, -, hb⟩
  rw [c12]
  have Hb4 := Lib.hid (Hb3.out.trans hb)
  clear hb Hr3 Hb3
  go_wp2_with fail
  refine (put_any 258 2 _).mono ?_
  rintro e w5 ⟨rfl, hb⟩
  rw [c13]
  have Hb5 := Lib.hid (Hb4.out.trans (hb.mono (by have := Hb4.out.size; have := Hg.out; omega)))
  clear hb Hb4
  go_wp2_with fail
  refine (put_any 256 1 _).mono ?_
  rintro e w6 ⟨rfl, hb⟩
  rw [c14]
  have Hb6 := Lib.hid (Hb5.out.trans (hb.mono (by have := Hb5.out.size; have := Hg.out; omega)))
  clear hb Hb5
  go_wp2_with fail
  refine (put_any (-1) 3 _).mono ?_
  rintro e w7 ⟨rfl, hb⟩
  rw [c15]
  have Hb7 := Lib.hid (Hb6.out.trans (hb.mono (by have := Hb6.out.size; have := Hg.out; omega)))
  clear hb Hb6
  go_wp2_with fail
  refine (ftext_any _ 1 _ (by decide)).mono ?_
  rintro e w8 ⟨rfl, hb⟩
  rw [c16]
  have Hb8 := Lib.hid (Hb7.out.trans (hb.mono (by have := Hb7.out.size; have := Hg.out; omega)))
  clear hb Hb7
  go_wp2_with fail
  refine (most_any 2 _).mono ?_
  rintro e w' ⟨rfl, rfl⟩
  rw [c17]
  go_wp2_with fail
  refine (most_any 8 _).mono ?_
  rintro e w' ⟨rfl, rfl⟩
  rw [c18]
  go_wp2
  go_ret
  exact ⟨rfl, by rw [Hg.out]; exact Hb8.out⟩
end Go.Proofs.Ytjhhgaajpojjfaa
