/-
  live, the closed part of each statement of package sum.
-/
import Derived.Test.YtfnihldcnjnpbaaDoorShaEval
namespace Go.Proofs.YtfnihldcnjnpbaaDoor
open Go.RowKit

def Z0 : St := ⟨0, 0, 0, 0, 0, 0, 0, 0⟩
theorem Z0_ok : Z0.ok := ⟨by decide, by decide, by decide, by decide, by decide, by decide, by decide, by decide⟩
def T1 : ByteArray := ⟨#[]⟩ ++ ⟨#[97]⟩
def st1 : St := fin1 (nowS Z0 0) T1
def T2 : ByteArray := wrR T1 ++ ⟨#[98, 99]⟩
def st2 : St := fin1 (nowS st1 1) T2
theorem st1_ok : st1.ok := absK_ok _ (nowS_ok Z0_ok) _
theorem st2_ok : st2.ok := absK_ok _ (nowS_ok st1_ok) _
theorem r1_size : (wrR T1).size ≤ 140737488355328 := by decide +kernel
theorem r1_size' : (wrR T1).size ≤ 70368744177664 := by decide +kernel
theorem r2_size : (wrR T2).size ≤ 140737488355328 := by decide +kernel
theorem sum_abc : sumW st2 (wrR T2) 3 = DA := by decide +kernel

set_option maxHeartbeats 1000000 in
theorem live_any (w : World) (hK : Kt w) : Calls Tryd.prog 7 #[] w fun e w' => e = .returned (.bool true) ∧ Below w.heap.size w w' := by
  have HK := Lib.hid hK
  have HP := Lib.hid hK.pos
  clear hK
  go_enter Tryd.func7, Tryd.ntmps7
  go_wp2_with fail
  refine (new_any _).mono ?_
  rintro e w0 ⟨rfl, hw, hb⟩
  have W0 := Lib.hid hw
  have B0 := Lib.hid hb
  have K0 := Lib.hid (HK.out.below hb HP.out)
  clear hw hb
  go_wp2_with fail
  refine (write_any w.heap.size Z0 ⟨#[]⟩ ⟨#[97]⟩ 0 _ W0.out Z0_ok (by decide) (by decide) (by decide) K0.out).mono ?_
  rintro e w1 ⟨rfl, hw, hb⟩
  have W1 : Hid (WtAt w1 w.heap.size st1 (wrR T1) 1) := hw
  have B1 := Lib.hid (B0.out.trans hb)
  have K1 := Lib.hid (HK.out.below (B0.out.trans hb) HP.out)
  clear hw hb W0 B0 K0
  go_wp2_with fail
  refine (sum_any w.heap.size st1 (wrR T1) 1 _ W1.out st1_ok (by decide) r1_size K1.out).mono ?_
  rintro e w2 ⟨rfl, hb⟩
  have W2 := Lib.hid (WtAt.below W1.out hb W1.out.lt)
  have B2 := Lib.hid (B1.out.trans (hb.mono B1.out.size))
  have K2 := Lib.hid (HK.out.below B2.out HP.out)
  clear hb W1 B1 K1
  go_wp2_with fail
  refine (write_any w.heap.size st1 (wrR T1) ⟨#[98, 99]⟩ 1 _ W2.out st1_ok (by decide) r1_size' (by decide) K2.out).mono ?_
  rintro e w3 ⟨rfl, hw, hb⟩
  have W3 : Hid (WtAt w3 w.heap.size st2 (wrR T2) 3) := hw
  have B3 := Lib.hid (B2.out.trans hb)
  have K3 := Lib.hid (HK.out.below B3.out HP.out)
  clear hw hb W2 B2 K2
  go_wp2_with fail
  refine (of_any ⟨#[97, 98, 99]⟩ _ (by decide) K3.out).mono ?_
  rintro e w4 ⟨rfl, hb⟩
  rw [sha_abc]
  have W4 := Lib.hid (WtAt.below W3.out hb W3.out.lt)
  have B4 := Lib.hid (B3.out.trans (hb.mono B3.out.size))
  have K4 := Lib.hid (HK.out.below B4.out HP.out)
  clear hb W3 B3 K3
  go_wp2_with fail
  refine (hex_any DA _ (by decide)).mono ?_
  rintro e w5 ⟨rfl, hb⟩
  rw [hex_abc]
  have W5 := Lib.hid (WtAt.below W4.out hb W4.out.lt)
  have B5 := Lib.hid (B4.out.trans (hb.mono B4.out.size))
  have K5 := Lib.hid (HK.out.below B5.out HP.out)
  clear hb W4 B4 K4
  unfold HA
  go_wp2_with fail
  refine (sum_any w.heap.size st2 (wrR T2) 3 _ W5.out st2_ok (by decide) r2_size K5.out).mono ?_
  rintro e w6 ⟨rfl, hb⟩
  rw [sum_abc]
  have W6 := Lib.hid (WtAt.below W5.out hb W5.out.lt)
  have B6 := Lib.hid (B5.out.trans (hb.mono B5.out.size))
  have K6 := Lib.hid (HK.out.below B6.out HP.out)
  clear hb W5 B5 K5
  go_wp2_with fail
  refine (of_any ⟨#[97, 98, 99]⟩ _ (by decide) K6.out).mono ?_
  rintro e w7 ⟨rfl, hb⟩
  rw [sha_abc]
  have W7 := Lib.hid (WtAt.below W6.out hb W6.out.lt)
  have B7 := Lib.hid (B6.out.trans (hb.mono B6.out.size))
  have K7 := Lib.hid (HK.out.below B7.out HP.out)
  clear hb W6 B6 K6
  go_wp2_with fail
  refine (len_any w.heap.size st2 (wrR T2) 3 _ W7.out).mono ?_
  rintro e w' ⟨rfl, rfl⟩
  go_wp2_with fail
  refine (of_any ⟨#[]⟩ _ (by decide) K7.out).mono ?_
  rintro e w8 ⟨rfl, hb⟩
  rw [sha_nil]
  have B8 := Lib.hid (B7.out.trans (hb.mono B7.out.size))
  clear hb W7 B7 K7
  go_wp2_with fail
  refine (hex_any DE _ (by decide)).mono ?_
  rintro e w9 ⟨rfl, hb⟩
  rw [hex_nil]
  have B9 := Lib.hid (B8.out.trans (hb.mono B8.out.size))
  clear hb B8
  unfold HE
  go_wp2
  go_ret
  exact ⟨rfl, B9.out⟩
end Go.Proofs.YtfnihldcnjnpbaaDoor
