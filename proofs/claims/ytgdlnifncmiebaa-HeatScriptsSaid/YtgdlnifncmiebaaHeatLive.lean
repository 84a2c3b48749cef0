/-
  law12's live.
-/
import Derived.Test.YtgdlnifncmiebaaHeatO
namespace Go.Proofs.Ytgdlnifncmiebaa
open Go.RowKit Go.ChangeShapes Go.WideShapes Go.ChangeAt

abbrev kA : ByteArray := ⟨#[97]⟩
abbrev kB : ByteArray := ⟨#[98]⟩
abbrev kC : ByteArray := ⟨#[99]⟩
def M1 : List MkD := touchM [] kA 0
def M2 : List MkD := touchM M1 kB 1
def M3 : List MkD := touchM M2 kB 1
def M4 : List MkD := touchM M3 kC 1
def M5 : List MkD := forgetM M4 kC
theorem in0 : In64 0 := ⟨by decide, by decide⟩
theorem in1 : In64 1 := ⟨by decide, by decide⟩
theorem lenM1 : M1.length ≤ 1 := touch_len kA 0
theorem lenM2 : M2.length ≤ 2 := Nat.le_trans (touch_len kB 1) (Nat.succ_le_succ lenM1)
theorem lenM3 : M3.length ≤ 3 := Nat.le_trans (touch_len kB 1) (Nat.succ_le_succ lenM2)
theorem okM1 : OkM M1 := touch_ok nil_ok kA in0 (by decide)
theorem okM2 : OkM M2 := touch_ok okM1 kB in1 (by have := lenM1; omega)
theorem okM3 : OkM M3 := touch_ok okM2 kB in1 (by have := lenM2; omega)
theorem okM4 : OkM M4 := touch_ok okM3 kC in1 (by have := lenM3; omega)
theorem okM5 : OkM M5 := forget_ok okM4 kC
theorem small1 (x : UInt8) : (⟨#[x]⟩ : ByteArray).size ≤ maxLen := by show 1 ≤ _; unfold maxLen; omega
theorem hotX : hotM M4 1 2 = [kB, kC] := by decide +kernel
theorem hotY : hotM M4 40 9 = [] := by decide +kernel
theorem val1 : valueM M5 kA 0 = 16 := by decide +kernel
theorem val2 : valueM M5 kA 2 = 4 := by decide +kernel
theorem val3 : valueM M5 kB 1 = 32 := by decide +kernel
theorem val4 : valueM M5 kC 1 = 0 := by decide +kernel
theorem val5 : M5.length = 2 := by decide +kernel
theorem sl_two (w : World) (k l : ByteArray) : Sl (w.alloc (.cells #[.string k, .string l] 9 (0, 0))) Value.string (some ⟨w.heap.size, 0, none⟩) [k, l] :=
  Sl.of fun i x hx => by
    match i, hx with
    | 0, hx =>
      simp only [List.getElem?_cons_zero, Option.some.injEq] at hx
      subst hx
      rw [add_plain]
      exact boxed0 _ _ _ _ 0 _ rfl
    | 1, hx =>
      simp only [List.getElem?_cons_succ, List.getElem?_cons_zero, Option.some.injEq] at hx
      subst hx
      rw [add_plain]
      exact boxed0 _ _ _ _ 1 _ rfl
theorem Sl.keep {w w' : World} {a : Option Addr} {l : List ByteArray} (h : Sl w Value.string a l) (hb : Below w.heap.size w w') : Sl w' Value.string a l := by
  intro hne
  obtain ⟨b, off, rfl, hlt, hc⟩ := h hne
  exact ⟨b, off, rfl, Nat.lt_of_lt_of_le hlt hb.size, fun i x hx => (hb.cell (p := ⟨b, off + i, none⟩) hlt).trans (hc i x hx)⟩

set_option maxRecDepth 100000 in
set_option maxHeartbeats 4000000 in
theorem live_any (w : World) : Calls Try.prog 9 #[] w fun e w' => e = .returned (.bool true) ∧ Below w.heap.size w w' := by
  go_enter Try.func9, Try.ntmps9
  go_wp2_with fail
  refine (one_new w.heap.size w (Nat.le_refl _)).mono ?_
  rintro e w0 ⟨b, rfl, ho, hb⟩
  have H : Hid (OneH w.heap.size NoP b [] w0) := ho
  have L := Lib.hid hb
  clear ho hb
  go_wp2_with fail
  refine (one_touch fixed_no H.out kA 0 (small1 _) nil_ok in0).mono ?_
  rintro e w1 ⟨rfl, ho, hb⟩
  have H : Hid (OneH w.heap.size NoP b M1 w1) := ho
  have L := Lib.hid (L.out.trans hb)
  clear ho hb
  go_wp2_with fail
  refine (one_touch fixed_no H.out kB 1 (small1 _) okM1 in1).mono ?_
  rintro e w2 ⟨rfl, ho, hb⟩
  have H : Hid (OneH w.heap.size NoP b M2 w2) := ho
  have L := Lib.hid (L.out.trans hb)
  clear ho hb
  go_wp2_with fail
  refine (one_touch fixed_no H.out kB 1 (small1 _) okM2 in1).mono ?_
  rintro e w3 ⟨rfl, ho, hb⟩
  have H : Hid (OneH w.heap.size NoP b M3 w3) := ho
  have L := Lib.hid (L.out.trans hb)
  clear ho hb
  go_wp2_with fail
  refine (one_touch fixed_no H.out kC 1 (small1 _) okM3 in1).mono ?_
  rintro e w4 ⟨rfl, ho, hb⟩
  have H : Hid (OneH w.heap.size NoP b M4 w4) := ho
  have L := Lib.hid (L.out.trans hb)
  clear ho hb
  go_wp2_with fail
  refine (one_hot fixed_no H.out 1 2 okM4 (by decide)).mono ?_
  rintro e w5 ⟨x, rfl, hx, ho, hb⟩
  rw [hotX] at hx
  obtain ⟨xa, xc, rfl⟩ : ∃ a c, x = .slice a 2 c := by
    obtain ⟨a, c, h, _⟩ := hx.view
    exact ⟨a, c, h⟩
  have H := Lib.hid (OneH.row fixed_no H.out hb hx)
  have L := Lib.hid (L.out.trans (hb.mono L.out.size))
  clear ho hb hx
  have HF := Lib.hid (fixed_both fixed_no (fixed_row (.slice xa 2 xc) [kB, kC]))
  go_wp2_with fail
  refine (one_hot HF.out H.out 40 9 okM4 (by decide)).mono ?_
  rintro e w6 ⟨y, rfl, hy, ho, hb⟩
  rw [hotY] at hy
  obtain ⟨ya, yc, rfl⟩ : ∃ a c, y = .slice a 0 c := by
    obtain ⟨a, c, h, _⟩ := hy.view
    exact ⟨a, c, h⟩
  have H := Lib.hid ho
  have L := Lib.hid (L.out.trans (hb.mono L.out.size))
  clear ho hb hy
  go_wp2_with fail
  refine (one_forget HF.out H.out kC (small1 _)).mono ?_
  rintro e w7 ⟨rfl, ho, hb⟩
  have H : Hid (OneH w.heap.size (Both NoP (RowF (.slice xa 2 xc) [kB, kC])) b M5 w7) := ho
  have L := Lib.hid (L.out.trans hb)
  clear ho hb
  go_wp2_with fail
  refine (one_value HF.out H.out kA 0 (small1 _) okM5 (by decide)).mono ?_
  rintro e w8 ⟨rfl, ho, hb⟩
  rw [val1]
  have H := Lib.hid ho
  have L := Lib.hid (L.out.trans (hb.mono L.out.size))
  clear ho hb
  go_wp2_with fail
  refine (one_value HF.out H.out kA 2 (small1 _) okM5 (by decide)).mono ?_
  rintro e w9 ⟨rfl, ho, hb⟩
  rw [val2]
  have H := Lib.hid ho
  have L := Lib.hid (L.out.trans (hb.mono L.out.size))
  clear ho hb
  go_wp2_with fail
  refine (one_value HF.out H.out kB 1 (small1 _) okM5 (by decide)).mono ?_
  rintro e w10 ⟨rfl, ho, hb⟩
  rw [val3]
  have H := Lib.hid ho
  have L := Lib.hid (L.out.trans (hb.mono L.out.size))
  clear ho hb
  go_wp2_with fail
  refine (one_value HF.out H.out kC 1 (small1 _) okM5 (by decide)).mono ?_
  rintro e w11 ⟨rfl, ho, hb⟩
  rw [val4]
  have H := Lib.hid ho
  have L := Lib.hid (L.out.trans (hb.mono L.out.size))
  clear ho hb
  have HSL : Hid (Sl w11 Value.string xa [kB, kC]) := by
    obtain ⟨a, c, h, hs⟩ := H.out.rowed.view
    cases h
    exact hs
  go_wp2_with fail
  refine (same_keys xa (some ⟨w11.heap.size, 0, none⟩) xc 2 [kB, kC] [kB, kC] _ (HSL.out.keep ((Below.refl _ _).alloc (Nat.le_refl _) _)) (sl_two w11 kB kC) (by decide)).mono ?_
  rintro e w12 ⟨rfl, hb⟩
  rw [decide_eq_true (rfl : [kB, kC] = [kB, kC])]
  have hbb := (((Below.refl w11.heap.size w11).alloc (Nat.le_refl _) (.cells #[.string kB, .string kC] 9 (0, 0)))).trans (hb.mono (by rw [size_alloc]; omega))
  have H := Lib.hid (OneH.keep HF.out H.out hbb)
  have L := Lib.hid (L.out.trans (hbb.mono L.out.size))
  clear hb hbb HSL
  go_wp2_with fail
  refine (one_len H.out).mono ?_
  rintro e w13 ⟨rfl, rfl⟩
  rw [val5]
  go_wp2
  go_ret
  exact ⟨rfl, L.out⟩
end Go.Proofs.Ytgdlnifncmiebaa
