/-
  live, the closed part of each statement of package dev.
-/
import Derived.Test.YtflobdhhjfpcdaaDevOneW
import Derived.Test.YtflobdhhjfpcdaaDevOneC
import Derived.Test.YtflobdhhjfpcdaaDevOneL
namespace Go.Proofs.Ytflobdhhjfpcdaa
open Go.RowKit Go.ChangeShapes Go.WideShapes Go.ChangeAt

def LD0 : DevD := newD 4 2
def LD1 : DevD := writeD LD0 (0, 3) ⟨#[120]⟩
def LD2 : DevD := endD LD1 LD1.waits
def LD3 : DevD := writeD LD2 (0, 3) ⟨#[121]⟩
def LD4 : DevD := writeD LD3 (1, 2) ⟨#[122]⟩
def LD5 : DevD := crashD LD4 []
def LK1 : DevD := crashD LD4 [true]
def LD6 : DevD := loseD LD5 1
def LD7 : DevD := spoilD LD6 (0, 1) ⟨#[33]⟩
theorem lw : (LD0.waits.length ≤ 100000 ∧ LD1.waits.length ≤ 100000 ∧ LD2.waits.length ≤ 100000 ∧ LD3.waits.length ≤ 100000 ∧ LD4.waits.length ≤ 100000) ∧ LD5.waits.length ≤ 100000 ∧ LD6.waits.length ≤ 100000 ∧ LD7.waits.length ≤ 100000 := by decide +kernel
theorem lc : (chkD LD0 (0, 3) 1 = 0 ∧ chkD LD2 (0, 3) 1 = 0 ∧ chkD LD3 (1, 2) 1 = 1) ∧ chkD LD4 (0, 3) 0 = 0 ∧ chkD LD5 (0, 3) 0 = 0 ∧ chkD LK1 (0, 3) 0 = 0 ∧ chkD LD6 (1, 0) 0 = 5 ∧ chkD LD6 (0, 1) 1 = 0 := by decide +kernel
theorem lt : tellD LD4 (0, 3) = ⟨#[121]⟩ ∧ tellD LD5 (0, 3) = ⟨#[120]⟩ ∧ tellD LK1 (0, 3) = ⟨#[121]⟩ ∧ tellD LD6 (1, 0) = ⟨#[]⟩ := by decide +kernel
theorem le : loseE 1 = 0 ∧ devLost LD7 1 = true ∧ devLost LD7 0 = false ∧ devSize LD7 0 = 4 ∧ devSize LD7 2 = 0 ∧ LD7.waits.length = 0 := by decide +kernel
theorem locV_eq (a b : Int) : locV (a, b) = .agg #[.int .i64 a, .int .i64 b] := rfl

set_option maxRecDepth 100000 in
set_option maxHeartbeats 4000000 in
theorem live_any (w : World) : Calls Try.prog 5 #[] w fun e w' => e = .returned (.bool true) ∧ Below w.heap.size w w' := by
  obtain ⟨⟨w0, w1, w2, w3, w4⟩, w5, w6, w7⟩ := lw
  have LW := Lib.hid (And.intro w0 (And.intro w1 (And.intro w2 (And.intro w3 (And.intro w4 (And.intro w5 (And.intro w6 w7)))))))
  have LC := Lib.hid lc
  have LT := Lib.hid lt
  have LE := Lib.hid le
  clear w0 w1 w2 w3 w4 w5 w6 w7
  go_enter Try.func5, Try.ntmps5
  go_wp2_with fail
  refine (one_new w.heap.size fixed_no 4 2 _ (Nat.le_refl _) ⟨[], rfl, fun _ h => by cases h⟩ (by omega) (by omega)).mono ?_
  rintro e v1 ⟨b, rfl, ho, hb⟩
  have H : Hid (One w.heap.size NoP b LD0 v1) := ho
  have L := Lib.hid hb
  clear ho hb
  go_wp2_with fail
  refine (one_write fixed_no H.out (0, 3) ⟨#[120]⟩ LW.out.1).mono ?_
  rintro e v2 ⟨rfl, ho, hb⟩
  rw [show chkD LD0 (0, 3) (⟨#[120]⟩ : ByteArray).size = 0 from LC.out.1.1]
  have H2 : Hid (One w.heap.size NoP b LD1 v2) := ho
  have L2 := Lib.hid (L.out.trans hb)
  clear ho hb H L
  go_wp2_with fail
  refine (one_flush fixed_no H2.out LW.out.2.1).mono ?_
  rintro e v3 ⟨rfl, ho, hb⟩
  have H3 : Hid (One w.heap.size NoP b LD2 v3) := ho
  have L3 := Lib.hid (L2.out.trans hb)
  clear ho hb H2 L2
  go_wp2_with fail
  refine (one_write fixed_no H3.out (0, 3) ⟨#[121]⟩ LW.out.2.2.1).mono ?_
  rintro e v4 ⟨rfl, ho, hb⟩
  rw [show chkD LD2 (0, 3) (⟨#[121]⟩ : ByteArray).size = 0 from LC.out.1.2.1]
  have H4 : Hid (One w.heap.size NoP b LD3 v4) := ho
  have L4 := Lib.hid (L3.out.trans hb)
  clear ho hb H3 L3
  go_wp2_with fail
  refine (one_write fixed_no H4.out (1, 2) ⟨#[122]⟩ LW.out.2.2.2.1).mono ?_
  rintro e v5 ⟨rfl, ho, hb⟩
  rw [show chkD LD3 (1, 2) (⟨#[122]⟩ : ByteArray).size = 1 from LC.out.1.2.2]
  have H5 : Hid (One w.heap.size NoP b LD4 v5) := ho
  have L5 := Lib.hid (L4.out.trans hb)
  clear ho hb H4 L4
  go_wp2_with fail
  refine (one_read fixed_no H5.out (0, 3)).mono ?_
  rintro e v6 ⟨rfl, ho, hb⟩
  rw [show tellD LD4 (0, 3) = (⟨#[121]⟩ : ByteArray) from LT.out.1, show chkD LD4 (0, 3) 0 = 0 from LC.out.2.1]
  have H6 := Lib.hid ho
  have L6 := Lib.hid (L5.out.trans hb)
  clear ho hb H5 L5
  go_wp2_with fail
  refine (one_copy fixed_no H6.out LW.out.2.2.2.2.1).mono ?_
  rintro e v7 ⟨b2, rfl, ho, hb⟩
  have H7 := Lib.hid ho.swap
  have L7 := Lib.hid (L6.out.trans hb)
  clear ho hb H6 L6
  go_wp2_with fail
  refine (one_crash (fixed_both fixed_no (fixed_dev _ _)) H7.out none 0 [] Sl.nil LW.out.2.2.2.2.1 (by simp)).mono ?_
  rintro e v8 ⟨rfl, ho, hb⟩
  have H8 : Hid (One w.heap.size (Both NoP (DevF b2 LD4)) b LD5 v8) := ho
  have L8 := Lib.hid (L7.out.trans hb)
  clear ho hb H7 L7
  go_wp2_with fail
  refine (one_read (fixed_both fixed_no (fixed_dev _ _)) H8.out (0, 3)).mono ?_
  rintro e v9 ⟨rfl, ho, hb⟩
  rw [show tellD LD5 (0, 3) = (⟨#[120]⟩ : ByteArray) from LT.out.2.1, show chkD LD5 (0, 3) 0 = 0 from LC.out.2.2.1]
  have H9 := Lib.hid ho.swap
  have L9 := Lib.hid (L8.out.trans hb)
  clear ho hb H8 L8
  go_wp2_with fail
  have ha : Below v9.heap.size v9 (v9.alloc (.cells #[.bool true] 4 (0, 0))) := (Below.refl _ _).alloc (Nat.le_refl _) _
  have hsl : Sl (v9.alloc (.cells #[.bool true] 4 (0, 0))) Value.bool (some ⟨v9.heap.size, 0, none⟩) [true] := Sl.of fun i x hx => by
    match i, hx with
    | 0, hx => simp at hx; subst hx; exact boxed0 v9 #[.bool true] 4 (0, 0) 0 _ rfl
  have H10 := Lib.hid (H9.out.keep (fixed_both fixed_no (fixed_dev _ _)) ha)
  have L10 := Lib.hid (L9.out.trans (ha.mono L9.out.size))
  clear ha H9 L9
  refine (one_crash (fixed_both fixed_no (fixed_dev _ _)) H10.out (some ⟨v9.heap.size, 0, none⟩) 1 [true] hsl LW.out.2.2.2.2.1 (by simp)).mono ?_
  rintro e v11 ⟨rfl, ho, hb⟩
  have H11 : Hid (One w.heap.size (Both NoP (DevF b LD5)) b2 LK1 v11) := ho
  have L11 := Lib.hid (L10.out.trans hb)
  clear ho hb H10 L10 hsl
  go_wp2_with fail
  refine (one_read (fixed_both fixed_no (fixed_dev _ _)) H11.out (0, 3)).mono ?_
  rintro e v12 ⟨rfl, ho, hb⟩
  rw [show tellD LK1 (0, 3) = (⟨#[121]⟩ : ByteArray) from LT.out.2.2.1, show chkD LK1 (0, 3) 0 = 0 from LC.out.2.2.2.1]
  have H12 := Lib.hid ho.swap
  have L12 := Lib.hid (L11.out.trans hb)
  clear ho hb H11 L11
  go_wp2_with fail
  refine (one_lose (fixed_both fixed_no (fixed_dev _ _)) H12.out 1 LW.out.2.2.2.2.2.1).mono ?_
  rintro e v13 ⟨rfl, ho, hb⟩
  rw [LE.out.1]
  have H13 : Hid (One w.heap.size (Both NoP (DevF b2 LK1)) b LD6 v13) := ho
  have L13 := Lib.hid (L12.out.trans hb)
  clear ho hb H12 L12
  go_wp2_with fail
  refine (one_read (fixed_both fixed_no (fixed_dev _ _)) H13.out (1, 0)).mono ?_
  rintro e v14 ⟨rfl, ho, hb⟩
  rw [show tellD LD6 (1, 0) = (⟨#[]⟩ : ByteArray) from LT.out.2.2.2, show chkD LD6 (1, 0) 0 = 5 from LC.out.2.2.2.2.1]
  have H14 := Lib.hid ho
  have L14 := Lib.hid (L13.out.trans hb)
  clear ho hb H13 L13
  go_wp2_with fail
  refine (one_spoil (fixed_both fixed_no (fixed_dev _ _)) H14.out (0, 1) ⟨#[33]⟩ LW.out.2.2.2.2.2.2.1).mono ?_
  rintro e v15 ⟨rfl, ho, hb⟩
  rw [show chkD LD6 (0, 1) (⟨#[33]⟩ : ByteArray).size = 0 from LC.out.2.2.2.2.2]
  have H15 : Hid (One w.heap.size (Both NoP (DevF b2 LK1)) b LD7 v15) := ho
  have L15 := Lib.hid (L14.out.trans hb)
  clear ho hb H14 L14
  go_wp2_with fail
  refine (one_lost H15.out 1).mono ?_
  rintro e v16 ⟨rfl, rfl⟩
  rw [LE.out.2.1]
  go_wp2_with fail
  refine (one_lost H15.out 0).mono ?_
  rintro e v16 ⟨rfl, rfl⟩
  rw [LE.out.2.2.1]
  go_wp2_with fail
  refine (one_size H15.out 0).mono ?_
  rintro e v16 ⟨rfl, rfl⟩
  rw [LE.out.2.2.2.1]
  go_wp2_with fail
  refine (one_size H15.out 2).mono ?_
  rintro e v16 ⟨rfl, rfl⟩
  rw [LE.out.2.2.2.2.1]
  go_wp2_with fail
  refine (one_waits (fixed_both fixed_no (fixed_dev _ _)) H15.out LW.out.2.2.2.2.2.2.2).mono ?_
  rintro e v16 ⟨v, rfl, hv, ho, hb⟩
  have e0 : LD7.waits = [] := List.eq_nil_of_length_eq_zero LE.out.2.2.2.2.2
  rw [e0] at hv
  obtain ⟨av, cv, rfl, _⟩ := hv.view
  have L16 := Lib.hid (L15.out.trans hb)
  rw [show (List.map (fun x : WrD => x.1) []).length = 0 from rfl]
  clear e0 hv ho hb H15 L15
  go_wp2_with fail
  refine (dnew_bad 0 1 _ (by omega)).mono ?_
  rintro e v17 ⟨rfl, rfl⟩
  go_wp2
  go_ret
  exact ⟨rfl, L16.out⟩
end Go.Proofs.Ytflobdhhjfpcdaa
