/-
  live of package path's laws.
-/
import Derived.Test.YtjimjaimfejonaaDoorPathY
import Derived.Test.YtjimjaimfejonaaDoorSched2
namespace Go.Proofs.YtjimjaimfejonaaDoor
open Go Go.RowKit

def pT0 : ByteArray := ⟨#[47, 97, 47, 98]⟩
theorem pS0 : splitD pT0 = ([⟨#[97]⟩, ⟨#[98]⟩], 0) := by decide +kernel
def pT1 : ByteArray := ⟨#[47]⟩
theorem pS1 : splitD pT1 = ([], 0) := by decide +kernel
def pT2 : ByteArray := ⟨#[97]⟩
theorem pS2 : splitD pT2 = ([], 12) := by decide +kernel
def pT3 : ByteArray := ⟨#[47, 97, 47]⟩
theorem pS3 : splitD pT3 = ([], 12) := by decide +kernel
def pT4 : ByteArray := ⟨#[47, 46, 46]⟩
theorem pS4 : splitD pT4 = ([], 12) := by decide +kernel
def pU0 : ByteArray := ⟨#[47, 97]⟩
def pU1 : ByteArray := ⟨#[47, 97, 98]⟩
theorem parD_is {s : ByteArray} {p n : ByteArray} {e : Int} (h1 : (parD s).p = p) (h2 : (parD s).n = n) (h3 : (parD s).e = e) : parD s = ⟨p, n, e⟩ := by
  subst h1 h2 h3; rfl
theorem pP0 : parD pT0 = ⟨⟨#[47, 97]⟩, ⟨#[98]⟩, 0⟩ := parD_is (by decide +kernel) (by decide +kernel) (by decide +kernel)
theorem pP1 : parD pT1 = ⟨⟨#[]⟩, ⟨#[]⟩, 1⟩ := parD_is (by decide +kernel) (by decide +kernel) (by decide +kernel)
theorem pW0 : witD pU0 pT0 = true := by decide +kernel
theorem pW1 : witD pU0 pU1 = false := by decide +kernel
theorem pJ : joinD [] = ⟨#[47]⟩ := by decide +kernel

theorem sl_two (w : World) (k l : ByteArray) : Sl (w.alloc (.cells #[.string k, .string l] 9 (0, 0))) Value.string (some ⟨w.heap.size, 0, none⟩) [k, l] :=
  Sl.of fun i x hx => by
    rcases i with _ | _ | i
    · injection hx with hx; subst hx; exact (Box.new w 9 #[.string k, .string l]).cell 0 _ rfl
    · injection hx with hx; subst hx; exact (Box.new w 9 #[.string k, .string l]).cell 1 _ rfl
    · cases hx

set_option maxRecDepth 100000 in
set_option maxHeartbeats 2000000 in
theorem live_any (w : World) : Calls Tryd.prog 9 #[] w fun e w' => e = .returned (.bool true) ∧ Below w.heap.size w w' := by
  go_enter Tryd.func9, Tryd.ntmps9
  go_wp2_with fail
  refine (split_any pT0 (by decide +kernel) _).mono ?_
  rintro e w1 ⟨v0, rfl, hk, hb⟩
  rw [pS0] at hk ⊢
  dsimp only at hk ⊢
  obtain ⟨xa, xc, rfl, hs1, _⟩ := hk.shape
  have HB1 := Lib.hid hb
  have HS := Lib.hid hs1
  clear hb hk hs1
  go_wp2_with fail
  refine (split_any pT1 (by decide +kernel) _).mono ?_
  rintro e w2 ⟨v1, rfl, hk, hb⟩
  rw [pS1] at hk ⊢
  dsimp only at hk ⊢
  obtain ⟨ya, yc, rfl, _, _⟩ := hk.shape
  have HS := Lib.hid (HS.out.keepB hb)
  have HB2 := Lib.hid (HB1.out.trans (hb.mono HB1.out.size))
  clear hb hk HB1
  go_wp2_with fail
  refine (split_any pT2 (by decide +kernel) _).mono ?_
  rintro e w3 ⟨v2, rfl, hk, hb⟩
  rw [pS2] at hk ⊢
  dsimp only at hk ⊢
  have HS := Lib.hid (HS.out.keepB hb)
  have HB3 := Lib.hid (HB2.out.trans (hb.mono HB2.out.size))
  clear hb hk HB2
  go_wp2_with fail
  refine (split_any pT3 (by decide +kernel) _).mono ?_
  rintro e w4 ⟨v3, rfl, hk, hb⟩
  rw [pS3] at hk ⊢
  dsimp only at hk ⊢
  have HS := Lib.hid (HS.out.keepB hb)
  have HB4 := Lib.hid (HB3.out.trans (hb.mono HB3.out.size))
  clear hb hk HB3
  go_wp2_with fail
  refine (split_any pT4 (by decide +kernel) _).mono ?_
  rintro e w5 ⟨v4, rfl, hk, hb⟩
  rw [pS4] at hk ⊢
  dsimp only at hk ⊢
  have HS := Lib.hid (HS.out.keepB hb)
  have HB5 := Lib.hid (HB4.out.trans (hb.mono HB4.out.size))
  clear hb hk HB4
  go_wp2_with fail
  refine (parent_any pT0 (by decide +kernel) _).mono ?_
  rintro e w6 ⟨rfl, hb⟩
  rw [pP0]
  simp only [parV]
  have HS := Lib.hid (HS.out.keepB hb)
  have HB6 := Lib.hid (HB5.out.trans (hb.mono HB5.out.size))
  clear hb HB5
  go_wp2_with fail
  refine (parent_any pT1 (by decide +kernel) _).mono ?_
  rintro e w7 ⟨rfl, hb⟩
  rw [pP1]
  simp only [parV]
  have HS := Lib.hid (HS.out.keepB hb)
  have HB7 := Lib.hid (HB6.out.trans (hb.mono HB6.out.size))
  clear hb HB6
  have HBD : Hid (Below w7.heap.size w7 (w7.alloc (.cells #[.string ⟨#[97]⟩, .string ⟨#[98]⟩] 9 (0, 0)))) := (Below.refl _ _).alloc (Nat.le_refl _) _
  have HST := Lib.hid (sl_two w7 ⟨#[97]⟩ ⟨#[98]⟩)
  go_wp2_with fail
  have HS9 := Lib.hid (HS.out.keepB HBD.out)
  have HB9 := Lib.hid (HB7.out.trans (HBD.out.mono HB7.out.size))
  clear HB7 HS HBD
  generalize w7.heap.size = g at *
  generalize World.alloc _ _ = w9 at *
  refine (same_keys xa (some ⟨g, 0, none⟩) xc 2 _ _ w9 HS9.out HST.out (by decide)).mono ?_
  rintro e w10 ⟨rfl, hb⟩
  have HB10 := Lib.hid (HB9.out.trans (hb.mono HB9.out.size))
  clear hb HB9 HS9 HST
  go_wp2_with fail
  refine (within_any pU0 pT0 (by decide +kernel) (by decide +kernel) _).mono ?_
  rintro e w11 ⟨rfl, hb⟩
  rw [pW0]
  have HB11 := Lib.hid (HB10.out.trans (hb.mono HB10.out.size))
  clear hb HB10
  go_wp2_with fail
  refine (within_any pU0 pU1 (by decide +kernel) (by decide +kernel) _).mono ?_
  rintro e w12 ⟨rfl, hb⟩
  rw [pW1]
  have HB12 := Lib.hid (HB11.out.trans (hb.mono HB11.out.size))
  clear hb HB11
  go_wp2_with fail
  refine (join_any none 0 [] w12 Sl.nil (Nat.le_refl _) (by rw [pJ]; decide +kernel)).mono ?_
  rintro e w13 ⟨rfl, hb⟩
  rw [pJ]
  have HB13 := Lib.hid (HB12.out.trans (hb.mono HB12.out.size))
  clear hb HB12
  go_wp2
  go_ret
  exact ⟨rfl, HB13.out⟩
end Go.Proofs.YtjimjaimfejonaaDoor
