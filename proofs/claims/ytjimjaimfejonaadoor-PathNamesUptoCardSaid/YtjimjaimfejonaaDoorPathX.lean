/-
  Within, the program's and the reference's.
-/
import Derived.Test.YtjimjaimfejonaaDoorPathW
import Derived.BigRegion
namespace Go.Proofs.YtjimjaimfejonaaDoor
open Go Go.RowKit Go.Shelf

theorem witD_no1 {a b : ByteArray} (h : (splitD a).2 ≠ 0) : witD a b = false := decide_eq_false (fun e => h e.1)
theorem witD_no2 {a b : ByteArray} (h : (splitD b).2 ≠ 0) : witD a b = false := decide_eq_false (fun e => h e.2.1)
theorem witD_no3 {a b : ByteArray} (h : (splitD b).1.length < (splitD a).1.length) : witD a b = false := decide_eq_false (fun e => by have := e.2.2.length_le; omega)
theorem witD_is {a b : ByteArray} (h1 : (splitD a).2 = 0) (h2 : (splitD b).2 = 0) (_h3 : (splitD a).1.length ≤ (splitD b).1.length) : witD a b = decide ((splitD b).1.take (splitD a).1.length = (splitD a).1) := by
  apply decide_eq_decide.2
  constructor
  · rintro ⟨-, -, e⟩
    exact (List.prefix_iff_eq_take.1 e).symm
  · intro e
    exact ⟨h1, h2, List.prefix_iff_eq_take.2 e.symm⟩

theorem Sl.getD {w : World} {b off : Nat} {l : List ByteArray} (h : ∀ i x, l[i]? = some x → w.cell? ⟨b, off + i, none⟩ = some (.string x)) : ∀ j, j < l.length → w.cell? ⟨b, off + j, none⟩ = some (.string (l.getD j ByteArray.empty)) := fun j hj => by
  rw [List.getD_eq_getElem?_getD, List.getElem?_eq_getElem hj]
  exact h j _ (List.getElem?_eq_getElem hj)

set_option maxRecDepth 100000 in
set_option maxHeartbeats 1000000 in
theorem within_any (a b : ByteArray) (ha : a.size ≤ 5000) (hb : b.size ≤ 5000) (w : World) : Calls Tryd.prog 15 #[.string a, .string b] w fun e w' => e = .returned (.bool (witD a b)) ∧ Below w.heap.size w w' := by
  obtain ⟨R, hR⟩ : ∃ R, R = witD a b := ⟨_, rfl⟩
  rw [← hR]
  by_cases h1 : (splitD a).2 = 0
  · have E1 := Lib.hid h1
    have hla := split_len a
    have hlb := split_len b
    by_cases h2 : (splitD b).2 = 0
    · have E2 := Lib.hid h2
      by_cases h3 : (splitD b).1.length < (splitD a).1.length
      · have HF := Lib.hid (hR.trans (witD_no3 h3))
        clear hR h1 h2
        go_enter Tryd.func15, Tryd.ntmps15
        go_wp2_with fail
        refine (split_any a (by omega) _).mono ?_
        rintro e w1 ⟨v, rfl, hk, hb⟩
        rw [E1.out]
        obtain ⟨xa, xc, rfl, _, _⟩ := hk.shape
        have HB := Lib.hid hb
        clear hb hk
        go_wp2_with fail
        refine (split_any b (by omega) _).mono ?_
        rintro e w2 ⟨v, rfl, hk, hb⟩
        rw [E2.out]
        obtain ⟨ya, yc, rfl, _, _⟩ := hk.shape
        have HB2 := Lib.hid (HB.out.trans (hb.mono HB.out.size))
        clear hb hk
        go_wp2
        go_ret
        exact ⟨ret_bool HF.out.symm, HB2.out⟩
      · have HF := Lib.hid (hR.trans (witD_is h1 h2 (by omega)))
        generalize hl1 : (splitD a).1 = l1 at *
        generalize hl2 : (splitD b).1 = l2 at *
        have L1 := Lib.hid hl1
        have L2 := Lib.hid hl2
        clear hR h1 h2 hl1 hl2
        go_enter Tryd.func15, Tryd.ntmps15
        go_wp2_with fail
        refine (split_any a (by omega) _).mono ?_
        rintro e w1 ⟨v, rfl, hk, hb⟩
        rw [E1.out]
        rw [L1.out] at hk
        obtain ⟨xa, xc, rfl, hs1, _⟩ := hk.shape
        have HB := Lib.hid hb
        have HS1 := Lib.hid hs1
        clear hb hk hs1
        go_wp2_with fail
        refine (split_any b (by omega) _).mono ?_
        rintro e w2 ⟨v, rfl, hk, hb⟩
        rw [E2.out]
        rw [L2.out] at hk
        obtain ⟨ya, yc, rfl, hs2, hyc⟩ := hk.shape
        have HB2 := Lib.hid (HB.out.trans (hb.mono HB.out.size))
        have HS2 := Lib.hid hs2
        have HS1 := Lib.hid (HS1.out.keepB hb)
        clear hb hk hs2
        have hyl : (l1.length : Int) ≤ (yc : Int) := by omega
        have HQ : Hid (∀ u, Below w2.heap.size w2 u → Calls Tryd.prog 23 #[.slice xa l1.length xc, .slice ya l1.length yc] u fun e w' => e = .returned (.bool (decide (l2.take l1.length = l1))) ∧ Below u.heap.size u w') := fun u hu => by
          by_cases h0 : l1 = []
          · subst h0
            refine (Tryd.slices_Equal_string_empty xa ya xc 0 yc u (by omega)).mono fun e w' ⟨h1, h2⟩ => ⟨?_, h2 ▸ Below.refl _ _⟩
            rw [h1]; simp
          · have hl20 : l2 ≠ [] := by
              intro e
              rw [e] at h3
              have : 0 < l1.length := by cases l1 with | nil => exact absurd rfl h0 | cons _ _ => simp
              simp only [List.length_nil] at h3
              omega
            obtain ⟨b1, o1, rfl, hb1, hc1⟩ := (HS1.out.keepB hu) h0
            obtain ⟨b2, o2, rfl, hb2, hc2⟩ := (HS2.out.keepB hu) hl20
            refine (Tryd.slices_Equal_string b1 o1 l1.length xc b2 o2 l1.length yc l1 l2 u (Nat.le_refl _) (by omega) (by omega) (by omega) (Sl.getD hc1) (Sl.getD hc2)).mono fun e w' ⟨h1, q, h2⟩ => ⟨?_, ?_⟩
            · rw [h1, List.take_length]
              congr 2
              apply decide_eq_decide.2
              exact ⟨fun e => e.symm, fun e => e.symm⟩
            · subst h2
              exact ⟨rfl, rfl, rfl, Nat.le_refl _, fun _ _ => rfl⟩
        clear HS1 HS2 hyc
        have h3' : ¬ (l2.length : Int) < (l1.length : Int) := by omega
        generalize hr : decide (l2.take l1.length = l1) = r at *
        clear hr
        go_wp2_with fail
        refine (HQ.out _ (Below.refl _ _)).mono ?_
        rintro e w3 ⟨rfl, hb⟩
        have HB3 := Lib.hid (HB2.out.trans (hb.mono HB2.out.size))
        clear hb
        go_wp2
        go_ret
        exact ⟨ret_bool HF.out.symm, HB3.out⟩
    · have HF := Lib.hid (hR.trans (witD_no2 h2))
      have hq : ((splitD b).2 != 0) = true := by simpa using h2
      clear hR h1 h2
      go_enter Tryd.func15, Tryd.ntmps15
      go_wp2_with fail
      refine (split_any a (by omega) _).mono ?_
      rintro e w1 ⟨v, rfl, hk, hb⟩
      rw [E1.out]
      obtain ⟨xa, xc, rfl, _, _⟩ := hk.shape
      have HB := Lib.hid hb
      clear hb hk
      go_wp2_with fail
      refine (split_any b (by omega) _).mono ?_
      rintro e w2 ⟨v, rfl, hk, hb⟩
      obtain ⟨ya, yc, rfl, _, _⟩ := hk.shape
      have HB2 := Lib.hid (HB.out.trans (hb.mono HB.out.size))
      clear hb hk
      go_wp2
      go_ret
      exact ⟨ret_bool HF.out.symm, HB2.out⟩
  · have HF := Lib.hid (hR.trans (witD_no1 h1))
    have hq : ((splitD a).2 != 0) = true := by simpa using h1
    clear hR h1
    go_enter Tryd.func15, Tryd.ntmps15
    go_wp2_with fail
    refine (split_any a (by omega) _).mono ?_
    rintro e w1 ⟨v, rfl, hk, hb⟩
    obtain ⟨xa, xc, rfl, _, _⟩ := hk.shape
    have HB := Lib.hid hb
    clear hb hk
    go_wp2
    go_ret
    exact ⟨ret_bool HF.out.symm, HB.out⟩
end Go.Proofs.YtjimjaimfejonaaDoor
