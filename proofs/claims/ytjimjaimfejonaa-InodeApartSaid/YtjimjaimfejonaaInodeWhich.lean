/-
  The program's Which.
-/
import Derived.Test.YtjimjaimfejonaaInodeKeyC
import Derived.Test.YtjimjaimfejonaaRes4
namespace Go.Proofs.Ytjimjaimfejonaa
open Go.RowKit

def whV (d : WhichD) : Value := .tuple #[.int .i64 d.kind, .int .i64 d.num, .string d.rest, .bool d.is]

theorem numOf_size (s : ByteArray) (h : 5 ≤ s.size) : (numOf s).size = 4 := by unfold numOf; rw [ByteArray.size_extract]; omega
theorem restOf_size (s : ByteArray) : (restOf s).size = s.size - 5 := by unfold restOf; rw [ByteArray.size_extract]; omega

theorem whichD_eq (s : ByteArray) (h5 : ¬ s.size < 5) (m : UInt8) (hm : s.data[0]? = some m) :
    whichD s = if (kindD m).2 = true ∧ isNum (beV (numOf s)) ∧ mayF (kindD m).1 (restOf s) = true then ⟨(kindD m).1, beV (numOf s), restOf s, true⟩ else noW := by
  unfold whichD
  have hn : isNum (beV (numOf s)) ↔ ¬ 2147483648 < beV (numOf s) := by unfold isNum; omega
  have hr : (restOf s).size = 0 → restOf s = ⟨#[]⟩ := fun h => by
    apply ByteArray.ext
    exact Array.eq_empty_of_size_eq_zero h
  by_cases hb : 2147483648 < beV (numOf s)
  · rw [if_pos (Or.inr hb), if_neg (fun e => (hn.1 e.2.1) hb)]
  · rw [if_neg (by omega), hm]
    have hn' := hn.2 hb
    unfold kindD mayF
    by_cases h1 : m = 99
    · subst h1
      rw [if_neg (by simp), if_neg (by simp), if_pos rfl]
      by_cases h : (restOf s).size = 4 ∧ ¬ 2147483648 < beV (restOf s)
      · rw [if_pos ⟨rfl, h⟩, if_pos ⟨rfl, hn', by simp only [show ((2 : Int) = 0) = False from by simp, show ((2 : Int) = 1) = False from by simp, if_false]; exact decide_eq_true ⟨h.1, by unfold isNum; omega⟩⟩]
      · rw [if_neg (fun e => h e.2), if_neg]
        rintro ⟨-, -, e⟩
        simp only [show ((2 : Int) = 0) = False from by simp, show ((2 : Int) = 1) = False from by simp, if_false] at e
        have := of_decide_eq_true e
        exact h ⟨this.1, by have := this.2; unfold isNum at this; omega⟩
    · rw [if_neg h1]
      by_cases h2 : m = 100
      · subst h2
        rw [if_neg (by simp), if_pos rfl]
        by_cases h : isNam (restOf s)
        · rw [if_pos ⟨rfl, h⟩, if_pos ⟨rfl, hn', by simp [h]⟩]
        · rw [if_neg (fun e => h e.2), if_neg (by simp), if_neg (by rintro ⟨-, -, e⟩; simp [h] at e)]
      · rw [if_neg h2]
        by_cases h3 : m = 105
        · subst h3
          rw [if_pos rfl]
          by_cases h : (restOf s).size = 0
          · rw [if_pos ⟨rfl, h⟩, if_pos ⟨rfl, hn', by simp [h]⟩, hr h]
          · rw [if_neg (fun e => h e.2), if_neg (by simp), if_neg (by simp), if_neg (by rintro ⟨-, -, e⟩; simp [h] at e)]
        · rw [if_neg h3, if_neg (by simp [h3]), if_neg (by simp [h2]), if_neg (by simp [h1]), if_neg (by simp)]

theorem kind_of (m : UInt8) : (kindD m).1 = 0 ∨ (kindD m).1 = 1 ∨ (kindD m).1 = 2 := by
  unfold kindD
  split
  · exact .inr (.inr rfl)
  · split
    · exact .inr (.inl rfl)
    · split <;> exact .inl rfl

set_option maxHeartbeats 1000000 in
theorem which_any (s : ByteArray) (w : World) : Calls Try.prog 9 #[.string s] w fun e w' => e = .returned (whV (whichD s)) ∧ Below w.heap.size w w' := by
  by_cases h5 : s.size < 5
  · rw [show whichD s = noW from if_pos (Or.inl h5)]
    go_enter Try.func9, Try.ntmps9
    go_wp2
    refine bodyPost_ret (results_four rfl _ _ _) rfl ?_
    exact ⟨rfl, Below.refl _ _⟩
  · have hlt : 0 < s.size := by omega
    have hm : s.data[0]? = some s[0] := Array.getElem?_eq_getElem hlt
    have HE := Lib.hid (whichD_eq s h5 s[0] hm)
    have HK := Lib.hid (kind_of s[0])
    have HZ := Lib.hid (numOf_size s (by omega))
    have hn1 : s.extract 1 5 = numOf s := rfl
    have hn2 : s.extract 5 s.size = restOf s := rfl
    generalize whichD s = R at *
    clear hm
    go_enter Try.func9, Try.ntmps9
    go_wp2_with fail
    refine (kind_any s[0] _).mono ?_
    rintro e w1 ⟨rfl, rfl⟩
    generalize kindD s[0] = k at *
    obtain ⟨k, is⟩ := k
    dsimp only at HK
    go_wp2_with fail
    refine wp_region_sched (fun _ => True) 6 [(0, false), (1, false), (3, false), (4, false), (2, true), (5, false)] (by kernel_rfl) (by kernel_rfl) trivial ?_
    simp only [List.drop_succ_cons, List.drop_zero]
    apply wpSch_step rfl
    · intro W _ K hK; go_simp; exact hK _ rfl
    apply wpSch_step rfl
    · intro W _ K hK; go_simp; exact hK _ rfl
    apply wpSch_step rfl
    · intro W _ K hK; go_simp; exact hK _ rfl
    apply wpSch_step rfl
    · intro W _ K hK; go_simp; exact hK _ rfl
    refine wpSch_make rfl (fun K' hK => ?_)
    go_simp
    refine (inumber_any (numOf s) HZ.out _).mono ?_
    rintro e w1 ⟨rfl, hb⟩
    have HB := Lib.hid (show Below w.heap.size w w1 from ⟨hb.os, hb.tape, hb.output, hb.size, hb.block⟩)
    clear hb
    refine hK _ _ _ (fun _ h => h) trivial ?_
    clear hK K'
    apply wpSch_step rfl
    · intro W _ K hK; go_simp; exact hK _ rfl
    refine wpSch_nil ?_
    cases is with
    | false =>
      have HR : Hid (R = noW) := HE.out.trans (if_neg (by simp))
      go_wp2
      refine bodyPost_ret (results_four rfl _ _ _) rfl ?_
      exact ⟨by rw [HR.out]; rfl, HB.out⟩
    | true =>
      go_wp2_with fail
      refine (isnum_any _ _).mono ?_
      rintro e w2 ⟨rfl, rfl⟩
      by_cases hn : isNum (beV (numOf s))
      · rw [decide_eq_true hn]
        have HN := Lib.hid hn
        clear hn
        go_wp2_with fail
        refine (follow_any k HK.out (restOf s) _).mono ?_
        rintro e w2 ⟨rfl, hb⟩
        have HB2 := Lib.hid (HB.out.trans (hb.mono HB.out.size))
        clear hb
        cases hf : mayF k (restOf s) with
        | false =>
          have HR : Hid (R = noW) := HE.out.trans (if_neg (by simp [hf]))
          clear hf
          go_wp2
          refine bodyPost_ret (results_four rfl _ _ _) rfl ?_
          exact ⟨by rw [HR.out]; rfl, HB2.out⟩
        | true =>
          have HR : Hid (R = ⟨k, beV (numOf s), restOf s, true⟩) := HE.out.trans (if_pos (by simp [hf, HN.out]))
          clear hf
          go_wp2
          refine bodyPost_ret (results_four rfl _ _ _) rfl ?_
          exact ⟨by rw [HR.out]; rfl, HB2.out⟩
      · rw [decide_eq_false hn]
        have HR : Hid (R = noW) := HE.out.trans (if_neg (by simp [hn]))
        clear hn
        go_wp2
        refine bodyPost_ret (results_four rfl _ _ _) rfl ?_
        exact ⟨by rw [HR.out]; rfl, HB.out⟩
end Go.Proofs.Ytjimjaimfejonaa
