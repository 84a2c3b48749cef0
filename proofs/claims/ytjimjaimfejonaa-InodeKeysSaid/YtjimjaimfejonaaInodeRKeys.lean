/-
  The reference's keys, and its Which.
-/
import Derived.Test.YtjimjaimfejonaaInodeRef
import Derived.Test.YtjimjaimfejonaaInodeWhich
namespace Go.Proofs.Ytjimjaimfejonaa
open Go.RowKit

theorem wordB_yes {n : Int} (h : isNum n) : wordB n = beB n := if_pos h
theorem wordB_no {n : Int} (h : ¬ isNum n) : wordB n = ⟨#[]⟩ := if_neg h

theorem rkey_any (n : Int) (w : World) : Calls Try.prog 12 #[.int .i64 n] w fun e w' => e = .returned (.string (keyB n)) ∧ Below w.heap.size w w' := by
  by_cases h : isNum n
  · rw [show keyB n = _ from if_pos h]
    have hd := Lib.hid (wordB_yes h)
    have hz := beB_size n
    obtain ⟨g1, g2⟩ := str_some (beB n) (by omega)
    have hq : ¬ 9223372036854775807 < 1 + (beB n).size := by omega
    clear h
    go_enter Try.func12, Try.ntmps12
    go_wp2_with fail
    refine (rword_any n _).mono ?_
    rintro e w1 ⟨rfl, hb⟩
    have HB := Lib.hid hb
    clear hb
    rw [hd.out]
    go_wp2_with fail
    refine (rword_any n _).mono ?_
    rintro e w2 ⟨rfl, hb⟩
    have HB2 := Lib.hid (HB.out.trans (hb.mono HB.out.size))
    clear hb
    rw [hd.out]
    go_wp2
    go_ret
    exact ⟨rfl, HB2.out⟩
  · rw [show keyB n = _ from if_neg h]
    have hd := Lib.hid (wordB_no h)
    clear h
    go_enter Try.func12, Try.ntmps12
    go_wp2_with fail
    refine (rword_any n _).mono ?_
    rintro e w1 ⟨rfl, hb⟩
    have HB := Lib.hid hb
    clear hb
    rw [hd.out]
    go_wp2
    go_ret
    exact ⟨rfl, HB.out⟩

theorem rentry_any (n : Int) (s : ByteArray) (w : World) : Calls Try.prog 14 #[.int .i64 n, .string s] w fun e w' => e = .returned (.string (entB n s)) ∧ Below w.heap.size w w' := by
  by_cases h : isNum n
  · have hd := Lib.hid (wordB_yes h)
    have hz := beB_size n
    obtain ⟨g1, g2⟩ := str_some (beB n) (by omega)
    by_cases h0 : s.size = 0
    · have e0 : s = ⟨#[]⟩ := by
        apply ByteArray.ext
        exact Array.eq_empty_of_size_eq_zero h0
      subst e0
      rw [show entB n ⟨#[]⟩ = ⟨#[]⟩ from if_neg (fun e => absurd e.2.1 (by decide))]
      clear h h0
      go_enter Try.func14, Try.ntmps14
      go_wp2_with fail
      refine (rword_any n _).mono ?_
      rintro e w1 ⟨rfl, hb⟩
      have HB := Lib.hid hb
      clear hb
      rw [hd.out]
      go_wp2
      go_ret
      exact ⟨rfl, HB.out⟩
    · obtain ⟨g3, g4⟩ := str_some s (by omega)
      by_cases k : s.size ≤ 255
      · rw [show entB n s = _ from if_pos ⟨h, by unfold isNam; omega⟩]
        have hq : ¬ 9223372036854775807 < 1 + (beB n).size := by omega
        have hq1 : ((⟨#[100]⟩ : ByteArray) ++ beB n).size = 5 := by rw [ByteArray.size_append, hz]; rfl
        have hq2 : ¬ 9223372036854775807 < 5 + s.size := by omega
        clear h h0
        go_enter Try.func14, Try.ntmps14
        go_wp2_with fail
        refine (rword_any n _).mono ?_
        rintro e w1 ⟨rfl, hb⟩
        have HB := Lib.hid hb
        clear hb
        rw [hd.out]
        go_wp2_with fail
        refine (rword_any n _).mono ?_
        rintro e w2 ⟨rfl, hb⟩
        have HB2 := Lib.hid (HB.out.trans (hb.mono HB.out.size))
        clear hb
        rw [hd.out]
        go_wp2
        go_ret
        exact ⟨rfl, HB2.out⟩
      · rw [show entB n s = _ from if_neg (fun e => k e.2.2)]
        clear h h0
        go_enter Try.func14, Try.ntmps14
        go_wp2_with fail
        refine (rword_any n _).mono ?_
        rintro e w1 ⟨rfl, hb⟩
        have HB := Lib.hid hb
        clear hb
        rw [hd.out]
        go_wp2
        go_ret
        exact ⟨rfl, HB.out⟩
  · rw [show entB n s = _ from if_neg (fun e => h e.1)]
    have hd := Lib.hid (wordB_no h)
    clear h
    go_enter Try.func14, Try.ntmps14
    go_wp2_with fail
    refine (rword_any n _).mono ?_
    rintro e w1 ⟨rfl, hb⟩
    have HB := Lib.hid hb
    clear hb
    rw [hd.out]
    go_wp2
    go_ret
    exact ⟨rfl, HB.out⟩

theorem rchunk_any (n k : Int) (w : World) : Calls Try.prog 16 #[.int .i64 n, .int .i64 k] w fun e w' => e = .returned (.string (chkB n k)) ∧ Below w.heap.size w w' := by
  by_cases h : isNum n
  · have hd := Lib.hid (wordB_yes h)
    have hz := beB_size n
    obtain ⟨g1, g2⟩ := str_some (beB n) (by omega)
    by_cases h2 : isNum k
    · rw [show chkB n k = _ from if_pos ⟨h, h2⟩]
      have hk := Lib.hid (wordB_yes h2)
      have hz2 := beB_size k
      obtain ⟨g3, g4⟩ := str_some (beB k) (by omega)
      have hq : ¬ 9223372036854775807 < 1 + (beB n).size := by omega
      have hq1 : ((⟨#[99]⟩ : ByteArray) ++ beB n).size = 5 := by rw [ByteArray.size_append, hz]; rfl
      have hq2 : ¬ 9223372036854775807 < 5 + (beB k).size := by omega
      clear h h2
      go_enter Try.func16, Try.ntmps16
      go_wp2_with fail
      refine (rword_any n _).mono ?_
      rintro e w1 ⟨rfl, hb⟩
      have HB := Lib.hid hb
      clear hb
      rw [hd.out]
      go_wp2_with fail
      refine (rword_any k _).mono ?_
      rintro e w2 ⟨rfl, hb⟩
      have HB2 := Lib.hid (HB.out.trans (hb.mono HB.out.size))
      clear hb
      rw [hk.out]
      go_wp2_with fail
      refine (rword_any n _).mono ?_
      rintro e w3 ⟨rfl, hb⟩
      have HB3 := Lib.hid (HB2.out.trans (hb.mono HB2.out.size))
      clear hb
      rw [hd.out]
      go_wp2_with fail
      refine (rword_any k _).mono ?_
      rintro e w4 ⟨rfl, hb⟩
      have HB4 := Lib.hid (HB3.out.trans (hb.mono HB3.out.size))
      clear hb
      rw [hk.out]
      go_wp2
      go_ret
      exact ⟨rfl, HB4.out⟩
    · rw [show chkB n k = _ from if_neg (fun e => h2 e.2)]
      have hk := Lib.hid (wordB_no h2)
      clear h h2
      go_enter Try.func16, Try.ntmps16
      go_wp2_with fail
      refine (rword_any n _).mono ?_
      rintro e w1 ⟨rfl, hb⟩
      have HB := Lib.hid hb
      clear hb
      rw [hd.out]
      go_wp2_with fail
      refine (rword_any k _).mono ?_
      rintro e w2 ⟨rfl, hb⟩
      have HB2 := Lib.hid (HB.out.trans (hb.mono HB.out.size))
      clear hb
      rw [hk.out]
      go_wp2
      go_ret
      exact ⟨rfl, HB2.out⟩
  · rw [show chkB n k = _ from if_neg (fun e => h e.1)]
    have hd := Lib.hid (wordB_no h)
    clear h
    go_enter Try.func16, Try.ntmps16
    go_wp2_with fail
    refine (rword_any n _).mono ?_
    rintro e w1 ⟨rfl, hb⟩
    have HB := Lib.hid hb
    clear hb
    rw [hd.out]
    go_wp2
    go_ret
    exact ⟨rfl, HB.out⟩

theorem numD_neg (s : ByteArray) : numD s < 0 ↔ 2147483648 < beV s := by unfold numD; split <;> omega
theorem numD_pos {s : ByteArray} (h : ¬ 2147483648 < beV s) : numD s = beV s := if_neg h

set_option maxHeartbeats 2000000 in
theorem rwhich_any (s : ByteArray) (w : World) : Calls Try.prog 10 #[.string s] w fun e w' => e = .returned (whV (whichD s)) ∧ Below w.heap.size w w' := by
  by_cases h5 : s.size < 5
  · rw [show whichD s = noW from if_pos (Or.inl h5)]
    go_enter Try.func10, Try.ntmps10
    go_wp2
    refine bodyPost_ret (results_four rfl _ _ _) rfl ?_
    exact ⟨rfl, Below.refl _ _⟩
  · have hlt : 0 < s.size := by omega
    have HZ := Lib.hid (numOf_size s (by omega))
    have hn1 : s.extract 1 5 = numOf s := rfl
    have hn2 : s.extract 5 s.size = restOf s := rfl
    by_cases hbig : 2147483648 < beV (numOf s)
    · rw [show whichD s = noW from if_pos (Or.inr hbig)]
      have hneg := (numD_neg _).2 hbig
      clear hbig
      go_enter Try.func10, Try.ntmps10
      go_wp2_with fail
      refine (rnum_any (numOf s) HZ.out _).mono ?_
      rintro e w1 ⟨rfl, rfl⟩
      go_wp2
      refine bodyPost_ret (results_four rfl _ _ _) rfl ?_
      exact ⟨rfl, Below.refl _ _⟩
    · have HE : Hid (whichD s = _) := if_neg (fun e => e.elim h5 hbig)
      have hpos := numD_pos hbig
      clear hbig
      have hm : s.data[0]? = some s[0] := Array.getElem?_eq_getElem hlt
      rw [hm] at HE
      obtain ⟨R, hR⟩ : ∃ R, R = whichD s := ⟨_, rfl⟩
      rw [← hR] at HE ⊢
      have HNZ : Hid (0 ≤ (beV (numOf s) : Int)) := Int.natCast_nonneg _
      clear hR hm
      generalize beV (numOf s) = v at *
      have q : ∀ k : UInt8, (s[0] = k → ((s[0].toNat : Int) == (k.toNat : Int)) = true) ∧ (s[0] ≠ k → ((s[0].toNat : Int) == (k.toNat : Int)) = false) := fun k => by
        constructor
        · intro e; rw [e]; simp
        · intro e
          rw [beq_eq_false_iff_ne]
          intro e2
          exact e (UInt8.toNat_inj.1 (by omega))
      have Q1 : Hid ((s[0] = 105 → ((s[0].toNat : Int) == 105) = true) ∧ (s[0] ≠ 105 → ((s[0].toNat : Int) == 105) = false)) := q 105
      have Q2 : Hid ((s[0] = 100 → ((s[0].toNat : Int) == 100) = true) ∧ (s[0] ≠ 100 → ((s[0].toNat : Int) == 100) = false)) := q 100
      have Q3 : Hid ((s[0] = 99 → ((s[0].toNat : Int) == 99) = true) ∧ (s[0] ≠ 99 → ((s[0].toNat : Int) == 99) = false)) := q 99
      clear q
      go_enter Try.func10, Try.ntmps10
      go_wp2_with fail
      refine (rnum_any (numOf s) HZ.out _).mono ?_
      rintro e w1 ⟨rfl, rfl⟩
      rw [hpos]
      have hv0 := HNZ.out
      go_wp2_with fail
      refine (rnum_any (numOf s) HZ.out _).mono ?_
      rintro e w1 ⟨rfl, rfl⟩
      rw [hpos]
      have hcases : s[0] = 105 ∨ s[0] = 100 ∨ s[0] = 99 ∨ (s[0] ≠ 105 ∧ s[0] ≠ 100 ∧ s[0] ≠ 99) := by
        by_cases e1 : s[0] = 105
        · exact .inl e1
        · by_cases e2 : s[0] = 100
          · exact .inr (.inl e2)
          · by_cases e3 : s[0] = 99
            · exact .inr (.inr (.inl e3))
            · exact .inr (.inr (.inr ⟨e1, e2, e3⟩))
      have hrs := restOf_size s
      have hrn : restOf s = ⟨#[]⟩ ∨ 0 < (restOf s).size := by
        rcases Nat.eq_zero_or_pos (restOf s).size with e | e
        · left
          apply ByteArray.ext
          exact Array.eq_empty_of_size_eq_zero e
        · exact .inr e
      generalize restOf s = r at *
      clear hrs
      rcases hcases with hc | hc | hc | ⟨e1, e2, e3⟩
      · have q1 := Q1.out.1 hc
        have q2 := Q2.out.2 (by rw [hc]; decide)
        have q3 := Q3.out.2 (by rw [hc]; decide)
        rw [hc] at HE
        clear Q1 Q2 Q3 hc
        rcases hrn with rfl | hr
        · have HR : Hid (R = ⟨0, v, ⟨#[]⟩, true⟩) := HE.out.trans (if_pos ⟨rfl, rfl⟩)
          go_wp2
          refine bodyPost_ret (results_four rfl _ _ _) rfl ?_
          exact ⟨by rw [HR.out]; rfl, Below.refl _ _⟩
        · obtain ⟨g1, g2⟩ := str_some r hr
          have HR : Hid (R = noW) := by
            show _ = _
            rw [HE.out, if_neg (by rintro ⟨-, e⟩; omega), if_neg (by rintro ⟨e, -⟩; simp at e), if_neg (by rintro ⟨e, -⟩; simp at e)]
          go_wp2
          refine bodyPost_ret (results_four rfl _ _ _) rfl ?_
          exact ⟨by rw [HR.out]; rfl, Below.refl _ _⟩
      · have q1 := Q1.out.2 (by rw [hc]; decide)
        have q2 := Q2.out.1 hc
        have q3 := Q3.out.2 (by rw [hc]; decide)
        rw [hc] at HE
        clear Q1 Q2 Q3 hc
        rcases hrn with rfl | hr
        · have HR : Hid (R = noW) := by
            show _ = _
            rw [HE.out, if_neg (by rintro ⟨e, -⟩; simp at e), if_neg (by rintro ⟨-, e⟩; exact absurd e.1 (by decide)), if_neg (by rintro ⟨e, -⟩; simp at e)]
          go_wp2
          refine bodyPost_ret (results_four rfl _ _ _) rfl ?_
          exact ⟨by rw [HR.out]; rfl, Below.refl _ _⟩
        · obtain ⟨g1, g2⟩ := str_some r hr
          by_cases h255 : r.size ≤ 255
          · have HR : Hid (R = ⟨1, v, r, true⟩) := by
              show _ = _
              rw [HE.out, if_neg (by rintro ⟨e, -⟩; simp at e), if_pos ⟨rfl, hr, h255⟩]
            go_wp2
            refine bodyPost_ret (results_four rfl _ _ _) rfl ?_
            exact ⟨by rw [HR.out]; rfl, Below.refl _ _⟩
          · have HR : Hid (R = noW) := by
              show _ = _
              rw [HE.out, if_neg (by rintro ⟨e, -⟩; simp at e), if_neg (by rintro ⟨-, e⟩; exact h255 e.2), if_neg (by rintro ⟨e, -⟩; simp at e)]
            go_wp2
            refine bodyPost_ret (results_four rfl _ _ _) rfl ?_
            exact ⟨by rw [HR.out]; rfl, Below.refl _ _⟩
      · have q1 := Q1.out.2 (by rw [hc]; decide)
        have q2 := Q2.out.2 (by rw [hc]; decide)
        have q3 := Q3.out.1 hc
        rw [hc] at HE
        clear Q1 Q2 Q3 hc
        by_cases h4 : r.size = 4
        · have H4 := Lib.hid h4
          have hq4 : ((r.size : Int) == 4) = true := by simp [h4]
          clear h4
          by_cases hbig : 2147483648 < beV r
          · have HR : Hid (R = noW) := by
              show _ = _
              rw [HE.out, if_neg (by rintro ⟨e, -⟩; simp at e), if_neg (by rintro ⟨e, -⟩; simp at e), if_neg (by rintro ⟨-, -, e⟩; exact e hbig)]
            have hneg := (numD_neg _).2 hbig
            clear hbig
            go_wp2_with fail
            refine (rnum_any r H4.out _).mono ?_
            rintro e w1 ⟨rfl, rfl⟩
            go_wp2
            refine bodyPost_ret (results_four rfl _ _ _) rfl ?_
            exact ⟨by rw [HR.out]; rfl, Below.refl _ _⟩
          · have HR : Hid (R = ⟨2, v, r, true⟩) := by
              show _ = _
              rw [HE.out, if_neg (by rintro ⟨e, -⟩; simp at e), if_neg (by rintro ⟨e, -⟩; simp at e), if_pos ⟨rfl, H4.out, hbig⟩]
            have hp := numD_pos hbig
            have hp0 : ¬ numD r < 0 := by omega
            clear hbig
            go_wp2_with fail
            refine (rnum_any r H4.out _).mono ?_
            rintro e w1 ⟨rfl, rfl⟩
            rw [hp] at hp0 ⊢
            go_wp2
            refine bodyPost_ret (results_four rfl _ _ _) rfl ?_
            exact ⟨by rw [HR.out]; rfl, Below.refl _ _⟩
        · have hq4 : ((r.size : Int) == 4) = false := by rw [beq_eq_false_iff_ne]; omega
          have HR : Hid (R = noW) := by
            show _ = _
            rw [HE.out, if_neg (by rintro ⟨e, -⟩; simp at e), if_neg (by rintro ⟨e, -⟩; simp at e), if_neg (by rintro ⟨-, e, -⟩; exact h4 e)]
          clear h4
          go_wp2
          refine bodyPost_ret (results_four rfl _ _ _) rfl ?_
          exact ⟨by rw [HR.out]; rfl, Below.refl _ _⟩
      · have q1 := Q1.out.2 e1
        have q2 := Q2.out.2 e2
        have q3 := Q3.out.2 e3
        clear Q1 Q2 Q3
        have HR : Hid (R = noW) := by
          show _ = _
          rw [HE.out, if_neg (by rintro ⟨e, -⟩; simp at e; exact e1 e), if_neg (by rintro ⟨e, -⟩; simp at e; exact e2 e), if_neg (by rintro ⟨e, -⟩; simp at e; exact e3 e)]
        clear e1 e2 e3
        go_wp2
        refine bodyPost_ret (results_four rfl _ _ _) rfl ?_
        exact ⟨by rw [HR.out]; rfl, Below.refl _ _⟩
end Go.Proofs.Ytjimjaimfejonaa
