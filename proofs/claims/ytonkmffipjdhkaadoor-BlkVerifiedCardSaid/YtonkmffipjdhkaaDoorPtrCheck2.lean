/-
  The contract of ptr.Check, its body.
-/
import Derived.Test.YtonkmffipjdhkaaDoorMg9
namespace Go.Proofs.YtonkmffipjdhkaaDoor
open Go.RowKit

set_option maxHeartbeats 1000000 in
theorem check_any (a : Option Addr) (cap : Nat) (p : PtrD) (w : World) (h : SlP w a p.locs) (hl : p.locs.length ≤ 1000) :
    Calls Tryd.prog 26 #[ptrV a cap p] w fun e w' => e = .returned (.int .i64 (chkP p)) ∧ Below w.heap.size w w' := by
  have H := Lib.hid h
  clear h
  obtain ⟨l, n, m, s⟩ := p
  simp only at H hl
  unfold ptrV
  simp only
  by_cases c1 : 1 ≤ l.length ∧ l.length ≤ 2
  · have e1 : decide ((1 : Int) ≤ (l.length : Int) ∧ (l.length : Int) ≤ 2) = true := decide_eq_true (by omega)
    have E1 := Lib.hid e1
    have C1 := Lib.hid c1
    clear e1
    by_cases c2 : ∃ x ∈ l, nowhereP x
    · have e2 : decide (∃ x ∈ l, nowhereP x) = true := decide_eq_true c2
      have E2 := Lib.hid e2
      have ec : chkP ⟨l, n, m, s⟩ = 1 := if_pos (Or.inr (Or.inl c2))
      rw [ec]
      clear ec c2 e2 c1
      go_enter Tryd.func26, Tryd.ntmps26
      go_wp2_with fail
      refine (some_any _ _).mono ?_
      rintro e w' ⟨rfl, rfl⟩
      rw [E1.out]
      go_wp2_with fail
      refine (contains_nowhere a cap l _ (H.out.keep ((Below.refl _ _).alloc (Nat.le_refl _) _)) hl).mono ?_
      rintro e w1 ⟨rfl, hb⟩
      rw [E2.out]
      have HB := Lib.hid (((Below.refl w.heap.size w).alloc (Nat.le_refl _) _).trans (hb.mono (by rw [size_alloc]; omega)))
      clear hb
      go_wp2
      go_ret
      exact ⟨rfl, HB.out⟩
    · have e2 : decide (∃ x ∈ l, nowhereP x) = false := decide_eq_false c2
      have E2 := Lib.hid e2
      by_cases c3 : twins l
      · have ec : chkP ⟨l, n, m, s⟩ = 1 := if_pos (Or.inr (Or.inr (Or.inl c3)))
        rw [ec]
        clear ec c2 e2 c1
        obtain ⟨x, y, rfl⟩ : ∃ x y, l = [x, y] := by
          match l, c3.1 with
          | [x, y], _ => exact ⟨x, y, rfl⟩
        have hxy : x.1 = y.1 := c3.2
        obtain ⟨x1, x2⟩ := x
        obtain ⟨y1, y2⟩ := y
        simp only at hxy
        subst hxy
        clear c3
        go_enter Tryd.func26, Tryd.ntmps26
        go_wp2_with fail
        refine (some_any _ _).mono ?_
        rintro e w' ⟨rfl, rfl⟩
        rw [show decide ((1 : Int) ≤ 2 ∧ (2 : Int) ≤ 2) = true from rfl]
        go_wp2_with fail
        refine (contains_nowhere a cap _ _ (H.out.keep ((Below.refl _ _).alloc (Nat.le_refl _) _)) hl).mono ?_
        rintro e w1 ⟨rfl, hb⟩
        rw [E2.out]
        have HB := Lib.hid (((Below.refl w.heap.size w).alloc (Nat.le_refl _) _).trans (hb.mono (by rw [size_alloc]; omega)))
        obtain ⟨b, off, rfl, hlt, hc⟩ := (H.out.keep HB.out) (by simp)
        have g0 := boxed hb (by rw [size_alloc]; omega) 0 _ rfl
        have k0 := (hc 0 _ rfl).1
        have k1 := (hc 1 _ rfl).1
        simp only [Nat.zero_mul, Nat.one_mul, Nat.add_zero] at k0 k1
        clear hb hc hlt
        go_wp2
        go_region
        go_wp2
        go_ret
        exact ⟨rfl, HB.out.drew⟩
      · have hshape : (∃ x, l = [x]) ∨ ∃ x y, l = [x, y] ∧ x.1 ≠ y.1 := by
          match l, c1, c3 with
          | [x], _, _ => exact Or.inl ⟨x, rfl⟩
          | [x, y], _, c3 => exact Or.inr ⟨x, y, rfl, fun h => c3 ⟨rfl, h⟩⟩
          | _ :: _ :: _ :: _, c1, _ => simp at c1
        have CC : Hid (chkP ⟨l, n, m, s⟩ = if restBad ⟨l, n, m, s⟩ then 1 else 0) := by
          show _ = _
          unfold chkP
          by_cases hr : restBad ⟨l, n, m, s⟩
          · rw [if_pos hr, if_pos (show badP ⟨l, n, m, s⟩ from Or.inr (Or.inr (Or.inr hr)))]
          · rw [if_neg hr, if_neg]
            show ¬ (_ ∨ _ ∨ _ ∨ _)
            rintro (h | h | h | h)
            · exact h c1
            · exact c2 h
            · exact c3 h
            · exact hr h
        rw [CC.out]
        clear CC c2 e2 c1 c3
        by_cases c4 : 0 ≤ n ∧ n ≤ 960
        · have F1 : Hid (decide (0 ≤ n ∧ n ≤ 960) = true) := decide_eq_true c4
          by_cases c5 : 0 ≤ m ∧ m ≤ 1099511627776
          · have F2 : Hid (decide (0 ≤ m ∧ m ≤ 1099511627776) = true) := decide_eq_true c5
            by_cases c6 : s.size = 32
            · rw [if_neg (show ¬ restBad ⟨l, n, m, s⟩ from fun h => h.elim (fun h => h c4) (fun h => h.elim (fun h => h c5) (fun h => h c6)))]
              have q : ((s.size : Int) != 32) = false := by simp [c6]
              clear c4 c5
              rcases hshape with ⟨x, rfl⟩ | ⟨⟨x1, x2⟩, ⟨y1, y2⟩, rfl, hne⟩
              · go_enter Tryd.func26, Tryd.ntmps26
                go_wp2_with fail
                refine (some_any _ _).mono ?_
                rintro e w' ⟨rfl, rfl⟩
                rw [show decide ((1 : Int) ≤ 1 ∧ (1 : Int) ≤ 2) = true from rfl]
                go_wp2_with fail
                refine (contains_nowhere a cap _ _ (H.out.keep ((Below.refl _ _).alloc (Nat.le_refl _) _)) hl).mono ?_
                rintro e w1 ⟨rfl, hb⟩
                rw [E2.out]
                have HB := Lib.hid (((Below.refl w.heap.size w).alloc (Nat.le_refl _) _).trans (hb.mono (by rw [size_alloc]; omega)))
                have g0 := boxed hb (by rw [size_alloc]; omega) 0 _ rfl
                have g1 := boxed hb (by rw [size_alloc]; omega) 1 _ rfl
                have g2 := boxed hb (by rw [size_alloc]; omega) 2 _ rfl
                have g3 := boxed hb (by rw [size_alloc]; omega) 3 _ rfl
                clear hb
                go_wp2_with fail
                go_region
                go_wp2_with fail
                refine (within_any _ _ _).mono ?_
                rintro e w' ⟨rfl, rfl⟩
                rw [F1.out]
                go_wp2_with fail
                refine (within_any _ _ _).mono ?_
                rintro e w' ⟨rfl, rfl⟩
                rw [F2.out]
                go_wp2
                go_ret
                exact ⟨rfl, HB.out.drew⟩
              · have hq : (x1 == y1) = false := by simpa using hne
                clear hne
                go_enter Tryd.func26, Tryd.ntmps26
                go_wp2_with fail
                refine (some_any _ _).mono ?_
                rintro e w' ⟨rfl, rfl⟩
                rw [show decide ((1 : Int) ≤ 2 ∧ (2 : Int) ≤ 2) = true from rfl]
                go_wp2_with fail
                refine (contains_nowhere a cap _ _ (H.out.keep ((Below.refl _ _).alloc (Nat.le_refl _) _)) hl).mono ?_
                rintro e w1 ⟨rfl, hb⟩
                rw [E2.out]
                have HB := Lib.hid (((Below.refl w.heap.size w).alloc (Nat.le_refl _) _).trans (hb.mono (by rw [size_alloc]; omega)))
                have g0 := boxed hb (by rw [size_alloc]; omega) 0 _ rfl
                have g1 := boxed hb (by rw [size_alloc]; omega) 1 _ rfl
                have g2 := boxed hb (by rw [size_alloc]; omega) 2 _ rfl
                have g3 := boxed hb (by rw [size_alloc]; omega) 3 _ rfl
                obtain ⟨b, off, rfl, hlt, hc⟩ := (H.out.keep HB.out) (by simp)
                have k0 := (hc 0 _ rfl).1
                have k1 := (hc 1 _ rfl).1
                simp only [Nat.zero_mul, Nat.one_mul, Nat.add_zero] at k0 k1
                clear hb hc hlt
                go_wp2_with fail
                go_region
                go_wp2_with fail
                refine (within_any _ _ _).mono ?_
                rintro e w' ⟨rfl, rfl⟩
                rw [F1.out]
                go_wp2_with fail
                refine (within_any _ _ _).mono ?_
                rintro e w' ⟨rfl, rfl⟩
                rw [F2.out]
                go_wp2
                go_ret
                exact ⟨rfl, HB.out.drew⟩
            · rw [if_pos (show restBad ⟨l, n, m, s⟩ from Or.inr (Or.inr c6))]
              have q : ((s.size : Int) != 32) = true := by simp; omega
              clear c4 c5
              rcases hshape with ⟨x, rfl⟩ | ⟨⟨x1, x2⟩, ⟨y1, y2⟩, rfl, hne⟩
              · go_enter Tryd.func26, Tryd.ntmps26
                go_wp2_with fail
                refine (some_any _ _).mono ?_
                rintro e w' ⟨rfl, rfl⟩
                rw [show decide ((1 : Int) ≤ 1 ∧ (1 : Int) ≤ 2) = true from rfl]
                go_wp2_with fail
                refine (contains_nowhere a cap _ _ (H.out.keep ((Below.refl _ _).alloc (Nat.le_refl _) _)) hl).mono ?_
                rintro e w1 ⟨rfl, hb⟩
                rw [E2.out]
                have HB := Lib.hid (((Below.refl w.heap.size w).alloc (Nat.le_refl _) _).trans (hb.mono (by rw [size_alloc]; omega)))
                have g0 := boxed hb (by rw [size_alloc]; omega) 0 _ rfl
                have g1 := boxed hb (by rw [size_alloc]; omega) 1 _ rfl
                have g2 := boxed hb (by rw [size_alloc]; omega) 2 _ rfl
                have g3 := boxed hb (by rw [size_alloc]; omega) 3 _ rfl
                clear hb
                go_wp2_with fail
                go_region
                go_wp2_with fail
                refine (within_any _ _ _).mono ?_
                rintro e w' ⟨rfl, rfl⟩
                rw [F1.out]
                go_wp2_with fail
                refine (within_any _ _ _).mono ?_
                rintro e w' ⟨rfl, rfl⟩
                rw [F2.out]
                go_wp2
                go_ret
                exact ⟨rfl, HB.out.drew⟩
              · have hq : (x1 == y1) = false := by simpa using hne
                clear hne
                go_enter Tryd.func26, Tryd.ntmps26
                go_wp2_with fail
                refine (some_any _ _).mono ?_
                rintro e w' ⟨rfl, rfl⟩
                rw [show decide ((1 : Int) ≤ 2 ∧ (2 : Int) ≤ 2) = true from rfl]
                go_wp2_with fail
                refine (contains_nowhere a cap _ _ (H.out.keep ((Below.refl _ _).alloc (Nat.le_refl _) _)) hl).mono ?_
                rintro e w1 ⟨rfl, hb⟩
                rw [E2.out]
                have HB := Lib.hid (((Below.refl w.heap.size w).alloc (Nat.le_refl _) _).trans (hb.mono (by rw [size_alloc]; omega)))
                have g0 := boxed hb (by rw [size_alloc]; omega) 0 _ rfl
                have g1 := boxed hb (by rw [size_alloc]; omega) 1 _ rfl
                have g2 := boxed hb (by rw [size_alloc]; omega) 2 _ rfl
                have g3 := boxed hb (by rw [size_alloc]; omega) 3 _ rfl
                obtain ⟨b, off, rfl, hlt, hc⟩ := (H.out.keep HB.out) (by simp)
                have k0 := (hc 0 _ rfl).1
                have k1 := (hc 1 _ rfl).1
                simp only [Nat.zero_mul, Nat.one_mul, Nat.add_zero] at k0 k1
                clear hb hc hlt
                go_wp2_with fail
                go_region
                go_wp2_with fail
                refine (within_any _ _ _).mono ?_
                rintro e w' ⟨rfl, rfl⟩
                rw [F1.out]
                go_wp2_with fail
                refine (within_any _ _ _).mono ?_
                rintro e w' ⟨rfl, rfl⟩
                rw [F2.out]
                go_wp2
                go_ret
                exact ⟨rfl, HB.out.drew⟩
          · have F2 : Hid (decide (0 ≤ m ∧ m ≤ 1099511627776) = false) := decide_eq_false c5
            rw [if_pos (show restBad ⟨l, n, m, s⟩ from Or.inr (Or.inl c5))]
            clear c4 c5
            rcases hshape with ⟨x, rfl⟩ | ⟨⟨x1, x2⟩, ⟨y1, y2⟩, rfl, hne⟩
            · go_enter Tryd.func26, Tryd.ntmps26
              go_wp2_with fail
              refine (some_any _ _).mono ?_
              rintro e w' ⟨rfl, rfl⟩
              rw [show decide ((1 : Int) ≤ 1 ∧ (1 : Int) ≤ 2) = true from rfl]
              go_wp2_with fail
              refine (contains_nowhere a cap _ _ (H.out.keep ((Below.refl _ _).alloc (Nat.le_refl _) _)) hl).mono ?_
              rintro e w1 ⟨rfl, hb⟩
              rw [E2.out]
              have HB := Lib.hid (((Below.refl w.heap.size w).alloc (Nat.le_refl _) _).trans (hb.mono (by rw [size_alloc]; omega)))
              have g0 := boxed hb (by rw [size_alloc]; omega) 0 _ rfl
              have g1 := boxed hb (by rw [size_alloc]; omega) 1 _ rfl
              have g2 := boxed hb (by rw [size_alloc]; omega) 2 _ rfl
              have g3 := boxed hb (by rw [size_alloc]; omega) 3 _ rfl
              clear hb
              go_wp2_with fail
              go_region
              go_wp2_with fail
              refine (within_any _ _ _).mono ?_
              rintro e w' ⟨rfl, rfl⟩
              rw [F1.out]
              go_wp2_with fail
              refine (within_any _ _ _).mono ?_
              rintro e w' ⟨rfl, rfl⟩
              rw [F2.out]
              go_wp2
              go_ret
              exact ⟨rfl, HB.out.drew⟩
            · have hq : (x1 == y1) = false := by simpa using hne
              clear hne
              go_enter Tryd.func26, Tryd.ntmps26
              go_wp2_with fail
              refine (some_any _ _).mono ?_
              rintro e w' ⟨rfl, rfl⟩
              rw [show decide ((1 : Int) ≤ 2 ∧ (2 : Int) ≤ 2) = true from rfl]
              go_wp2_with fail
              refine (contains_nowhere a cap _ _ (H.out.keep ((Below.refl _ _).alloc (Nat.le_refl _) _)) hl).mono ?_
              rintro e w1 ⟨rfl, hb⟩
              rw [E2.out]
              have HB := Lib.hid (((Below.refl w.heap.size w).alloc (Nat.le_refl _) _).trans (hb.mono (by rw [size_alloc]; omega)))
              have g0 := boxed hb (by rw [size_alloc]; omega) 0 _ rfl
              have g1 := boxed hb (by rw [size_alloc]; omega) 1 _ rfl
              have g2 := boxed hb (by rw [size_alloc]; omega) 2 _ rfl
              have g3 := boxed hb (by rw [size_alloc]; omega) 3 _ rfl
              obtain ⟨b, off, rfl, hlt, hc⟩ := (H.out.keep HB.out) (by simp)
              have k0 := (hc 0 _ rfl).1
              have k1 := (hc 1 _ rfl).1
              simp only [Nat.zero_mul, Nat.one_mul, Nat.add_zero] at k0 k1
              clear hb hc hlt
              go_wp2_with fail
              go_region
              go_wp2_with fail
              refine (within_any _ _ _).mono ?_
              rintro e w' ⟨rfl, rfl⟩
              rw [F1.out]
              go_wp2_with fail
              refine (within_any _ _ _).mono ?_
              rintro e w' ⟨rfl, rfl⟩
              rw [F2.out]
              go_wp2
              go_ret
              exact ⟨rfl, HB.out.drew⟩
        · have F1 : Hid (decide (0 ≤ n ∧ n ≤ 960) = false) := decide_eq_false c4
          rw [if_pos (show restBad ⟨l, n, m, s⟩ from Or.inl c4)]
          clear c4
          rcases hshape with ⟨x, rfl⟩ | ⟨⟨x1, x2⟩, ⟨y1, y2⟩, rfl, hne⟩
          · go_enter Tryd.func26, Tryd.ntmps26
            go_wp2_with fail
            refine (some_any _ _).mono ?_
            rintro e w' ⟨rfl, rfl⟩
            rw [show decide ((1 : Int) ≤ 1 ∧ (1 : Int) ≤ 2) = true from rfl]
            go_wp2_with fail
            refine (contains_nowhere a cap _ _ (H.out.keep ((Below.refl _ _).alloc (Nat.le_refl _) _)) hl).mono ?_
            rintro e w1 ⟨rfl, hb⟩
            rw [E2.out]
            have HB := Lib.hid (((Below.refl w.heap.size w).alloc (Nat.le_refl _) _).trans (hb.mono (by rw [size_alloc]; omega)))
            have g0 := boxed hb (by rw [size_alloc]; omega) 0 _ rfl
            have g1 := boxed hb (by rw [size_alloc]; omega) 1 _ rfl
            have g2 := boxed hb (by rw [size_alloc]; omega) 2 _ rfl
            have g3 := boxed hb (by rw [size_alloc]; omega) 3 _ rfl
            clear hb
            go_wp2_with fail
            go_region
            go_wp2_with fail
            refine (within_any _ _ _).mono ?_
            rintro e w' ⟨rfl, rfl⟩
            rw [F1.out]
            go_wp2
            go_ret
            exact ⟨rfl, HB.out.drew⟩
          · have hq : (x1 == y1) = false := by simpa using hne
            clear hne
            go_enter Tryd.func26, Tryd.ntmps26
            go_wp2_with fail
            refine (some_any _ _).mono ?_
            rintro e w' ⟨rfl, rfl⟩
            rw [show decide ((1 : Int) ≤ 2 ∧ (2 : Int) ≤ 2) = true from rfl]
            go_wp2_with fail
            refine (contains_nowhere a cap _ _ (H.out.keep ((Below.refl _ _).alloc (Nat.le_refl _) _)) hl).mono ?_
            rintro e w1 ⟨rfl, hb⟩
            rw [E2.out]
            have HB := Lib.hid (((Below.refl w.heap.size w).alloc (Nat.le_refl _) _).trans (hb.mono (by rw [size_alloc]; omega)))
            have g0 := boxed hb (by rw [size_alloc]; omega) 0 _ rfl
            have g1 := boxed hb (by rw [size_alloc]; omega) 1 _ rfl
            have g2 := boxed hb (by rw [size_alloc]; omega) 2 _ rfl
            have g3 := boxed hb (by rw [size_alloc]; omega) 3 _ rfl
            obtain ⟨b, off, rfl, hlt, hc⟩ := (H.out.keep HB.out) (by simp)
            have k0 := (hc 0 _ rfl).1
            have k1 := (hc 1 _ rfl).1
            simp only [Nat.zero_mul, Nat.one_mul, Nat.add_zero] at k0 k1
            clear hb hc hlt
            go_wp2_with fail
            go_region
            go_wp2_with fail
            refine (within_any _ _ _).mono ?_
            rintro e w' ⟨rfl, rfl⟩
            rw [F1.out]
            go_wp2
            go_ret
            exact ⟨rfl, HB.out.drew⟩
  · have e1 : decide ((1 : Int) ≤ (l.length : Int) ∧ (l.length : Int) ≤ 2) = false := decide_eq_false (by omega)
    have E1 := Lib.hid e1
    have ec : chkP ⟨l, n, m, s⟩ = 1 := if_pos (Or.inl c1)
    rw [ec]
    clear ec c1 e1
    go_enter Tryd.func26, Tryd.ntmps26
    go_wp2_with fail
    refine (some_any _ _).mono ?_
    rintro e w' ⟨rfl, rfl⟩
    rw [E1.out]
    go_wp2
    go_ret
    exact ⟨rfl, (Below.refl _ _).alloc (Nat.le_refl _) _⟩
end Go.Proofs.YtonkmffipjdhkaaDoor
