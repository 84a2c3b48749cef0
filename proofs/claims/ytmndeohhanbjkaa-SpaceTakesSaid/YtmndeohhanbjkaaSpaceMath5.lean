/-
  Plain math: Of's runs may be, and have just the free places.
-/
import Derived.Test.YtmndeohhanbjkaaSpaceMath4
import Derived.Test.YtmndeohhanbjkaaSpaceOf
namespace Go.Proofs.Ytmndeohhanbjkaa
open Go.RowKit Go.ChangeShapes Go.WideShapes Go.ChangeAt

theorem last_split {acc : List (Int × Int)} (h : 0 < acc.length) : acc = acc.take (acc.length - 1) ++ [lastR acc] := by
  conv => lhs; rw [← List.take_append_drop (acc.length - 1) acc]
  congr 1
  rw [List.drop_eq_getElem_cons (by omega), last_at h, show acc.length - 1 + 1 = acc.length by omega, List.drop_length]
theorem last_set {acc : List (Int × Int)} (h : 0 < acc.length) (y : Int × Int) : acc.set (acc.length - 1) y = acc.take (acc.length - 1) ++ [y] := by
  have e : acc.set (acc.length - 1) y = (acc.take (acc.length - 1) ++ [lastR acc]).set (acc.length - 1) y := by rw [← last_split h]
  rw [e, List.set_append_right _ _ (by rw [List.length_take]; omega)]
  congr 1
  rw [List.length_take, show acc.length - 1 - min (acc.length - 1) acc.length = 0 by omega]
  rfl
theorem last_q {acc : List (Int × Int)} (h : 0 < acc.length) : acc.getLast? = some (lastR acc) := by
  conv => lhs; rw [last_split h]
  simp
theorem of_spec (u : List Bool) : ∀ k, k ≤ 1000 → mayL (ofTo u k) = true ∧ ∀ p, Had (ofTo u k) p ↔ ∃ i : Nat, i < k ∧ p = (i : Int) ∧ u.getD i true = false
  | 0, _ => ⟨rfl, fun p => ⟨fun h => absurd h (had_nil _), fun ⟨i, h, _⟩ => by omega⟩⟩
  | k + 1, hk => by
    obtain ⟨h1, h2⟩ := of_spec u k (by omega)
    obtain ⟨hlow, hlen⟩ := ofTo_low u k
    have more : ∀ p : Int, (∃ i : Nat, i < k + 1 ∧ p = (i : Int) ∧ u.getD i true = false) ↔ (∃ i : Nat, i < k ∧ p = (i : Int) ∧ u.getD i true = false) ∨ (p = (k : Int) ∧ u.getD k true = false) := by
      intro p
      constructor
      · rintro ⟨i, hi, hp, hu⟩
        rcases Nat.lt_or_ge i k with h | h
        · exact .inl ⟨i, h, hp, hu⟩
        · obtain rfl : i = k := by omega
          exact .inr ⟨hp, hu⟩
      · rintro (⟨i, hi, hp, hu⟩ | ⟨hp, hu⟩)
        · exact ⟨i, by omega, hp, hu⟩
        · exact ⟨k, by omega, hp, hu⟩
    rw [ofTo]
    cases hb : u.getD k true
    · by_cases hj : 0 < (ofTo u k).length ∧ (lastR (ofTo u k)).1 + (lastR (ofTo u k)).2 = k
      · rw [ofStep_j hj.1 hj.2, last_set hj.1]
        have hsp := last_split hj.1
        have hm := hlow _ (last_mem hj.1)
        have hmay := h1
        unfold mayL at hmay ⊢
        rw [hsp, may_app, Bool.and_eq_true, mayF, Bool.and_eq_true, decide_eq_true_eq] at hmay
        refine ⟨?_, fun p => ?_⟩
        · rw [may_app, hmay.1, Bool.true_and, mayF, Bool.and_eq_true, decide_eq_true_eq]
          refine ⟨?_, rfl⟩
          have := hj.2
          simp only
          omega
        · rw [more, ← h2 p]
          conv => rhs; rw [hsp]
          simp only [had_app, had_cons, had_nil, or_false, hb, and_true]
          have := hj.2
          constructor
          · rintro (h | h)
            · exact .inl (.inl h)
            · rcases Int.lt_or_le p (k : Int) with hlt | hge
              · exact .inl (.inr (by omega))
              · exact .inr (by omega)
          · rintro ((h | h) | h)
            · exact .inl h
            · exact .inr (by omega)
            · exact .inr (by omega)
      · rw [ofStep_n hj]
        refine ⟨?_, fun p => ?_⟩
        · unfold mayL at h1 ⊢
          rw [may_app, h1, Bool.true_and, mayF, Bool.and_eq_true, decide_eq_true_eq]
          refine ⟨⟨?_, by simp only; omega, by simp only; omega⟩, rfl⟩
          simp only
          rcases Nat.eq_zero_or_pos (ofTo u k).length with h0 | h0
          · rw [List.eq_nil_of_length_eq_zero h0]
            simp [lastEnd]
          · unfold lastEnd
            rw [last_q h0]
            have := hlow _ (last_mem h0)
            simp only
            have hne : ¬ ((lastR (ofTo u k)).1 + (lastR (ofTo u k)).2 = k) := fun h => hj ⟨h0, h⟩
            omega
        · rw [more, ← h2 p]
          simp only [had_app, had_cons, had_nil, or_false, hb, and_true]
          constructor
          · rintro (h | h)
            · exact .inl h
            · exact .inr (by omega)
          · rintro (h | h)
            · exact .inl h
            · exact .inr (by omega)
    · rw [ofStep_t]
      refine ⟨h1, fun p => ?_⟩
      rw [more, ← h2 p, hb]
      simp
end Go.Proofs.Ytmndeohhanbjkaa
