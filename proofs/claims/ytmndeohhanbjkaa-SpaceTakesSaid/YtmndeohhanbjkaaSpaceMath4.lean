/-
  Plain math: Give's runs may be, and have the old places and the new ones; it refuses just what meets.
-/
import Derived.Test.YtmndeohhanbjkaaSpaceMath3
namespace Go.Proofs.Ytmndeohhanbjkaa
open Go.RowKit Go.ChangeShapes Go.WideShapes Go.ChangeAt

theorem may_raise {l : List (Int × Int)} {m m' : Int} (h : mayF m l = true) (hm : ∀ x ∈ l, m' ≤ x.1) : mayF m' l = true := by
  cases l with
  | nil => rfl
  | cons x r =>
    rw [mayF, Bool.and_eq_true, decide_eq_true_eq] at h ⊢
    have := hm x (List.mem_cons_self ..)
    exact ⟨by omega, h.2⟩
theorem last_le {l : List (Int × Int)} {m a : Int} (h0 : m ≤ a) (h : ∀ x ∈ l, x.1 + x.2 < a) : lastEnd m l ≤ a := by
  unfold lastEnd
  cases hl : l.getLast? with
  | none => exact h0
  | some x =>
    have := h x (List.mem_of_getLast? hl)
    simp only
    omega
theorem give_core {A M B : List (Int × Int)} {r : Int × Int} (hr : MayR r) (hmay : mayF 0 (A ++ (M ++ B)) = true) (hA : ∀ x ∈ A, x.1 + x.2 < r.1) (hB : ∀ x ∈ B, r.1 + r.2 < x.1)
    (hM : ∀ x ∈ M, r.1 ≤ x.1 + x.2 ∧ x.1 ≤ r.1 + r.2) (hno : ∀ x ∈ M, meetB x r = false) :
    ∃ j, foldJ r r M = some j ∧ mayF 0 (A ++ [j] ++ B) = true ∧ ∀ p, Had (A ++ [j] ++ B) p ↔ Had (A ++ (M ++ B)) p ∨ (r.1 ≤ p ∧ p < r.1 + r.2) := by
  have hmem := fun x hx => (may_mem (l := A ++ (M ++ B)) (m := 0) (by omega) hmay x hx).1
  rw [may_app, may_app, Bool.and_eq_true, Bool.and_eq_true] at hmay
  obtain ⟨mA, mM, mB⟩ := hmay
  have hla : lastEnd 0 A ≤ r.1 := last_le (by unfold MayR at hr; omega) hA
  have mB2 : mayF (r.1 + r.2 + 1) B = true := may_raise mB fun x hx => by have := hB x hx; omega
  have touch : ∀ x ∈ M, x.1 + x.2 = r.1 ∨ x.1 = r.1 + r.2 := by
    intro x hx
    have h1 := hM x hx
    have h2 := hno x hx
    unfold meetB at h2
    simp at h2
    omega
  unfold MayR at hr
  match M, mM, mB, touch, hno, hmem with
  | [], mM, mB, touch, hno, hmem =>
    refine ⟨r, rfl, ?_, fun p => ?_⟩
    · rw [List.append_assoc, may_app, mA, Bool.true_and, List.singleton_append, mayF, Bool.and_eq_true, decide_eq_true_eq]
      exact ⟨by omega, mB2⟩
    · simp only [had_app, had_cons, List.nil_append, had_nil, or_false]
      constructor
      · rintro ((h | h) | h)
        · exact .inl (.inl h)
        · exact .inr h
        · exact .inl (.inr h)
      · rintro ((h | h) | h)
        · exact .inl (.inl h)
        · exact .inr h
        · exact .inl (.inr h)
  | [x], mM, mB, touch, hno, hmem =>
    have hx := hmem x (by simp)
    unfold MayR at hx
    have hn := hno x (List.mem_singleton.2 rfl)
    rw [mayF, Bool.and_eq_true, decide_eq_true_eq] at mM
    simp only [lastEnd, List.getLast?_singleton] at mB
    refine ⟨joinP r x, by rw [foldJ, if_neg (by rw [hn]; simp)]; rfl, ?_, fun p => ?_⟩
    · rw [List.append_assoc, may_app, mA, Bool.true_and, List.singleton_append, mayF, Bool.and_eq_true, decide_eq_true_eq]
      rcases touch x (List.mem_singleton.2 rfl) with e | e
      · have e1 : (joinP r x).1 = x.1 := by unfold joinP; simp only; omega
        have e2 : (joinP r x).1 + (joinP r x).2 = r.1 + r.2 := by unfold joinP; simp only; omega
        rw [e2]
        exact ⟨by omega, mB2⟩
      · have e1 : (joinP r x).1 = r.1 := by unfold joinP; simp only; omega
        have e2 : (joinP r x).1 + (joinP r x).2 = x.1 + x.2 := by unfold joinP; simp only; omega
        rw [e2]
        exact ⟨by omega, mB⟩
    · have hj : ((joinP r x).1 ≤ p ∧ p < (joinP r x).1 + (joinP r x).2) ↔ (x.1 ≤ p ∧ p < x.1 + x.2) ∨ (r.1 ≤ p ∧ p < r.1 + r.2) := by
        have := touch x (List.mem_singleton.2 rfl)
        unfold joinP
        simp only
        omega
      simp only [had_app, had_cons, had_nil, or_false, hj]
      constructor
      · rintro ((h | h | h) | h)
        · exact .inl (.inl h)
        · exact .inl (.inr (.inl h))
        · exact .inr h
        · exact .inl (.inr (.inr h))
      · rintro ((h | h | h) | h)
        · exact .inl (.inl h)
        · exact .inl (.inr (.inl h))
        · exact .inr h
        · exact .inl (.inr (.inr h))
  | [x, y], mM, mB, touch, hno, hmem =>
    have hx := hmem x (by simp)
    have hy := hmem y (by simp)
    unfold MayR at hx hy
    have hn := hno x (by simp)
    have hn2 := hno y (by simp)
    have t1 := touch x (by simp)
    have t2 := touch y (by simp)
    rw [mayF, mayF, Bool.and_eq_true, Bool.and_eq_true, decide_eq_true_eq, decide_eq_true_eq] at mM
    simp only [lastEnd, List.getLast?_cons_cons, List.getLast?_singleton] at mB
    have e0 : (joinP r x).1 = x.1 ∧ (joinP r x).1 + (joinP r x).2 = r.1 + r.2 := by unfold joinP; simp only; omega
    have e1 : (joinP (joinP r x) y).1 = x.1 ∧ (joinP (joinP r x) y).1 + (joinP (joinP r x) y).2 = y.1 + y.2 := by
      unfold joinP at e0 ⊢
      simp only at e0 ⊢
      omega
    refine ⟨joinP (joinP r x) y, by rw [foldJ, if_neg (by rw [hn]; simp), foldJ, if_neg (by rw [hn2]; simp)]; rfl, ?_, fun p => ?_⟩
    · rw [List.append_assoc, may_app, mA, Bool.true_and, List.singleton_append, mayF, Bool.and_eq_true, decide_eq_true_eq]
      rw [e1.2]
      exact ⟨by omega, mB⟩
    · have hj : ((joinP (joinP r x) y).1 ≤ p ∧ p < (joinP (joinP r x) y).1 + (joinP (joinP r x) y).2) ↔ (x.1 ≤ p ∧ p < x.1 + x.2) ∨ (y.1 ≤ p ∧ p < y.1 + y.2) ∨ (r.1 ≤ p ∧ p < r.1 + r.2) := by
        omega
      simp only [had_app, had_cons, had_nil, or_false, hj]
      constructor
      · rintro ((h | h | h | h) | h)
        · exact .inl (.inl h)
        · exact .inl (.inr (.inl (.inl h)))
        · exact .inl (.inr (.inl (.inr h)))
        · exact .inr h
        · exact .inl (.inr (.inr h))
      · rintro ((h | (h | h) | h) | h)
        · exact .inl (.inl h)
        · exact .inl (.inr (.inl h))
        · exact .inl (.inr (.inr (.inl h)))
        · exact .inr h
        · exact .inl (.inr (.inr (.inr h)))
  | x :: y :: z :: t, mM, mB, touch, hno, hmem =>
    exfalso
    have hx := hmem x (by simp)
    have hy := hmem y (by simp)
    have hz := hmem z (by simp)
    unfold MayR at hx hy hz
    have t1 := touch x (by simp)
    have t2 := touch y (by simp)
    have t3 := touch z (by simp)
    rw [mayF, mayF, mayF, Bool.and_eq_true, Bool.and_eq_true, Bool.and_eq_true, decide_eq_true_eq, decide_eq_true_eq, decide_eq_true_eq] at mM
    omega
theorem give_spec {l : List (Int × Int)} {r : Int × Int} (hl : mayL l = true) (hr : mayL [r] = true) :
    ((giveL l r).2 = true ↔ ∀ x ∈ l, meetB x r = false) ∧ ((giveL l r).2 = true → mayL (giveL l r).1 = true ∧ ∀ p, Had (giveL l r).1 p ↔ Had l p ∨ (r.1 ≤ p ∧ p < r.1 + r.2)) := by
  have hR := (may_mem (m := 0) (by omega) hr r (List.mem_singleton.2 rfl)).1
  have hp := give_parts l r
  have hA : ∀ x ∈ l.take (giveF l r), x.1 + x.2 < r.1 := from_pre
  have hB : ∀ x ∈ l.drop (giveT l r), r.1 + r.2 < x.1 := by
    intro x hx
    obtain ⟨i, hi, rfl⟩ := List.getElem_of_mem hx
    rw [List.getElem_drop]
    rw [List.length_drop] at hi
    have := down_above l (r.1 + r.2) (fromN l r.1) l.length (giveT l r + i) (by unfold giveT; omega) (by omega)
    rwa [List.getD, List.getElem?_eq_getElem (by omega)] at this
  have hM : ∀ x ∈ (l.drop (giveF l r)).take (giveT l r - giveF l r), r.1 ≤ x.1 + x.2 ∧ x.1 ≤ r.1 + r.2 := by
    intro x hx
    obtain ⟨i, hi, rfl⟩ := List.getElem_of_mem hx
    rw [List.length_take, List.length_drop] at hi
    rw [List.getElem_take, List.getElem_drop]
    exact mid_bd hl (giveF l r + i) (by omega) (by omega) (by omega)
  have hmay : mayF 0 (l.take (giveF l r) ++ ((l.drop (giveF l r)).take (giveT l r - giveF l r) ++ l.drop (giveT l r))) = true := by rw [← hp]; exact hl
  by_cases hno : ∀ x ∈ (l.drop (giveF l r)).take (giveT l r - giveF l r), meetB x r = false
  · obtain ⟨j, h1, h2, h3⟩ := give_core hR hmay hA hB hM hno
    have hg := give_some hl hr h1
    rw [hg]
    refine ⟨⟨fun _ x hx => ?_, fun _ => rfl⟩, fun _ => ⟨h2, fun p => ?_⟩⟩
    · rw [hp] at hx
      unfold MayR at hR
      rcases List.mem_append.1 hx with hx | hx
      · have := hA x hx
        unfold meetB
        simp
        omega
      · rcases List.mem_append.1 hx with hx | hx
        · exact hno x hx
        · have := hB x hx
          unfold meetB
          simp
          omega
    · have := h3 p
      rw [← hp] at this
      exact this
  · have hex : ∃ x ∈ (l.drop (giveF l r)).take (giveT l r - giveF l r), meetB x r = true := by
      refine Classical.byContradiction fun h => hno fun x hx => ?_
      cases hb : meetB x r
      · rfl
      · exact absurd ⟨x, hx, hb⟩ h
    have hg := give_none (fold_none (j := r) hex)
    rw [hg]
    refine ⟨⟨(fun h => by cases h), fun h => ?_⟩, (fun h => by cases h)⟩
    obtain ⟨x, hx, hm⟩ := hex
    have hxl : x ∈ l := List.mem_of_mem_drop (List.mem_of_mem_take hx)
    rw [h x hxl] at hm
    cases hm
end Go.Proofs.Ytmndeohhanbjkaa
