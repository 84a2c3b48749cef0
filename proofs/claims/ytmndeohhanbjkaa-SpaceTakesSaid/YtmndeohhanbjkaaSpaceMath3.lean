/-
  Plain math: what Give's runs have.
-/
import Derived.Test.YtmndeohhanbjkaaSpaceMath2
namespace Go.Proofs.Ytmndeohhanbjkaa
open Go.RowKit Go.ChangeShapes Go.WideShapes Go.ChangeAt

theorem may_ends {l : List (Int × Int)} : ∀ {m : Int}, 0 ≤ m → mayF m l = true → ∀ i j (hij : i < j) (hj : j < l.length), l[i].1 + l[i].2 < l[j].1 := by
  induction l with
  | nil => intro m _ _ i j _ hj; simp at hj
  | cons y r ih =>
    intro m hm h i j hij hj
    rw [mayF, Bool.and_eq_true, decide_eq_true_eq] at h
    cases j with
    | zero => omega
    | succ j =>
      have hj' : j < r.length := by simpa using hj
      cases i with
      | zero =>
        have := (may_mem (m := y.1 + y.2 + 1) (by omega) h.2 r[j] (List.getElem_mem hj')).2
        simp only [List.getElem_cons_zero, List.getElem_cons_succ]
        omega
      | succ i =>
        simp only [List.getElem_cons_succ]
        exact ih (m := y.1 + y.2 + 1) (by omega) h.2 i j (by omega) hj'
theorem fold_none {r : Int × Int} : ∀ {M : List (Int × Int)} {j : Int × Int}, (∃ x ∈ M, meetB x r = true) → foldJ r j M = none
  | [], _, ⟨x, hx, _⟩ => by cases hx
  | y :: M, j, ⟨x, hx, h⟩ => by
    rw [foldJ]
    split
    · rfl
    · next hn =>
      rcases List.mem_cons.1 hx with rfl | hx
      · exact absurd h hn
      · exact fold_none ⟨x, hx, h⟩
theorem from_not {l : List (Int × Int)} {a : Int} (h : fromN l a < l.length) : ¬ (l[fromN l a].1 + l[fromN l a].2 < a) := by
  have hp : ∀ x ∈ l.take (fromN l a), x.1 + x.2 < a := from_pre
  intro hn
  have h2 := from_step hp h hn
  have : fromN l a + 1 ≤ fromN l a := by
    have hle : ∀ k, k ≤ l.length → (∀ x ∈ l.take k, x.1 + x.2 < a) → k ≤ fromN l a := by
      intro k hk hall
      rcases Nat.lt_or_ge (fromN l a) k with hlt | hge
      · have e := from_at (l := l) (a := a) (k := fromN l a) hp h
        unfold fromN at hlt ⊢
        rw [← List.take_append_drop k l, List.takeWhile_append_of_pos (by intro x hx; simpa using hall x hx), List.length_append, List.length_take]
        omega
      · exact hge
    exact hle _ h h2
  omega
theorem down_not (l : List (Int × Int)) (e : Int) (f : Nat) : ∀ k, f < downTo l e f k → ¬ (e < (l.getD (downTo l e f k - 1) (0, 0)).1)
  | 0, h => by rw [downTo] at h; omega
  | k + 1, h => by
    rw [downTo] at h ⊢
    split
    · next hc =>
      rw [if_pos hc] at h
      exact down_not l e f k h
    · next hc =>
      rw [if_neg hc] at h
      rw [Nat.add_sub_cancel]
      intro h'
      exact hc ⟨h, h'⟩
/-- The runs in the middle: each touches r, or meets it. -/
theorem mid_bd {l : List (Int × Int)} {r : Int × Int} (hl : mayL l = true) (k : Nat) (h1 : giveF l r ≤ k) (h2 : k < giveT l r) (hk : k < l.length) : r.1 ≤ l[k].1 + l[k].2 ∧ l[k].1 ≤ r.1 + r.2 := by
  have hF : giveF l r < l.length := by omega
  have hT : giveT l r ≤ l.length := down_le _ _ _ _
  have hm : ∀ i (hi : i < l.length), MayR l[i] ∧ 0 ≤ l[i].1 := fun i hi => may_mem (m := 0) (by omega) hl l[i] (List.getElem_mem hi)
  constructor
  · have hn := from_not (l := l) (a := r.1) hF
    rcases Nat.lt_or_ge (giveF l r) k with h | h
    · have := may_ends (m := 0) (by omega) hl (giveF l r) k h hk
      have h3 := (hm k hk).1
      unfold MayR at h3
      unfold giveF at this h
      omega
    · have e : giveF l r = k := by omega
      unfold giveF at e
      subst e
      omega
  · have hn := down_not l (r.1 + r.2) (fromN l r.1) l.length (by unfold giveF giveT at *; omega)
    have hT1 : giveT l r - 1 < l.length := by omega
    have hg : l.getD (giveT l r - 1) (0, 0) = l[giveT l r - 1] := by simp [List.getD, List.getElem?_eq_getElem hT1]
    unfold giveT at hg
    rw [hg] at hn
    rcases Nat.lt_or_ge k (giveT l r - 1) with h | h
    · have := may_ends (m := 0) (by omega) hl k (giveT l r - 1) h hT1
      have h3 := (hm k hk).1
      unfold MayR at h3
      unfold giveT at this
      omega
    · have e : k = giveT l r - 1 := by omega
      subst e
      unfold giveT
      omega
theorem give_parts (l : List (Int × Int)) (r : Int × Int) : l = l.take (giveF l r) ++ ((l.drop (giveF l r)).take (giveT l r - giveF l r) ++ l.drop (giveT l r)) := by
  have hft : giveF l r ≤ giveT l r := down_ge _ _ _ _ (from_le _ _)
  have e : l.drop (giveT l r) = (l.drop (giveF l r)).drop (giveT l r - giveF l r) := by rw [List.drop_drop]; congr 1; omega
  rw [e, List.take_append_drop, List.take_append_drop]
end Go.Proofs.Ytmndeohhanbjkaa
