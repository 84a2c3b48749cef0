/-
  Plain math of package space's statements.
-/
import Derived.Test.YtmndeohhanbjkaaSpaceGiveA
import Derived.Test.YtmndeohhanbjkaaSpaceOfA
namespace Go.Proofs.Ytmndeohhanbjkaa
open Go.RowKit Go.ChangeShapes Go.WideShapes Go.ChangeAt

theorem Sl.keepS {α : Type} {w w' : World} {f : α → Value} {a : Option Addr} {l : List α} (h : Sl w f a l) (hb : Below w.heap.size w w') : Sl w' f a l := by
  intro hne
  obtain ⟨b, off, e, hl, hc⟩ := h hne
  exact ⟨b, off, e, Nat.lt_of_lt_of_le hl hb.size, fun i x hx => by rw [hb.cell (p := ⟨b, off + i, none⟩) hl]; exact hc i x hx⟩
theorem fold_all {r : Int × Int} : ∀ {M : List (Int × Int)} {j q : Int × Int}, foldJ r j M = some q → ∀ x ∈ M, meetB x r = false
  | [], _, _, _ => fun x hx => by cases hx
  | y :: M, j, q, h => by
    rw [foldJ] at h
    split at h
    · cases h
    · next hn =>
      intro x hx
      rcases List.mem_cons.1 hx with rfl | hx
      · simpa using hn
      · exact fold_all h x hx
theorem down_above (l : List (Int × Int)) (e : Int) (f : Nat) : ∀ k i, downTo l e f k ≤ i → i < k → e < (l.getD i (0, 0)).1
  | 0, i, _, h => by omega
  | k + 1, i, h1, h2 => by
    rw [downTo] at h1
    split at h1
    · next hc =>
      rcases Nat.lt_or_ge i k with h | h
      · exact down_above l e f k i h1 h
      · obtain rfl : i = k := by omega
        exact hc.2
    · omega
theorem from_pre {l : List (Int × Int)} {a : Int} : ∀ x ∈ l.take (fromN l a), x.1 + x.2 < a := by
  unfold fromN
  induction l with
  | nil => intro x hx; simp at hx
  | cons y r ih =>
    intro x hx
    by_cases hy : y.1 + y.2 < a
    · rw [List.takeWhile_cons_of_pos (by simpa using hy), List.length_cons, List.take_succ_cons] at hx
      rcases List.mem_cons.1 hx with rfl | hx
      · exact hy
      · exact ih x hx
    · rw [List.takeWhile_cons_of_neg (by simpa using hy)] at hx
      simp at hx
theorem give_empty {l : List (Int × Int)} {r : Int × Int} (h : (giveL l r).2 = false) : (giveL l r).1 = [] := by
  unfold giveL at *
  split
  · next hc =>
    rw [if_pos hc] at h
    split
    · next j hj => rw [hj] at h; cases h
    · rfl
  · rfl
theorem give_free {l : List (Int × Int)} {at' : Int} (h : (giveL l (at', 1)).2 = true) : hasL l at' = false := by
  unfold giveL at h
  split at h
  · next hc =>
    split at h
    · next j hj =>
      unfold hasL
      rw [hc.1, Bool.true_and, List.any_eq_false]
      intro x hx
      unfold inRun
      simp only [decide_eq_true_eq]
      intro hin
      have hsplit : l = l.take (giveF l (at', 1)) ++ ((l.drop (giveF l (at', 1))).take (giveT l (at', 1) - giveF l (at', 1)) ++ l.drop (giveT l (at', 1))) := by
        have hft : giveF l (at', 1) ≤ giveT l (at', 1) := down_ge _ _ _ _ (from_le _ _)
        have e : l.drop (giveT l (at', 1)) = (l.drop (giveF l (at', 1))).drop (giveT l (at', 1) - giveF l (at', 1)) := by rw [List.drop_drop]; congr 1; omega
        rw [e, List.take_append_drop, List.take_append_drop]
      rw [hsplit] at hx
      rcases List.mem_append.1 hx with hx | hx
      · have := from_pre x hx
        simp only at this
        omega
      · rcases List.mem_append.1 hx with hx | hx
        · have := fold_all hj x hx
          unfold meetB at this
          simp at this
          omega
        · obtain ⟨i, hi, rfl⟩ := List.getElem_of_mem hx
          rw [List.getElem_drop] at hin
          rw [List.length_drop] at hi
          have := down_above l (at' + 1) (fromN l at') l.length (giveT l (at', 1) + i) (by unfold giveT; simp only; omega) (by omega)
          rw [List.getD, List.getElem?_eq_getElem (by omega)] at this
          simp only [Option.getD_some] at this
          omega
    · cases h
  · cases h
theorem may_lt {l : List (Int × Int)} : ∀ {m : Int}, 0 ≤ m → mayF m l = true → ∀ i j (hij : i < j) (hj : j < l.length), l[i].1 < l[j].1 := by
  induction l with
  | nil => intro m _ _ i j _ hj; simp at hj
  | cons y r ih =>
    intro m hm h i j hij hj
    rw [mayF, Bool.and_eq_true, decide_eq_true_eq] at h
    cases j with
    | zero => omega
    | succ j =>
      have hj' : j < r.length := by simpa using hj
      cases i with
      | zero =>
        have := (may_mem (m := y.1 + y.2 + 1) (by omega) h.2 r[j] (List.getElem_mem hj')).2
        simp only [List.getElem_cons_zero, List.getElem_cons_succ]
        omega
      | succ i =>
        simp only [List.getElem_cons_succ]
        exact ih (m := y.1 + y.2 + 1) (by omega) h.2 i j (by omega) hj'
end Go.Proofs.Ytmndeohhanbjkaa
