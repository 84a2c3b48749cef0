/-
  Contracts of package space: Of; its reference.
-/
import Derived.Test.YtmndeohhanbjkaaSpaceTot
import Derived.Deep.RegionHeld3
import Derived.Deep.QuietTactic
import Derived.BigQuiet
namespace Go.Proofs.Ytmndeohhanbjkaa
open Go.RowKit Go.ChangeShapes Go.WideShapes Go.ChangeAt

/-- One place more. -/
def lastR (acc : List (Int × Int)) : Int × Int := acc.getD (acc.length - 1) (0, 0)
def ofStep (acc : List (Int × Int)) (at' : Int) (is : Bool) : List (Int × Int) :=
  if is = true then acc
  else if 0 < acc.length ∧ (lastR acc).1 + (lastR acc).2 = at' then acc.set (acc.length - 1) ((lastR acc).1, (lastR acc).2 + 1)
  else acc ++ [(at', 1)]
def ofTo (u : List Bool) : Nat → List (Int × Int)
  | 0 => []
  | k + 1 => ofStep (ofTo u k) k (u.getD k true)
def ofL (u : List Bool) : List (Int × Int) := ofTo u u.length
/-- All lie below at'. -/
def LowR (l : List (Int × Int)) (at' : Int) : Prop := ∀ x ∈ l, 0 ≤ x.1 ∧ 1 ≤ x.2 ∧ x.1 + x.2 ≤ at'
theorem last_mem {acc : List (Int × Int)} (h : 0 < acc.length) : lastR acc ∈ acc := by
  unfold lastR
  rw [List.getD, List.getElem?_eq_getElem (by omega)]
  exact List.getElem_mem _
theorem ofStep_low {acc : List (Int × Int)} {k : Nat} {b : Bool} (h : LowR acc k) (hl : acc.length ≤ k) : LowR (ofStep acc k b) ((k + 1 : Nat) : Int) ∧ (ofStep acc k b).length ≤ k + 1 := by
  unfold ofStep
  split
  · exact ⟨fun x hx => by have := h x hx; omega, by omega⟩
  · split
    · next he =>
      refine ⟨fun y hy => ?_, by rw [List.length_set]; omega⟩
      have hm := h _ (last_mem he.1)
      rcases List.mem_or_eq_of_mem_set hy with hy | hy
      · have := h y hy; omega
      · subst hy; simp only; omega
    · refine ⟨fun y hy => ?_, by rw [List.length_append]; simp; omega⟩
      rcases List.mem_append.1 hy with hy | hy
      · have := h y hy; omega
      · rw [List.mem_singleton.1 hy]; simp only; omega
theorem ofTo_low (u : List Bool) : ∀ k : Nat, LowR (ofTo u k) k ∧ (ofTo u k).length ≤ k
  | 0 => ⟨(fun x hx => by cases hx), Nat.le_refl _⟩
  | k + 1 => by
    have ⟨h1, h2⟩ := ofTo_low u k
    exact ofStep_low h1 h2
theorem flat_set (l : List (Int × Int)) : ∀ (i : Nat) (v : Int) (hi : i < l.length), (l.set i (l[i].1, v)).flatMap PrV = (l.flatMap PrV).set (i * 2 + 1) (.int .i64 v) := by
  induction l with
  | nil => intro i v hi; simp at hi
  | cons y r ih =>
    intro i v hi
    cases i with
    | zero => simp [PrV]
    | succ i =>
      have h := ih i v (by simpa using hi)
      simp only [List.set_cons_succ, List.flatMap_cons, List.getElem_cons_succ, h]
      rw [List.set_append_right _ _ (by simp [PrV]; omega)]
      congr 2
      simp [PrV]
      omega
theorem Prs.setN {e : TypeId} {w : World} {base g cap : Nat} {l : List (Int × Int)} (h : Prs e w base (.slice (some ⟨g, 0, none⟩) l.length cap) l) (i : Nat) (v : Int) (hi : i < l.length) :
    Prs e (w.setCell ⟨g, i * 2 + 1, none⟩ (.int .i64 v)) base (.slice (some ⟨g, 0, none⟩) l.length cap) (l.set i (l[i].1, v)) := by
  obtain ⟨h1, h2 | ⟨g', cap', cur, he, hb, hh, hc, hm, hs, ht⟩⟩ := h
  · exact absurd h2.1 (by simp)
  · injection he with q1 q2 q3
    injection q1 with q1
    injection q1 with q1
    subst q1 q3
    refine ⟨by rw [flat_set, List.length_set, List.length_set]; exact h1, .inr ⟨g, cap, _, by rw [List.length_set], hb, heap_setCell_same w g (i * 2 + 1) cur e _ hh, by rw [List.length_set]; exact hc, hm, by rw [Array.size_setIfInBounds]; exact hs, ?_⟩⟩
    rw [flat_set, List.length_set, Array.toList_setIfInBounds, List.take_set, ht]
theorem last_at {acc : List (Int × Int)} (h : 0 < acc.length) : acc[acc.length - 1]'(by omega) = lastR acc := by
  unfold lastR
  rw [List.getD, List.getElem?_eq_getElem (by omega)]
  rfl
/-- The last run ends at k just if the place ahead of k is free. -/
theorem of_last (u : List Bool) : ∀ k : Nat, (0 < (ofTo u k).length ∧ (lastR (ofTo u k)).1 + (lastR (ofTo u k)).2 = k) ↔ (0 < k ∧ u.getD (k - 1) true = false)
  | 0 => by simp [ofTo]
  | k + 1 => by
    have ⟨h1, h2⟩ := ofTo_low u k
    rw [ofTo]
    unfold ofStep
    rw [show k + 1 - 1 = k by omega]
    cases hb : u.getD k true
    · rw [if_neg (by simp)]
      split
      · next he =>
        refine ⟨fun _ => ⟨by omega, rfl⟩, fun _ => ⟨by rw [List.length_set]; exact he.1, ?_⟩⟩
        rw [show lastR ((ofTo u k).set ((ofTo u k).length - 1) ((lastR (ofTo u k)).1, (lastR (ofTo u k)).2 + 1)) = ((lastR (ofTo u k)).1, (lastR (ofTo u k)).2 + 1) from by
          conv => lhs; unfold lastR
          rw [List.length_set, List.getD, List.getElem?_set_self (by omega)]
          rfl]
        have := he.2
        simp only
        omega
      · refine ⟨fun _ => ⟨by omega, rfl⟩, fun _ => ⟨by rw [List.length_append]; simp, ?_⟩⟩
        rw [show lastR (ofTo u k ++ [((k : Int), 1)]) = ((k : Int), 1) from by
          unfold lastR
          simp [List.getD]]
        simp only
        omega
    · rw [if_pos rfl]
      refine ⟨fun h => ?_, fun h => absurd h.2 (by simp)⟩
      have := h1 _ (last_mem h.1)
      omega
end Go.Proofs.Ytmndeohhanbjkaa
