/-
  What the reference gives: one by one, those ahead, those that touch, those behind; it is what Give gives.
-/
import Derived.Test.YtmndeohhanbjkaaSpaceMath4
import Derived.Test.YtmndeohhanbjkaaSpaceGive
namespace Go.Proofs.Ytmndeohhanbjkaa
open Go.RowKit

/-- The loop, from some runs on. -/
def rgS : List (Int × Int) → (Int × Int) → List (Int × Int) → List (Int × Int) → Option (List (Int × Int) × (Int × Int) × List (Int × Int))
  | ah, r, bh, [] => some (ah, r, bh)
  | ah, r, bh, x :: t => if x.1 + x.2 < r.1 then rgS (ah ++ [x]) r bh t else if x.1 + x.2 = r.1 then rgS ah (x.1, x.2 + r.2) bh t else if x.1 = r.1 + r.2 then rgS ah (r.1, r.2 + x.2) bh t else if r.1 + r.2 < x.1 then rgS ah r (bh ++ [x]) t else none
def rgiveL (l : List (Int × Int)) (r : Int × Int) : List (Int × Int) × Bool :=
  if mayL l = true ∧ mayL [r] = true then
    match rgS [] r [] l with
    | some R => if mayL (R.1 ++ [R.2.1] ++ R.2.2) = true then (R.1 ++ [R.2.1] ++ R.2.2, true) else ([], false)
    | none => ([], false)
  else ([], false)

structure RgI (ah : List (Int × Int)) (r : Int × Int) (bh : List (Int × Int)) (m : Int) (r0 : Int × Int) : Prop where
  m0 : 0 ≤ m
  a1 : mayF 0 ah = true
  a2 : ∀ y ∈ ah, y.1 + y.2 + 1 ≤ r.1
  a3 : MayR r
  a4 : mayF (r.1 + r.2 + 1) bh = true
  h3 : ∀ y ∈ ah, y.1 + y.2 + 1 ≤ m
  h4 : ∀ y ∈ bh, y.1 + y.2 + 1 ≤ m
  h5 : r.1 ≤ r0.1 ∧ r0.1 + r0.2 ≤ r.1 + r.2
  h6 : ∀ p, r.1 ≤ p → p < r.1 + r.2 → (r0.1 ≤ p ∧ p < r0.1 + r0.2) ∨ p < m
theorem RgI.may {ah bh : List (Int × Int)} {r r0 : Int × Int} {m : Int} (h : RgI ah r bh m r0) : mayL (ah ++ [r] ++ bh) = true := by
  have hr := h.a3
  unfold MayR at hr
  unfold mayL
  rw [List.append_assoc, may_app, Bool.and_eq_true]
  refine ⟨h.a1, ?_⟩
  have hl : lastEnd 0 ah ≤ r.1 := last_le (by omega) (fun x hx => by have := h.a2 x hx; omega)
  rw [List.singleton_append, mayF, Bool.and_eq_true, decide_eq_true_eq]
  exact ⟨by omega, h.a4⟩
/-- Nothing lies behind, if the next run isn't. -/
theorem RgI.none {ah bh : List (Int × Int)} {r r0 x : Int × Int} {m : Int} (h : RgI ah r bh m r0) (hm : m ≤ x.1) (hx : x.1 ≤ r.1 + r.2) : bh = [] := by
  cases bh with
  | nil => rfl
  | cons y t =>
    have hr := h.a3
    unfold MayR at hr
    have h1 := may_mem (by omega) h.a4 y (List.mem_cons_self ..)
    have h2 := h.h4 y (List.mem_cons_self ..)
    unfold MayR at h1
    omega

theorem rg_spec (r0 : Int × Int) : ∀ (t ah bh : List (Int × Int)) (r : Int × Int) (m : Int), RgI ah r bh m r0 → mayF m t = true →
    (rgS ah r bh t = none ∧ ∃ x ∈ t, meetB x r0 = true) ∨ ∃ R, rgS ah r bh t = some R ∧ (∀ x ∈ t, meetB x r0 = false) ∧ mayL (R.1 ++ [R.2.1] ++ R.2.2) = true ∧ ∀ p, Had (R.1 ++ [R.2.1] ++ R.2.2) p ↔ Had (ah ++ [r] ++ bh) p ∨ Had t p := by
  intro t
  induction t with
  | nil =>
    intro ah bh r m h _
    exact .inr ⟨(ah, r, bh), rfl, (fun x hx => by cases hx), h.may, (fun p => by simp [had_nil])⟩
  | cons x t ih =>
    intro ah bh r m h ht
    rw [mayF, Bool.and_eq_true, decide_eq_true_eq] at ht
    obtain ⟨⟨hx0, hx1, hx2⟩, ht⟩ := ht
    have hm0 := h.m0
    have hr := h.a3
    unfold MayR at hr
    have h5 := h.h5
    have step : ∀ (ah' bh' : List (Int × Int)) (r' : Int × Int), RgI ah' r' bh' (x.1 + x.2 + 1) r0 → meetB x r0 = false → rgS ah r bh (x :: t) = rgS ah' r' bh' t → (∀ p, Had (ah' ++ [r'] ++ bh') p ↔ Had (ah ++ [r] ++ bh) p ∨ (x.1 ≤ p ∧ p < x.1 + x.2)) →
        (rgS ah r bh (x :: t) = none ∧ ∃ y ∈ x :: t, meetB y r0 = true) ∨ ∃ R, rgS ah r bh (x :: t) = some R ∧ (∀ y ∈ x :: t, meetB y r0 = false) ∧ mayL (R.1 ++ [R.2.1] ++ R.2.2) = true ∧ ∀ p, Had (R.1 ++ [R.2.1] ++ R.2.2) p ↔ Had (ah ++ [r] ++ bh) p ∨ Had (x :: t) p := by
      intro ah' bh' r' hi hq he hp
      rw [he]
      rcases ih ah' bh' r' _ hi ht with ⟨h1, y, hy, h2⟩ | ⟨R, h1, h2, h3, h4⟩
      · exact .inl ⟨h1, y, List.mem_cons_of_mem _ hy, h2⟩
      · refine .inr ⟨R, h1, fun y hy => ?_, h3, fun p => ?_⟩
        · rcases List.mem_cons.1 hy with rfl | hy
          · exact hq
          · exact h2 y hy
        · rw [h4, hp, had_cons, or_assoc]
    by_cases c1 : x.1 + x.2 < r.1
    · have hb := h.none hx0 (by omega)
      subst hb
      refine step (ah ++ [x]) [] r ⟨by omega, ?_, ?_, h.a3, rfl, ?_, (fun y hy => by cases hy), h5, fun p h1 h2 => ?_⟩ ?_ ?_ ?_
      · rw [may_app, Bool.and_eq_true]
        have hl : lastEnd 0 ah ≤ x.1 := last_le (by omega) (fun y hy => by have := h.h3 y hy; omega)
        refine ⟨h.a1, ?_⟩
        rw [mayF, Bool.and_eq_true, decide_eq_true_eq]
        exact ⟨by omega, rfl⟩
      · intro y hy
        rcases List.mem_append.1 hy with hy | hy
        · exact h.a2 y hy
        · rw [List.mem_singleton.1 hy]; omega
      · intro y hy
        rcases List.mem_append.1 hy with hy | hy
        · have := h.h3 y hy; omega
        · rw [List.mem_singleton.1 hy]; omega
      · rcases h.h6 p h1 h2 with h3 | h3
        · exact .inl h3
        · exact .inr (by omega)
      · unfold meetB; simp; omega
      · show (if _ then _ else _) = _
        rw [if_pos c1]
      · intro p
        simp only [had_app, had_cons, had_nil, or_false]
        grind
    · by_cases c2 : x.1 + x.2 = r.1
      · refine step ah bh (x.1, x.2 + r.2) ⟨by omega, h.a1, (fun y hy => by have := h.h3 y hy; show _ ≤ x.1; omega), ?_, ?_, (fun y hy => by have := h.h3 y hy; omega), (fun y hy => by have := h.h4 y hy; omega), ?_, fun p h1 h2 => ?_⟩ ?_ ?_ ?_
        · unfold MayR; simp only; omega
        · rw [show (x.1, x.2 + r.2).1 + (x.1, x.2 + r.2).2 + 1 = r.1 + r.2 + 1 by simp only; omega]; exact h.a4
        · simp only; omega
        · simp only at h1 h2
          by_cases hp : p < x.1 + x.2
          · exact .inr (by omega)
          · rcases h.h6 p (by omega) (by omega) with h3 | h3
            · exact .inl h3
            · exact .inr (by omega)
        · unfold meetB; simp; omega
        · show (if _ then _ else _) = _
          rw [if_neg c1, if_pos c2]
        · intro p
          simp only [had_app, had_cons, had_nil, or_false]
          have e : (x.1 ≤ p ∧ p < x.1 + (x.2 + r.2)) ↔ (r.1 ≤ p ∧ p < r.1 + r.2) ∨ (x.1 ≤ p ∧ p < x.1 + x.2) := by omega
          grind
      · by_cases c3 : x.1 = r.1 + r.2
        · have hb := h.none hx0 (by omega)
          subst hb
          refine step ah [] (r.1, r.2 + x.2) ⟨by omega, h.a1, h.a2, ?_, rfl, (fun y hy => by have := h.h3 y hy; omega), (fun y hy => by cases hy), ?_, fun p h1 h2 => ?_⟩ ?_ ?_ ?_
          · unfold MayR; simp only; omega
          · simp only; omega
          · simp only at h1 h2
            by_cases hp : p < r.1 + r.2
            · rcases h.h6 p (by omega) (by omega) with h3 | h3
              · exact .inl h3
              · exact .inr (by omega)
            · exact .inr (by omega)
          · unfold meetB; simp; omega
          · show (if _ then _ else _) = _
            rw [if_neg c1, if_neg c2, if_pos c3]
          · intro p
            simp only [had_app, had_cons, had_nil, or_false]
            have e : (r.1 ≤ p ∧ p < r.1 + (r.2 + x.2)) ↔ (r.1 ≤ p ∧ p < r.1 + r.2) ∨ (x.1 ≤ p ∧ p < x.1 + x.2) := by omega
            grind
        · by_cases c4 : r.1 + r.2 < x.1
          · refine step ah (bh ++ [x]) r ⟨by omega, h.a1, h.a2, h.a3, ?_, (fun y hy => by have := h.h3 y hy; omega), ?_, h5, fun p h1 h2 => ?_⟩ ?_ ?_ ?_
            · rw [may_app, Bool.and_eq_true]
              have hl : lastEnd (r.1 + r.2 + 1) bh ≤ x.1 := last_le (by omega) (fun y hy => by have := h.h4 y hy; omega)
              refine ⟨h.a4, ?_⟩
              rw [mayF, Bool.and_eq_true, decide_eq_true_eq]
              exact ⟨by omega, rfl⟩
            · intro y hy
              rcases List.mem_append.1 hy with hy | hy
              · have := h.h4 y hy; omega
              · rw [List.mem_singleton.1 hy]; omega
            · rcases h.h6 p h1 h2 with h3 | h3
              · exact .inl h3
              · exact .inr (by omega)
            · unfold meetB; simp; omega
            · show (if _ then _ else _) = _
              rw [if_neg c1, if_neg c2, if_neg c3, if_pos c4]
            · intro p
              simp only [had_app, had_cons, had_nil, or_false]
              grind
          · refine .inl ⟨?_, x, List.mem_cons_self .., ?_⟩
            · show (if _ then _ else _) = _
              rw [if_neg c1, if_neg c2, if_neg c3, if_neg c4]
            · have hp : ∃ p, r.1 ≤ p ∧ p < r.1 + r.2 ∧ x.1 ≤ p ∧ p < x.1 + x.2 := by
                by_cases hc : x.1 ≤ r.1
                · exact ⟨r.1, by omega, by omega, by omega, by omega⟩
                · exact ⟨x.1, by omega, by omega, by omega, by omega⟩
              obtain ⟨p, p1, p2, p3, p4⟩ := hp
              rcases h.h6 p p1 p2 with h7 | h7
              · unfold meetB; simp; omega
              · omega
theorem rgive_eq (l : List (Int × Int)) (r : Int × Int) : rgiveL l r = giveL l r := by
  unfold rgiveL
  by_cases hc : mayL l = true ∧ mayL [r] = true
  · rw [if_pos hc]
    obtain ⟨hl, hr⟩ := hc
    have hR := (may_mem (m := 0) (by omega) hr r (List.mem_singleton.2 rfl)).1
    obtain ⟨s1, s2⟩ := give_spec hl hr
    have hi : RgI [] r [] 0 r := ⟨by omega, rfl, (fun y hy => by cases hy), hR, rfl, (fun y hy => by cases hy), (fun y hy => by cases hy), ⟨by omega, by omega⟩, fun p h1 h2 => .inl ⟨h1, h2⟩⟩
    rcases rg_spec r l [] [] r 0 hi hl with ⟨h1, x, hx, hm⟩ | ⟨R, h1, h2, h3, h4⟩
    · rw [h1]
      have hf : (giveL l r).2 = false := by
        cases hq : (giveL l r).2 with
        | false => rfl
        | true => have := (s1.1 hq) x hx; rw [hm] at this; cases this
      exact Prod.ext (give_empty hf).symm hf.symm
    · rw [h1]
      have ht : (giveL l r).2 = true := s1.2 h2
      obtain ⟨m1, m2⟩ := s2 ht
      show (if mayL (R.1 ++ [R.2.1] ++ R.2.2) = true then (R.1 ++ [R.2.1] ++ R.2.2, true) else ([], false)) = _
      rw [if_pos h3]
      refine Prod.ext (may_uniq (by omega) (by omega) h3 m1 fun p => ?_) ht.symm
      rw [h4, m2]
      simp only [List.nil_append, List.append_nil, had_cons, had_nil, or_false]
      exact or_comm
  · rw [if_neg hc]
    exact (give_no (by
      by_cases h1 : mayL l = true
      · exact .inr (by simpa using fun h2 => hc ⟨h1, h2⟩)
      · exact .inl (by simpa using h1))).symm
end Go.Proofs.Ytmndeohhanbjkaa
