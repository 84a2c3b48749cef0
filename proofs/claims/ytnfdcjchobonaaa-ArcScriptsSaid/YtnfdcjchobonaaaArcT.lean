/-
  The reference's cache: room.
-/
import Derived.Test.YtnfdcjchobonaaaArcS
namespace Go.Proofs.Ytnfdcjchobonaaa
open Go.RowKit Go.ChangeShapes Go.WideShapes Go.ChangeAt

theorem ks_of {w : World} {b : Nat} {v : Nat → Value} {d : ArcD} (h : RefAt w b v d) {i : Nat} (hi : InA i) {x : Value} (hq : w.cell? ⟨b, i - 2, none⟩ = some x) : Ks w 0 x (d.l i) := by
  have h1 : w.cell? ⟨b, i - 2, none⟩ = some (v i) := by
    rcases hi.cases with rfl | rfl | rfl | rfl
    · exact h.box.cell 0 _ rfl
    · exact h.box.cell 1 _ rfl
    · exact h.box.cell 2 _ rfl
    · exact h.box.cell 3 _ rfl
  rw [h1] at hq
  injection hq with hq
  rw [← hq]
  exact h.row i hi
theorem arc_ext {d e : ArcD} (hc : d.c = e.c) (ht : d.t = e.t) (h : ∀ j, d.l j = e.l j) : d = e := by
  cases d; cases e
  simp only at hc ht h
  rw [hc, ht, funext h]
instance (i : Nat) : Decidable (InA i) := inferInstanceAs (Decidable (2 ≤ i ∧ i < 6))
theorem rdrop_at (d : ArcD) (k : ByteArray) (j : Nat) : (rdrop d k).l j = if InA j then dropK (d.l j) k else d.l j := by
  unfold rdrop
  rw [put_at, put_at, put_at, put_at]
  by_cases h5 : j = 5
  · subst h5; rfl
  · by_cases h4 : j = 4
    · subst h4; rfl
    · by_cases h3 : j = 3
      · subst h3; rfl
      · by_cases h2 : j = 2
        · subst h2; rfl
        · rw [if_neg h5, if_neg h4, if_neg h3, if_neg h2, if_neg (fun h : InA j => by have := h.cases; omega)]
theorem rdrop_take {d : ArcD} (hv : InvA d) {i : Nat} (hi : InA i) {k : ByteArray} (hh : hasA d i k = true) : rdrop d k = takeA d i k := by
  refine arc_ext rfl rfl fun j => ?_
  rw [rdrop_at]
  unfold takeA
  rw [put_at]
  have h1 := hv.one k
  have h2 : 0 < cK (d.l i) k := cK_has.1 hh
  unfold cnt at h1
  by_cases hj : InA j
  · rw [if_pos hj]
    by_cases e : j = i
    · rw [if_pos e, e]
    · rw [if_neg e]
      refine drop_no k _ (cK_not.2 ?_)
      rcases hi.cases with rfl | rfl | rfl | rfl <;> rcases hj.cases with rfl | rfl | rfl | rfl <;> first | exact absurd rfl e | omega
  · rw [if_neg hj, if_neg (fun e => hj (by rw [e]; exact hi))]
theorem rdrop_none {d : ArcD} {k : ByteArray} (h : cnt d k = 0) : rdrop d k = d := by
  refine arc_ext rfl rfl fun j => ?_
  rw [rdrop_at]
  unfold cnt at h
  by_cases hj : InA j
  · rw [if_pos hj]
    refine drop_no k _ (cK_not.2 ?_)
    rcases hj.cases with rfl | rfl | rfl | rfl <;> omega
  · rw [if_neg hj]
theorem rdrop_drop {d : ArcD} (hv : InvA d) (k : ByteArray) : (hasA d 2 k || hasA d 3 k) = (dropA d k).2 ∧ rdrop d k = (dropA d k).1 := by
  unfold dropA someA
  cases h2 : hasA d 2 k
  · cases h3 : hasA d 3 k
    · cases h4 : hasA d 4 k
      · cases h5 : hasA d 5 k
        · refine ⟨rfl, rdrop_none ?_⟩
          unfold hasA at h2 h3 h4 h5
          rw [cK_not] at h2 h3 h4 h5
          unfold cnt
          omega
        · exact ⟨rfl, rdrop_take hv in5 h5⟩
      · exact ⟨rfl, rdrop_take hv in4 h4⟩
    · exact ⟨rfl, rdrop_take hv in3 h3⟩
  · exact ⟨rfl, rdrop_take hv in2 h2⟩
theorem move_cons {d : ArcD} (hv : InvA d) {i j : Nat} (hi : InA i) {x : ByteArray} {r : List ByteArray} (e : d.l i = x :: r) : moveA d i j = ((d.put i (dropK (d.l i) x)).put j ((d.put i (dropK (d.l i) x)).l j ++ [x]), x) := by
  have hx := inv_head hv hi e
  have ho : oldA d i = (d.put i r, x) := by unfold oldA; rw [e]
  have hd : dropK (d.l i) x = r := by rw [e, dropK, if_pos rfl]
  unfold moveA
  rw [ho, hd]
  simp only [hx, if_false]
  rfl

end Go.Proofs.Ytnfdcjchobonaaa
