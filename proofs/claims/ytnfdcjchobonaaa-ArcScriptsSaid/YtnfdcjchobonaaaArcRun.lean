/-
  Many calls of Ask, one behind the other: plain data.
-/
import Derived.Test.YtnfdcjchobonaaaArcLive
import Derived.Test.YtnfdcjchobonaaaOpenArc
namespace Go.Proofs.Ytnfdcjchobonaaa
open Go.RowKit Go.ChangeShapes Go.WideShapes Go.ChangeAt

def runA (d : ArcD) (l : List OpA) : ArcD := l.foldl (fun d x => (askA d x.2).1) d
theorem run_snoc (d : ArcD) (l : List OpA) (x : OpA) : runA d (l ++ [x]) = (askA (runA d l) x.2).1 := by unfold runA; rw [List.foldl_append]; rfl
theorem run_ok : ∀ (l : List OpA) (d : ArcD), OkA d → OkA (runA d l)
  | [], _, h => h
  | x :: r, _, h => run_ok r _ (ask_ok h x.2)
theorem run_len : ∀ (l : List OpA) (d : ArcD), (runA d l).len ≤ d.len + l.length
  | [], _ => Nat.le_refl _
  | x :: r, d => by
    have h1 := run_len r (askA d x.2).1
    have h2 := ask_len d x.2
    show (runA (askA d x.2).1 r).len ≤ _
    simp only [List.length_cons]
    omega
theorem has_add (d : ArcD) (i : Nat) (k : ByteArray) : hasA (addA d i k) i k = true := by
  unfold hasA addA ArcD.put
  rw [hasK_iff]
  simp [updA]
theorem ask_in (d : ArcD) {k : ByteArray} (hk : k ≠ emp) : (hasA (askA d k).1 2 k || hasA (askA d k).1 3 k) = true := by
  unfold askA
  rw [if_neg hk]
  split
  · rw [Bool.or_eq_true]; exact .inr (has_add _ 3 k)
  · split
    · rw [Bool.or_eq_true]; exact .inr (has_add _ 3 k)
    · show (hasA (keepA d k).1 2 k || hasA (keepA d k).1 3 k) = true
      unfold keepA
      split
      · rw [Bool.or_eq_true]; exact .inr (has_add _ 3 k)
      · split
        · rw [Bool.or_eq_true]; exact .inr (has_add _ 3 k)
        · rw [Bool.or_eq_true]; exact .inl (has_add _ 2 k)
theorem ask_hit {d : ArcD} {k : ByteArray} (hk : k ≠ emp) (h : (hasA d 2 k || hasA d 3 k) = true) : (askA d k).2.1 = true ∧ (askA d k).2.2 = emp ∧ ∃ r, (askA d k).1.l 3 = r ++ [k] := by
  unfold askA
  rw [if_neg hk]
  split
  · exact ⟨rfl, rfl, _, by show (addA (takeA d 2 k) 3 k).l 3 = _; unfold addA ArcD.put; simp [updA]; rfl⟩
  · split
    · exact ⟨rfl, rfl, _, by show (addA (takeA d 3 k) 3 k).l 3 = _; unfold addA ArcD.put; simp [updA]; rfl⟩
    · rename_i h2 h3
      rw [Bool.or_eq_true] at h
      rcases h with h | h
      · exact absurd h h2
      · exact absurd h h3
end Go.Proofs.Ytnfdcjchobonaaa
