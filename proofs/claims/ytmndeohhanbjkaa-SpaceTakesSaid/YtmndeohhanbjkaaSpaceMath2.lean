/-
  Plain math: runs that may be are told by the places that they have; what Of's and Give's runs have.
-/
import Derived.Test.YtmndeohhanbjkaaSpaceMath
namespace Go.Proofs.Ytmndeohhanbjkaa
open Go.RowKit Go.ChangeShapes Go.WideShapes Go.ChangeAt

/-- Some run has p. -/
def Had (l : List (Int × Int)) (p : Int) : Prop := ∃ x ∈ l, x.1 ≤ p ∧ p < x.1 + x.2
theorem had_any (l : List (Int × Int)) (p : Int) : l.any (inRun p) = true ↔ Had l p := by
  unfold Had inRun
  simp [List.any_eq_true]
theorem had_nil (p : Int) : ¬ Had [] p := fun ⟨_, h, _⟩ => by cases h
theorem had_cons (x : Int × Int) (l : List (Int × Int)) (p : Int) : Had (x :: l) p ↔ (x.1 ≤ p ∧ p < x.1 + x.2) ∨ Had l p := by
  unfold Had
  simp
theorem had_app (l m : List (Int × Int)) (p : Int) : Had (l ++ m) p ↔ Had l p ∨ Had m p := by
  unfold Had
  simp [or_and_right, exists_or]
theorem had_lo {l : List (Int × Int)} {m p : Int} (h0 : 0 ≤ m) (h : mayF m l = true) (hp : Had l p) : m ≤ p := by
  obtain ⟨x, hx, h1, _⟩ := hp
  have := (may_mem h0 h x hx).2
  omega
/-- Runs that may be, and have the same places, are the same. -/
theorem may_uniq : ∀ {l m : List (Int × Int)} {a b : Int}, 0 ≤ a → 0 ≤ b → mayF a l = true → mayF b m = true → (∀ p, Had l p ↔ Had m p) → l = m := by
  intro l
  induction l with
  | nil =>
    intro m a b _ _ _ hm h
    cases m with
    | nil => rfl
    | cons y r =>
      rw [mayF, Bool.and_eq_true, decide_eq_true_eq] at hm
      exact absurd ((h y.1).2 ((had_cons _ _ _).2 (.inl (by omega)))) (had_nil _)
  | cons x l ih =>
    intro m a b ha hb hl hm h
    cases m with
    | nil =>
      rw [mayF, Bool.and_eq_true, decide_eq_true_eq] at hl
      exact absurd ((h x.1).1 ((had_cons _ _ _).2 (.inl (by omega)))) (had_nil _)
    | cons y r =>
      rw [mayF, Bool.and_eq_true, decide_eq_true_eq] at hl hm
      obtain ⟨⟨l1, l2, l3⟩, l4⟩ := hl
      obtain ⟨⟨m1, m2, m3⟩, m4⟩ := hm
      have hx0 : 0 ≤ x.1 + x.2 + 1 := by omega
      have hy0 : 0 ≤ y.1 + y.2 + 1 := by omega
      have loL := fun p (hp : Had l p) => had_lo hx0 l4 hp
      have loR := fun p (hp : Had r p) => had_lo hy0 m4 hp
      have key := fun p => (show (x.1 ≤ p ∧ p < x.1 + x.2) ∨ Had l p ↔ (y.1 ≤ p ∧ p < y.1 + y.2) ∨ Had r p by rw [← had_cons, ← had_cons]; exact h p)
      have e1 : x.1 = y.1 := by
        have k1 := (key x.1).1 (.inl (by omega))
        have k2 := (key y.1).2 (.inl (by omega))
        rcases k1 with k1 | k1
        · rcases k2 with k2 | k2
          · omega
          · have := loL _ k2; omega
        · have := loR _ k1
          rcases k2 with k2 | k2
          · omega
          · have := loL _ k2; omega
      have e2 : x.1 + x.2 = y.1 + y.2 := by
        rcases Int.lt_trichotomy (x.1 + x.2) (y.1 + y.2) with h1 | h1 | h1
        · have k := (key (x.1 + x.2)).2 (.inl (by omega))
          rcases k with k | k
          · omega
          · have := loL _ k; omega
        · exact h1
        · have k := (key (y.1 + y.2)).1 (.inl (by omega))
          rcases k with k | k
          · omega
          · have := loR _ k; omega
      have hxy : x = y := Prod.ext e1 (by omega)
      subst hxy
      have htail : l = r := ih hx0 hy0 l4 m4 (fun p => by
        constructor
        · intro hp
          have := loL _ hp
          rcases (key p).1 (.inr hp) with k | k
          · omega
          · exact k
        · intro hp
          have := loR _ hp
          rcases (key p).2 (.inr hp) with k | k
          · omega
          · exact k)
      rw [htail]
/-- Where the last run ends, or m. -/
def lastEnd (m : Int) (l : List (Int × Int)) : Int := match l.getLast? with | some x => x.1 + x.2 + 1 | none => m
theorem may_app : ∀ {l r : List (Int × Int)} {m : Int}, mayF m (l ++ r) = (mayF m l && mayF (lastEnd m l) r) := by
  intro l
  induction l with
  | nil => intro r m; simp [mayF, lastEnd]
  | cons x l ih =>
    intro r m
    rw [List.cons_append, mayF, mayF, ih, Bool.and_assoc]
    congr 2
    unfold lastEnd
    cases l with
    | nil => rfl
    | cons y t => rw [List.getLast?_cons_cons]; rfl
theorem may_mono {l : List (Int × Int)} {m m' : Int} (h : mayF m l = true) (hm : m' ≤ m) : mayF m' l = true := by
  cases l with
  | nil => rfl
  | cons x r =>
    rw [mayF, Bool.and_eq_true, decide_eq_true_eq] at h ⊢
    exact ⟨by omega, h.2⟩
end Go.Proofs.Ytmndeohhanbjkaa
