/-
  The contract of the reference's times.
-/
import Derived.Test.YtfnihldcnjnpbaaDoorAbove
import Derived.Deep.LoopGhost
namespace Go.Proofs.YtfnihldcnjnpbaaDoor
open Go.RowKit

theorem setD (l : List Nat) (k x j : Nat) : (l.set k x).getD j 0 = if j = k ∧ k < l.length then x else l.getD j 0 := by
  simp only [List.getD, List.getElem?_set]
  by_cases h : k = j
  · subst h
    by_cases hl : k < l.length
    · simp [hl]
    · simp [hl]
  · have h' : ¬ (j = k ∧ k < l.length) := fun e => h e.1.symm
    simp [h, h']

theorem tIn_length (b : List Nat) (x i : Nat) (o : List Nat) : ∀ j, (tIn b x i o j).1.length = o.length
  | 0 => rfl
  | j + 1 => by rw [tIn]; simp [tIn_length b x i o j]
theorem tOut_length (a b : List Nat) : ∀ i, (tOut a b i).length = a.length + b.length
  | 0 => by simp [tOut]
  | i + 1 => by rw [tOut]; simp [tIn_length, tOut_length a b i]

/-- Nothing grows too great. -/
theorem mul_le (A x y : Nat) (hx : x ≤ A) (hy : y ≤ 65535) : x * y ≤ 65535 * A := by
  rw [Nat.mul_comm]
  exact Nat.mul_le_mul hy hx
theorem tIn_bound (b : List Nat) (x i : Nat) (o : List Nat) (A E : Nat) (hA : 65536 ≤ A) (hx : x ≤ A) (hb : ∀ y, b.getD y 0 ≤ 65535) (hE : E ≤ 32 * A) (hE2 : 65535 ≤ E) (ho : ∀ j, o.getD j 0 ≤ E) :
    ∀ j, (∀ k, (tIn b x i o j).1.getD k 0 ≤ E) ∧ (tIn b x i o j).2 ≤ 2 * A
  | 0 => ⟨ho, Nat.zero_le _⟩
  | j + 1 => by
    obtain ⟨h1, h2⟩ := tIn_bound b x i o A E hA hx hb hE hE2 ho j
    rw [tIn]
    simp only
    have hm := mul_le A x (b.getD j 0) hx (hb j)
    have hz := h1 (i + j)
    refine ⟨fun k => ?_, ?_⟩
    · rw [setD]
      split
      · exact Nat.le_trans (Nat.le_of_lt_succ (Nat.mod_lt _ (by decide))) hE2
      · exact h1 k
    · generalize (tIn b x i o j).1.getD (i + j) 0 = z at *
      generalize x * b.getD j 0 = m at *
      omega
theorem tOut_bound (a b : List Nat) (A : Nat) (hA : 65536 ≤ A) (ha : ∀ x, a.getD x 0 ≤ A) (hb : ∀ y, b.getD y 0 ≤ 65535) : ∀ i, i ≤ 15 → ∀ k, (tOut a b i).getD k 0 ≤ 65535 + 2 * A * i
  | 0, _ => fun k => by
    rw [tOut]
    have : (List.replicate (a.length + b.length) 0).getD k 0 = 0 := by
      simp only [List.getD, List.getElem?_replicate]
      split <;> rfl
    omega
  | i + 1, hi => fun k => by
    have ih := tOut_bound a b A hA ha hb i (by omega)
    obtain ⟨h1, h2⟩ := tIn_bound b (a.getD i 0) i (tOut a b i) A (65535 + 2 * A * i) hA (ha i) hb (by have : A * i ≤ A * 14 := Nat.mul_le_mul_left _ (by omega); rw [Nat.mul_assoc]; omega) (by omega) ih b.length
    have e : 2 * A * (i + 1) = 2 * A * i + 2 * A := by rw [Nat.mul_add]; omega
    rw [tOut]
    simp only
    rw [setD]
    split
    · have := h1 (i + b.length); omega
    · have := h1 k; omega

theorem nums_cell {w : World} {base g cap : Nat} {l : List Nat} (h : Nums w base (.slice (some ⟨g, 0, none⟩) l.length cap) l) (k : Nat) (hk : k < l.length) : w.cell? ⟨g, k, none⟩ = some (.int .i64 (l.getD k 0 : Nat)) := by
  rw [World.ownsRow.cellAt h k (by omega), List.getElem?_map, List.getD, List.getElem?_eq_getElem hk]
  rfl
theorem nums_free {w : World} {base g cap : Nat} {l : List Nat} {n : Nat} (h : Nums w base (.slice (some ⟨g, 0, none⟩) n cap) l) (k : Nat) : w.frozen? ⟨g, k, none⟩ = false := by
  rcases h.2 with ⟨h', _⟩ | ⟨g', cap', cur, h', _, hg, _⟩
  · simp at h'
  · simp only [Value.slice.injEq, Option.some.injEq, Addr.mk.injEq, and_true] at h'
    obtain ⟨rfl, _⟩ := h'
    simp [World.frozen?, hg]
theorem nums_set {w : World} {base g cap : Nat} {l : List Nat} {n : Nat} (h : Nums w base (.slice (some ⟨g, 0, none⟩) n cap) l) (hn : l.length = n) (k x : Nat) (_ : k < l.length) {u : Value} (hu : u = nV x) : Nums (w.setCell ⟨g, k, none⟩ u) base (.slice (some ⟨g, 0, none⟩) n cap) (l.set k x) := by
  subst hu hn
  have := (World.ownsRow.stored h k (nV x)).1
  unfold Nums
  rw [List.length_set, List.map_set]
  exact this
theorem made_nums (n : Nat) {w1 : World} {g cap : Nat} (h : w1.ownsRow g 3 1 (.slice (some ⟨g, 0, none⟩) n cap) n (madeCells #[Value.int .i64 0] n).toList) : Nums w1 g (.slice (some ⟨g, 0, none⟩) n cap) (List.replicate n 0) := by
  have e : (madeCells #[Value.int .i64 0] n).toList = (List.replicate n 0).map nV := by
    apply List.ext_getElem
    · simp [size_madeCells]
    · intro i h1 h2
      simp [madeCells, nV, Nat.mod_one]
  unfold Nums
  rw [List.length_replicate, ← e]
  exact h
end Go.Proofs.YtfnihldcnjnpbaaDoor
