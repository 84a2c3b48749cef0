/-
  path.Parent and Within, the reference's Join, Parent and Within; in plain words. Part one: the plain words; Parent.
-/
import Derived.Test.YtjimjaimfejonaaDoorPathRSplit
namespace Go.Proofs.YtjimjaimfejonaaDoor
open Go Go.RowKit Go.Shelf

theorem inter_cons (p q : List UInt8) (r : List (List UInt8)) : ([47] : List UInt8).intercalate (p :: q :: r) = p ++ 47 :: ([47] : List UInt8).intercalate (q :: r) := by simp [List.intercalate, List.intersperse]
theorem inter_snoc : ∀ (l : List (List UInt8)) (x : List UInt8), l ≠ [] → ([47] : List UInt8).intercalate (l ++ [x]) = ([47] : List UInt8).intercalate l ++ 47 :: x
  | [p], x, _ => by rw [List.singleton_append, inter_cons]; simp [List.intercalate, List.intersperse]
  | p :: q :: r, x, _ => by
    have ih := inter_snoc (q :: r) x (by simp)
    rw [List.cons_append, List.cons_append, inter_cons, inter_cons, ← List.cons_append, ih]
    simp
theorem map_pb_mk (l : List (List UInt8)) : (l.map mkB).map pb = l := by
  rw [List.map_map]
  have : pb ∘ mkB = id := by funext x; simp [mkB, pb_mk]
  rw [this, List.map_id]
theorem pb_head {s : ByteArray} (h : (pb s).head? = some 47) : pb s = 47 :: pb (restP s) := by
  cases hl : pb s with
  | nil => rw [hl] at h; cases h
  | cons c r =>
    rw [hl] at h
    injection h with h
    subst h
    congr 1
    unfold restP
    rw [pb_cut, hl, List.drop_succ_cons, List.drop_zero, List.take_of_length_le]
    have := pb_size s
    rw [hl, List.length_cons] at this
    omega
/-- What is split is joined as it was. -/
theorem join_split {s : ByteArray} (h : (splitD s).2 = 0) : joinD (splitD s).1 = s := by
  apply pb_ext
  rw [pb_joinD]
  by_cases hp : (pb s).head? = some 47
  · by_cases hz : (restP s).size = 0
    · rw [split_root hp hz, pb_head hp]
      have : pb (restP s) = [] := List.eq_nil_of_length_eq_zero (by rw [pb_size]; exact hz)
      rw [this]
      rfl
    · by_cases hk : ∀ x ∈ piecesB (restP s), okN x
      · rw [split_ok hp hz hk, pb_head hp]
        unfold piecesB
        rw [map_pb_mk, pieces_join]
      · have hb : ∃ x ∈ piecesB (restP s), ¬ okN x := by
          apply Classical.byContradiction
          intro e
          exact hk fun x hx => Classical.byContradiction fun hn => e ⟨x, hx, hn⟩
        rw [split_bad hp hz hb] at h
        cases h
  · rw [split_none hp] at h
    cases h
theorem join_size (l : List ByteArray) : (joinD l).size = 1 + (([47] : List UInt8).intercalate (l.map pb)).length := by
  rw [← pb_size, pb_joinD, List.length_cons]; omega
theorem join_front (l : List ByteArray) : (joinD l.dropLast).size ≤ (joinD l).size := by
  rw [join_size, join_size]
  rcases List.eq_nil_or_concat l with rfl | ⟨r, x, rfl⟩
  · exact Nat.le_refl _
  · rw [List.concat_eq_append, List.dropLast_concat, List.map_append, List.map_cons, List.map_nil]
    by_cases h : r.map pb = []
    · rw [h]; simp
    · rw [inter_snoc _ _ h, List.length_append]; omega

/-- Parent's answer. -/
structure ParD where
  p : ByteArray
  n : ByteArray
  e : Int
def parV (d : ParD) : Value := .tuple #[.string d.p, .string d.n, .int .i64 d.e]
def parD (s : ByteArray) : ParD :=
  if (splitD s).2 ≠ 0 then ⟨⟨#[]⟩, ⟨#[]⟩, (splitD s).2⟩ else if (splitD s).1 = [] then ⟨⟨#[]⟩, ⟨#[]⟩, 1⟩ else ⟨joinD (splitD s).1.dropLast, (splitD s).1.getLastD ⟨#[]⟩, 0⟩
def witD (a b : ByteArray) : Bool := decide ((splitD a).2 = 0 ∧ (splitD b).2 = 0 ∧ (splitD a).1 <+: (splitD b).1)
theorem split_len (s : ByteArray) : (splitD s).1.length ≤ s.size + 1 := by
  unfold splitD
  split
  · simp
  · split
    · simp
    · split
      · unfold piecesB
        rw [List.length_map]
        have := pieces_len (pb (restP s))
        have h2 : (pb (restP s)).length ≤ s.size := by rw [pb_size]; unfold restP; rw [ByteArray.size_extract]; omega
        show (pieces (pb (restP s))).length ≤ _
        omega
      · simp

theorem Ks.sl {w : World} {base : Nat} {a : Option Addr} {n c : Nat} {l : List ByteArray} (h : Ks w base (.slice a n c) l) : n = l.length ∧ Sl w Value.string a l ∧ l.length ≤ c ∨ l = [] ∧ n = 0 := by
  rcases h.form with ⟨h1, h2⟩ | ⟨g, cap, h1, _, _, h4, _⟩
  · injection h1 with _ h3 _
    exact .inr ⟨h2, h3⟩
  · obtain ⟨a', cap', h5, h6⟩ := h.view
    injection h1 with e1 e2 e3
    injection h5 with f1 f2 f3
    subst e1 e3
    rw [← f1] at h6
    exact .inl ⟨e2, h6, h4⟩
/-- A row's shape, with its capacity. -/
theorem Ks.shape {w : World} {base : Nat} {v : Value} {l : List ByteArray} (h : Ks w base v l) : ∃ a c, v = .slice a l.length c ∧ Sl w Value.string a l ∧ l.length ≤ c := by
  rcases h.form with ⟨rfl, rfl⟩ | ⟨g, cap, rfl, _, _, h4, _⟩
  · exact ⟨none, 0, rfl, Sl.nil, Nat.le_refl _⟩
  · obtain ⟨a', cap', h5, h6⟩ := h.view
    injection h5 with f1 f2 f3
    subst f1 f3
    exact ⟨_, _, rfl, h6, h4⟩
theorem Sl.front {w : World} {a : Option Addr} {l : List ByteArray} (h : Sl w Value.string a l) (k : Nat) : Sl w Value.string a (l.take k) := by
  intro hne
  have hl : l ≠ [] := by rintro rfl; simp at hne
  obtain ⟨b, off, rfl, hb, hc⟩ := h hl
  refine ⟨b, off, rfl, hb, fun i x hx => hc i x ?_⟩
  rw [List.getElem?_take] at hx
  split at hx
  · exact hx
  · cases hx
theorem Sl.keepB {w w' : World} {a : Option Addr} {l : List ByteArray} (h : Sl w Value.string a l) (hb : Below w.heap.size w w') : Sl w' Value.string a l := by
  intro hne
  obtain ⟨b, off, rfl, hlt, hc⟩ := h hne
  exact ⟨b, off, rfl, Nat.lt_of_lt_of_le hlt hb.size, fun i x hx => (hb.cell (p := ⟨b, off + i, none⟩) hlt).trans (hc i x hx)⟩
end Go.Proofs.YtjimjaimfejonaaDoor
