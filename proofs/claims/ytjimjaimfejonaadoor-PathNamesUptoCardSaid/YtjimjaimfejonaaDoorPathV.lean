/-
  Names that may be, joined, are split as they were; how long a path of names is.
-/
import Derived.Test.YtjimjaimfejonaaDoorPathW
namespace Go.Proofs.YtjimjaimfejonaaDoor
open Go Go.RowKit

/-- A name: it may be, and holds no '/'. -/
def nameD (x : ByteArray) : Prop := okN x ∧ ∀ c ∈ pb x, c ≠ 47

theorem names_ok {s : ByteArray} (h : (splitD s).2 = 0) : ∀ x ∈ (splitD s).1, nameD x := by
  by_cases hp : (pb s).head? = some 47
  · by_cases hz : (restP s).size = 0
    · rw [split_root hp hz]; intro x hx; cases hx
    · by_cases hk : ∀ x ∈ piecesB (restP s), okN x
      · rw [split_ok hp hz hk]
        intro x hx
        refine ⟨hk x hx, ?_⟩
        unfold piecesB at hx
        obtain ⟨p, hp1, rfl⟩ := List.mem_map.1 hx
        have := pieces_clean _ p hp1
        unfold mkB
        rw [pb_mk]
        exact this
      · have hb : ∃ x ∈ piecesB (restP s), ¬ okN x := by
          apply Classical.byContradiction
          intro e
          exact hk fun x hx => Classical.byContradiction fun hn => e ⟨x, hx, hn⟩
        rw [split_bad hp hz hb] at h
        cases h
  · rw [split_none hp] at h
    cases h

theorem split_join {l : List ByteArray} (h : ∀ x ∈ l, nameD x) : splitD (joinD l) = (l, 0) := by
  by_cases h0 : l = []
  · subst h0; decide +kernel
  · have e := pb_joinD l
    have hp : (pb (joinD l)).head? = some 47 := by rw [e]; rfl
    have e2 : pb (restP (joinD l)) = ([47] : List UInt8).intercalate (l.map pb) := by
      have := pb_head hp
      rw [e] at this
      exact (List.cons.inj this).2.symm
    have hm : l.map pb ≠ [] := by simpa using h0
    have hpi : pieces (pb (restP (joinD l))) = l.map pb := by
      rw [e2]
      refine pieces_of_join _ hm ?_
      intro p hp2 x hx
      obtain ⟨y, hy, rfl⟩ := List.mem_map.1 hp2
      exact (h y hy).2 x hx
    have hB : piecesB (restP (joinD l)) = l := by
      unfold piecesB
      rw [hpi, List.map_map]
      have : mkB ∘ pb = id := by funext x; exact mkB_pb x
      rw [this, List.map_id]
    have hz : ¬ (restP (joinD l)).size = 0 := by
      intro hz
      have hn : pb (restP (joinD l)) = [] := List.eq_nil_of_length_eq_zero (by rw [pb_size]; exact hz)
      rw [hn] at hpi
      have hpi : [[]] = l.map pb := hpi
      cases l with
      | nil => exact h0 rfl
      | cons x r =>
        rw [List.map_cons] at hpi
        have hx : pb x = [] := (List.cons.inj hpi).1.symm
        have := (h x (by simp)).1.1
        rw [← pb_size, hx] at this
        exact absurd this (by decide)
    rw [split_ok hp hz (by rw [hB]; exact fun x hx => (h x hx).1), hB]

theorem one_name {x : ByteArray} (h : (splitD ((⟨#[47]⟩ : ByteArray) ++ x)).2 = 0) (h1 : (splitD ((⟨#[47]⟩ : ByteArray) ++ x)).1.length = 1) : nameD x := by
  have hj := join_split h
  have hn := names_ok h
  generalize (splitD ((⟨#[47]⟩ : ByteArray) ++ x)).1 = l at *
  match l, h1 with
  | [y], _ =>
    have e := congrArg pb hj
    rw [pb_joinD, pb_append] at e
    have e2 : 47 :: pb y = 47 :: pb x := by simpa [List.intercalate, pb] using e
    have : y = x := pb_ext (List.cons.inj e2).2
    subst this
    exact hn y (by simp)

theorem accL_len {m : Nat} : ∀ (l : List ByteArray), (∀ x ∈ l, x.size ≤ m) → (accL l).length ≤ l.length * (m + 1)
  | [], _ => by simp [accL]
  | x :: r, h => by
    have h1 := accL_len r (fun y hy => h y (by simp [hy]))
    have h2 := h x (by simp)
    have e : accL (x :: r) = (47 :: pb x) ++ accL r := by simp [accL]
    rw [e, List.length_append, List.length_cons, pb_size, List.length_cons, Nat.add_mul]
    omega
theorem join_le {m : Nat} {l : List ByteArray} (h : ∀ x ∈ l, x.size ≤ m) : (joinD l).size ≤ 1 + l.length * (m + 1) := by
  by_cases h0 : l = []
  · subst h0
    rw [show joinD [] = ⟨#[47]⟩ by decide +kernel]
    exact Nat.le_add_right 1 _
  · rw [accB_join l h0, ← pb_size]
    unfold accB mkB
    rw [pb_mk]
    have := accL_len l h
    omega
theorem join_take_le (l : List ByteArray) (k : Nat) : (joinD (l.take k)).size ≤ (joinD l).size := by
  by_cases h0 : l.take k = []
  · rw [h0, join_size, join_size]
    simp [List.intercalate]
  · have h1 : l ≠ [] := by intro e; rw [e, List.take_nil] at h0; exact h0 rfl
    rw [accB_join _ h0, accB_join _ h1]
    exact accB_size l k
theorem up_parent {l : List ByteArray} {m : Nat} (h : ∀ x ∈ l, nameD x) (hm : m < l.length) : parD (joinD (l.take (m + 1))) = ⟨joinD (l.take m), l[m], 0⟩ := by
  have hs : splitD (joinD (l.take (m + 1))) = (l.take (m + 1), 0) := split_join (fun x hx => h x (List.mem_of_mem_take hx))
  have hl : (l.take (m + 1)).length = m + 1 := by rw [List.length_take]; omega
  rw [parD_ok (by rw [hs]) (by rw [hs]; intro e; have e : l.take (m + 1) = [] := e; rw [e] at hl; cases hl), hs]
  dsimp only
  rw [← front_take hl, List.take_take, Nat.min_eq_left (Nat.le_succ m)]
  have h2 := last_at hl
  rw [List.getElem?_take_of_lt (Nat.lt_succ_self m), List.getElem?_eq_getElem hm] at h2
  rw [← Option.some.inj h2]
theorem take_all {l : List ByteArray} {k : Nat} {p : ByteArray → Prop} (hk : k < l.length) (h : ∀ x ∈ l.take k, p x) (hx : p l[k]) : ∀ x ∈ l.take (k + 1), p x := by
  rw [List.take_succ_eq_append_getElem hk]
  intro x h1
  rcases List.mem_append.1 h1 with e | e
  · exact h x e
  · rw [List.mem_singleton.1 e]; exact hx
end Go.Proofs.YtjimjaimfejonaaDoor
