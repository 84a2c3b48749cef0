/-
  Paths as plain data: the pieces between the bytes '/', which names may be, what is split. No program here.
-/
import Derived.Test.YtjimjaimfejonaaDoorPlain
import Derived.Lib.IndexLaws
import Derived.Lib.Join
import Derived.Lib.Strings
namespace Go.Proofs.YtjimjaimfejonaaDoor
open Go.RowKit

def pb (s : ByteArray) : List UInt8 := s.data.toList
theorem pb_size (s : ByteArray) : (pb s).length = s.size := by simp [pb]
theorem pb_append (a b : ByteArray) : pb (a ++ b) = pb a ++ pb b := by simp [pb]
theorem pb_ext {a b : ByteArray} (h : pb a = pb b) : a = b := by
  apply ByteArray.ext
  exact Array.toList_inj.1 h
theorem pb_mk (l : List UInt8) : pb ⟨l.toArray⟩ = l := by simp [pb]
theorem pb_cut (s : ByteArray) (i j : Nat) : pb (s.extract i j) = ((pb s).drop i).take (j - i) := by
  unfold pb
  rw [ByteArray.data_extract, Array.toList_extract, List.extract_eq_take_drop]

/-- The pieces between the bytes '/'. -/
def pieces : List UInt8 → List (List UInt8)
  | [] => [[]]
  | c :: r => if c = 47 then [] :: pieces r else match pieces r with
    | [] => [[c]]
    | p :: ps => (c :: p) :: ps
theorem pieces_ne (l : List UInt8) : pieces l ≠ [] := by
  cases l with
  | nil => simp [pieces]
  | cons c r =>
    unfold pieces
    split
    · simp
    · split <;> simp
theorem pieces_none : ∀ l : List UInt8, (∀ x ∈ l, x ≠ 47) → pieces l = [l]
  | [], _ => rfl
  | c :: r, h => by
    have h1 := pieces_none r (fun x hx => h x (by simp [hx]))
    unfold pieces
    rw [if_neg (h c (by simp)), h1]
theorem pieces_cut : ∀ (a b : List UInt8), (∀ x ∈ a, x ≠ 47) → pieces (a ++ 47 :: b) = a :: pieces b
  | [], b, _ => by simp [pieces]
  | c :: r, b, h => by
    have h1 := pieces_cut r b (fun x hx => h x (by simp [hx]))
    rw [List.cons_append]
    conv => lhs; unfold pieces
    rw [if_neg (h c (by simp)), h1]
theorem pieces_clean : ∀ (l : List UInt8) (p : List UInt8), p ∈ pieces l → ∀ x ∈ p, x ≠ 47
  | [], p, h, x, hx => by
    simp [pieces] at h
    subst h
    cases hx
  | c :: r, p, h, x, hx => by
    unfold pieces at h
    split at h
    · rcases List.mem_cons.1 h with rfl | h
      · cases hx
      · exact pieces_clean r p h x hx
    · rename_i hc
      have ih := pieces_clean r
      generalize pieces r = q at *
      cases q with
      | nil =>
        simp at h
        subst h
        simp at hx
        subst hx
        exact hc
      | cons q qs =>
        rcases List.mem_cons.1 h with rfl | h
        · rcases List.mem_cons.1 hx with rfl | hx
          · exact hc
          · exact ih q (by simp) x hx
        · exact ih p (by simp [h]) x hx
theorem pieces_join : ∀ l : List UInt8, ([47] : List UInt8).intercalate (pieces l) = l
  | [] => rfl
  | c :: r => by
    have ih := pieces_join r
    have hne := pieces_ne r
    unfold pieces
    generalize pieces r = q at *
    cases q with
    | nil => exact absurd rfl hne
    | cons q qs =>
      split
      · rename_i hc
        subst hc
        rw [← ih]
        rfl
      · rw [← ih]
        cases qs <;> rfl
theorem pieces_of_join : ∀ ps : List (List UInt8), ps ≠ [] → (∀ p ∈ ps, ∀ x ∈ p, x ≠ 47) → pieces (([47] : List UInt8).intercalate ps) = ps
  | [], h, _ => absurd rfl h
  | [p], _, h => by
    rw [show ([47] : List UInt8).intercalate [p] = p by simp [List.intercalate, List.intersperse]]
    exact pieces_none p (h p (by simp))
  | p :: q :: r, _, h => by
    have ih := pieces_of_join (q :: r) (by simp) (fun x hx => h x (by simp [hx]))
    rw [show ([47] : List UInt8).intercalate (p :: q :: r) = p ++ 47 :: ([47] : List UInt8).intercalate (q :: r) by simp [List.intercalate, List.intersperse]]
    rw [pieces_cut p _ (h p (by simp)), ih]

theorem pieces_len : ∀ l : List UInt8, (pieces l).length ≤ l.length + 1
  | [] => by simp [pieces]
  | c :: r => by
    have ih := pieces_len r
    unfold pieces
    split
    · simp; exact ih
    · generalize pieces r = q at *
      cases q with
      | nil => simp
      | cons p ps => simp at ih ⊢; omega

theorem join_len : ∀ ps : List (List UInt8), ps.length ≤ (Lib.join ps [47]).length + 1
  | [] => by simp
  | [p] => by simp
  | p :: q :: r => by
    have ih := join_len (q :: r)
    unfold Lib.join at ih ⊢
    rw [show ([47] : List UInt8).intercalate (p :: q :: r) = p ++ 47 :: ([47] : List UInt8).intercalate (q :: r) by simp [List.intercalate, List.intersperse]]
    simp only [List.length_cons, List.length_append] at ih ⊢
    omega

/-- May a text be a name? -/
def okN (s : ByteArray) : Prop := 0 < s.size ∧ s.size ≤ 255 ∧ pb s ≠ [46] ∧ pb s ≠ [46, 46] ∧ ∀ x ∈ pb s, x ≠ 0
instance (s : ByteArray) : Decidable (okN s) := inferInstanceAs (Decidable (_ ∧ _ ∧ _ ∧ _ ∧ _))

def mkB (l : List UInt8) : ByteArray := ⟨l.toArray⟩
/-- The pieces, as texts. -/
def piecesB (s : ByteArray) : List ByteArray := (pieces (pb s)).map mkB
def restP (s : ByteArray) : ByteArray := s.extract 1 s.size
/-- Split's answer. -/
def splitD (s : ByteArray) : List ByteArray × Int :=
  if (pb s).head? ≠ some 47 then ([], 12)
  else if (restP s).size = 0 then ([], 0)
  else if ∀ x ∈ piecesB (restP s), okN x then (piecesB (restP s), 0) else ([], 12)

theorem mkB_pb (s : ByteArray) : mkB (pb s) = s := pb_ext (pb_mk _)
theorem piecesB_ne (s : ByteArray) : piecesB s ≠ [] := by
  unfold piecesB
  intro h
  exact pieces_ne (pb s) (List.map_eq_nil_iff.1 h)
/-- One step of the iterator. -/
theorem piecesB_cut {s : ByteArray} {i : Nat} (h : Lib.indexByte (pb s) 47 = (i : Int)) : i < s.size ∧ piecesB s = s.extract 0 i :: piecesB (s.extract (i + 1) s.size) := by
  obtain ⟨h1, h2⟩ := Lib.indexByte_some h
  have hi : i < (pb s).length := (List.getElem?_eq_some_iff.1 h1).1
  refine ⟨by rw [pb_size] at hi; exact hi, ?_⟩
  have e : pb s = (pb s).take i ++ 47 :: (pb s).drop (i + 1) := by
    have h3 := List.drop_eq_getElem_cons hi
    have h4 : (pb s)[i] = 47 := (List.getElem?_eq_some_iff.1 h1).2
    rw [h4] at h3
    rw [← h3, List.take_append_drop]
  have hc : ∀ x ∈ (pb s).take i, x ≠ 47 := by
    intro x hx e2
    obtain ⟨k, hk, hk2⟩ := List.getElem_of_mem hx
    rw [List.length_take] at hk
    refine h2 k (by omega) ?_
    rw [List.getElem_take] at hk2
    rw [List.getElem?_eq_getElem (by omega), hk2, e2]
  unfold piecesB
  rw [show pieces (pb s) = (pb s).take i :: pieces ((pb s).drop (i + 1)) from by
    have := pieces_cut _ ((pb s).drop (i + 1)) hc
    rwa [← e] at this]
  rw [List.map_cons]
  congr 1
  · apply pb_ext
    rw [mkB, pb_mk, pb_cut, List.drop_zero, Nat.sub_zero]
  · rw [pb_cut, List.take_of_length_le (by rw [List.length_drop, pb_size]; omega)]
theorem piecesB_last {s : ByteArray} (h : Lib.indexByte (pb s) 47 = -1) : piecesB s = [s] := by
  have h1 := Lib.indexByte_none h
  unfold piecesB
  rw [pieces_none (pb s) (fun x hx e => by
    obtain ⟨k, hk, hk2⟩ := List.getElem_of_mem hx
    exact h1 k (by rw [List.getElem?_eq_getElem hk, hk2, e]))]
  show [mkB (pb s)] = _
  rw [mkB_pb]
end Go.Proofs.YtjimjaimfejonaaDoor
