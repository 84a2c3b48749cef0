/-
  A slice of strings, opened: its room, and the bulk of what it holds.
-/
import Derived.Test.YtjimjaimfejonaaDoorFrame
namespace Go.Proofs.YtjimjaimfejonaaDoor
open Go Go.ChangeShapes Go.WideShapes Go.ChangeAt Go.RowKit
section
variable {H : Type} {enc : TypeId × Value → H} {P : Program} {w : World} {base : Nat} {v : Value} {d : DataW H} {ps : List MemPlace}
theorem bulk_one (b : ByteArray) : Rows.uptoBulk (DataW.lit (H := H) (.string b.data.toList)) = b.size + 1 := by
  simp only [Rows.uptoBulk]
  rw [Array.length_toList]; rfl
theorem bulk_part {d : DataW H} {l : List (DataW H)} (h : d ∈ l) : Rows.uptoBulk d ≤ Rows.uptoBulkAll l := by
  induction l with
  | nil => cases h
  | cons x r ih =>
    simp only [Rows.uptoBulkAll]
    cases List.mem_cons.1 h with
    | inl e => subst e; omega
    | inr e => have := ih e; omega
/-- A slice of strings, its room and bulk. -/
theorem open_slSu {t e : TypeId} (ht : P.underlying t = some (.slice e)) (he : P.underlying e = some .string) (hc : P.cellsOf e = 1)
    (hw : Value.okWide P w .any base t v) (h : DataW.Trod enc P w 0 (fun _ => true) true t v d ps) :
    ∃ a cap, ∃ l : List ByteArray, v = .slice a l.length cap ∧ Sl w Value.string a l ∧ (l.length ≤ cap ∧ ∀ s ∈ l, s.size ≤ Rows.uptoBulk d) ∧ l.length ≤ maxLen := by
  obtain ⟨a0, len, cap, rfl⟩ := okWide_slice ht hw
  obtain ⟨fuel, hf⟩ := h
  rcases open_strings ht he hc hf with ⟨hcs, _⟩ | ⟨a, len', cap', zs, hcs, _, hl, hm, hz, hdat, hcell, _⟩
  · simp [Value.cells] at hcs
    obtain ⟨rfl, rfl, rfl⟩ := hcs
    exact ⟨none, 0, [], rfl, Sl.nil, ⟨Nat.le_refl _, fun _ h => by simp at h⟩, Nat.zero_le _⟩
  · simp [Value.cells] at hcs
    obtain ⟨rfl, rfl, rfl⟩ := hcs
    simp only [if_true] at hz
    have hlen : (zs.take len).length = len := by rw [List.length_take]; omega
    refine ⟨some a, cap, zs.take len, by rw [hlen], Sl.of fun i x hx => ?_, ⟨by omega, fun n hn => ?_⟩, by omega⟩
    · have hi : i < len := by
        rcases Nat.lt_or_ge i len with h | h
        · exact h
        · rw [List.getElem?_eq_none (by omega)] at hx; cases hx
      rw [List.getElem?_take_of_lt hi] at hx
      rw [hcell i (by omega), List.getD, hx]
      rfl
    · have hd : d = .slice (strs (zs.take len)) (strs (zs.drop len)) := (Prod.mk.inj hdat).1
      have h1 : (DataW.lit (H := H) (.string n.data.toList)) ∈ strs (H := H) (zs.take len) := List.mem_map.2 ⟨n, hn, rfl⟩
      have h2 := bulk_part h1
      rw [bulk_one] at h2
      rw [hd]
      simp only [Rows.uptoBulk]
      omega

end
end Go.Proofs.YtjimjaimfejonaaDoor
