/-
  A slice of pairs of ints that came in.
-/
import Derived.Test.YtflobdhhjfpcdaaFrame
namespace Go.Proofs.Ytflobdhhjfpcdaa
open Go.RowKit

/-- A slice of pairs of ints. -/
def SlP (w : World) (a : Option Addr) (l : List (Int × Int)) : Prop :=
  l ≠ [] → ∃ b off, a = some ⟨b, off, none⟩ ∧ b < w.heap.size ∧
    ∀ i x, l[i]? = some x → w.cell? ⟨b, off + i * 2, none⟩ = some (.int .i64 x.1) ∧ w.cell? ⟨b, off + i * 2 + 1, none⟩ = some (.int .i64 x.2)
theorem SlP.nil {w : World} {a : Option Addr} : SlP w a [] := fun h => absurd rfl h
theorem SlP.keep {w w' : World} {a : Option Addr} {l : List (Int × Int)} (h : SlP w a l) (hb : Below w.heap.size w w') : SlP w' a l := by
  intro hne
  obtain ⟨b, off, e, hl, hc⟩ := h hne
  exact ⟨b, off, e, Nat.lt_of_lt_of_le hl hb.size, fun i x hx => ⟨by rw [hb.cell hl]; exact (hc i x hx).1, by rw [hb.cell hl]; exact (hc i x hx).2⟩⟩
theorem SlP.get {w : World} {a : Option Addr} {l : List (Int × Int)} (h : SlP w a l) (i : Nat) (hi : i < l.length) :
    ∃ b off, a = some ⟨b, off, none⟩ ∧ b < w.heap.size ∧ w.cell? ⟨b, off + i * 2, none⟩ = some (.int .i64 (l[i]).1) ∧ w.cell? ⟨b, off + i * 2 + 1, none⟩ = some (.int .i64 (l[i]).2) := by
  obtain ⟨b, off, e, hl, hc⟩ := h (by intro h; rw [h] at hi; simp at hi)
  exact ⟨b, off, e, hl, hc i _ (List.getElem?_eq_getElem hi)⟩
end Go.Proofs.Ytflobdhhjfpcdaa
