/-
  Arguments with depth, opened: a slice whose elements are structs; pairs of ints.
-/
import Derived.Test.YtlkkgboaicjaiaaFrame
namespace Go.Proofs.Ytlkkgboaicjaiaa
open Go.ChangeShapes Go.WideShapes Go.ChangeAt Go.RowKit

/-- A slice that came in, of elements of n cells each. -/
def SlE {α : Type} (w : World) (n : Nat) (E : List Value → α → Prop) (a : Option Addr) (l : List α) : Prop :=
  l ≠ [] → ∃ b off, a = some ⟨b, off, none⟩ ∧ b < w.heap.size ∧
    ∀ i x, l[i]? = some x → ∃ cs, cs.length = n ∧ E cs x ∧ ∀ j u, cs[j]? = some u → w.cell? ⟨b, off + i * n + j, none⟩ = some u

theorem SlE.nil {α : Type} {w : World} {n : Nat} {E : List Value → α → Prop} {a : Option Addr} : SlE w n E a ([] : List α) := fun h => absurd rfl h

section
variable {H : Type} {enc : TypeId × Value → H} {P : Program} {w : World}

theorem open_slE {α : Type} [Inhabited α] {t e : TypeId} {n : Nat} {spare : Nat → Bool} {held : Bool} {fuel : Nat} {cs : List Value} {x : DataW H × List MemPlace}
    (E : List Value → α → Prop) (ht : P.underlying t = some (.slice e)) (hn : P.cellsOf e = n) (h0 : 0 < n)
    (hE : ∀ fuel cs x, DataW.trod enc P w 0 spare held fuel e cs = some x → ∃ y, E cs y)
    (h : DataW.trod enc P w 0 spare held fuel t cs = some x) :
    ∃ a cap, ∃ l : List α, cs = [.slice a l.length cap] ∧ SlE w n E a l ∧ l.length ≤ maxLen := by
  rcases Go.Deep.open_slice ht h with ⟨rfl, _⟩ | ⟨a, len, cap, m, k, D, Pl, rfl, _, hl, hm, hmm, _, hx⟩
  · exact ⟨none, 0, [], rfl, SlE.nil, Nat.zero_le _⟩
  · have hlm : len ≤ m := by rw [hmm]; split <;> omega
    rw [hn] at hx
    have each : ∀ i, i < len → ∃ q : List Value × α, q.1.length = n ∧ E q.1 q.2 ∧ ∀ j u, q.1[j]? = some u → w.cell? (a.add (i * n + j)) = some u := by
      intro i hi
      obtain ⟨cs', h1, h2⟩ := hx i (by omega)
      obtain ⟨_, hlen, hcell⟩ := World.cells?_some h1
      obtain ⟨y, hy⟩ := hE _ _ _ h2
      refine ⟨(cs', y), hlen, hy, fun j u hj => ?_⟩
      have hjl : j < n := by
        rcases Nat.lt_or_ge j n with h | h
        · exact h
        · rw [List.getElem?_eq_none (by simp only; omega)] at hj; cases hj
      have := hcell j hjl
      rw [Go.Deep.add_add] at this
      rw [this]; exact hj
    haveI : Inhabited (List Value × α) := ⟨([], default)⟩
    obtain ⟨q, hq⟩ := Go.Deep.choose_lt each
    refine ⟨some a, cap, (List.range len).map fun i => (q i).2, by simp, fun hne => ?_, by simp; omega⟩
    have hpos : 0 < len := by
      rcases Nat.eq_zero_or_pos len with h | h
      · subst h; exact absurd rfl hne
      · exact h
    obtain ⟨b, off, spot⟩ := a
    have hc0 : ∃ u, w.cell? ((⟨b, off, spot⟩ : Addr).add (0 * n + 0)) = some u := by
      have h1 := (hq 0 hpos).1
      have h2 : 0 < (q 0).1.length := by omega
      exact ⟨_, (hq 0 hpos).2.2 0 _ (List.getElem?_eq_getElem h2)⟩
    obtain ⟨u, hu⟩ := hc0
    have hspot : spot = none := by simpa [Addr.add] using World.cell?_spot hu
    subst hspot
    refine ⟨b, off, rfl, ?_, fun i y hy => ?_⟩
    · rw [add_plain] at hu
      exact lt_of_cell hu
    · have hi : i < len := by
        rcases Nat.lt_or_ge i len with h | h
        · exact h
        · rw [List.getElem?_eq_none (by simp; omega)] at hy; cases hy
      rw [List.getElem?_map, List.getElem?_range hi] at hy
      simp only [Option.map_some, Option.some.injEq] at hy
      subst hy
      refine ⟨(q i).1, (hq i hi).1, (hq i hi).2.1, fun j u hj => ?_⟩
      rw [Nat.add_assoc, ← add_plain]
      exact (hq i hi).2.2 j u hj

/-- Two ints. -/
def PairI (cs : List Value) (x : Int × Int) : Prop := cs = [.int .i64 x.1, .int .i64 x.2] ∧ (Lit.int .i64 x.1).wf = true ∧ (Lit.int .i64 x.2).wf = true

theorem open_pairI {t t0 t1 : TypeId} {f0 f1 : Field} {spare : Nat → Bool} {held : Bool} {fuel : Nat} {cs : List Value} {x : DataW H × List MemPlace}
    (ht : P.underlying t = some (.struct #[f0, f1])) (hc : P.cellsOf t = 2) (o0 : f0.offset = 0) (o1 : f1.offset = 1) (e0 : f0.type = t0) (e1 : f1.type = t1)
    (c0 : P.cellsOf t0 = 1) (c1 : P.cellsOf t1 = 1) (u0 : P.underlying t0 = some (.int .i64)) (u1 : P.underlying t1 = some (.int .i64))
    (h : DataW.trod enc P w 0 spare held fuel t cs = some x) : ∃ y, PairI cs y := by
  obtain ⟨y0, y1, n, _, hl, h0, h1⟩ := trod_struct2 ht h
  rw [hc] at hl
  rw [o0, e0, c0] at h0
  rw [o1, e1, c1] at h1
  match cs, hl with
  | [v0, v1], _ =>
    obtain ⟨a, ha, _, wa⟩ := DataW.trod_int u0 h0
    obtain ⟨b, hb, _, wb⟩ := DataW.trod_int u1 h1
    simp at ha hb
    exact ⟨(a, b), by simp [ha, hb], wa, wb⟩
end
end Go.Proofs.Ytlkkgboaicjaiaa
