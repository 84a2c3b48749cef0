/-
  A row of places beside devices; what lies beside, in another order.
-/
import Derived.Test.YtflobdhhjfpcdaaRfM
import Derived.Test.YtflobdhhjfpcdaaRfN
import Derived.Test.YtflobdhhjfpcdaaDevOneW
import Derived.Test.YtflobdhhjfpcdaaDevOneL
namespace Go.Proofs.Ytflobdhhjfpcdaa
open Go.RowKit Go.ChangeShapes Go.WideShapes Go.ChangeAt

/-- What one may say of other blocks' order. -/
def Sub2 (P Q : List Nat → World → Prop) : Prop := ∀ G w, P G w → ∃ G', Q G' w ∧ ∀ k, k ∈ G' ↔ k ∈ G
theorem sub_exch (P Q R : List Nat → World → Prop) : Sub2 (Both (Both P Q) R) (Both (Both P R) Q) := by
  rintro G w ⟨G1, G2, rfl, ⟨G3, G4, rfl, h2, h3, h4⟩, h5, h6⟩
  refine ⟨(G3 ++ G2) ++ G4, ⟨G3 ++ G2, G4, rfl, ⟨G3, G2, rfl, h2, h5, fun k hk => h6 k (List.mem_append_left _ hk)⟩, h3, fun k hk hm => ?_⟩, fun k => ?_⟩
  · rcases List.mem_append.1 hk with h | h
    · exact h4 k h hm
    · exact h6 k (List.mem_append_right _ hm) h
  · simp only [List.mem_append]
    constructor
    · rintro ((h | h) | h)
      · exact .inl (.inl h)
      · exact .inr h
      · exact .inl (.inr h)
    · rintro ((h | h) | h)
      · exact .inl (.inl h)
      · exact .inr h
      · exact .inl (.inr h)
theorem sub_both {P P' : List Nat → World → Prop} (h : Sub2 P P') (R : List Nat → World → Prop) : Sub2 (Both P R) (Both P' R) := by
  rintro G w ⟨G1, G2, rfl, h1, h2, h3⟩
  obtain ⟨G1', g1, g2⟩ := h G1 w h1
  refine ⟨G1' ++ G2, ⟨G1', G2, rfl, g1, h2, fun k hk => h3 k ((g2 k).1 hk)⟩, fun k => ?_⟩
  simp only [List.mem_append, g2]
theorem One.sub {B : Nat} {P P' : List Nat → World → Prop} {b : Nat} {d : DevD} {w : World} (hs : Sub2 P P') (h : One B P b d w) : One B P' b d w := by
  obtain ⟨hz, F, G, h1, h2, h3, h4⟩ := h
  obtain ⟨G', g1, g2⟩ := hs G w h2
  exact ⟨hz, F, G', h1, g1, fun k hk => ⟨(h3 k hk).1, fun hm => (h3 k hk).2 ((g2 k).1 hm)⟩, fun k hk => h4 k ((g2 k).1 hk)⟩
/-- A row of places of the call's own. -/
def RowP (v : Value) (l : List (Int × Int)) (G : List Nat) (w : World) : Prop := G = v.ownBlock.toList ∧ ∃ base, Prs w base v l
theorem fixed_row (v : Value) (l : List (Int × Int)) : Fixed (RowP v l) := by
  refine ⟨?_, ?_⟩
  · rintro G S w1 w2 ⟨rfl, base, h⟩ hc hn
    exact ⟨rfl, base, ownsRow_of h fun k hk hlt => hc.block k hlt (hn k (by rw [Option.mem_toList]; exact hk))⟩
  · rintro G w ⟨rfl, base, h⟩ k hk
    rw [Option.mem_toList] at hk
    exact (World.ownsRow.lt h k hk).2
theorem One.addRow {B : Nat} {P : List Nat → World → Prop} (hP : Fixed P) {b : Nat} {d : DevD} {w w' : World} {v : Value} {l : List (Int × Int)} (h : One B P b d w) (hb : Below w.heap.size w w') (hp : Prs w' w.heap.size v l) : One B (Both P (RowP v l)) b d w' := by
  obtain ⟨hz, F, G, h1, h2, h3, h4⟩ := h
  have hc : Chg [] w w' := Chg.of hb (Nat.le_refl _)
  have hv : ∀ k, k ∈ v.ownBlock.toList → w.heap.size ≤ k := fun k hk => hp.own_block k (by rw [Option.mem_toList] at hk; exact hk)
  refine ⟨Nat.le_trans hz hb.size, F, G ++ v.ownBlock.toList, (fixed_dev b d).keep _ _ _ _ h1 hc (fun _ _ h => by cases h), ⟨G, _, rfl, hP.keep _ _ _ _ h2 hc (fun _ _ h => by cases h), ⟨rfl, _, hp⟩, fun k hk hm => ?_⟩, fun k hk => ⟨(h3 k hk).1, fun hm => ?_⟩, fun k hk => ?_⟩
  · have := hP.lt _ _ h2 k hk
    have := hv k hm
    omega
  · rcases List.mem_append.1 hm with hm | hm
    · exact (h3 k hk).2 hm
    · have := (fixed_dev b d).lt _ _ h1 k hk
      have := hv k hm
      omega
  · rcases List.mem_append.1 hk with hm | hm
    · exact h4 k hm
    · have := hv k hm
      omega
theorem One.rowP {B : Nat} {P : List Nat → World → Prop} {b : Nat} {d : DevD} {w : World} {v : Value} {l : List (Int × Int)} (h : One B (Both P (RowP v l)) b d w) : ∃ base, Prs w base v l := by
  obtain ⟨_, _, _, _, ⟨_, _, _, _, ⟨_, hb⟩, _⟩, _⟩ := h
  exact hb
theorem one_waitsS {B : Nat} {P : List Nat → World → Prop} {b : Nat} {d : DevD} {w : World} (h : One B P b d w) (hlen : d.waits.length ≤ 100000) : Calls Try.prog 10 #[.pointer (some ⟨b, 0, none⟩)] w fun e w' => ∃ v, e = .returned v ∧ Prs w' w.heap.size v (d.waits.map (·.1)) ∧ Below w.heap.size w w' := by
  obtain ⟨hz, F, G, ⟨p, rfl, hd, rfl⟩, h2, h3, h4⟩ := h
  exact waits_any p d w hd hlen
end Go.Proofs.Ytflobdhhjfpcdaa
