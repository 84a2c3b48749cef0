/-
  Devices of the call's own: Read leaves all old memory alone; a block of the call's own beside the devices.
-/
import Derived.Test.YtflobdhhjfpcdaaDevOne
namespace Go.Proofs.Ytflobdhhjfpcdaa
open Go.RowKit Go.ChangeShapes Go.WideShapes Go.ChangeAt

theorem one_readS {B : Nat} {P : List Nat → World → Prop} (hP : Fixed P) {b : Nat} {d : DevD} {w : World} (h : One B P b d w) (l : Int × Int) :
    Calls Try.prog 12 #[.pointer (some ⟨b, 0, none⟩), locV l] w fun e w' => e = .returned (.tuple #[.string (tellD d l), .int .i64 (chkD d l 0)]) ∧ One B P b d w' ∧ Below w.heap.size w w' := by
  obtain ⟨hz, F, G, ⟨p, rfl, hd, rfl⟩, _⟩ := id h
  exact (dread_any p d l w hd).mono fun e w' hh => ⟨hh.1, h.keep hP hh.2, hh.2⟩

/-- A block of the call's own. -/
def BoxP (g : Nat) (t : TypeId) (cs : Array Value) (G : List Nat) (w : World) : Prop := G = [g] ∧ Box w g t cs
theorem fixed_box (g : Nat) (t : TypeId) (cs : Array Value) : Fixed (BoxP g t cs) := by
  refine ⟨?_, ?_⟩
  · rintro G S w1 w2 ⟨rfl, hb⟩ hc hn
    exact ⟨rfl, hb.of (hc.block g hb.lt (hn g (by simp)))⟩
  · rintro G w ⟨rfl, hb⟩ k hk
    rw [List.mem_singleton] at hk
    rw [hk]; exact hb.lt
theorem One.addBox {B : Nat} {P : List Nat → World → Prop} {b : Nat} {d : DevD} {w : World} (hP : Fixed P) (h : One B P b d w) (t : TypeId) (cs : Array Value) : One B (Both P (BoxP w.heap.size t cs)) b d (w.alloc (.cells cs t (0, 0))) := by
  have hb : Below w.heap.size w (w.alloc (.cells cs t (0, 0))) := (Below.refl _ _).alloc (Nat.le_refl _) _
  obtain ⟨hz, F, G, h1, h2, h3, h4⟩ := h.keep hP hb
  obtain ⟨hz0, F0, G0, g1, g2, g3, g4⟩ := h
  have hc : Chg [] w (w.alloc (.cells cs t (0, 0))) := Chg.of hb (Nat.le_refl _)
  have hFl := (fixed_dev b d).lt _ _ g1
  have hGl := hP.lt _ _ g2
  refine ⟨hz, F0, G0 ++ [w.heap.size], (fixed_dev b d).keep _ _ _ _ g1 hc (fun _ _ h => by cases h), ⟨G0, [w.heap.size], rfl, hP.keep _ _ _ _ g2 hc (fun _ _ h => by cases h), ⟨rfl, Box.new w t cs⟩, fun k hk => ?_⟩, fun k hk => ⟨(g3 k hk).1, fun hm => ?_⟩, fun k hk => ?_⟩
  · have := hGl k hk; simp; omega
  · rcases List.mem_append.1 hm with h5 | h5
    · exact (g3 k hk).2 h5
    · rw [List.mem_singleton] at h5; have := hFl k hk; omega
  · rcases List.mem_append.1 hk with h5 | h5
    · exact g4 k h5
    · rw [List.mem_singleton] at h5; omega
theorem One.box {B : Nat} {P : List Nat → World → Prop} {b g : Nat} {d : DevD} {w : World} {t : TypeId} {cs : Array Value} (h : One B (Both P (BoxP g t cs)) b d w) : Box w g t cs := by
  obtain ⟨_, _, _, _, ⟨_, _, _, _, ⟨_, hb⟩, _⟩, _⟩ := h
  exact hb
theorem One.drop {B : Nat} {P Q : List Nat → World → Prop} {b : Nat} {d : DevD} {w : World} (h : One B (Both P Q) b d w) : One B P b d w := by
  obtain ⟨hz, F, G, h1, ⟨G1, G2, rfl, h2, _, _⟩, h3, h4⟩ := h
  exact ⟨hz, F, G1, h1, h2, fun k hk => ⟨(h3 k hk).1, fun hm => (h3 k hk).2 (List.mem_append_left _ hm)⟩, fun k hk => h4 k (List.mem_append_left _ hk)⟩
end Go.Proofs.Ytflobdhhjfpcdaa
