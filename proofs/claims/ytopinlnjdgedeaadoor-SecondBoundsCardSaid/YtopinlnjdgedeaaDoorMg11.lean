/-
  Texts put together: DevOne0, DevOneS.
-/
import Derived.Test.YtopinlnjdgedeaaDoorMg3
import Derived.Test.YtopinlnjdgedeaaDoorMg6
import Derived.Test.YtopinlnjdgedeaaDoorMg8
import Derived.Test.YtopinlnjdgedeaaDoorMg10
namespace Go.Proofs.YtopinlnjdgedeaaDoor
open Go.RowKit Go.ChangeShapes Go.WideShapes Go.ChangeAt

/-- Block b is devices d, whose blocks are F. -/
def DevF (b : Nat) (d : DevD) (F : List Nat) (w : World) : Prop := ∃ p, p.b = b ∧ DevAt w p d ∧ F = p.fp
/-- What lies in blocks G alone, and stays as long as these do. -/
structure Fixed (P : List Nat → World → Prop) : Prop where
  keep : ∀ G S w1 w2, P G w1 → Chg S w1 w2 → (∀ k ∈ G, k ∉ S) → P G w2
  lt : ∀ G w, P G w → ∀ k ∈ G, k < w.heap.size
def NoP (G : List Nat) (_w : World) : Prop := G = []
theorem fixed_no : Fixed NoP := ⟨fun _ _ _ _ h _ _ => h, fun G _ h k hk => by rw [h] at hk; cases hk⟩
theorem fixed_dev (b : Nat) (d : DevD) : Fixed (DevF b d) := by
  refine ⟨?_, ?_⟩
  · rintro G S w1 w2 ⟨p, e, h, rfl⟩ hc hn
    exact ⟨p, e, h.chg hc hn, rfl⟩
  · rintro G w ⟨p, e, h, rfl⟩
    exact h.lt
def Both (P Q : List Nat → World → Prop) (G : List Nat) (w : World) : Prop := ∃ G1 G2, G = G1 ++ G2 ∧ P G1 w ∧ Q G2 w ∧ ∀ k ∈ G1, k ∉ G2
theorem fixed_both {P Q : List Nat → World → Prop} (hP : Fixed P) (hQ : Fixed Q) : Fixed (Both P Q) := by
  refine ⟨?_, ?_⟩
  · rintro G S w1 w2 ⟨G1, G2, rfl, h1, h2, hd⟩ hc hn
    exact ⟨G1, G2, rfl, hP.keep _ _ _ _ h1 hc (fun k hk => hn k (List.mem_append_left _ hk)), hQ.keep _ _ _ _ h2 hc (fun k hk => hn k (List.mem_append_right _ hk)), hd⟩
  · rintro G w ⟨G1, G2, rfl, h1, h2, _⟩ k hk
    rcases List.mem_append.1 hk with h | h
    · exact hP.lt _ _ h1 k h
    · exact hQ.lt _ _ h2 k h

/-- What the call owns, all from B on: P. -/
def Rest (B : Nat) (P : List Nat → World → Prop) (w : World) : Prop := ∃ G, P G w ∧ ∀ k ∈ G, B ≤ k
/-- Devices, and P beside them. -/
def One (B : Nat) (P : List Nat → World → Prop) (b : Nat) (d : DevD) (w : World) : Prop := B ≤ w.heap.size ∧ ∃ F G, DevF b d F w ∧ P G w ∧ (∀ k ∈ F, B ≤ k ∧ k ∉ G) ∧ ∀ k ∈ G, B ≤ k
theorem One.rest {B : Nat} {P : List Nat → World → Prop} {b : Nat} {d : DevD} {w : World} (h : One B P b d w) : Rest B P w := by
  obtain ⟨_, F, G, _, h2, _, h4⟩ := h
  exact ⟨G, h2, h4⟩
theorem One.swap {B : Nat} {P : List Nat → World → Prop} {b b2 : Nat} {d d2 : DevD} {w : World} (h : One B (Both P (DevF b d)) b2 d2 w) : One B (Both P (DevF b2 d2)) b d w := by
  obtain ⟨hz, F, G, h1, ⟨G1, G2, rfl, h2, h3, h4⟩, h5, h6⟩ := h
  refine ⟨hz, G2, G1 ++ F, h3, ⟨G1, F, rfl, h2, h1, fun k hk hf => (h5 k hf).2 (List.mem_append_left _ hk)⟩, fun k hk => ⟨h6 k (List.mem_append_right _ hk), fun hm => ?_⟩, fun k hk => ?_⟩
  · rcases List.mem_append.1 hm with h7 | h7
    · exact h4 k h7 hk
    · exact (h5 k h7).2 (List.mem_append_right _ hk)
  · rcases List.mem_append.1 hk with h7 | h7
    · exact h6 k (List.mem_append_left _ h7)
    · exact (h5 k h7).1
/-- Whatever leaves old memory alone. -/
theorem One.keep {B : Nat} {P : List Nat → World → Prop} {b : Nat} {d : DevD} {w w' : World} (hP : Fixed P) (h : One B P b d w) (hb : Below w.heap.size w w') : One B P b d w' := by
  obtain ⟨hz, F, G, h1, h2, h3, h4⟩ := h
  have hc : Chg [] w w' := Chg.of hb (Nat.le_refl _)
  exact ⟨Nat.le_trans hz hb.size, F, G, (fixed_dev b d).keep _ _ _ _ h1 hc (fun _ _ h => by cases h), hP.keep _ _ _ _ h2 hc (fun _ _ h => by cases h), h3, h4⟩
theorem One.drew {B : Nat} {P : List Nat → World → Prop} {b : Nat} {d : DevD} {w : World} (hP : Fixed P) (h : One B P b d w) : One B P b d w.drew := h.keep hP (Below.refl _ _).drew
/-- A call on the devices. -/
theorem One.step {B : Nat} {P : List Nat → World → Prop} {p : DevP} {d' : DevD} {w w' : World} (hP : Fixed P) (hz : B ≤ w.heap.size) {G : List Nat} (h2 : P G w) (h3 : ∀ k ∈ p.fp, B ≤ k ∧ k ∉ G) (h4 : ∀ k ∈ G, B ≤ k) (h : DevTo p d' w w') : One B P p.b d' w' ∧ Below B w w' := by
  obtain ⟨p', hd, hm⟩ := h
  refine ⟨⟨Nat.le_trans hz hm.chg.size, p'.fp, G, ⟨p', hm.b, hd, rfl⟩, hP.keep _ _ _ _ h2 hm.chg (fun k hk hf => (h3 k hf).2 hk), fun k hk => ?_, h4⟩, hm.chg.below hz (fun k hk => (h3 k hk).1)⟩
  rcases hm.fp k hk with h5 | h5
  · exact h3 k h5
  · exact ⟨by omega, fun hg => by have := hP.lt _ _ h2 k hg; omega⟩

theorem one_new (B : Nat) {P : List Nat → World → Prop} (hP : Fixed P) (m n : Nat) (w : World) (hz : B ≤ w.heap.size) (h : Rest B P w) (hm : 1 ≤ m ∧ m ≤ 512) (hn : 1 ≤ n ∧ n ≤ 512) :
    Calls Tryd.prog 9 #[.int .i64 m, .int .i64 n] w fun e w' => ∃ b, e = .returned (.pointer (some ⟨b, 0, none⟩)) ∧ One B P b (newD m n) w' ∧ Below B w w' := by
  refine (dnew_ok m n w hm hn).mono ?_
  rintro e w' ⟨p, rfl, hd, hf, hb⟩
  obtain ⟨G, h1, h2⟩ := h
  exact ⟨p.b, rfl, ⟨Nat.le_trans hz hb.size, p.fp, G, ⟨p, rfl, hd, rfl⟩, hP.keep _ _ _ _ h1 (Chg.of (S := []) hb (Nat.le_refl _)) (fun _ _ h => by cases h), fun k hk => ⟨Nat.le_trans hz (hf k hk), fun hg => by have := hf k hk; have := hP.lt _ _ h1 k hg; omega⟩, h2⟩, hb.mono hz⟩

section
variable {B : Nat} {P : List Nat → World → Prop} (hP : Fixed P) {b : Nat} {d : DevD} {w : World} (h : One B P b d w)
include hP h
omit hP in
theorem one_size (dev : Int) : Calls Tryd.prog 17 #[.pointer (some ⟨b, 0, none⟩), .int .i64 dev] w fun e w' => e = .returned (.int .i64 (devSize d dev : Nat)) ∧ w = w' := by
  obtain ⟨_, F, G, ⟨p, rfl, hd, rfl⟩, _⟩ := h
  exact dsize_any p d dev w hd
theorem one_read (l : Int × Int) : Calls Tryd.prog 18 #[.pointer (some ⟨b, 0, none⟩), locV l] w fun e w' => e = .returned (.tuple #[.string (tellD d l), .int .i64 (chkD d l 0)]) ∧ One B P b d w' ∧ Below B w w' := by
  obtain ⟨hz, F, G, ⟨p, rfl, hd, rfl⟩, _⟩ := id h
  exact (dread_any p d l w hd).mono fun e w' hh => ⟨hh.1, h.keep hP hh.2, hh.2.mono hz⟩
theorem one_write (l : Int × Int) (s : ByteArray) (hlen : d.waits.length ≤ 100000) : Calls Tryd.prog 28 #[.pointer (some ⟨b, 0, none⟩), locV l, .string s] w fun e w' => e = .returned (.int .i64 (chkD d l s.size)) ∧ One B P b (writeD d l s) w' ∧ Below B w w' := by
  obtain ⟨hz, F, G, ⟨p, rfl, hd, rfl⟩, h2, h3, h4⟩ := id h
  exact (dwrite_any p d l s w hd hlen).mono fun e w' hh => ⟨hh.1, One.step hP hz h2 h3 h4 hh.2⟩
theorem one_flush (hlen : d.waits.length ≤ 100000) : Calls Tryd.prog 12 #[.pointer (some ⟨b, 0, none⟩)] w fun e w' => e = .returned (.int .i64 0) ∧ One B P b (endD d d.waits) w' ∧ Below B w w' := by
  obtain ⟨hz, F, G, ⟨p, rfl, hd, rfl⟩, h2, h3, h4⟩ := id h
  exact (flush_any p d w hd hlen).mono fun e w' hh => ⟨hh.1, One.step hP hz h2 h3 h4 hh.2⟩
theorem one_crash (ka : Option Addr) (kc : Nat) (keep : List Bool) (hk : Sl w Value.bool ka keep) (hlen : d.waits.length ≤ 100000) (hkl : keep.length ≤ 100000) : Calls Tryd.prog 16 #[.pointer (some ⟨b, 0, none⟩), .slice ka keep.length kc] w fun e w' => e = .returned (.int .i64 0) ∧ One B P b (crashD d keep) w' ∧ Below B w w' := by
  obtain ⟨hz, F, G, ⟨p, rfl, hd, rfl⟩, h2, h3, h4⟩ := id h
  exact (crash_any p d ka kc keep w hd hk hlen hkl).mono fun e w' hh => ⟨hh.1, One.step hP hz h2 h3 h4 hh.2⟩
theorem one_crashU (ka : Option Addr) (kc : Nat) (keep : List Bool) (hk : Sl w Value.bool ka keep) (hlen : d.waits.length ≤ 100000) : Calls Tryd.prog 16 #[.pointer (some ⟨b, 0, none⟩), .slice ka keep.length kc] w fun e w' => e = .returned (.int .i64 0) ∧ One B P b (crashD d keep) w' ∧ Below B w w' := by
  obtain ⟨hz, F, G, ⟨p, rfl, hd, rfl⟩, h2, h3, h4⟩ := id h
  exact (crash_anyU p d ka kc keep w hd hk hlen).mono fun e w' hh => ⟨hh.1, One.step hP hz h2 h3 h4 hh.2⟩
theorem one_spoil (l : Int × Int) (s : ByteArray) (hlen : d.waits.length ≤ 100000) : Calls Tryd.prog 19 #[.pointer (some ⟨b, 0, none⟩), locV l, .string s] w fun e w' => e = .returned (.int .i64 (chkD d l s.size)) ∧ One B P b (spoilD d l s) w' ∧ Below B w w' := by
  obtain ⟨hz, F, G, ⟨p, rfl, hd, rfl⟩, h2, h3, h4⟩ := id h
  exact (spoil_any p d l s w hd hlen).mono fun e w' hh => ⟨hh.1, One.step hP hz h2 h3 h4 hh.2⟩
end
end Go.Proofs.YtopinlnjdgedeaaDoor

namespace Go.Proofs.YtopinlnjdgedeaaDoor
open Go.RowKit Go.ChangeShapes Go.WideShapes Go.ChangeAt

theorem one_readS {B : Nat} {P : List Nat → World → Prop} (hP : Fixed P) {b : Nat} {d : DevD} {w : World} (h : One B P b d w) (l : Int × Int) :
    Calls Tryd.prog 18 #[.pointer (some ⟨b, 0, none⟩), locV l] w fun e w' => e = .returned (.tuple #[.string (tellD d l), .int .i64 (chkD d l 0)]) ∧ One B P b d w' ∧ Below w.heap.size w w' := by
  obtain ⟨hz, F, G, ⟨p, rfl, hd, rfl⟩, _⟩ := id h
  exact (dread_any p d l w hd).mono fun e w' hh => ⟨hh.1, h.keep hP hh.2, hh.2⟩

/-- A block of the call's own. -/
def BoxP (g : Nat) (t : TypeId) (cs : Array Value) (G : List Nat) (w : World) : Prop := G = [g] ∧ Box w g t cs
theorem fixed_box (g : Nat) (t : TypeId) (cs : Array Value) : Fixed (BoxP g t cs) := by
  refine ⟨?_, ?_⟩
  · rintro G S w1 w2 ⟨rfl, hb⟩ hc hn
    exact ⟨rfl, hb.of (hc.block g hb.lt (hn g (by simp)))⟩
  · rintro G w ⟨rfl, hb⟩ k hk
    rw [List.mem_singleton] at hk
    rw [hk]; exact hb.lt
theorem One.addBox {B : Nat} {P : List Nat → World → Prop} {b : Nat} {d : DevD} {w : World} (hP : Fixed P) (h : One B P b d w) (t : TypeId) (cs : Array Value) : One B (Both P (BoxP w.heap.size t cs)) b d (w.alloc (.cells cs t (0, 0))) := by
  have hb : Below w.heap.size w (w.alloc (.cells cs t (0, 0))) := (Below.refl _ _).alloc (Nat.le_refl _) _
  obtain ⟨hz, F, G, h1, h2, h3, h4⟩ := h.keep hP hb
  obtain ⟨hz0, F0, G0, g1, g2, g3, g4⟩ := h
  have hc : Chg [] w (w.alloc (.cells cs t (0, 0))) := Chg.of hb (Nat.le_refl _)
  have hFl := (fixed_dev b d).lt _ _ g1
  have hGl := hP.lt _ _ g2
  refine ⟨hz, F0, G0 ++ [w.heap.size], (fixed_dev b d).keep _ _ _ _ g1 hc (fun _ _ h => by cases h), ⟨G0, [w.heap.size], rfl, hP.keep _ _ _ _ g2 hc (fun _ _ h => by cases h), ⟨rfl, Box.new w t cs⟩, fun k hk => ?_⟩, fun k hk => ⟨(g3 k hk).1, fun hm => ?_⟩, fun k hk => ?_⟩
  · have := hGl k hk; simp; omega
  · rcases List.mem_append.1 hm with h5 | h5
    · exact (g3 k hk).2 h5
    · rw [List.mem_singleton] at h5; have := hFl k hk; omega
  · rcases List.mem_append.1 hk with h5 | h5
    · exact g4 k h5
    · rw [List.mem_singleton] at h5; omega
theorem One.box {B : Nat} {P : List Nat → World → Prop} {b g : Nat} {d : DevD} {w : World} {t : TypeId} {cs : Array Value} (h : One B (Both P (BoxP g t cs)) b d w) : Box w g t cs := by
  obtain ⟨_, _, _, _, ⟨_, _, _, _, ⟨_, hb⟩, _⟩, _⟩ := h
  exact hb
theorem One.drop {B : Nat} {P Q : List Nat → World → Prop} {b : Nat} {d : DevD} {w : World} (h : One B (Both P Q) b d w) : One B P b d w := by
  obtain ⟨hz, F, G, h1, ⟨G1, G2, rfl, h2, _, _⟩, h3, h4⟩ := h
  exact ⟨hz, F, G1, h1, h2, fun k hk => ⟨(h3 k hk).1, fun hm => (h3 k hk).2 (List.mem_append_left _ hm)⟩, fun k hk => h4 k (List.mem_append_left _ hk)⟩
end Go.Proofs.YtopinlnjdgedeaaDoor
