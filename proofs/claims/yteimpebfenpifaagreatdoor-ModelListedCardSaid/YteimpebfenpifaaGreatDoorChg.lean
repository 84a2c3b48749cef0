/-
  Changes that leave all blocks outside a list alone; what lies in blocks of its own, beside other such things.
-/
import Derived.Test.YteimpebfenpifaaGreatDoorMg0
import Derived.Lib.Hide
import Derived.Deep.Draws
namespace Go.Proofs.YteimpebfenpifaaGreatDoor
open Go.RowKit

/-- Blocks outside S are as they were (and blocks were made). -/
structure Chg (S : List Nat) (w w' : World) : Prop where
  os : w'.os = w.os
  tape : w'.tape = w.tape
  output : w'.output = w.output
  size : w.heap.size ≤ w'.heap.size
  block : ∀ k, k < w.heap.size → k ∉ S → w'.heap[k]? = w.heap[k]?
theorem Chg.refl (S : List Nat) (w : World) : Chg S w w := ⟨rfl, rfl, rfl, Nat.le_refl _, fun _ _ _ => rfl⟩
theorem Chg.trans {S : List Nat} {w w1 w2 : World} (h : Chg S w w1) (k : Chg S w1 w2) : Chg S w w2 :=
  ⟨k.os.trans h.os, k.tape.trans h.tape, k.output.trans h.output, Nat.le_trans h.size k.size, fun i hi hn => (k.block i (Nat.lt_of_lt_of_le hi h.size) hn).trans (h.block i hi hn)⟩
theorem Chg.mono {S S' : List Nat} {w w' : World} (h : Chg S w w') (hS : ∀ k ∈ S, k ∈ S') : Chg S' w w' := ⟨h.os, h.tape, h.output, h.size, fun k hk hn => h.block k hk (fun h => hn (hS k h))⟩
/-- A second change may also touch what the first one made. -/
theorem Chg.then {S S' : List Nat} {w w1 w2 : World} (h : Chg S w w1) (k : Chg S' w1 w2) (hS : ∀ i ∈ S', i ∈ S ∨ w.heap.size ≤ i) : Chg S w w2 :=
  ⟨k.os.trans h.os, k.tape.trans h.tape, k.output.trans h.output, Nat.le_trans h.size k.size, fun i hi hn =>
    (k.block i (Nat.lt_of_lt_of_le hi h.size) (fun hm => by rcases hS i hm with h1 | h1; exact hn h1; omega)).trans (h.block i hi hn)⟩
theorem Chg.of {S : List Nat} {w w' : World} {n : Nat} (h : Below n w w') (hn : w.heap.size ≤ n) : Chg S w w' := ⟨h.os, h.tape, h.output, h.size, fun k hk _ => h.block k (Nat.lt_of_lt_of_le hk hn)⟩
theorem Chg.only {b : Nat} {w w' : World} (h : Only b w w') : Chg [b] w w' := ⟨h.os, h.tape, h.output, h.size, fun k hk hn => h.block k hk (fun e => hn (by injection e with e; simp [e]))⟩
/-- What touches only blocks from n on leaves all below n. -/
theorem Chg.below {S : List Nat} {w w' : World} {n : Nat} (h : Chg S w w') (hn : n ≤ w.heap.size) (hS : ∀ k ∈ S, n ≤ k) : Below n w w' :=
  ⟨h.os, h.tape, h.output, h.size, fun k hk => h.block k (Nat.lt_of_lt_of_le hk hn) (fun hm => by have := hS k hm; omega)⟩
theorem Chg.drewN {S : List Nat} {w w' : World} (h : Chg S w w') (n : Nat) : Chg S w (w'.drewN n) := ⟨h.os, h.tape, h.output, h.size, h.block⟩
theorem Chg.drew {S : List Nat} {w w' : World} (h : Chg S w w') : Chg S w w'.drew := ⟨h.os, h.tape, h.output, h.size, h.block⟩
theorem Chg.set {S : List Nat} {w w' : World} (h : Chg S w w') (b j : Nat) (v : Value) (hb : b ∈ S ∨ w.heap.size ≤ b) : Chg S w (w'.setCell ⟨b, j, none⟩ v) :=
  h.then (Chg.only (Only.set b j w' v)) (fun i hi => by rw [List.mem_singleton] at hi; rw [hi]; exact hb)
theorem Chg.alloc {S : List Nat} {w w' : World} (h : Chg S w w') (o : Obj) : Chg S w (w'.alloc o) := h.trans (Chg.of ((Below.refl _ _).alloc (Nat.le_refl _) o) (Nat.le_refl _))
theorem Chg.grown {S : List Nat} {w w' : World} {row : Option Nat} (h : w.grownBy w' row) (hr : ∀ k, row = some k → k ∈ S) : Chg S w w' :=
  ⟨h.os, h.tape, h.output, h.size, fun k hk hn => h.block k hk (fun e => hn (hr k e.symm))⟩

/-- What lies in blocks G alone, and stays as long as these do. -/
structure Fixed (P : List Nat → World → Prop) : Prop where
  keep : ∀ G S w1 w2, P G w1 → Chg S w1 w2 → (∀ k ∈ G, k ∉ S) → P G w2
  lt : ∀ G w, P G w → ∀ k ∈ G, k < w.heap.size
def NoP (G : List Nat) (_w : World) : Prop := G = []
theorem fixed_no : Fixed NoP := ⟨fun _ _ _ _ h _ _ => h, fun G _ h k hk => by rw [h] at hk; cases hk⟩
def Both (P Q : List Nat → World → Prop) (G : List Nat) (w : World) : Prop := ∃ G1 G2, G = G1 ++ G2 ∧ P G1 w ∧ Q G2 w ∧ ∀ k ∈ G1, k ∉ G2
theorem fixed_both {P Q : List Nat → World → Prop} (hP : Fixed P) (hQ : Fixed Q) : Fixed (Both P Q) := by
  refine ⟨?_, ?_⟩
  · rintro G S w1 w2 ⟨G1, G2, rfl, h1, h2, hd⟩ hc hn
    exact ⟨G1, G2, rfl, hP.keep _ _ _ _ h1 hc (fun k hk => hn k (List.mem_append_left _ hk)), hQ.keep _ _ _ _ h2 hc (fun k hk => hn k (List.mem_append_right _ hk)), hd⟩
  · rintro G w ⟨G1, G2, rfl, h1, h2, _⟩ k hk
    rcases List.mem_append.1 hk with h | h
    · exact hP.lt _ _ h1 k h
    · exact hQ.lt _ _ h2 k h
/-- What the call owns, all from B on: P, and Q beside it. -/
def Sep (B : Nat) (P Q : List Nat → World → Prop) (w : World) : Prop := B ≤ w.heap.size ∧ ∃ G F, P G w ∧ Q F w ∧ (∀ k ∈ F, B ≤ k ∧ k ∉ G) ∧ ∀ k ∈ G, B ≤ k
/-- A call turned Q into Q': it touched Q's blocks alone, and Q' has no others but new ones. -/
def Tod (Q' : List Nat → World → Prop) (F : List Nat) (w w' : World) : Prop := ∃ F', Q' F' w' ∧ Chg F w w' ∧ ∀ k ∈ F', k ∈ F ∨ w.heap.size ≤ k
theorem Tod.trans {Q1 Q2 : List Nat → World → Prop} {F : List Nat} {w w1 w2 : World} (h : Tod Q1 F w w1) (k : ∀ F1, Q1 F1 w1 → Tod Q2 F1 w1 w2) : Tod Q2 F w w2 := by
  obtain ⟨F1, h1, h2, h3⟩ := h
  obtain ⟨F2, k1, k2, k3⟩ := k F1 h1
  refine ⟨F2, k1, h2.then k2 h3, fun i hi => ?_⟩
  rcases k3 i hi with h4 | h4
  · exact h3 i h4
  · exact .inr (Nat.le_trans h2.size h4)
/-- A call that leaves old memory alone. -/
theorem Tod.same {Q : List Nat → World → Prop} (hQ : Fixed Q) {F : List Nat} {w w' : World} (h : Q F w) (hb : Below w.heap.size w w') : Tod Q F w w' :=
  have hc : Chg [] w w' := Chg.of hb (Nat.le_refl _)
  ⟨F, hQ.keep _ _ _ _ h hc (fun _ _ h => by cases h), hc.mono (fun _ h => by cases h), fun _ h => .inl h⟩
theorem Tod.size {Q : List Nat → World → Prop} {F : List Nat} {w w' : World} (h : Tod Q F w w') : w.heap.size ≤ w'.heap.size := by
  obtain ⟨_, _, h, _⟩ := h
  exact h.size
theorem Sep.to {B : Nat} {P Q Q' : List Nat → World → Prop} {w w' : World} (hP : Fixed P) (h : Sep B P Q w) (k : ∀ F, Q F w → Tod Q' F w w') : Sep B P Q' w' ∧ Below B w w' := by
  obtain ⟨hz, G, F, h1, h2, h3, h4⟩ := h
  obtain ⟨F', k1, k2, k3⟩ := k F h2
  refine ⟨⟨Nat.le_trans hz k2.size, G, F', hP.keep _ _ _ _ h1 k2 (fun i hi hf => (h3 i hf).2 hi), k1, fun i hi => ?_, h4⟩, k2.below hz (fun i hi => (h3 i hi).1)⟩
  rcases k3 i hi with h5 | h5
  · exact h3 i h5
  · exact ⟨Nat.le_trans hz h5, fun hg => by have := hP.lt _ _ h1 i hg; omega⟩
theorem Sep.keep {B : Nat} {P Q : List Nat → World → Prop} {w w' : World} (hP : Fixed P) (hQ : Fixed Q) (h : Sep B P Q w) (hb : Below w.heap.size w w') : Sep B P Q w' := by
  obtain ⟨hz, G, F, h1, h2, h3, h4⟩ := h
  have hc : Chg [] w w' := Chg.of hb (Nat.le_refl _)
  exact ⟨Nat.le_trans hz hb.size, G, F, hP.keep _ _ _ _ h1 hc (fun _ _ h => by cases h), hQ.keep _ _ _ _ h2 hc (fun _ _ h => by cases h), h3, h4⟩
/-- What a call made joins what is owned. -/
theorem Sep.more {B : Nat} {P Q R : List Nat → World → Prop} {w w' : World} (hP : Fixed P) (hQ : Fixed Q) (h : Sep B P Q w) (hb : Below w.heap.size w w') {H : List Nat} (hR : R H w') (hn : ∀ k ∈ H, w.heap.size ≤ k) : Sep B (Both P R) Q w' := by
  obtain ⟨hz, G, F, h1, h2, h3, h4⟩ := h
  have hc : Chg [] w w' := Chg.of hb (Nat.le_refl _)
  have l1 := hP.lt _ _ h1
  have l2 := hQ.lt _ _ h2
  refine ⟨Nat.le_trans hz hb.size, G ++ H, F, ⟨G, H, rfl, hP.keep _ _ _ _ h1 hc (fun _ _ h => by cases h), hR, fun k hk hh => ?_⟩, hQ.keep _ _ _ _ h2 hc (fun _ _ h => by cases h), fun k hk => ⟨(h3 k hk).1, fun hm => ?_⟩, fun k hk => ?_⟩
  · have := l1 k hk; have := hn k hh; omega
  · rcases List.mem_append.1 hm with h5 | h5
    · exact (h3 k hk).2 h5
    · have := l2 k hk; have := hn k h5; omega
  · rcases List.mem_append.1 hk with h5 | h5
    · exact h4 k h5
    · have := hn k h5; omega
/-- The two change places: to speak of what lay beside. -/
theorem Sep.swap {B : Nat} {P Q R : List Nat → World → Prop} {w : World} (h : Sep B (Both P R) Q w) : Sep B (Both P Q) R w := by
  obtain ⟨hz, G, F, ⟨G1, G2, rfl, h1, h2, hd⟩, h3, h4, h5⟩ := h
  refine ⟨hz, G1 ++ F, G2, ⟨G1, F, rfl, h1, h3, fun k hk hf => (h4 k hf).2 (List.mem_append_left _ hk)⟩, h2, fun k hk => ⟨h5 k (List.mem_append_right _ hk), fun hm => ?_⟩, fun k hk => ?_⟩
  · rcases List.mem_append.1 hm with h6 | h6
    · exact hd k h6 hk
    · exact (h4 k h6).2 (List.mem_append_right _ hk)
  · rcases List.mem_append.1 hk with h6 | h6
    · exact h5 k (List.mem_append_left _ h6)
    · exact (h4 k h6).1
theorem Sep.first {B : Nat} {P Q : List Nat → World → Prop} {w : World} (h : Sep B P Q w) : ∃ G, P G w ∧ ∀ k ∈ G, B ≤ k := by
  obtain ⟨_, G, _, h1, _, _, h4⟩ := h
  exact ⟨G, h1, h4⟩
theorem Sep.own {B : Nat} {P Q : List Nat → World → Prop} {w : World} (h : Sep B P Q w) : ∃ F, Q F w ∧ ∀ k ∈ F, B ≤ k := by
  obtain ⟨_, _, F, _, h2, h3, _⟩ := h
  exact ⟨F, h2, fun k hk => (h3 k hk).1⟩
theorem Sep.new {B : Nat} {Q : List Nat → World → Prop} {w w' : World} (hz : B ≤ w.heap.size) (hb : w.heap.size ≤ w'.heap.size) {F : List Nat} (h : Q F w') (hn : ∀ k ∈ F, w.heap.size ≤ k) : Sep B NoP Q w' :=
  ⟨Nat.le_trans hz hb, [], F, rfl, h, fun k hk => ⟨Nat.le_trans hz (hn k hk), fun h => by cases h⟩, fun _ h => by cases h⟩
end Go.Proofs.YteimpebfenpifaaGreatDoor
