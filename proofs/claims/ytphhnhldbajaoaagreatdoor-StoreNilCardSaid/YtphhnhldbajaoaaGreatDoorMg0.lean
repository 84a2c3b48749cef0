/-
  Texts put together: Frame, Box, Rows2, Chg, Keys, Plain, KeysC.
-/
import Derived.Test.YtphhnhldbajaoaaGreatDoorRows
import Derived.WalkKit
import Derived.ProofKit
import Derived.SizedLaws
import Derived.OpenShut
import Derived.Deep.Grids
import Derived.Maps.AppendAt
import Derived.Deep.RegionLaw
import Derived.Lib.Hide
import Derived.Deep.Draws
import Derived.Laws.CopyRow
import Derived.Lib.SliceRun
import Derived.Lib.EndianBits
import Derived.Deep.QuietTactic
import Derived.BigQuiet
namespace Go.Proofs.YtphhnhldbajaoaaGreatDoor
open Go.ChangeShapes Go.WideShapes Go.ChangeAt Go.RowKit

theorem own : ownKnob Tryz.prog.godebug = none := by kernel_rfl
theorem laidOut : laidOutB Tryz.prog = true := by kernel_rfl

theorem lt_of_cell {w : World} {b o : Nat} {v : Value} (h : w.cell? ⟨b, o, none⟩ = some v) : b < w.heap.size := by
  rcases Nat.lt_or_ge b w.heap.size with hl | hl
  · exact hl
  · have : w.heap[b]? = none := Array.getElem?_eq_none hl
    simp [World.cell?, this] at h

/-- A block of the call's own, just laid. -/
theorem boxed0 (w : World) (cs : Array Value) (t : TypeId) (f : Nat × Nat) (j : Nat) (v : Value) (h : cs[j]? = some v) : (w.alloc (.cells cs t f)).cell? ⟨w.heap.size, j, none⟩ = some v := by
  have e := (MapKept.heap_alloc w (.cells cs t f)).1
  simp only [World.cell?, e]
  exact h
/-- .. behind a call. -/
theorem boxed {w w1 : World} {cs : Array Value} {t : TypeId} {f : Nat × Nat} {n : Nat} (hb : Below n (w.alloc (.cells cs t f)) w1) (hn : w.heap.size < n) (j : Nat) (v : Value) (h : cs[j]? = some v) : w1.cell? ⟨w.heap.size, j, none⟩ = some v := by
  rw [hb.cell (p := ⟨w.heap.size, j, none⟩) hn]
  exact boxed0 w cs t f j v h
theorem size_alloc (w : World) (o : Obj) : (w.alloc o).heap.size = w.heap.size + 1 := by
  show (w.heap.push o).size = _
  rw [Array.size_push]

/-- A slice that came in: its elements, told by a list. -/
def Sl {α : Type} (w : World) (f : α → Value) (a : Option Addr) (l : List α) : Prop :=
  l ≠ [] → ∃ b off, a = some ⟨b, off, none⟩ ∧ b < w.heap.size ∧ ∀ i x, l[i]? = some x → w.cell? ⟨b, off + i, none⟩ = some (f x)

theorem Sl.of {α : Type} {w : World} {f : α → Value} {a : Addr} {l : List α} (h : ∀ i x, l[i]? = some x → w.cell? (a.add i) = some (f x)) : Sl w f (some a) l := by
  intro hne
  obtain ⟨b, off, spot⟩ := a
  have h0 : 0 < l.length := by cases l with | nil => exact absurd rfl hne | cons _ _ => simp
  have hc := h 0 l[0] (List.getElem?_eq_getElem h0)
  have hspot : spot = none := by simpa [Addr.add] using World.cell?_spot hc
  subst hspot
  refine ⟨b, off, rfl, ?_, fun i x hx => by rw [← add_plain]; exact h i x hx⟩
  rw [add_plain] at hc
  exact lt_of_cell hc

theorem Sl.nil {α : Type} {w : World} {f : α → Value} {a : Option Addr} : Sl w f a ([] : List α) := fun h => absurd rfl h

section
variable {H : Type} {enc : TypeId × Value → H} {P : Program} {w : World} {base : Nat} {v : Value} {d : DataW H} {ps : List MemPlace}

end
end Go.Proofs.YtphhnhldbajaoaaGreatDoor

namespace Go.Proofs.YtphhnhldbajaoaaGreatDoor
open Go.RowKit

/-- Block b holds cs. -/
def Box (w : World) (b : Nat) (t : TypeId) (cs : Array Value) : Prop := w.heap[b]? = some (.cells cs t (0, 0))
theorem Box.cell {w : World} {b : Nat} {t : TypeId} {cs : Array Value} (h : Box w b t cs) (j : Nat) (v : Value) (hv : cs[j]? = some v) : w.cell? ⟨b, j, none⟩ = some v := by
  unfold Box at h
  simp only [World.cell?, h]
  exact hv
theorem Box.free {w : World} {b : Nat} {t : TypeId} {cs : Array Value} (h : Box w b t cs) (j : Nat) : w.frozen? ⟨b, j, none⟩ = false := by
  unfold Box at h
  simp [World.frozen?, h]
theorem Box.set {w : World} {b : Nat} {t : TypeId} {cs : Array Value} (h : Box w b t cs) (j : Nat) (v : Value) : Box (w.setCell ⟨b, j, none⟩ v) b t (cs.setIfInBounds j v) :=
  heap_setCell_same w b j cs t v h
theorem Box.lt {w : World} {b : Nat} {t : TypeId} {cs : Array Value} (h : Box w b t cs) : b < w.heap.size := lt_of_block h
theorem Box.of {w w' : World} {b : Nat} {t : TypeId} {cs : Array Value} (h : Box w b t cs) (e : w'.heap[b]? = w.heap[b]?) : Box w' b t cs := by unfold Box; rw [e]; exact h
theorem Box.keep {w w' : World} {b n : Nat} {t : TypeId} {cs : Array Value} (h : Box w b t cs) (hb : Below n w w') (hn : b < n) : Box w' b t cs := h.of (hb.block b hn)
theorem Box.new (w : World) (t : TypeId) (cs : Array Value) : Box (w.alloc (.cells cs t (0, 0))) w.heap.size t cs := (MapKept.heap_alloc w _).1
theorem Box.alloc {w : World} {b : Nat} {t : TypeId} {cs : Array Value} (h : Box w b t cs) (o : Obj) : Box (w.alloc o) b t cs := h.keep ((Below.refl _ _).alloc (Nat.le_refl _) o) h.lt

/-- Block b alone has changed (and blocks were made). -/
def Only (b : Nat) (w w' : World) : Prop := w.grownBy w' (some b)
theorem Only.refl (b : Nat) (w : World) : Only b w w := ⟨rfl, rfl, rfl, Nat.le_refl _, fun _ _ _ => rfl⟩
theorem Only.trans {b : Nat} {w w1 w2 : World} (h : Only b w w1) (k : Only b w1 w2) : Only b w w2 :=
  ⟨k.os.trans h.os, k.tape.trans h.tape, k.output.trans h.output, Nat.le_trans h.size k.size, fun i hi hne => (k.block i (Nat.lt_of_lt_of_le hi h.size) hne).trans (h.block i hi hne)⟩
theorem Only.set (b j : Nat) (w : World) (v : Value) : Only b w (w.setCell ⟨b, j, none⟩ v) :=
  ⟨rfl, rfl, rfl, Nat.le_of_eq (Array.size_modify ..).symm, fun i _ hne => heap_setCell_other w _ i v (fun e => hne (by rw [e]))⟩
theorem Only.of {b n : Nat} {w w' : World} (h : Below n w w') (hn : w.heap.size ≤ n) : Only b w w' := ⟨h.os, h.tape, h.output, h.size, fun i hi _ => h.block i (Nat.lt_of_lt_of_le hi hn)⟩
theorem Only.below' {b n : Nat} {w w' : World} (h : Only b w w') (hb : n ≤ b) (hn : n ≤ w.heap.size) : Below n w w' := ⟨h.os, h.tape, h.output, h.size, fun i hi => h.block i (Nat.lt_of_lt_of_le hi hn) (fun e => by injection e with e; omega)⟩
theorem Only.box {b k : Nat} {w w' : World} {t : TypeId} {cs : Array Value} (h : Only b w w') (hk : k ≠ b) (hx : Box w k t cs) : Box w' k t cs := hx.of (h.block k hx.lt (fun e => hk (by injection e)))
theorem Only.row {b : Nat} {w w' : World} {base : Nat} {e : TypeId} {sz : Nat} {v : Value} {n : Nat} {xs : List Value} (h : Only b w w') (hv : v.ownBlock ≠ some b) (hx : w.ownsRow base e sz v n xs) : w'.ownsRow base e sz v n xs := by
  refine ⟨hx.1, ?_⟩
  rcases hx.2 with ⟨rfl, h0⟩ | ⟨g, cap, cur, rfl, hg, hh, h3⟩
  · exact .inl ⟨rfl, h0⟩
  · exact .inr ⟨g, cap, cur, rfl, hg, by rw [h.block g (lt_of_block hh) (fun e => hv e)]; exact hh, h3⟩
end Go.Proofs.YtphhnhldbajaoaaGreatDoor

namespace Go.Proofs.YtphhnhldbajaoaaGreatDoor
open Go.RowKit

theorem flat_len {α : Type} (f : α → List Value) (n : Nat) (hn : ∀ x, (f x).length = n) : ∀ l : List α, (l.flatMap f).length = l.length * n
  | [] => by simp
  | x :: r => by rw [List.flatMap_cons, List.length_append, hn, flat_len f n hn r, List.length_cons, Nat.add_mul]; omega

theorem flat_get {α : Type} (f : α → List Value) (n : Nat) (hn : ∀ x, (f x).length = n) : ∀ (l : List α) (i : Nat) (x : α), l[i]? = some x → ∀ j, j < n → (l.flatMap f)[i * n + j]? = (f x)[j]?
  | [], i, x, h, _, _ => by simp at h
  | y :: r, 0, x, h, j, hj => by
    simp only [List.getElem?_cons_zero, Option.some.injEq] at h
    subst h
    rw [List.flatMap_cons, Nat.zero_mul, Nat.zero_add, List.getElem?_append_left (by rw [hn]; exact hj)]
  | y :: r, i + 1, x, h, j, hj => by
    simp only [List.getElem?_cons_succ] at h
    have h1 := flat_get f n hn r i x h j hj
    rw [List.flatMap_cons, List.getElem?_append_right (by rw [hn, Nat.add_mul]; omega), hn, ← h1]
    congr 1
    rw [Nat.add_mul]; omega

/-- Whatever holds of the row's block holds of the row. -/
theorem ownsRow_of {w w' : World} {base : Nat} {e : TypeId} {sz : Nat} {v : Value} {n : Nat} {xs : List Value} (h : w.ownsRow base e sz v n xs) (hb : ∀ k, v.ownBlock = some k → k < w.heap.size → w'.heap[k]? = w.heap[k]?) : w'.ownsRow base e sz v n xs := by
  refine ⟨h.1, ?_⟩
  rcases h.2 with ⟨rfl, h0⟩ | ⟨g, cap, cur, rfl, hg, hh, h3⟩
  · exact .inl ⟨rfl, h0⟩
  · exact .inr ⟨g, cap, cur, rfl, hg, by rw [hb g rfl (lt_of_block hh)]; exact hh, h3⟩
theorem ownsRow_lt {w : World} {base : Nat} {e : TypeId} {sz : Nat} {v : Value} {n : Nat} {xs : List Value} (h : w.ownsRow base e sz v n xs) (k : Nat) (hk : v.ownBlock = some k) : k < w.heap.size := by
  rcases h.2 with ⟨rfl, h0⟩ | ⟨g, cap, cur, rfl, hg, hh, h3⟩
  · cases hk
  · simp [Value.ownBlock] at hk; subst hk; exact lt_of_block hh
end Go.Proofs.YtphhnhldbajaoaaGreatDoor

namespace Go.Proofs.YtphhnhldbajaoaaGreatDoor
open Go.RowKit

/-- Blocks outside S are as they were (and blocks were made). -/
structure Chg (S : List Nat) (w w' : World) : Prop where
  os : w'.os = w.os
  tape : w'.tape = w.tape
  output : w'.output = w.output
  size : w.heap.size ≤ w'.heap.size
  block : ∀ k, k < w.heap.size → k ∉ S → w'.heap[k]? = w.heap[k]?
theorem Chg.refl (S : List Nat) (w : World) : Chg S w w := ⟨rfl, rfl, rfl, Nat.le_refl _, fun _ _ _ => rfl⟩
theorem Chg.trans {S : List Nat} {w w1 w2 : World} (h : Chg S w w1) (k : Chg S w1 w2) : Chg S w w2 :=
  ⟨k.os.trans h.os, k.tape.trans h.tape, k.output.trans h.output, Nat.le_trans h.size k.size, fun i hi hn => (k.block i (Nat.lt_of_lt_of_le hi h.size) hn).trans (h.block i hi hn)⟩
theorem Chg.mono {S S' : List Nat} {w w' : World} (h : Chg S w w') (hS : ∀ k ∈ S, k ∈ S') : Chg S' w w' := ⟨h.os, h.tape, h.output, h.size, fun k hk hn => h.block k hk (fun h => hn (hS k h))⟩
/-- A second change may also touch what the first one made. -/
theorem Chg.then {S S' : List Nat} {w w1 w2 : World} (h : Chg S w w1) (k : Chg S' w1 w2) (hS : ∀ i ∈ S', i ∈ S ∨ w.heap.size ≤ i) : Chg S w w2 :=
  ⟨k.os.trans h.os, k.tape.trans h.tape, k.output.trans h.output, Nat.le_trans h.size k.size, fun i hi hn =>
    (k.block i (Nat.lt_of_lt_of_le hi h.size) (fun hm => by rcases hS i hm with h1 | h1; exact hn h1; omega)).trans (h.block i hi hn)⟩
theorem Chg.of {S : List Nat} {w w' : World} {n : Nat} (h : Below n w w') (hn : w.heap.size ≤ n) : Chg S w w' := ⟨h.os, h.tape, h.output, h.size, fun k hk _ => h.block k (Nat.lt_of_lt_of_le hk hn)⟩
theorem Chg.only {b : Nat} {w w' : World} (h : Only b w w') : Chg [b] w w' := ⟨h.os, h.tape, h.output, h.size, fun k hk hn => h.block k hk (fun e => hn (by injection e with e; simp [e]))⟩
/-- What touches only blocks from n on leaves all below n. -/
theorem Chg.below {S : List Nat} {w w' : World} {n : Nat} (h : Chg S w w') (hn : n ≤ w.heap.size) (hS : ∀ k ∈ S, n ≤ k) : Below n w w' :=
  ⟨h.os, h.tape, h.output, h.size, fun k hk => h.block k (Nat.lt_of_lt_of_le hk hn) (fun hm => by have := hS k hm; omega)⟩
theorem Chg.drew {S : List Nat} {w w' : World} (h : Chg S w w') : Chg S w w'.drew := ⟨h.os, h.tape, h.output, h.size, h.block⟩
theorem Chg.set {S : List Nat} {w w' : World} (h : Chg S w w') (b j : Nat) (v : Value) (hb : b ∈ S ∨ w.heap.size ≤ b) : Chg S w (w'.setCell ⟨b, j, none⟩ v) :=
  h.then (Chg.only (Only.set b j w' v)) (fun i hi => by rw [List.mem_singleton] at hi; rw [hi]; exact hb)
theorem Chg.alloc {S : List Nat} {w w' : World} (h : Chg S w w') (o : Obj) : Chg S w (w'.alloc o) := h.trans (Chg.of ((Below.refl _ _).alloc (Nat.le_refl _) o) (Nat.le_refl _))
theorem Chg.grown {S : List Nat} {w w' : World} {row : Option Nat} (h : w.grownBy w' row) (hr : ∀ k, row = some k → k ∈ S) : Chg S w w' :=
  ⟨h.os, h.tape, h.output, h.size, fun k hk hn => h.block k hk (fun e => hn (hr k e.symm))⟩

/-- What lies in blocks G alone, and stays as long as these do. -/
structure Fixed (P : List Nat → World → Prop) : Prop where
  keep : ∀ G S w1 w2, P G w1 → Chg S w1 w2 → (∀ k ∈ G, k ∉ S) → P G w2
  lt : ∀ G w, P G w → ∀ k ∈ G, k < w.heap.size
def NoP (G : List Nat) (_w : World) : Prop := G = []
theorem fixed_no : Fixed NoP := ⟨fun _ _ _ _ h _ _ => h, fun G _ h k hk => by rw [h] at hk; cases hk⟩
def Both (P Q : List Nat → World → Prop) (G : List Nat) (w : World) : Prop := ∃ G1 G2, G = G1 ++ G2 ∧ P G1 w ∧ Q G2 w ∧ ∀ k ∈ G1, k ∉ G2
theorem fixed_both {P Q : List Nat → World → Prop} (hP : Fixed P) (hQ : Fixed Q) : Fixed (Both P Q) := by
  refine ⟨?_, ?_⟩
  · rintro G S w1 w2 ⟨G1, G2, rfl, h1, h2, hd⟩ hc hn
    exact ⟨G1, G2, rfl, hP.keep _ _ _ _ h1 hc (fun k hk => hn k (List.mem_append_left _ hk)), hQ.keep _ _ _ _ h2 hc (fun k hk => hn k (List.mem_append_right _ hk)), hd⟩
  · rintro G w ⟨G1, G2, rfl, h1, h2, _⟩ k hk
    rcases List.mem_append.1 hk with h | h
    · exact hP.lt _ _ h1 k h
    · exact hQ.lt _ _ h2 k h
/-- What the call owns, all from B on: P, and Q beside it. -/
def Sep (B : Nat) (P Q : List Nat → World → Prop) (w : World) : Prop := B ≤ w.heap.size ∧ ∃ G F, P G w ∧ Q F w ∧ (∀ k ∈ F, B ≤ k ∧ k ∉ G) ∧ ∀ k ∈ G, B ≤ k
/-- A call turned Q into Q': it touched Q's blocks alone, and Q' has no others but new ones. -/
def Tod (Q' : List Nat → World → Prop) (F : List Nat) (w w' : World) : Prop := ∃ F', Q' F' w' ∧ Chg F w w' ∧ ∀ k ∈ F', k ∈ F ∨ w.heap.size ≤ k
/-- A call that leaves old memory alone. -/
theorem Tod.same {Q : List Nat → World → Prop} (hQ : Fixed Q) {F : List Nat} {w w' : World} (h : Q F w) (hb : Below w.heap.size w w') : Tod Q F w w' :=
  have hc : Chg [] w w' := Chg.of hb (Nat.le_refl _)
  ⟨F, hQ.keep _ _ _ _ h hc (fun _ _ h => by cases h), hc.mono (fun _ h => by cases h), fun _ h => .inl h⟩
theorem Sep.to {B : Nat} {P Q Q' : List Nat → World → Prop} {w w' : World} (hP : Fixed P) (h : Sep B P Q w) (k : ∀ F, Q F w → Tod Q' F w w') : Sep B P Q' w' ∧ Below B w w' := by
  obtain ⟨hz, G, F, h1, h2, h3, h4⟩ := h
  obtain ⟨F', k1, k2, k3⟩ := k F h2
  refine ⟨⟨Nat.le_trans hz k2.size, G, F', hP.keep _ _ _ _ h1 k2 (fun i hi hf => (h3 i hf).2 hi), k1, fun i hi => ?_, h4⟩, k2.below hz (fun i hi => (h3 i hi).1)⟩
  rcases k3 i hi with h5 | h5
  · exact h3 i h5
  · exact ⟨Nat.le_trans hz h5, fun hg => by have := hP.lt _ _ h1 i hg; omega⟩
theorem Sep.keep {B : Nat} {P Q : List Nat → World → Prop} {w w' : World} (hP : Fixed P) (hQ : Fixed Q) (h : Sep B P Q w) (hb : Below w.heap.size w w') : Sep B P Q w' := by
  obtain ⟨hz, G, F, h1, h2, h3, h4⟩ := h
  have hc : Chg [] w w' := Chg.of hb (Nat.le_refl _)
  exact ⟨Nat.le_trans hz hb.size, G, F, hP.keep _ _ _ _ h1 hc (fun _ _ h => by cases h), hQ.keep _ _ _ _ h2 hc (fun _ _ h => by cases h), h3, h4⟩
end Go.Proofs.YtphhnhldbajaoaaGreatDoor

namespace Go.Proofs.YtphhnhldbajaoaaGreatDoor
open Go.RowKit Go.ChangeShapes Go.WideShapes Go.ChangeAt

theorem infoKey : (Tryz.prog.info? 9).map (fun i => (i.zero, i.size, i.bytes)) = some (some (.string ⟨#[]⟩), 1, 16) := by kernel_rfl
/-- The value v is a slice of the call's own that holds the strings l. -/
def Ks (w : World) (base : Nat) (v : Value) (l : List ByteArray) : Prop := w.ownsRow base 9 1 v l.length (l.map Value.string)
section
variable {w w' : World} {base : Nat} {v : Value} {l : List ByteArray}
theorem Ks.nil (w : World) (base : Nat) : Ks w base (.slice none 0 0) [] := World.ownsRow_nil _ _ _ _
theorem Ks.lt (h : Ks w base v l) : ∀ k, v.ownBlock = some k → k < w.heap.size := fun k hk => (World.ownsRow.lt h k hk).2
theorem Ks.chg {S : List Nat} (h : Ks w base v l) (hc : Chg S w w') (hn : ∀ k, v.ownBlock = some k → k ∉ S) : Ks w' base v l := ownsRow_of h fun k hk hlt => hc.block k hlt (hn k hk)
theorem Ks.alloc (h : Ks w base v l) (o : Obj) : Ks (w.alloc o) base v l := World.ownsRow.alloc h o
theorem Ks.view (h : Ks w base v l) : ∃ a cap, v = .slice a l.length cap ∧ Sl w Value.string a l := by
  have h' := h
  rcases h.2 with ⟨rfl, h0⟩ | ⟨g, cap, cur, rfl, hg, hh, _⟩
  · have : l = [] := List.eq_nil_of_length_eq_zero h0
    subst this
    exact ⟨none, 0, rfl, Sl.nil⟩
  · refine ⟨some ⟨g, 0, none⟩, cap, rfl, fun _ => ⟨g, 0, rfl, lt_of_block hh, fun i x hx => ?_⟩⟩
    have hi : i < l.length := (List.getElem?_eq_some_iff.1 hx).1
    rw [Nat.zero_add, World.ownsRow.cellAt h' i (by omega), List.getElem?_map, hx]
    rfl
/-- Its shape: nothing, or a block of its own. -/
theorem Ks.form (h : Ks w base v l) : (v = .slice none 0 0 ∧ l = []) ∨ ∃ g cap, v = .slice (some ⟨g, 0, none⟩) l.length cap ∧ base ≤ g ∧ g < w.heap.size ∧ l.length ≤ cap ∧ cap ≤ maxLen := by
  rcases h.2 with ⟨rfl, h0⟩ | ⟨g, cap, cur, rfl, hg, hh, h1, h2, _⟩
  · exact .inl ⟨rfl, List.eq_nil_of_length_eq_zero h0⟩
  · exact .inr ⟨g, cap, rfl, hg, lt_of_block hh, h1, h2⟩
end

theorem key_one (l : List ByteArray) : ∀ u ∈ l.map Value.string, u.oneCell' = true := by
  intro u hu
  obtain ⟨y, _, rfl⟩ := List.mem_map.1 hu
  rfl
/-- 'append(s, x...)' on such a row. -/
theorem run_keys_push (W : World) (ty : TypeId) (base : Nat) (v : Value) (l : List ByteArray) (hb : Ks W base v l) (ad : Addr) (m c : Nat) (cs : List ByteArray) (hm : cs.length = m) (hcell : ∀ j u, cs[j]? = some u → W.cell? (ad.add j) = some (.string u))
    (hbytes : l.length + m ≤ 2000000) (hbase : base ≤ W.heap.size) :
    ∃ v' w', (Builtin.append_ #[25, 25] ty #[v, .slice (some ad) m c]).run Tryz.prog W = .ok v' w' ∧ Ks w' base v' (l ++ cs) ∧ W.grownBy w' v.ownBlock ∧ (v'.ownBlock = v.ownBlock ∨ v'.ownBlock = some W.heap.size) := by
  obtain ⟨i0, hi, hz0, hz1, hz2⟩ := info_parts infoKey
  subst hm
  obtain ⟨v', w', hr, hown, hg, _, hob⟩ := run_append_own_at (P := Tryz.prog) W base 25 ty 9 i0 (.string ⟨#[]⟩) 1 16 Tryz.underlying25 hi hz0 hz1 hz2 rfl (by decide) v l.length (l.map Value.string) hb ad cs.length c (cs.map Value.string) (by simp)
    (by intro j u hu; rw [List.getElem?_map] at hu; obtain ⟨y, hy, rfl⟩ := Option.map_eq_some_iff.1 hu; exact hcell j y hy) (key_one cs) (by unfold maxLen; omega) (by omega) hbase
  refine ⟨v', w', hr, ?_, hg, hob⟩
  unfold Ks
  rw [List.map_append, List.length_append]
  exact hown
theorem wp_keys_push {ops : Array Oper} {rest : List Oper} {o : Oper} {a : Act} {Q : Exit → Act → World → Prop} (W : World) (hgd : o.guard = none) (s x : Operand)
    (ho : o.op = .call { callee := .builtin .append, args := #[s, x], argTypes := #[25, 25] })
    (base : Nat) (v : Value) (l : List ByteArray) (hs : a.eval s = v) (hb : Ks W base v l)
    (ad : Addr) (m c : Nat) (cs : List ByteArray) (hx : a.eval x = .slice (some ad) m c) (hm : cs.length = m) (hcell : ∀ j u, cs[j]? = some u → W.cell? (ad.add j) = some (.string u))
    (hbytes : l.length + m ≤ 2000000) (hbase : base ≤ W.heap.size)
    (h : ∀ v' w', Ks w' base v' (l ++ cs) → W.grownBy w' v.ownBlock → (v'.ownBlock = v.ownBlock ∨ v'.ownBlock = some W.heap.size) → wpList Tryz.prog ops Q rest (a.put o.dst v') w') : wpList Tryz.prog ops Q (o :: rest) a W := by
  obtain ⟨v', w', hr, h1, h2, h3⟩ := run_keys_push W o.type base v l hb ad m c cs hm hcell hbytes hbase
  refine wpList_plain hgd fun K hK => ?_
  unfold Oper.wp execOp
  simp only [ho, resolve, invoke, builtin, Sem.run_bind, Sem.run_pure, Result.andThen_ok, List.map_toArray, List.map_cons, List.map_nil, hs, hx, hr]
  exact hK _ _ (h v' w' h1 h2 h3)

/-- 'append(s[:i], s[j:]...)': the row's own later cells, moved to its front. -/
theorem step_keys_cut {ops : Array Oper} {o : Oper} {a : Act} {W : World} {K : Act → World → Prop} {Q : Exit → Act → World → Prop} {E : Prop} (hgd : o.guard = none) (s x : Operand)
    (ho : o.op = .call { callee := .builtin .append, args := #[s, x], argTypes := #[25, 25] })
    (base g cap : Nat) (l : List ByteArray) (i : Nat) (hb : Ks W base (.slice (some ⟨g, 0, none⟩) l.length cap) l) (hi : i < l.length) (hs : a.eval s = .slice (some ⟨g, 0, none⟩) i cap)
    (ad : Addr) (c : Nat) (hx : a.eval x = .slice (some ad) (l.length - (i + 1)) c) (had : ad = ⟨g, i + 1, none⟩ ∨ l.length = i + 1)
    (h : ∀ w' z, Ks w' base (.slice (some ⟨g, 0, none⟩) l.length cap) (l.eraseIdx i ++ [z]) → Chg [g] W w' → K (a.put o.dst (.slice (some ⟨g, 0, none⟩) (l.length - 1) cap)) w') :
    if Region.wanted o (yielded ops a.tmps) = true then Oper.wp Tryz.prog o a W K Q else E := by
  have hw : Region.wanted o (yielded ops a.tmps) = true := by simp [Region.wanted, hgd]
  rw [if_pos hw]
  obtain ⟨i0, hi0, hz0, hz1, hz2⟩ := info_parts infoKey
  have hb' := hb
  rcases hb.2 with ⟨h', _⟩ | ⟨g', cap', cur, h', hbg, hg, hnc, hcm, hcs, htake⟩
  · simp at h'
  · simp only [Value.slice.injEq, Option.some.injEq, Addr.mk.injEq, and_true, true_and] at h'
    obtain ⟨rfl, rfl⟩ := h'
    have hnews : ∀ j u, ((l.drop (i + 1)).map Value.string)[j]? = some u → W.cell? (ad.add j) = some u := by
      intro j u hu
      have hj : j < l.length - (i + 1) := by
        have := (List.getElem?_eq_some_iff.1 hu).1
        simpa using this
      rcases had with rfl | he
      · rw [add_plain, World.ownsRow.cellAt hb' (i + 1 + j) (by omega)]
        rw [List.getElem?_map, List.getElem?_drop] at hu
        rw [List.getElem?_map]
        exact hu
      · omega
    have hr := run_append_room (P := Tryz.prog) W 25 o.type 9 i0 Tryz.underlying25 hi0 g i cap cur hg ad (l.length - (i + 1)) c ((l.drop (i + 1)).map Value.string) (by rw [hz1]; simp) hnews (key_one _) (by omega) (by rw [hz1, hcs]; simp; omega)
    rw [hz1] at hr
    unfold Oper.wp execOp
    simp only [ho, resolve, invoke, builtin, Sem.run_bind, Sem.run_pure, Result.andThen_ok, List.map_toArray, List.map_cons, List.map_nil, hs, hx, hr]
    have e1 : i + (l.length - (i + 1)) = l.length - 1 := by omega
    rw [e1]
    refine h _ (l.getD (l.length - 1) ⟨#[]⟩) ⟨by simp, .inr ⟨g, cap, _, ?_, hbg, setRow_heap W g cur _ _ _ hg, ?_, hcm, ?_, ?_⟩⟩ ⟨rfl, rfl, rfl, by simp [World.setRow], fun k _ hk => setRow_other W g k _ (fun e => hk (by simp [e]))⟩
    · simp [List.length_eraseIdx, hi]; omega
    · simp [List.length_eraseIdx, hi]; omega
    · simp; omega
    · rw [Nat.mul_one] at htake hcs ⊢
      have htk : cur.toList.take i = (l.take i).map Value.string := by
        rw [List.map_take, ← htake, List.take_take, Nat.min_eq_left (by omega)]
      have hlast : (cur.toList.drop (l.length - 1)).take 1 = [Value.string (l.getD (l.length - 1) ⟨#[]⟩)] := by
        have h1 : (cur.toList.take l.length)[l.length - 1]? = some (Value.string (l.getD (l.length - 1) ⟨#[]⟩)) := by
          rw [htake, List.getElem?_map, List.getD, List.getElem?_eq_getElem (by omega)]; rfl
        rw [List.getElem?_take_of_lt (by omega)] at h1
        have h2 := (List.getElem?_eq_some_iff.1 h1)
        obtain ⟨h3, h4⟩ := h2
        rw [List.drop_eq_getElem_cons h3, List.take_succ_cons, List.take_zero, h4]
      have hlen : (l.eraseIdx i ++ [l.getD (l.length - 1) ⟨#[]⟩]).length = l.length := by simp [List.length_eraseIdx, hi]; omega
      rw [hlen]
      have hlm : (List.map Value.string (List.drop (i + 1) l)).length = l.length - (i + 1) := by simp
      rw [hlm, Nat.mul_one i, show i + (l.length - (i + 1)) = l.length - 1 by omega, htk]
      show List.take l.length (List.map Value.string (List.take i l) ++ List.map Value.string (List.drop (i + 1) l) ++ List.drop (l.length - 1) cur.toList) = _
      rw [List.take_append, List.take_of_length_le (by simp; omega), List.length_append, List.length_map, List.length_map, List.length_take, List.length_drop, Nat.min_eq_left (by omega),
        show l.length - (i + (l.length - (i + 1))) = 1 by omega, hlast, List.map_append, List.eraseIdx_eq_take_drop_succ, List.map_append]
      rfl
/-- 'clear(s[n:])' of one cell. -/
theorem wp_keys_clear {ops : Array Oper} {rest : List Oper} {o : Oper} {a : Act} {Q : Exit → Act → World → Prop} (W : World) (hgd : o.guard = none) (x : Operand)
    (ho : o.op = .call { callee := .builtin .clear, args := #[x], argTypes := #[25] })
    (base g cap : Nat) (m : List ByteArray) (z : ByteArray) (c n n' : Nat) (hx : a.eval x = .slice (some ⟨g, n, none⟩) 1 c) (hmn : m.length = n) (hnn : n' = n + 1) (hm : Ks W base (.slice (some ⟨g, 0, none⟩) n' cap) (m ++ [z]))
    (h : ∀ w', Ks w' base (.slice (some ⟨g, 0, none⟩) n cap) m → Chg [g] W w' → wpList Tryz.prog ops Q rest (a.put o.dst (.tuple #[])) w') : wpList Tryz.prog ops Q (o :: rest) a W := by
  subst hmn hnn
  have hst : ∃ w', (Builtin.clear_ #[25] o.type #[.slice (some ⟨g, m.length, none⟩) 1 c]).run Tryz.prog W = .ok (.tuple #[]) w' ∧ Ks w' base (.slice (some ⟨g, 0, none⟩) m.length cap) m ∧ Chg [g] W w' := by
    rcases hm.2 with ⟨h', _⟩ | ⟨g', cap', cur, h', hb, hg, hnc, hcm, hcs, htake⟩
    · simp at h'
    · simp only [Value.slice.injEq, Option.some.injEq, Addr.mk.injEq, and_true] at h'
      obtain ⟨rfl, _, rfl⟩ := h'
      have hl : (m ++ [z]).length = m.length + 1 := by simp
      rw [hl] at htake hnc
      have hr := run_storeCells_at Tryz.prog g m.length 9 (Builtin.zeroCells (Value.string ⟨#[]⟩).cells 1).toList 0 cur W hg (by simp [Builtin.zeroCells, Value.cells]; omega) (by intro v hv; simp [Builtin.zeroCells, Value.cells] at hv; rw [hv]; rfl)
      refine ⟨_, by simp [Builtin.clear_, run_underlying Tryz.underlying25, hr]; rfl, ⟨by simp, .inr ⟨g, cap, _, rfl, hb, setRow_heap W g cur _ _ _ hg, by omega, hcm, ?_, ?_⟩⟩, ⟨rfl, rfl, rfl, by simp [World.setRow], fun k _ hk => setRow_other W g k _ (fun e => hk (by simp [e]))⟩⟩
      · simp [Builtin.zeroCells, Value.cells]; omega
      · dsimp only
        rw [Nat.mul_one, List.take_append_of_le_length (by simp; omega), List.take_take, Nat.min_self]
        have h9 : (cur.toList.take ((m.length + 1) * 1)).take m.length = ((m ++ [z]).map Value.string).take m.length := by rw [htake]
        rw [List.take_take, Nat.min_eq_left (by omega)] at h9
        rw [h9, List.map_append, List.take_append_of_le_length (by simp), List.take_of_length_le (by simp)]
  obtain ⟨w', hr, hS, hC⟩ := hst
  refine wpList_plain hgd fun K hK => ?_
  unfold Oper.wp execOp
  simp only [ho, resolve, invoke, builtin, Sem.run_bind, Sem.run_pure, Result.andThen_ok, List.map_toArray, List.map_cons, List.map_nil, hx, hr]
  exact hK _ _ (h w' hS hC)
end Go.Proofs.YtphhnhldbajaoaaGreatDoor

namespace Go.Proofs.YtphhnhldbajaoaaGreatDoor
open Go.RowKit

theorem ret_int {k : IntKind} {a b : Int} (h : a = b) : Ending.returned (.int k a) = .returned (.int k b) := by rw [h]
theorem ret_str {a b : ByteArray} (h : a = b) : Ending.returned (.string a) = .returned (.string b) := by rw [h]
theorem ret_bool {a b : Bool} (h : a = b) : Ending.returned (.bool a) = .returned (.bool b) := by rw [h]

theorem str_some (s : ByteArray) (h : 0 < s.size) : ¬ s.toList = [] ∧ s.toList.isEmpty = false := by
  have e : ¬ s.toList = [] := by
    rw [ByteArray.toList_eq]
    intro e
    have h1 : s.data.toList.length = 0 := by rw [e]; rfl
    rw [Array.length_toList] at h1
    have h2 : s.size = s.data.size := rfl
    omega
  exact ⟨e, by simpa using e⟩

/-- The number that bytes tell, the lowest first. -/
def leVal : List UInt8 → Nat
  | [] => 0
  | x :: r => x.toNat + 256 * leVal r

theorem leVal_lt : ∀ l : List UInt8, leVal l < 256 ^ l.length
  | [] => by simp [leVal]
  | x :: r => by
    have h := leVal_lt r
    have hx := x.toNat_lt
    simp only [leVal, List.length_cons, Nat.pow_succ]
    omega

theorem leVal_snoc : ∀ (l : List UInt8) (x : UInt8), leVal (l ++ [x]) = leVal l + x.toNat * 256 ^ l.length
  | [], x => by simp [leVal]
  | y :: r, x => by
    have h := leVal_snoc r x
    simp only [leVal, List.cons_append, List.length_cons, Nat.pow_succ, h]
    rw [Nat.mul_add, Nat.add_assoc, ← Nat.mul_assoc, ← Nat.mul_assoc, Nat.mul_comm 256 x.toNat, Nat.mul_right_comm]

theorem take_snoc (s : ByteArray) (k : Nat) (h : k < s.size) : s.data.toList.take (k + 1) = s.data.toList.take k ++ [s[k]] := by
  rw [List.take_succ_eq_append_getElem (by simpa using h)]; rfl

theorem leVal_take (s : ByteArray) (k : Nat) (h : k < s.size) : leVal (s.data.toList.take (k + 1)) = leVal (s.data.toList.take k) + s[k].toNat * 256 ^ k := by
  rw [take_snoc s k h, leVal_snoc, List.length_take, Nat.min_eq_left (by simp; omega)]

theorem leVal_take_lt (s : ByteArray) (k : Nat) (h : k ≤ s.size) : leVal (s.data.toList.take k) < 256 ^ k := by
  have := leVal_lt (s.data.toList.take k)
  rwa [List.length_take, Nat.min_eq_left (by simpa using h)] at this

theorem i64_small (n : Int) (h0 : 0 ≤ n) (h : n < 2 ^ 63) : IntKind.i64.wrap n = n := IntWalk.i64_in n ⟨by omega, by omega⟩

theorem pow256 (j : Nat) : (256 : Nat) ^ j = 2 ^ (8 * j) := by rw [show (256 : Nat) = 2 ^ 8 from rfl, ← Nat.pow_mul]

theorem pow256_le (j : Nat) (h : j ≤ 6) : 1 ≤ 256 ^ j ∧ 256 ^ j ≤ 281474976710656 := by
  match j, h with
  | 0, _ => decide
  | 1, _ => decide
  | 2, _ => decide
  | 3, _ => decide
  | 4, _ => decide
  | 5, _ => decide
  | 6, _ => decide

/-- One round of Number. -/
theorem orStep (A x j : Nat) (hA : A < 256 ^ j) (hx : x < 256) (hj : j ≤ 6) : bits .or .i64 (A : Int) (wrap64 ((x : Int) * 2 ^ (8 * j))) = ((A + x * 256 ^ j : Nat) : Int) := by
  have hp := pow256_le j hj
  have hb : x * 256 ^ j < 72057594037927936 := Nat.lt_of_le_of_lt (Nat.mul_le_mul_left x hp.2) (by omega)
  have e : (x : Int) * 2 ^ (8 * j) = ((x * 256 ^ j : Nat) : Int) := by rw [pow256, Int.natCast_mul, Int.natCast_pow]; rfl
  rw [e, IntWalk.wrap64_in _ (by omega)]
  refine (bits_join_low .i64 63 (by decide) i64_small (8 * j) _ _ (by omega) ?_ (by omega) (by omega) ?_ (by omega)).trans (by omega)
  · rw [pow256] at hA; exact_mod_cast hA
  · rw [pow256]; exact_mod_cast Nat.mul_mod_left x (2 ^ (8 * j))
end Go.Proofs.YtphhnhldbajaoaaGreatDoor

namespace Go.Proofs.YtphhnhldbajaoaaGreatDoor
open Go.RowKit Go.ChangeShapes Go.WideShapes Go.ChangeAt

theorem toList_inj {s t : ByteArray} (h : s.toList = t.toList) : s = t := by
  rw [ByteArray.toList_eq, ByteArray.toList_eq] at h
  have h2 : s.data = t.data := Array.toList_inj.1 h
  cases s; cases t; simp_all
theorem beq_key (s t : ByteArray) : (s.toList == t.toList) = decide (s = t) := by
  by_cases h : s = t
  · subst h; simp
  · have h2 : ¬ s.toList = t.toList := fun e => h (toList_inj e)
    rw [decide_eq_false h]
    simpa using h2

def hasK (l : List ByteArray) (k : ByteArray) : Bool := l.any fun x => decide (x = k)
theorem hasK_iff {l : List ByteArray} {k : ByteArray} : hasK l k = true ↔ k ∈ l := by
  unfold hasK
  rw [List.any_eq_true]
  exact ⟨fun ⟨x, h1, h2⟩ => by have := of_decide_eq_true h2; subst this; exact h1, fun h => ⟨k, h, decide_eq_true rfl⟩⟩
/-- Where a string stands first; -1: nowhere. -/
def idxI (l : List ByteArray) (k : ByteArray) : Int := if hasK l k = true then ((l.findIdx (fun x => decide (x = k)) : Nat) : Int) else -1
theorem idx_hit {l : List ByteArray} {k : ByteArray} {i : Nat} (hi : i < l.length) (h : l[i] = k) (hn : ∀ x ∈ l.take i, x ≠ k) : idxI l k = (i : Int) := by
  have hm : k ∈ l := by rw [← h]; exact List.getElem_mem _
  unfold idxI
  rw [if_pos (hasK_iff.2 hm)]
  congr 1
  rw [List.findIdx_eq hi]
  refine ⟨by simpa using h, fun j hj => ?_⟩
  have := hn (l[j]) (List.mem_take_iff_getElem.2 ⟨j, by omega, rfl⟩)
  simpa using this
theorem idx_none {l : List ByteArray} {k : ByteArray} (hn : ∀ x ∈ l, x ≠ k) : idxI l k = -1 := by
  unfold idxI
  rw [if_neg (fun hm => hn k (hasK_iff.1 hm) rfl)]

set_option maxHeartbeats 1000000 in
theorem index_keys (a : Option Addr) (cap : Nat) (l : List ByteArray) (k : ByteArray) (w : World) (hs : Sl w Value.string a l) (hlen : l.length ≤ 100000) :
    Calls Tryz.prog 139 #[.slice a l.length cap, .string k] w fun e w' => e = .returned (.int .i64 (idxI l k)) ∧ w = w' := by
  obtain ⟨R, hR⟩ : ∃ R, R = idxI l k := ⟨_, rfl⟩
  rw [← hR]
  have HR := Lib.hid hR
  have HS := Lib.hid hs
  clear hR hs
  go_enter Tryz.func139, Tryz.ntmps139
  go_wp2
  go_loopw [5, 8] (fun _ i wr => ∃ j : Nat, j ≤ l.length ∧ i = .int .i64 j ∧ Hid (∀ x ∈ l.take j, x ≠ k) ∧ Hid (w = wr)) (fun _ i _ => l.length - (intOf i).toNat)
  case atStart => exact ⟨0, Nat.zero_le _, rfl, Lib.hid (fun x hx => by simp at hx), rfl⟩
  case round =>
    rename_i hkl1
    obtain ⟨j, hj, rfl, HN, HL⟩ := hrel
    by_cases hlt : j < l.length
    · clear hkl1
      obtain ⟨b, off, rfl, hbl, hc⟩ := HS.out (by intro e; rw [e] at hlt; simp at hlt)
      have q0 := hc j l[j] (List.getElem?_eq_getElem hlt)
      have eL := HL.out
      subst eL
      have h0 : (0 : Int) ≤ (j : Int) := by omega
      have h1 : (j : Int) < (l.length : Int) := by omega
      have HT := Lib.hid (List.take_succ_eq_append_getElem hlt)
      have HLT := Lib.hid hlt
      generalize hx : l[j] = x at *
      have HX := Lib.hid hx
      clear hc hx hlt
      have e1 := beq_key k x
      by_cases he : k = x
      · have HE := Lib.hid he
        rw [decide_eq_true he] at e1
        clear he
        go_wp2
        go_ret
        refine ⟨ret_int ?_, rfl⟩
        rw [HR.out]
        exact (idx_hit HLT.out (HX.out.trans HE.out.symm) HN.out).symm
      · rw [decide_eq_false he] at e1
        have HN2 : Hid (∀ y ∈ l.take (j + 1), y ≠ k) := by
          rw [HT.out]
          intro y hy
          rcases List.mem_append.1 hy with h2 | h2
          · exact HN.out y h2
          · rw [List.mem_singleton] at h2; rw [h2]; exact fun e => he e.symm
        clear he
        have hlt2 := HLT.out
        go_wp2
        go_roundw
        case rel => exact ⟨j + 1, by omega, by go_num, HN2, Lib.hid trivial⟩
        case measure => simp [intOf]; omega
    · have hjl : j = l.length := by omega
      subst hjl
      rw [List.take_of_length_le (Nat.le_refl _)] at HN
      go_wp2
      go_ret
      refine ⟨ret_int ?_, HL.out⟩
      rw [HR.out, idx_none HN.out]

theorem contains_keys (a : Option Addr) (cap : Nat) (l : List ByteArray) (k : ByteArray) (w : World) (hs : Sl w Value.string a l) (hlen : l.length ≤ 100000) :
    Calls Tryz.prog 148 #[.slice a l.length cap, .string k] w fun e w' => e = .returned (.bool (hasK l k)) ∧ w = w' := by
  have hI := index_keys a cap l k w hs hlen
  have HI := Lib.hid hI
  clear hI hs
  have hv : decide (idxI l k ≥ 0) = hasK l k := by
    unfold idxI
    cases h : hasK l k
    · rw [if_neg (by simp)]; rfl
    · rw [if_pos rfl, decide_eq_true (by omega)]
  have HV := Lib.hid hv
  clear hv
  generalize idxI l k = r at *
  go_enter Tryz.func148, Tryz.ntmps148
  go_wp2_with fail
  refine HI.out.mono ?_
  rintro e w1 ⟨rfl, rfl⟩
  go_wp2
  go_ret
  exact ⟨ret_bool HV.out, rfl⟩

set_option maxRecDepth 100000 in
set_option maxHeartbeats 2000000 in
theorem delete_keys (base g cap : Nat) (l : List ByteArray) (i j : Nat) (w : World) (h : Ks w base (.slice (some ⟨g, 0, none⟩) l.length cap) l) (hi : i < l.length) (hlen : l.length ≤ 100000) (hj : j = i + 1) :
    Calls Tryz.prog 140 #[.slice (some ⟨g, 0, none⟩) l.length cap, .int .i64 (i : Int), .int .i64 (j : Int)] w fun e w' =>
      e = .returned (.slice (some ⟨g, 0, none⟩) (l.length - 1) cap) ∧ Ks w' base (.slice (some ⟨g, 0, none⟩) (l.length - 1) cap) (l.eraseIdx i) ∧ Chg [g] w w' := by
  have hcap : l.length ≤ cap ∧ cap ≤ maxLen := by
    rcases h.form with ⟨h1, _⟩ | ⟨g', cap', h1, _, _, h2, h3⟩
    · simp at h1
    · simp only [Value.slice.injEq, Option.some.injEq, Addr.mk.injEq, and_true, true_and] at h1
      obtain ⟨rfl, rfl⟩ := h1
      exact ⟨h2, h3⟩
  have HK := Lib.hid h
  have HE : Hid ((l.eraseIdx i).length = l.length - 1) := by show _ = _; rw [List.length_eraseIdx, if_pos hi]
  clear h
  obtain ⟨hc1, hc2⟩ := hcap
  have hij : i < j := by omega
  have hjl : j ≤ l.length := by omega
  have hic : i ≤ cap := by omega
  have hjc : j ≤ cap := by omega
  have HJ := Lib.hid hj
  clear hj
  unfold maxLen at hc2
  obtain ⟨A, hA, hA2⟩ : ∃ A : Addr, (if cap = j then some (⟨g, 0, none⟩ : Addr) else some ⟨g, j, none⟩) = some A ∧ Hid (A = ⟨g, i + 1, none⟩ ∨ l.length = i + 1) := by
    by_cases h : cap = j
    · exact ⟨⟨g, 0, none⟩, by simp [h], .inr (by have := HJ.out; omega)⟩
    · exact ⟨⟨g, j, none⟩, by simp [h], .inl (by rw [HJ.out])⟩
  go_enter Tryz.func140, Tryz.ntmps140
  go_wp2_with fail
  go_region_law (refine step_keys_cut rfl _ _ rfl base g cap l i HK.out hi (by simp [Act.eval, Act.put]) A (cap - j) (by simp [Act.eval, Act.put]; have := HJ.out; omega) hA2.out ?_; intro w1 z hk hc; have HK1 := Lib.hid hk; have HC1 : Hid (Chg [g] w w1) := ⟨hc.os, hc.tape, hc.output, hc.size, hc.block⟩; clear hk hc)
  have hq1 : l.length - 1 ≤ l.length := by omega
  have hq2 : l.length - 1 ≤ cap := by omega
  have hq3 : l.length ≤ cap := by omega
  have hq4 : ((l.length - 1 : Nat) : Int) ≤ (l.length : Int) := by omega
  have hq5 : ¬ cap = l.length - 1 := by omega
  have hq6 : l.length - (l.length - 1) = 1 := by omega
  generalize hn : l.length - 1 = n1 at *
  have HN1 := Lib.hid hn
  clear hn
  have HNN : Hid (l.length = n1 + 1) := by have := HN1.out; show _ = _; omega
  go_wp2_with (with_reducible refine wp_keys_clear _ rfl (.tmp 31) rfl base g cap (l.eraseIdx i) z (cap - n1) n1 l.length rfl HE.out HNN.out HK1.out ?_)
  intro w2 hk2 hc2
  have HK2 := Lib.hid hk2
  have HC2 := Lib.hid (HC1.out.trans hc2)
  clear hk2 hc2
  go_wp2
  go_ret
  have e := HN1.out
  rw [e]
  exact ⟨rfl, HK2.out, HC2.out⟩

end Go.Proofs.YtphhnhldbajaoaaGreatDoor
