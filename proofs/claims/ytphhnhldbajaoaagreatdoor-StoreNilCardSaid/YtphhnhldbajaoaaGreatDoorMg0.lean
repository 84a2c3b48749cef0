/-
  Texts put together: Frame, Box, Rows2, Chg, DevPlain, DevA.
-/
import Derived.Test.YtphhnhldbajaoaaGreatDoorRows
import Derived.WalkKit
import Derived.ProofKit
import Derived.SizedLaws
import Derived.OpenShut
import Derived.Deep.Grids
import Derived.Maps.AppendAt
import Derived.Deep.RegionLaw
import Derived.Lib.Hide
import Derived.Deep.Draws
namespace Go.Proofs.YtphhnhldbajaoaaGreatDoor
open Go.ChangeShapes Go.WideShapes Go.ChangeAt Go.RowKit

theorem own : ownKnob Tryz.prog.godebug = none := by kernel_rfl
theorem laidOut : laidOutB Tryz.prog = true := by kernel_rfl

theorem lt_of_cell {w : World} {b o : Nat} {v : Value} (h : w.cell? ⟨b, o, none⟩ = some v) : b < w.heap.size := by
  rcases Nat.lt_or_ge b w.heap.size with hl | hl
  · exact hl
  · have : w.heap[b]? = none := Array.getElem?_eq_none hl
    simp [World.cell?, this] at h

/-- A block of the call's own, just laid. -/
theorem boxed0 (w : World) (cs : Array Value) (t : TypeId) (f : Nat × Nat) (j : Nat) (v : Value) (h : cs[j]? = some v) : (w.alloc (.cells cs t f)).cell? ⟨w.heap.size, j, none⟩ = some v := by
  have e := (MapKept.heap_alloc w (.cells cs t f)).1
  simp only [World.cell?, e]
  exact h
/-- .. behind a call. -/
theorem boxed {w w1 : World} {cs : Array Value} {t : TypeId} {f : Nat × Nat} {n : Nat} (hb : Below n (w.alloc (.cells cs t f)) w1) (hn : w.heap.size < n) (j : Nat) (v : Value) (h : cs[j]? = some v) : w1.cell? ⟨w.heap.size, j, none⟩ = some v := by
  rw [hb.cell (p := ⟨w.heap.size, j, none⟩) hn]
  exact boxed0 w cs t f j v h
theorem size_alloc (w : World) (o : Obj) : (w.alloc o).heap.size = w.heap.size + 1 := by
  show (w.heap.push o).size = _
  rw [Array.size_push]

/-- A slice that came in: its elements, told by a list. -/
def Sl {α : Type} (w : World) (f : α → Value) (a : Option Addr) (l : List α) : Prop :=
  l ≠ [] → ∃ b off, a = some ⟨b, off, none⟩ ∧ b < w.heap.size ∧ ∀ i x, l[i]? = some x → w.cell? ⟨b, off + i, none⟩ = some (f x)

theorem Sl.of {α : Type} {w : World} {f : α → Value} {a : Addr} {l : List α} (h : ∀ i x, l[i]? = some x → w.cell? (a.add i) = some (f x)) : Sl w f (some a) l := by
  intro hne
  obtain ⟨b, off, spot⟩ := a
  have h0 : 0 < l.length := by cases l with | nil => exact absurd rfl hne | cons _ _ => simp
  have hc := h 0 l[0] (List.getElem?_eq_getElem h0)
  have hspot : spot = none := by simpa [Addr.add] using World.cell?_spot hc
  subst hspot
  refine ⟨b, off, rfl, ?_, fun i x hx => by rw [← add_plain]; exact h i x hx⟩
  rw [add_plain] at hc
  exact lt_of_cell hc

theorem Sl.nil {α : Type} {w : World} {f : α → Value} {a : Option Addr} : Sl w f a ([] : List α) := fun h => absurd rfl h

section
variable {H : Type} {enc : TypeId × Value → H} {P : Program} {w : World} {base : Nat} {v : Value} {d : DataW H} {ps : List MemPlace}

end
end Go.Proofs.YtphhnhldbajaoaaGreatDoor

namespace Go.Proofs.YtphhnhldbajaoaaGreatDoor
open Go.RowKit

/-- Block b holds cs. -/
def Box (w : World) (b : Nat) (t : TypeId) (cs : Array Value) : Prop := w.heap[b]? = some (.cells cs t (0, 0))
theorem Box.cell {w : World} {b : Nat} {t : TypeId} {cs : Array Value} (h : Box w b t cs) (j : Nat) (v : Value) (hv : cs[j]? = some v) : w.cell? ⟨b, j, none⟩ = some v := by
  unfold Box at h
  simp only [World.cell?, h]
  exact hv
theorem Box.free {w : World} {b : Nat} {t : TypeId} {cs : Array Value} (h : Box w b t cs) (j : Nat) : w.frozen? ⟨b, j, none⟩ = false := by
  unfold Box at h
  simp [World.frozen?, h]
theorem Box.set {w : World} {b : Nat} {t : TypeId} {cs : Array Value} (h : Box w b t cs) (j : Nat) (v : Value) : Box (w.setCell ⟨b, j, none⟩ v) b t (cs.setIfInBounds j v) :=
  heap_setCell_same w b j cs t v h
theorem Box.lt {w : World} {b : Nat} {t : TypeId} {cs : Array Value} (h : Box w b t cs) : b < w.heap.size := lt_of_block h
theorem Box.of {w w' : World} {b : Nat} {t : TypeId} {cs : Array Value} (h : Box w b t cs) (e : w'.heap[b]? = w.heap[b]?) : Box w' b t cs := by unfold Box; rw [e]; exact h
theorem Box.keep {w w' : World} {b n : Nat} {t : TypeId} {cs : Array Value} (h : Box w b t cs) (hb : Below n w w') (hn : b < n) : Box w' b t cs := h.of (hb.block b hn)
theorem Box.new (w : World) (t : TypeId) (cs : Array Value) : Box (w.alloc (.cells cs t (0, 0))) w.heap.size t cs := (MapKept.heap_alloc w _).1
theorem Box.alloc {w : World} {b : Nat} {t : TypeId} {cs : Array Value} (h : Box w b t cs) (o : Obj) : Box (w.alloc o) b t cs := h.keep ((Below.refl _ _).alloc (Nat.le_refl _) o) h.lt

/-- Block b alone has changed (and blocks were made). -/
def Only (b : Nat) (w w' : World) : Prop := w.grownBy w' (some b)
theorem Only.refl (b : Nat) (w : World) : Only b w w := ⟨rfl, rfl, rfl, Nat.le_refl _, fun _ _ _ => rfl⟩
theorem Only.trans {b : Nat} {w w1 w2 : World} (h : Only b w w1) (k : Only b w1 w2) : Only b w w2 :=
  ⟨k.os.trans h.os, k.tape.trans h.tape, k.output.trans h.output, Nat.le_trans h.size k.size, fun i hi hne => (k.block i (Nat.lt_of_lt_of_le hi h.size) hne).trans (h.block i hi hne)⟩
theorem Only.set (b j : Nat) (w : World) (v : Value) : Only b w (w.setCell ⟨b, j, none⟩ v) :=
  ⟨rfl, rfl, rfl, Nat.le_of_eq (Array.size_modify ..).symm, fun i _ hne => heap_setCell_other w _ i v (fun e => hne (by rw [e]))⟩
theorem Only.of {b n : Nat} {w w' : World} (h : Below n w w') (hn : w.heap.size ≤ n) : Only b w w' := ⟨h.os, h.tape, h.output, h.size, fun i hi _ => h.block i (Nat.lt_of_lt_of_le hi hn)⟩
theorem Only.below' {b n : Nat} {w w' : World} (h : Only b w w') (hb : n ≤ b) (hn : n ≤ w.heap.size) : Below n w w' := ⟨h.os, h.tape, h.output, h.size, fun i hi => h.block i (Nat.lt_of_lt_of_le hi hn) (fun e => by injection e with e; omega)⟩
theorem Only.box {b k : Nat} {w w' : World} {t : TypeId} {cs : Array Value} (h : Only b w w') (hk : k ≠ b) (hx : Box w k t cs) : Box w' k t cs := hx.of (h.block k hx.lt (fun e => hk (by injection e)))
theorem Only.row {b : Nat} {w w' : World} {base : Nat} {e : TypeId} {sz : Nat} {v : Value} {n : Nat} {xs : List Value} (h : Only b w w') (hv : v.ownBlock ≠ some b) (hx : w.ownsRow base e sz v n xs) : w'.ownsRow base e sz v n xs := by
  refine ⟨hx.1, ?_⟩
  rcases hx.2 with ⟨rfl, h0⟩ | ⟨g, cap, cur, rfl, hg, hh, h3⟩
  · exact .inl ⟨rfl, h0⟩
  · exact .inr ⟨g, cap, cur, rfl, hg, by rw [h.block g (lt_of_block hh) (fun e => hv e)]; exact hh, h3⟩
end Go.Proofs.YtphhnhldbajaoaaGreatDoor

namespace Go.Proofs.YtphhnhldbajaoaaGreatDoor
open Go.RowKit

theorem flat_len {α : Type} (f : α → List Value) (n : Nat) (hn : ∀ x, (f x).length = n) : ∀ l : List α, (l.flatMap f).length = l.length * n
  | [] => by simp
  | x :: r => by rw [List.flatMap_cons, List.length_append, hn, flat_len f n hn r, List.length_cons, Nat.add_mul]; omega

theorem flat_get {α : Type} (f : α → List Value) (n : Nat) (hn : ∀ x, (f x).length = n) : ∀ (l : List α) (i : Nat) (x : α), l[i]? = some x → ∀ j, j < n → (l.flatMap f)[i * n + j]? = (f x)[j]?
  | [], i, x, h, _, _ => by simp at h
  | y :: r, 0, x, h, j, hj => by
    simp only [List.getElem?_cons_zero, Option.some.injEq] at h
    subst h
    rw [List.flatMap_cons, Nat.zero_mul, Nat.zero_add, List.getElem?_append_left (by rw [hn]; exact hj)]
  | y :: r, i + 1, x, h, j, hj => by
    simp only [List.getElem?_cons_succ] at h
    have h1 := flat_get f n hn r i x h j hj
    rw [List.flatMap_cons, List.getElem?_append_right (by rw [hn, Nat.add_mul]; omega), hn, ← h1]
    congr 1
    rw [Nat.add_mul]; omega

/-- Whatever holds of the row's block holds of the row. -/
theorem ownsRow_of {w w' : World} {base : Nat} {e : TypeId} {sz : Nat} {v : Value} {n : Nat} {xs : List Value} (h : w.ownsRow base e sz v n xs) (hb : ∀ k, v.ownBlock = some k → k < w.heap.size → w'.heap[k]? = w.heap[k]?) : w'.ownsRow base e sz v n xs := by
  refine ⟨h.1, ?_⟩
  rcases h.2 with ⟨rfl, h0⟩ | ⟨g, cap, cur, rfl, hg, hh, h3⟩
  · exact .inl ⟨rfl, h0⟩
  · exact .inr ⟨g, cap, cur, rfl, hg, by rw [hb g rfl (lt_of_block hh)]; exact hh, h3⟩
theorem ownsRow_lt {w : World} {base : Nat} {e : TypeId} {sz : Nat} {v : Value} {n : Nat} {xs : List Value} (h : w.ownsRow base e sz v n xs) (k : Nat) (hk : v.ownBlock = some k) : k < w.heap.size := by
  rcases h.2 with ⟨rfl, h0⟩ | ⟨g, cap, cur, rfl, hg, hh, h3⟩
  · cases hk
  · simp [Value.ownBlock] at hk; subst hk; exact lt_of_block hh
end Go.Proofs.YtphhnhldbajaoaaGreatDoor

namespace Go.Proofs.YtphhnhldbajaoaaGreatDoor
open Go.RowKit

/-- Blocks outside S are as they were (and blocks were made). -/
structure Chg (S : List Nat) (w w' : World) : Prop where
  os : w'.os = w.os
  tape : w'.tape = w.tape
  output : w'.output = w.output
  size : w.heap.size ≤ w'.heap.size
  block : ∀ k, k < w.heap.size → k ∉ S → w'.heap[k]? = w.heap[k]?
theorem Chg.refl (S : List Nat) (w : World) : Chg S w w := ⟨rfl, rfl, rfl, Nat.le_refl _, fun _ _ _ => rfl⟩
theorem Chg.trans {S : List Nat} {w w1 w2 : World} (h : Chg S w w1) (k : Chg S w1 w2) : Chg S w w2 :=
  ⟨k.os.trans h.os, k.tape.trans h.tape, k.output.trans h.output, Nat.le_trans h.size k.size, fun i hi hn => (k.block i (Nat.lt_of_lt_of_le hi h.size) hn).trans (h.block i hi hn)⟩
theorem Chg.mono {S S' : List Nat} {w w' : World} (h : Chg S w w') (hS : ∀ k ∈ S, k ∈ S') : Chg S' w w' := ⟨h.os, h.tape, h.output, h.size, fun k hk hn => h.block k hk (fun h => hn (hS k h))⟩
/-- A second change may also touch what the first one made. -/
theorem Chg.then {S S' : List Nat} {w w1 w2 : World} (h : Chg S w w1) (k : Chg S' w1 w2) (hS : ∀ i ∈ S', i ∈ S ∨ w.heap.size ≤ i) : Chg S w w2 :=
  ⟨k.os.trans h.os, k.tape.trans h.tape, k.output.trans h.output, Nat.le_trans h.size k.size, fun i hi hn =>
    (k.block i (Nat.lt_of_lt_of_le hi h.size) (fun hm => by rcases hS i hm with h1 | h1; exact hn h1; omega)).trans (h.block i hi hn)⟩
theorem Chg.of {S : List Nat} {w w' : World} {n : Nat} (h : Below n w w') (hn : w.heap.size ≤ n) : Chg S w w' := ⟨h.os, h.tape, h.output, h.size, fun k hk _ => h.block k (Nat.lt_of_lt_of_le hk hn)⟩
theorem Chg.only {b : Nat} {w w' : World} (h : Only b w w') : Chg [b] w w' := ⟨h.os, h.tape, h.output, h.size, fun k hk hn => h.block k hk (fun e => hn (by injection e with e; simp [e]))⟩
/-- What touches only blocks from n on leaves all below n. -/
theorem Chg.below {S : List Nat} {w w' : World} {n : Nat} (h : Chg S w w') (hn : n ≤ w.heap.size) (hS : ∀ k ∈ S, n ≤ k) : Below n w w' :=
  ⟨h.os, h.tape, h.output, h.size, fun k hk => h.block k (Nat.lt_of_lt_of_le hk hn) (fun hm => by have := hS k hm; omega)⟩
theorem Chg.drew {S : List Nat} {w w' : World} (h : Chg S w w') : Chg S w w'.drew := ⟨h.os, h.tape, h.output, h.size, h.block⟩
theorem Chg.set {S : List Nat} {w w' : World} (h : Chg S w w') (b j : Nat) (v : Value) (hb : b ∈ S ∨ w.heap.size ≤ b) : Chg S w (w'.setCell ⟨b, j, none⟩ v) :=
  h.then (Chg.only (Only.set b j w' v)) (fun i hi => by rw [List.mem_singleton] at hi; rw [hi]; exact hb)
theorem Chg.alloc {S : List Nat} {w w' : World} (h : Chg S w w') (o : Obj) : Chg S w (w'.alloc o) := h.trans (Chg.of ((Below.refl _ _).alloc (Nat.le_refl _) o) (Nat.le_refl _))
theorem Chg.grown {S : List Nat} {w w' : World} {row : Option Nat} (h : w.grownBy w' row) (hr : ∀ k, row = some k → k ∈ S) : Chg S w w' :=
  ⟨h.os, h.tape, h.output, h.size, fun k hk hn => h.block k hk (fun e => hn (hr k e.symm))⟩

/-- What lies in blocks G alone, and stays as long as these do. -/
structure Fixed (P : List Nat → World → Prop) : Prop where
  keep : ∀ G S w1 w2, P G w1 → Chg S w1 w2 → (∀ k ∈ G, k ∉ S) → P G w2
  lt : ∀ G w, P G w → ∀ k ∈ G, k < w.heap.size
def NoP (G : List Nat) (_w : World) : Prop := G = []
theorem fixed_no : Fixed NoP := ⟨fun _ _ _ _ h _ _ => h, fun G _ h k hk => by rw [h] at hk; cases hk⟩
def Both (P Q : List Nat → World → Prop) (G : List Nat) (w : World) : Prop := ∃ G1 G2, G = G1 ++ G2 ∧ P G1 w ∧ Q G2 w ∧ ∀ k ∈ G1, k ∉ G2
theorem fixed_both {P Q : List Nat → World → Prop} (hP : Fixed P) (hQ : Fixed Q) : Fixed (Both P Q) := by
  refine ⟨?_, ?_⟩
  · rintro G S w1 w2 ⟨G1, G2, rfl, h1, h2, hd⟩ hc hn
    exact ⟨G1, G2, rfl, hP.keep _ _ _ _ h1 hc (fun k hk => hn k (List.mem_append_left _ hk)), hQ.keep _ _ _ _ h2 hc (fun k hk => hn k (List.mem_append_right _ hk)), hd⟩
  · rintro G w ⟨G1, G2, rfl, h1, h2, _⟩ k hk
    rcases List.mem_append.1 hk with h | h
    · exact hP.lt _ _ h1 k h
    · exact hQ.lt _ _ h2 k h
/-- What the call owns, all from B on: P, and Q beside it. -/
def Sep (B : Nat) (P Q : List Nat → World → Prop) (w : World) : Prop := B ≤ w.heap.size ∧ ∃ G F, P G w ∧ Q F w ∧ (∀ k ∈ F, B ≤ k ∧ k ∉ G) ∧ ∀ k ∈ G, B ≤ k
/-- A call turned Q into Q': it touched Q's blocks alone, and Q' has no others but new ones. -/
def Tod (Q' : List Nat → World → Prop) (F : List Nat) (w w' : World) : Prop := ∃ F', Q' F' w' ∧ Chg F w w' ∧ ∀ k ∈ F', k ∈ F ∨ w.heap.size ≤ k
/-- A call that leaves old memory alone. -/
theorem Tod.same {Q : List Nat → World → Prop} (hQ : Fixed Q) {F : List Nat} {w w' : World} (h : Q F w) (hb : Below w.heap.size w w') : Tod Q F w w' :=
  have hc : Chg [] w w' := Chg.of hb (Nat.le_refl _)
  ⟨F, hQ.keep _ _ _ _ h hc (fun _ _ h => by cases h), hc.mono (fun _ h => by cases h), fun _ h => .inl h⟩
theorem Sep.to {B : Nat} {P Q Q' : List Nat → World → Prop} {w w' : World} (hP : Fixed P) (h : Sep B P Q w) (k : ∀ F, Q F w → Tod Q' F w w') : Sep B P Q' w' ∧ Below B w w' := by
  obtain ⟨hz, G, F, h1, h2, h3, h4⟩ := h
  obtain ⟨F', k1, k2, k3⟩ := k F h2
  refine ⟨⟨Nat.le_trans hz k2.size, G, F', hP.keep _ _ _ _ h1 k2 (fun i hi hf => (h3 i hf).2 hi), k1, fun i hi => ?_, h4⟩, k2.below hz (fun i hi => (h3 i hi).1)⟩
  rcases k3 i hi with h5 | h5
  · exact h3 i h5
  · exact ⟨Nat.le_trans hz h5, fun hg => by have := hP.lt _ _ h1 i hg; omega⟩
theorem Sep.keep {B : Nat} {P Q : List Nat → World → Prop} {w w' : World} (hP : Fixed P) (hQ : Fixed Q) (h : Sep B P Q w) (hb : Below w.heap.size w w') : Sep B P Q w' := by
  obtain ⟨hz, G, F, h1, h2, h3, h4⟩ := h
  have hc : Chg [] w w' := Chg.of hb (Nat.le_refl _)
  exact ⟨Nat.le_trans hz hb.size, G, F, hP.keep _ _ _ _ h1 hc (fun _ _ h => by cases h), hQ.keep _ _ _ _ h2 hc (fun _ _ h => by cases h), h3, h4⟩
end Go.Proofs.YtphhnhldbajaoaaGreatDoor

namespace Go.Proofs.YtphhnhldbajaoaaGreatDoor
open Go.RowKit

structure SideD where
  has : List ByteArray
  tells : List ByteArray
  lost : Bool
abbrev WrD := (Int × Int) × ByteArray
structure DevD where
  s0 : SideD
  s1 : SideD
  waits : List WrD
def devSize (d : DevD) (dev : Int) : Nat := if dev = 0 then d.s0.has.length else if dev = 1 then d.s1.has.length else 0
def devLost (d : DevD) (dev : Int) : Bool := if dev = 0 then d.s0.lost else if dev = 1 then d.s1.lost else false
/-- Is there such a sector? -/
def locOk (d : DevD) (l : Int × Int) : Prop := (l.1 = 0 ∨ l.1 = 1) ∧ 0 ≤ l.2 ∧ l.2 < (devSize d l.1 : Int)

/-- Row g holds the strings l. -/
def Strs (w : World) (g cap : Nat) (l : List ByteArray) : Prop := w.ownsRow 0 9 1 (.slice (some ⟨g, 0, none⟩) l.length cap) l.length (l.map Value.string)
theorem Strs.get {w : World} {g cap : Nat} {l : List ByteArray} (h : Strs w g cap l) (k : Nat) (x : ByteArray) (hx : l[k]? = some x) : w.cell? ⟨g, k, none⟩ = some (.string x) := by
  have hk : k < l.length := (List.getElem?_eq_some_iff.1 hx).1
  rw [World.ownsRow.cellAt h k (by omega), List.getElem?_map, hx]; rfl
theorem Strs.free {w : World} {g cap : Nat} {l : List ByteArray} (h : Strs w g cap l) (k : Nat) : w.frozen? ⟨g, k, none⟩ = false := by
  rcases h.2 with ⟨h', _⟩ | ⟨g', cap', cur, h', _, hg, _⟩
  · simp at h'
  · simp only [Value.slice.injEq, Option.some.injEq, Addr.mk.injEq, and_true, true_and] at h'
    obtain ⟨rfl, _⟩ := h'
    simp [World.frozen?, hg]
theorem Strs.set {w : World} {g cap : Nat} {l : List ByteArray} (h : Strs w g cap l) (k : Nat) (x : ByteArray) : Strs (w.setCell ⟨g, k, none⟩ (.string x)) g cap (l.set k x) := by
  have := (World.ownsRow.stored h k (Value.string x)).1
  unfold Strs
  rw [List.length_set, List.map_set]
  exact this
theorem Strs.lt {w : World} {g cap : Nat} {l : List ByteArray} (h : Strs w g cap l) : g < w.heap.size := ownsRow_lt h g rfl
theorem Strs.chg {S : List Nat} {w w' : World} {g cap : Nat} {l : List ByteArray} (h : Strs w g cap l) (hc : Chg S w w') (hg : g ∉ S) : Strs w' g cap l :=
  ownsRow_of h fun k hk hlt => hc.block k hlt (by simp [Value.ownBlock] at hk; subst hk; exact hg)

def WrV (x : WrD) : List Value := [.int .i64 x.1.1, .int .i64 x.1.2, .string x.2]
/-- Where a device lies. -/
structure DevP where
  b : Nat
  h0 : Nat
  t0 : Nat
  h1 : Nat
  t1 : Nat
  ch0 : Nat
  ct0 : Nat
  ch1 : Nat
  ct1 : Nat
  wv : Value
def DevP.fp (p : DevP) : List Nat := [p.b, p.h0, p.t0, p.h1, p.t1] ++ p.wv.ownBlock.toList

/-- Block p.b is devices d. -/
structure DevAt (w : World) (p : DevP) (d : DevD) : Prop where
  box : Box w p.b 106 #[.slice (some ⟨p.h0, 0, none⟩) d.s0.has.length p.ch0, .slice (some ⟨p.t0, 0, none⟩) d.s0.tells.length p.ct0, .bool d.s0.lost,
    .slice (some ⟨p.h1, 0, none⟩) d.s1.has.length p.ch1, .slice (some ⟨p.t1, 0, none⟩) d.s1.tells.length p.ct1, .bool d.s1.lost, p.wv]
  h0 : Strs w p.h0 p.ch0 d.s0.has
  t0 : Strs w p.t0 p.ct0 d.s0.tells
  h1 : Strs w p.h1 p.ch1 d.s1.has
  t1 : Strs w p.t1 p.ct1 d.s1.tells
  wt : w.ownsRow 0 141 3 p.wv d.waits.length (d.waits.flatMap WrV)
  nd : p.fp.Nodup
  l0 : d.s0.tells.length = d.s0.has.length
  l1 : d.s1.tells.length = d.s1.has.length
  n0 : 1 ≤ d.s0.has.length ∧ d.s0.has.length ≤ 512
  n1 : 1 ≤ d.s1.has.length ∧ d.s1.has.length ≤ 512
  wok : ∀ x ∈ d.waits, locOk d x.1
theorem DevAt.chg {S : List Nat} {w w' : World} {p : DevP} {d : DevD} (h : DevAt w p d) (hc : Chg S w w') (hd : ∀ k ∈ p.fp, k ∉ S) : DevAt w' p d :=
  ⟨h.box.of (hc.block p.b h.box.lt (hd _ (by simp [DevP.fp]))), h.h0.chg hc (hd _ (by simp [DevP.fp])), h.t0.chg hc (hd _ (by simp [DevP.fp])), h.h1.chg hc (hd _ (by simp [DevP.fp])), h.t1.chg hc (hd _ (by simp [DevP.fp])),
    ownsRow_of h.wt fun k hk hlt => hc.block k hlt (hd _ (by simp [DevP.fp, hk])), h.nd, h.l0, h.l1, h.n0, h.n1, h.wok⟩
theorem DevAt.drewN {w : World} {p : DevP} {d : DevD} (h : DevAt w p d) (n : Nat) : DevAt (w.drewN n) p d := ⟨h.box, h.h0, h.t0, h.h1, h.t1, h.wt, h.nd, h.l0, h.l1, h.n0, h.n1, h.wok⟩
/-- From p to p': the same head; what changed lies in p's blocks; p' has no others but new ones. -/
structure Mv (p p' : DevP) (w w' : World) : Prop where
  b : p'.b = p.b
  chg : Chg p.fp w w'
  fp : ∀ k ∈ p'.fp, k ∈ p.fp ∨ w.heap.size ≤ k
theorem Mv.refl (p : DevP) (w : World) : Mv p p w w := ⟨rfl, Chg.refl _ _, fun _ h => .inl h⟩
theorem Mv.trans {p p1 p2 : DevP} {w w1 w2 : World} (h : Mv p p1 w w1) (k : Mv p1 p2 w1 w2) : Mv p p2 w w2 :=
  ⟨k.b.trans h.b, h.chg.then k.chg h.fp, fun i hi => by
    rcases k.fp i hi with h1 | h1
    · exact h.fp i h1
    · exact .inr (Nat.le_trans h.chg.size h1)⟩
/-- Block p.b is devices d', and no other block than p's has changed. -/
def DevTo (p : DevP) (d' : DevD) (w w' : World) : Prop := ∃ p', DevAt w' p' d' ∧ Mv p p' w w'
theorem DevTo.mk {p p' : DevP} {d' : DevD} {w w' : World} (h : DevAt w' p' d') (k : Mv p p' w w') : DevTo p d' w w' := ⟨p', h, k⟩
end Go.Proofs.YtphhnhldbajaoaaGreatDoor

namespace Go.Proofs.YtphhnhldbajaoaaGreatDoor
open Go.RowKit

theorem mayBe_any (n : Int) (w : World) : Calls Tryz.prog 70 #[.int .i64 n] w fun e w' => e = .returned (.bool (decide (1 ≤ n ∧ n ≤ 512))) ∧ w = w' := by
  by_cases h : 1 ≤ n
  · have e : decide (1 ≤ n ∧ n ≤ 512) = decide (n ≤ 512) := by simp [h]
    rw [e]
    clear e
    go_enter Tryz.func70, Tryz.ntmps70
    go_wp2
    go_ret
    exact ⟨rfl, rfl⟩
  · have e : decide (1 ≤ n ∧ n ≤ 512) = false := by simp; omega
    rw [e]
    clear e
    go_enter Tryz.func70, Tryz.ntmps70
    go_wp2
    go_ret
    exact ⟨rfl, rfl⟩

set_option maxRecDepth 100000 in
theorem dsize_any (p : DevP) (d : DevD) (dev : Int) (w : World) (h : DevAt w p d) : Calls Tryz.prog 55 #[.pointer (some ⟨p.b, 0, none⟩), .int .i64 dev] w fun e w' => e = .returned (.int .i64 (devSize d dev : Nat)) ∧ w = w' := by
  have c0 : w.cell? ⟨p.b, 0, none⟩ = some (.slice (some ⟨p.h0, 0, none⟩) d.s0.has.length p.ch0) := h.box.cell 0 _ rfl
  have c3 : w.cell? ⟨p.b, 3, none⟩ = some (.slice (some ⟨p.h1, 0, none⟩) d.s1.has.length p.ch1) := h.box.cell 3 _ rfl
  clear h
  by_cases h0 : dev < 0
  · rw [show devSize d dev = 0 from by unfold devSize; rw [if_neg (by omega), if_neg (by omega)]]
    go_enter Tryz.func55, Tryz.ntmps55
    go_wp2
    go_ret
    exact ⟨rfl, rfl⟩
  · by_cases h2 : 2 ≤ dev
    · rw [show devSize d dev = 0 from by unfold devSize; rw [if_neg (by omega), if_neg (by omega)]]
      go_enter Tryz.func55, Tryz.ntmps55
      go_wp2
      go_ret
      exact ⟨rfl, rfl⟩
    · have hd : dev = 0 ∨ dev = 1 := by omega
      clear h0 h2
      rcases hd with rfl | rfl
      · rw [show devSize d 0 = d.s0.has.length from rfl]
        go_enter Tryz.func55, Tryz.ntmps55
        go_wp2
        go_ret
        exact ⟨rfl, rfl⟩
      · rw [show devSize d 1 = d.s1.has.length from rfl]
        go_enter Tryz.func55, Tryz.ntmps55
        go_wp2
        go_ret
        exact ⟨rfl, rfl⟩

end Go.Proofs.YtphhnhldbajaoaaGreatDoor
