/-
  A block of the call's own: its cells; a change of that block alone.
-/
import Derived.Test.YtlkkgboaicjaiaaFrame
import Derived.Maps.AppendAt
namespace Go.Proofs.Ytlkkgboaicjaiaa
open Go.RowKit

/-- Block b holds cs. -/
def Box (w : World) (b : Nat) (t : TypeId) (cs : Array Value) : Prop := w.heap[b]? = some (.cells cs t (0, 0))
theorem Box.cell {w : World} {b : Nat} {t : TypeId} {cs : Array Value} (h : Box w b t cs) (j : Nat) (v : Value) (hv : cs[j]? = some v) : w.cell? ⟨b, j, none⟩ = some v := by
  unfold Box at h
  simp only [World.cell?, h]
  exact hv
theorem Box.free {w : World} {b : Nat} {t : TypeId} {cs : Array Value} (h : Box w b t cs) (j : Nat) : w.frozen? ⟨b, j, none⟩ = false := by
  unfold Box at h
  simp [World.frozen?, h]
theorem Box.set {w : World} {b : Nat} {t : TypeId} {cs : Array Value} (h : Box w b t cs) (j : Nat) (v : Value) : Box (w.setCell ⟨b, j, none⟩ v) b t (cs.setIfInBounds j v) :=
  heap_setCell_same w b j cs t v h
theorem Box.lt {w : World} {b : Nat} {t : TypeId} {cs : Array Value} (h : Box w b t cs) : b < w.heap.size := lt_of_block h
theorem Box.of {w w' : World} {b : Nat} {t : TypeId} {cs : Array Value} (h : Box w b t cs) (e : w'.heap[b]? = w.heap[b]?) : Box w' b t cs := by unfold Box; rw [e]; exact h
theorem Box.keep {w w' : World} {b n : Nat} {t : TypeId} {cs : Array Value} (h : Box w b t cs) (hb : Below n w w') (hn : b < n) : Box w' b t cs := h.of (hb.block b hn)
theorem Box.new (w : World) (t : TypeId) (cs : Array Value) : Box (w.alloc (.cells cs t (0, 0))) w.heap.size t cs := (MapKept.heap_alloc w _).1
theorem Box.alloc {w : World} {b : Nat} {t : TypeId} {cs : Array Value} (h : Box w b t cs) (o : Obj) : Box (w.alloc o) b t cs := h.keep ((Below.refl _ _).alloc (Nat.le_refl _) o) h.lt

/-- Block b alone has changed (and blocks were made). -/
def Only (b : Nat) (w w' : World) : Prop := w.grownBy w' (some b)
theorem Only.refl (b : Nat) (w : World) : Only b w w := ⟨rfl, rfl, rfl, Nat.le_refl _, fun _ _ _ => rfl⟩
theorem Only.trans {b : Nat} {w w1 w2 : World} (h : Only b w w1) (k : Only b w1 w2) : Only b w w2 :=
  ⟨k.os.trans h.os, k.tape.trans h.tape, k.output.trans h.output, Nat.le_trans h.size k.size, fun i hi hne => (k.block i (Nat.lt_of_lt_of_le hi h.size) hne).trans (h.block i hi hne)⟩
theorem Only.set (b j : Nat) (w : World) (v : Value) : Only b w (w.setCell ⟨b, j, none⟩ v) :=
  ⟨rfl, rfl, rfl, Nat.le_of_eq (Array.size_modify ..).symm, fun i _ hne => heap_setCell_other w _ i v (fun e => hne (by rw [e]))⟩
theorem Only.of {b n : Nat} {w w' : World} (h : Below n w w') (hn : w.heap.size ≤ n) : Only b w w' := ⟨h.os, h.tape, h.output, h.size, fun i hi _ => h.block i (Nat.lt_of_lt_of_le hi hn)⟩
theorem Only.below {b : Nat} {w w' : World} (h : Only b w w') (hb : b < w.heap.size) : Below b w w' := ⟨h.os, h.tape, h.output, h.size, fun i hi => h.block i (Nat.lt_trans hi hb) (fun e => by injection e with e; omega)⟩
theorem Only.below' {b n : Nat} {w w' : World} (h : Only b w w') (hb : n ≤ b) (hn : n ≤ w.heap.size) : Below n w w' := ⟨h.os, h.tape, h.output, h.size, fun i hi => h.block i (Nat.lt_of_lt_of_le hi hn) (fun e => by injection e with e; omega)⟩
theorem Only.box {b k : Nat} {w w' : World} {t : TypeId} {cs : Array Value} (h : Only b w w') (hk : k ≠ b) (hx : Box w k t cs) : Box w' k t cs := hx.of (h.block k hx.lt (fun e => hk (by injection e)))
theorem Only.row {b : Nat} {w w' : World} {base : Nat} {e : TypeId} {sz : Nat} {v : Value} {n : Nat} {xs : List Value} (h : Only b w w') (hv : v.ownBlock ≠ some b) (hx : w.ownsRow base e sz v n xs) : w'.ownsRow base e sz v n xs := by
  refine ⟨hx.1, ?_⟩
  rcases hx.2 with ⟨rfl, h0⟩ | ⟨g, cap, cur, rfl, hg, hh, h3⟩
  · exact .inl ⟨rfl, h0⟩
  · exact .inr ⟨g, cap, cur, rfl, hg, by rw [h.block g (lt_of_block hh) (fun e => hv e)]; exact hh, h3⟩
end Go.Proofs.Ytlkkgboaicjaiaa
