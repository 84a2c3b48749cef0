/-
  The cache's bounds: no program here but its blocks.
-/
import Derived.Test.YtphhnhldbajaoaaGreatDoorMg4
namespace Go.Proofs.YtphhnhldbajaoaaGreatDoor
open Go.RowKit Go.ChangeShapes Go.WideShapes Go.ChangeAt

def SameCT (d e : ArcD) : Prop := e.c = d.c ∧ e.t = d.t
theorem SameCT.refl (d : ArcD) : SameCT d d := ⟨rfl, rfl⟩
theorem SameCT.trans {d e f : ArcD} (h : SameCT d e) (k : SameCT e f) : SameCT d f := ⟨k.1.trans h.1, k.2.trans h.2⟩
theorem SameCT.ok {d e : ArcD} (h : SameCT d e) (k : OkA d) : OkA e := by unfold OkA at *; rw [h.1, h.2]; exact k
theorem put_ct (d : ArcD) (i : Nat) (x : List ByteArray) : SameCT d (d.put i x) := ⟨rfl, rfl⟩
theorem old_ct (d : ArcD) (i : Nat) : SameCT d (oldA d i).1 := by
  unfold oldA
  split
  · exact SameCT.refl d
  · exact put_ct d i _
theorem move_ct (d : ArcD) (i j : Nat) : SameCT d (moveA d i j).1 := by
  unfold moveA
  split
  · exact old_ct d i
  · exact (old_ct d i).trans (put_ct _ j _)
theorem room_ct (d : ArcD) (e : Bool) : SameCT d (roomA d e).1 := by
  unfold roomA
  split
  · exact move_ct d 2 4
  · exact move_ct d 3 5
theorem new_ct (d : ArcD) : SameCT d (newA d).1 := by
  unfold newA
  split
  · split
    · exact old_ct d 2
    · exact (old_ct d 4).trans (room_ct _ _)
  · split
    · split
      · exact (old_ct d 5).trans (room_ct _ _)
      · exact room_ct _ _
    · exact SameCT.refl d
theorem again_ct (d : ArcD) (k : ByteArray) (i : Nat) (e : Bool) : SameCT d (againA d k i e).1 := (room_ct d e).trans ((put_ct _ i _).trans (put_ct _ 3 _))
theorem step_pos (d : ArcD) (i j : Nat) : 1 ≤ stepA d i j := by unfold stepA; omega
theorem keep_ok {d : ArcD} (h : OkA d) (k : ByteArray) : OkA (keepA d k).1 := by
  unfold keepA
  obtain ⟨h1, h2, h3, h4⟩ := h
  split
  · refine (again_ct _ _ _ _).ok ?_
    have := step_pos d 4 5
    exact ⟨h1, h2, by show (0 : Int) ≤ min d.c (d.t + stepA d 4 5); omega, by show min d.c (d.t + stepA d 4 5) ≤ d.c; omega⟩
  · split
    · refine (again_ct _ _ _ _).ok ?_
      have := step_pos d 5 4
      exact ⟨h1, h2, by show (0 : Int) ≤ max 0 (d.t - stepA d 5 4); omega, by show max 0 (d.t - stepA d 5 4) ≤ d.c; omega⟩
    · exact ((new_ct d).trans (put_ct _ 2 _)).ok ⟨h1, h2, h3, h4⟩
theorem ask_ok {d : ArcD} (h : OkA d) (k : ByteArray) : OkA (askA d k).1 := by
  unfold askA
  split
  · exact h
  · split
    · exact ((put_ct d 2 _).trans (put_ct _ 3 _)).ok h
    · split
      · exact ((put_ct d 3 _).trans (put_ct _ 3 _)).ok h
      · exact keep_ok h k
/-- The cache b, that holds d, beside P. -/
def OneA (B : Nat) (P : List Nat → World → Prop) (b : Nat) (d : ArcD) (w : World) : Prop := Sep B P (ArcF b d) w
section
variable {B : Nat} {P : List Nat → World → Prop} (hP : Fixed P) {b : Nat} {d : ArcD} {w : World} (h : OneA B P b d w)
include hP h
theorem OneA.keep {w' : World} (hb : Below w.heap.size w w') : OneA B P b d w' := Sep.keep hP (fixed_arc b d) h hb
theorem one_ask (k : ByteArray) (hlen : d.len ≤ 8000) (hok : OkA d) : Calls Tryz.prog 87 #[.pointer (some ⟨b, 0, none⟩), .string k] w fun e w' => e = .returned (.tuple #[.bool (askA d k).2.1, .string (askA d k).2.2]) ∧ OneA B P b (askA d k).1 w' ∧ Below B w w' := by
  obtain ⟨hz, G, F, h1, h2, h3, h4⟩ := id h
  refine (ask_any b F d k w h2 hlen hok).mono ?_
  rintro e w' ⟨rfl, F', k1, k2, k3⟩
  refine ⟨rfl, ⟨Nat.le_trans hz k2.size, G, F', hP.keep _ _ _ _ h1 k2 (fun i hi hf => (h3 i hf).2 hi), k1, fun i hi => ?_, h4⟩, k2.below hz (fun i hi => (h3 i hi).1)⟩
  rcases k3 i hi with h5 | h5
  · exact h3 i h5
  · exact ⟨Nat.le_trans hz h5, fun hg => by have := hP.lt _ _ h1 i hg; omega⟩
theorem one_has (k : ByteArray) (hlen : d.len ≤ 8000) (hok : OkA d) : Calls Tryz.prog 89 #[.pointer (some ⟨b, 0, none⟩), .string k] w fun e w' => e = .returned (.bool (hasA d 2 k || hasA d 3 k)) ∧ OneA B P b d w' ∧ Below w.heap.size w w' := by
  obtain ⟨hz, G, F, h1, ⟨v, h2, _⟩, h3, h4⟩ := id h
  exact (hasq_any b v d k w h2 (by omega) hok).mono fun e w' hh => ⟨hh.1, OneA.keep hP h hh.2, hh.2⟩
omit hP in
end
end Go.Proofs.YtphhnhldbajaoaaGreatDoor
