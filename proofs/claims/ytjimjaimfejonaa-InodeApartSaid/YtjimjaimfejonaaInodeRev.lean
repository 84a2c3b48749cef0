/-
  slices.Reverse of four bytes; a word turned round.
-/
import Derived.Test.YtjimjaimfejonaaInodeMath
import Derived.BigRegion
import Derived.Deep.QuietTactic
import Derived.Laws.IdiomStrings
namespace Go.Proofs.Ytjimjaimfejonaa
open Go.RowKit

set_option maxRecDepth 100000 in
set_option maxHeartbeats 2000000 in
theorem rev4 (g cap : Nat) (c0 c1 c2 c3 : Value) (w : World) (h0 : w.cell? ⟨g, 0, none⟩ = some c0) (h1 : w.cell? ⟨g, 1, none⟩ = some c1) (h2 : w.cell? ⟨g, 2, none⟩ = some c2) (h3 : w.cell? ⟨g, 3, none⟩ = some c3)
    (f : ∀ j, j < 4 → w.frozen? ⟨g, j, none⟩ = false) (b0 : ∃ x, c0 = byV x) (b1 : ∃ x, c1 = byV x) (b2 : ∃ x, c2 = byV x) (b3 : ∃ x, c3 = byV x) :
    Calls Try.prog 42 #[.slice (some ⟨g, 0, none⟩) 4 cap] w fun e w' => e = .returned (.tuple #[]) ∧ w'.cell? ⟨g, 0, none⟩ = some c3 ∧ w'.cell? ⟨g, 1, none⟩ = some c2 ∧ w'.cell? ⟨g, 2, none⟩ = some c1 ∧ w'.cell? ⟨g, 3, none⟩ = some c0 ∧ Only g w w' := by
  obtain ⟨x0, rfl⟩ := b0
  obtain ⟨x1, rfl⟩ := b1
  obtain ⟨x2, rfl⟩ := b2
  obtain ⟨x3, rfl⟩ := b3
  unfold byV at *
  generalize (x0.toNat : Int) = n0 at *
  generalize (x1.toNat : Int) = n1 at *
  generalize (x2.toNat : Int) = n2 at *
  generalize (x3.toNat : Int) = n3 at *
  have f0 := f 0 (by decide)
  have f1 := f 1 (by decide)
  have f2 := f 2 (by decide)
  have f3 := f 3 (by decide)
  have S := fun (W : World) (a b : Nat) (v : Value) (h : a ≠ b) => World.cell?_setCell_other W ⟨g, a, none⟩ ⟨g, b, none⟩ v (fun e => h (by injection e))
  have T := fun (W : World) (a : Nat) (u v : Value) (h : W.cell? ⟨g, a, none⟩ = some u) => World.cell?_setCell_same W ⟨g, a, none⟩ v h
  have Z := fun (W : World) (a b : Nat) (v : Value) => World.frozen?_setCell W ⟨g, a, none⟩ ⟨g, b, none⟩ v
  have q3 : (w.setCell ⟨g, 0, none⟩ (.int .u8 n3)).cell? ⟨g, 3, none⟩ = some (.int .u8 n3) := (S _ _ _ _ (by decide)).trans h3
  have k3 : (w.setCell ⟨g, 0, none⟩ (.int .u8 n3)).frozen? ⟨g, 3, none⟩ = false := (Z ..).trans f3
  obtain ⟨w1, hw1⟩ : ∃ w1, w1 = ((w.setCell ⟨g, 0, none⟩ (.int .u8 n3)).setCell ⟨g, 3, none⟩ (.int .u8 n0)).drew := ⟨_, rfl⟩
  have r1 : w1.cell? ⟨g, 1, none⟩ = some (.int .u8 n1) := by rw [hw1]; exact ((S _ _ _ _ (by decide)).trans (S _ _ _ _ (by decide))).trans h1
  have r2 : w1.cell? ⟨g, 2, none⟩ = some (.int .u8 n2) := by rw [hw1]; exact ((S _ _ _ _ (by decide)).trans (S _ _ _ _ (by decide))).trans h2
  have r0 : w1.cell? ⟨g, 0, none⟩ = some (.int .u8 n3) := by rw [hw1]; exact (S _ _ _ _ (by decide)).trans (T _ _ _ _ h0)
  have r3 : w1.cell? ⟨g, 3, none⟩ = some (.int .u8 n0) := by rw [hw1]; exact T _ _ _ _ q3
  have e1 : w1.frozen? ⟨g, 1, none⟩ = false := by rw [hw1]; exact ((Z ..).trans (Z ..)).trans f1
  have e2 : w1.frozen? ⟨g, 2, none⟩ = false := by rw [hw1]; exact ((Z ..).trans (Z ..)).trans f2
  have HO : Hid (Only g w w1) := by
    show Only g w w1
    rw [hw1]
    have h := (Only.set g 0 w (.int .u8 n3)).trans (Only.set g 3 _ (.int .u8 n0))
    exact ⟨h.os, h.tape, h.output, h.size, h.block⟩
  have q2 : (w1.setCell ⟨g, 1, none⟩ (.int .u8 n2)).cell? ⟨g, 2, none⟩ = some (.int .u8 n2) := (S _ _ _ _ (by decide)).trans r2
  have k2 : (w1.setCell ⟨g, 1, none⟩ (.int .u8 n2)).frozen? ⟨g, 2, none⟩ = false := (Z ..).trans e2
  obtain ⟨w2, hw2⟩ : ∃ w2, w2 = ((w1.setCell ⟨g, 1, none⟩ (.int .u8 n2)).setCell ⟨g, 2, none⟩ (.int .u8 n1)).drew := ⟨_, rfl⟩
  have HF : Hid (w2.cell? ⟨g, 0, none⟩ = some (.int .u8 n3) ∧ w2.cell? ⟨g, 1, none⟩ = some (.int .u8 n2) ∧ w2.cell? ⟨g, 2, none⟩ = some (.int .u8 n1) ∧ w2.cell? ⟨g, 3, none⟩ = some (.int .u8 n0) ∧ Only g w w2) := by
    show _ ∧ _
    rw [hw2]
    have h := HO.out.trans ((Only.set g 1 w1 (.int .u8 n2)).trans (Only.set g 2 _ (.int .u8 n1)))
    exact ⟨((S _ _ _ _ (by decide)).trans (S _ _ _ _ (by decide))).trans r0, (S _ _ _ _ (by decide)).trans (T _ _ _ _ r1), T _ _ _ _ q2, ((S _ _ _ _ (by decide)).trans (S _ _ _ _ (by decide))).trans r3, ⟨h.os, h.tape, h.output, h.size, h.block⟩⟩
  have HW1 := Lib.hid hw1
  have HW2 := Lib.hid hw2
  clear f hw1 hw2 S T Z r0 r3 HO
  go_enter Try.func42, Try.ntmps42
  go_wp2
  refine wp_loop_rounds 3 ?_
  rw [rounds_succ]
  go_wp2_with fail
  go_region
  rw [← HW1.out]
  go_wp2_with fail
  rw [rounds_succ]
  go_wp2_with fail
  go_region
  rw [← HW2.out]
  go_wp2_with fail
  rw [rounds_succ]
  go_wp2_with fail
  go_end0
  exact ⟨rfl, HF.out⟩
end Go.Proofs.Ytjimjaimfejonaa
