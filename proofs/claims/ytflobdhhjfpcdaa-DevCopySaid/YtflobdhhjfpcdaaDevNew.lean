/-
  Contracts of package dev: newSide, New.
-/
import Derived.Test.YtflobdhhjfpcdaaDevA
import Derived.Deep.OwnRows
namespace Go.Proofs.Ytflobdhhjfpcdaa
open Go.RowKit

def emp : ByteArray := ⟨#[]⟩
theorem infoStr : (Try.prog.info? 9).map (fun i => (i.zero, i.size, i.bytes)) = some (some (.string ⟨#[]⟩), 1, 16) := by kernel_rfl
theorem Strs.made (w : World) (n : Nat) (hn : n ≤ 1000) : Strs (w.alloc (.cells (madeCells #[Value.string ⟨#[]⟩] n) 9)) w.heap.size n (List.replicate n emp) := by
  refine ⟨by simp, .inr ⟨w.heap.size, n, _, by simp, Nat.zero_le _, (MapKept.heap_alloc w _).1, by simp, by unfold maxLen; omega, by simp [size_madeCells], ?_⟩⟩
  apply List.ext_getElem?
  intro i
  by_cases hi : i < n
  · simp [madeCells, hi, Nat.mod_one, emp]
  · simp [madeCells, hi]

theorem sizeSide : (Try.prog.info? 55).map (·.size) = some 3 := by kernel_rfl
set_option maxRecDepth 100000 in
theorem newSide_any (n : Nat) (hn : n ≤ 1000) (w : World) : Calls Try.prog 23 #[.int .i64 n] w fun e w' => ∃ h t, e = .returned (.agg #[.slice (some ⟨h, 0, none⟩) n n, .slice (some ⟨t, 0, none⟩) n n, .bool false]) ∧
    Strs w' h n (List.replicate n emp) ∧ Strs w' t n (List.replicate n emp) ∧ h ≠ t ∧ w.heap.size ≤ h ∧ w.heap.size ≤ t ∧ Below w.heap.size w w' := by
  have hmk := fun W => run_make_row' (P := Try.prog) 53 9 (.string ⟨#[]⟩) 16 Try.underlying53 infoStr rfl .i64 .i64 n (by omega) (by omega) W
  go_enter Try.func23, Try.ntmps23
  go_wp2_with fail
  go_region
  all_goals
    go_wp2
    generalize hm : Obj.cells (madeCells #[Value.string ⟨#[]⟩] n) 9 = m
  · refine bodyPost_ret (results_cell_row rfl _ _ w.heap.size 55 _ (0, 0) _ rfl (((Box.new w 55 _).alloc m).alloc m) Try.underlying55 rfl sizeSide) rfl ?_
    have s1 := Strs.made (w.alloc (.cells #[.slice (some ⟨w.heap.size + 1, 0, none⟩) n n, .slice (some ⟨w.heap.size + 1 + 1, 0, none⟩) n n, .bool false] 55)) n hn
    have s2 := Strs.made ((w.alloc (.cells #[.slice (some ⟨w.heap.size + 1, 0, none⟩) n n, .slice (some ⟨w.heap.size + 1 + 1, 0, none⟩) n n, .bool false] 55)).alloc m) n hn
    rw [hm] at s1 s2
    simp only [size_alloc] at s1 s2
    exact ⟨w.heap.size + 1, w.heap.size + 1 + 1, rfl, World.ownsRow.alloc s1 m, s2, by omega, by omega, by omega, ((((Below.refl _ _).alloc (Nat.le_refl _) _).alloc (by rw [size_alloc]; omega) m).alloc (by rw [size_alloc, size_alloc]; omega) m).drew⟩
  · refine bodyPost_ret (results_cell_row rfl _ _ w.heap.size 55 _ (0, 0) _ rfl (((Box.new w 55 _).alloc m).alloc m) Try.underlying55 rfl sizeSide) rfl ?_
    have s1 := Strs.made (w.alloc (.cells #[.slice (some ⟨w.heap.size + 1 + 1, 0, none⟩) n n, .slice (some ⟨w.heap.size + 1, 0, none⟩) n n, .bool false] 55)) n hn
    have s2 := Strs.made ((w.alloc (.cells #[.slice (some ⟨w.heap.size + 1 + 1, 0, none⟩) n n, .slice (some ⟨w.heap.size + 1, 0, none⟩) n n, .bool false] 55)).alloc m) n hn
    rw [hm] at s1 s2
    simp only [size_alloc] at s1 s2
    exact ⟨w.heap.size + 1 + 1, w.heap.size + 1, rfl, s2, World.ownsRow.alloc s1 m, by omega, by omega, by omega, ((((Below.refl _ _).alloc (Nat.le_refl _) _).alloc (by rw [size_alloc]; omega) m).alloc (by rw [size_alloc, size_alloc]; omega) m).drew⟩

def newS (n : Nat) : SideD := ⟨List.replicate n emp, List.replicate n emp, false⟩
def newD (m n : Nat) : DevD := ⟨newS m, newS n, []⟩

theorem dnew_bad (a b : Int) (w : World) (h : ¬ ((1 ≤ a ∧ a ≤ 512) ∧ (1 ≤ b ∧ b ≤ 512))) : Calls Try.prog 6 #[.int .i64 a, .int .i64 b] w fun e w' => e = .returned (.pointer none) ∧ w = w' := by
  by_cases ha : 1 ≤ a ∧ a ≤ 512
  · have e1 := Lib.hid (decide_eq_true ha)
    have e2 := Lib.hid (show decide (1 ≤ b ∧ b ≤ 512) = false from decide_eq_false (fun hb => h ⟨ha, hb⟩))
    clear h ha
    go_enter Try.func6, Try.ntmps6
    go_wp2_with fail
    refine (mayBe_any a _).mono ?_
    rintro e w' ⟨rfl, rfl⟩
    rw [e1.out]
    go_wp2_with fail
    refine (mayBe_any b _).mono ?_
    rintro e w' ⟨rfl, rfl⟩
    rw [e2.out]
    go_wp2
    go_ret
    exact ⟨rfl, rfl⟩
  · have e1 := Lib.hid (decide_eq_false ha)
    clear h ha
    go_enter Try.func6, Try.ntmps6
    go_wp2_with fail
    refine (mayBe_any a _).mono ?_
    rintro e w' ⟨rfl, rfl⟩
    rw [e1.out]
    go_wp2
    go_ret
    exact ⟨rfl, rfl⟩

/-- New devices. -/
def NewDev (w : World) (m n : Nat) (e : Ending) (w' : World) : Prop := ∃ p, e = .returned (.pointer (some ⟨p.b, 0, none⟩)) ∧ DevAt w' p (newD m n) ∧ (∀ k ∈ p.fp, w.heap.size ≤ k) ∧ Below w.heap.size w w'

set_option maxRecDepth 100000 in
theorem dnew_ok (m n : Nat) (w : World) (hm : 1 ≤ m ∧ m ≤ 512) (hn : 1 ≤ n ∧ n ≤ 512) : Calls Try.prog 6 #[.int .i64 m, .int .i64 n] w (NewDev w m n) := by
  have e1 := Lib.hid (show decide (1 ≤ (m : Int) ∧ (m : Int) ≤ 512) = true from decide_eq_true (by omega))
  have e2 := Lib.hid (show decide (1 ≤ (n : Int) ∧ (n : Int) ≤ 512) = true from decide_eq_true (by omega))
  go_enter Try.func6, Try.ntmps6
  go_wp2_with fail
  refine (mayBe_any m _).mono ?_
  rintro e w' ⟨rfl, rfl⟩
  rw [e1.out]
  go_wp2_with fail
  refine (mayBe_any n _).mono ?_
  rintro e w' ⟨rfl, rfl⟩
  rw [e2.out]
  go_wp2_with fail
  refine (newSide_any m (by omega) _).mono ?_
  rintro e w1 ⟨h0, t0, rfl, sh0, st0, hne0, lh0, lt0, hb1⟩
  have S1 := Lib.hid (And.intro sh0 st0)
  have B1 := Lib.hid hb1
  clear sh0 st0 hb1
  go_wp2_with fail
  refine (newSide_any n (by omega) _).mono ?_
  rintro e w2 ⟨h1, t1, rfl, sh1, st1, hne1, lh1, lt1, hb2⟩
  have l1 := S1.out.1.lt
  have l2 := S1.out.2.lt
  have S2 := Lib.hid (And.intro sh1 st1)
  have l3 := sh1.lt
  have l4 := st1.lt
  have s0 := hb2.size
  have s1 := B1.out.size
  have B2 := Lib.hid hb2
  clear sh1 st1 hb2
  go_wp2
  go_ret
  have C1 : Chg [] w1 w2 := Chg.of B2.out (Nat.le_refl _)
  have nin : ∀ k : Nat, k ∉ ([] : List Nat) := fun _ h => by cases h
  have C2 : ∀ o, Chg [] w2 (w2.alloc o) := fun o => Chg.of ((Below.refl _ _).alloc (Nat.le_refl _) o) (Nat.le_refl _)
  refine ⟨⟨w2.heap.size, h0, t0, h1, t1, m, m, n, n, .slice none 0 0⟩, rfl, ⟨?_, (S1.out.1.chg C1 (nin _)).chg (C2 _) (nin _), (S1.out.2.chg C1 (nin _)).chg (C2 _) (nin _), S2.out.1.chg (C2 _) (nin _), S2.out.2.chg (C2 _) (nin _), World.ownsRow_nil _ _ _ _, ?_, rfl, rfl, ?_, ?_, ?_⟩, ?_, ?_⟩
  · have := Box.new w2 60 #[.slice (some ⟨h0, 0, none⟩) m m, .slice (some ⟨t0, 0, none⟩) m m, .bool false, .slice (some ⟨h1, 0, none⟩) n n, .slice (some ⟨t1, 0, none⟩) n n, .bool false, .slice none 0 0]
    simpa [newD, newS] using this
  · simp only [DevP.fp, Value.ownBlock, Option.toList_none, List.append_nil, List.nodup_cons, List.mem_cons, List.not_mem_nil, not_or, or_false, not_false_eq_true, List.nodup_nil, and_true]
    omega
  · simpa [newD, newS] using hm
  · simpa [newD, newS] using hn
  · intro x hx; cases hx
  · intro k hk
    simp only [DevP.fp, Value.ownBlock, Option.toList_none, List.append_nil, List.mem_cons, List.not_mem_nil, or_false] at hk
    omega
  · exact (B1.out.trans (B2.out.mono B1.out.size)).trans ((Below.refl _ _).alloc (by omega) _)
end Go.Proofs.Ytflobdhhjfpcdaa
