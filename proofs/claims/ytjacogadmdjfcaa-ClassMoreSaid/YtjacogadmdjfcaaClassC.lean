/-
  Contracts of package class and its reference: Choose, plain.
-/
import Derived.Test.YtjacogadmdjfcaaClassB
import Derived.Deep.QuietTactic
import Derived.BigQuiet
namespace Go.Proofs.Ytjacogadmdjfcaa
open Go.RowKit
open Go.ChangeShapes Go.WideShapes Go.ChangeAt

def chooseP (p : PolD) (k s : Int) (l : List Int) : List Int × Int :=
  match l with
  | [x, y] =>
    if chkP p = 0 ∧ (k = 0 ∨ k = 1) ∧ inB s 960 = true ∧ 0 ≤ x ∧ 0 ≤ y then
      (if wantF p k s = true ∧ 0 < y then (if wantB p k = true ∧ 0 < x then ([1, 0], 0) else ([1], 0)) else if 0 < x then ([0], 0) else ([], 6))
    else ([], 1)
  | _ => ([], 1)
theorem choose_bad {p : PolD} {k s : Int} {l : List Int} (h : ¬ (chkP p = 0 ∧ (k = 0 ∨ k = 1) ∧ inB s 960 = true)) : chooseP p k s l = ([], 1) := by
  unfold chooseP
  split
  · rw [if_neg (by intro h'; exact h ⟨h'.1, h'.2.1, h'.2.2.1⟩)]
  · rfl
theorem choose_len {p : PolD} {k s : Int} {l : List Int} (h : l.length ≠ 2) : chooseP p k s l = ([], 1) := by
  unfold chooseP
  split
  · exact absurd rfl h
  · rfl
theorem choose_neg {p : PolD} {k s x y : Int} (h : ¬ (0 ≤ x ∧ 0 ≤ y)) : chooseP p k s [x, y] = ([], 1) := by
  unfold chooseP
  simp only
  rw [if_neg (by intro h'; exact h ⟨h'.2.2.2.1, h'.2.2.2.2⟩)]
theorem choose_good {p : PolD} {k s x y : Int} (h1 : chkP p = 0) (h2 : k = 0 ∨ k = 1) (h3 : inB s 960 = true) (hx : 0 ≤ x) (hy : 0 ≤ y) :
    chooseP p k s [x, y] = (if wantF p k s = true ∧ 0 < y then (if wantB p k = true ∧ 0 < x then ([1, 0], 0) else ([1], 0)) else if 0 < x then ([0], 0) else ([], 6)) := by
  unfold chooseP
  simp only
  rw [if_pos ⟨h1, h2, h3, hx, hy⟩]
theorem wantB_le {p : PolD} {k s : Int} (h : wantF p k s = false) : wantB p k = false := by
  unfold wantF at h
  unfold wantB
  simp at h ⊢
  intro hk hm
  simp [hk, hm] at h

/-- What Choose tells: a slice of ints, an error. -/
def SlRes (n : Nat) (w : World) (l : List Int × Int) (e : Ending) (w' : World) : Prop :=
  ∃ a c, e = .returned (.tuple #[.slice a l.1.length c, .int .i64 l.2]) ∧ Sl w' (Value.int .i64) a l.1 ∧ Below n w w'
theorem SlRes.nil {n : Nat} {w w' : World} {r : List Int × Int} {er : Int} (h : r = ([], er)) (hb : Below n w w') : SlRes n w r (.returned (.tuple #[.slice none 0 0, .int .i64 er])) w' := by
  subst h
  exact ⟨none, 0, rfl, Sl.nil, hb⟩
theorem SlRes.one {n : Nat} {w v : World} {r : List Int × Int} {er x : Int} {t : TypeId} (h : r = ([x], er)) (hb : Below n w v) (hn : n ≤ v.heap.size) :
    SlRes n w r (.returned (.tuple #[.slice (some ⟨v.heap.size, 0, none⟩) 1 1, .int .i64 er])) (v.alloc (.cells #[.int .i64 x] t (0, 0))) := by
  subst h
  have B := Box.new v t #[.int .i64 x]
  refine ⟨_, 1, rfl, Sl.of fun i y hy => ?_, hb.alloc hn _⟩
  rw [add_plain]
  match i, hy with
  | 0, hy => simp at hy; subst hy; exact B.cell 0 _ rfl
theorem SlRes.two {n : Nat} {w v : World} {r : List Int × Int} {er x y : Int} {t : TypeId} (h : r = ([x, y], er)) (hb : Below n w v) (hn : n ≤ v.heap.size) :
    SlRes n w r (.returned (.tuple #[.slice (some ⟨v.heap.size, 0, none⟩) 2 2, .int .i64 er])) (v.alloc (.cells #[.int .i64 x, .int .i64 y] t (0, 0))) := by
  subst h
  have B := Box.new v t #[.int .i64 x, .int .i64 y]
  refine ⟨_, 2, rfl, Sl.of fun i z hz => ?_, hb.alloc hn _⟩
  rw [add_plain]
  match i, hz with
  | 0, hz => simp at hz; subst hz; exact B.cell 0 _ rfl
  | 1, hz => simp at hz; subst hz; exact B.cell 1 _ rfl
end Go.Proofs.Ytjacogadmdjfcaa
