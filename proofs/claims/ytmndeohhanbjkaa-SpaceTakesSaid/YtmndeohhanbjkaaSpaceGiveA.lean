/-
  Contracts of package space: Give.
-/
import Derived.Test.YtmndeohhanbjkaaSpaceReach
import Derived.Deep.RegionHeld3
import Derived.Deep.RegionLaw
import Derived.Deep.RegionWith
import Derived.Deep.QuietTactic
import Derived.BigQuiet
namespace Go.Proofs.Ytmndeohhanbjkaa
open Go.RowKit Go.ChangeShapes Go.WideShapes Go.ChangeAt

def joinP (j x : Int × Int) : Int × Int := (min j.1 x.1, max (j.1 + j.2) (x.1 + x.2) - min j.1 x.1)
def foldJ (r : Int × Int) : Int × Int → List (Int × Int) → Option (Int × Int)
  | j, [] => some j
  | j, x :: t => if meetB x r = true then none else foldJ r (joinP j x) t
def giveF (l : List (Int × Int)) (r : Int × Int) : Nat := fromN l r.1
def giveT (l : List (Int × Int)) (r : Int × Int) : Nat := downTo l (r.1 + r.2) (fromN l r.1) l.length
def giveL (l : List (Int × Int)) (r : Int × Int) : List (Int × Int) × Bool :=
  if mayL l = true ∧ mayL [r] = true then
    match foldJ r r ((l.drop (giveF l r)).take (giveT l r - giveF l r)) with
    | some j => (l.take (giveF l r) ++ [j] ++ l.drop (giveT l r), true)
    | none => ([], false)
  else ([], false)
theorem join_may {j x : Int × Int} (hj : MayR j) (hx : MayR x) : MayR (joinP j x) := by
  unfold MayR joinP at *
  simp only
  omega
theorem give_no {l : List (Int × Int)} {r : Int × Int} (h : mayL l = false ∨ mayL [r] = false) : giveL l r = ([], false) := by
  unfold giveL
  rw [if_neg (by intro h'; rcases h with h | h <;> rw [h] at h' <;> simp at h')]
theorem give_none {l : List (Int × Int)} {r : Int × Int} (h : foldJ r r ((l.drop (giveF l r)).take (giveT l r - giveF l r)) = none) : giveL l r = ([], false) := by
  unfold giveL
  rw [h]
  simp
theorem give_some {l : List (Int × Int)} {r j : Int × Int} (h1 : mayL l = true) (h2 : mayL [r] = true) (h : foldJ r r ((l.drop (giveF l r)).take (giveT l r - giveF l r)) = some j) : giveL l r = (l.take (giveF l r) ++ [j] ++ l.drop (giveT l r), true) := by
  unfold giveL
  rw [if_pos ⟨h1, h2⟩, h]
theorem fold_hit {r j : Int × Int} {l : List (Int × Int)} {k : Nat} (hk : k < l.length) (h : meetB l[k] r = true) : foldJ r j (l.drop k) = none := by
  rw [List.drop_eq_getElem_cons hk, foldJ, if_pos h]
theorem fold_go {r j : Int × Int} {l : List (Int × Int)} {k : Nat} (hk : k < l.length) (h : meetB l[k] r = false) : foldJ r j (l.drop k) = foldJ r (joinP j l[k]) (l.drop (k + 1)) := by
  rw [List.drop_eq_getElem_cons hk, foldJ, if_neg (by rw [h]; simp)]
def GvRes (e : TypeId) (n : Nat) (w : World) (r : List (Int × Int) × Bool) (en : Ending) (w' : World) : Prop :=
  ∃ v, en = .returned (.tuple #[v, .bool r.2]) ∧ Prs e w' n v r.1 ∧ Below n w w'
theorem GvRes.no {e : TypeId} {n : Nat} {w w' : World} {r : List (Int × Int) × Bool} (h : r = ([], false)) (hb : Below n w w') : GvRes e n w r (.returned (.tuple #[.slice none 0 0, .bool false])) w' := by
  subst h
  exact ⟨_, rfl, Prs.nil _ _ _, hb⟩
theorem GvRes.mk {e : TypeId} {n : Nat} {w w' : World} {r : List (Int × Int) × Bool} {l : List (Int × Int)} {v : Value} (h : r = (l, true)) (hp : Prs e w' n v l) (hb : Below n w w') : GvRes e n w r (.returned (.tuple #[v, .bool true])) w' := by
  subst h
  exact ⟨_, rfl, hp, hb⟩
theorem box_two {w : World} {g : Nat} {t : TypeId} {a b x y : Value} (h : Box w g t #[a, b]) : Box ((w.setCell ⟨g, 0, none⟩ x).setCell ⟨g, 1, none⟩ y) g t #[x, y] := (h.set 0 x).set 1 y
theorem Below.keepBox {b n : Nat} {w w' : World} {t : TypeId} {cs : Array Value} (hb : Below n w w') (h : Box w b t cs) (hn : b < n) : Box w' b t cs := h.keep hb hn

set_option maxRecDepth 100000 in
set_option maxHeartbeats 1000000 in
theorem reached_nil (r : Int × Int) (w : World) :
    Calls Try.prog 30 #[.slice none 0 0, .agg #[.int .i64 r.1, .int .i64 r.2]] w fun e w' => e = .returned (.tuple #[.int .i64 0, .int .i64 0]) ∧ Below w.heap.size w w' := by
  obtain ⟨ra, rn⟩ := r
  have HL0 := Lib.hid ((Below.refl w.heap.size w).alloc (Nat.le_refl _) (.cells #[.int .i64 ra, .int .i64 rn] 46 (0, 0)))
  go_enter Try.func30, Try.ntmps30
  go_wp2_with fail
  go_loopw [6] (fun i wr => i = .int .i64 0 ∧ Hid (Below w.heap.size w wr)) (fun _ _ => 0)
  case atStart => exact ⟨rfl, HL0⟩
  case round =>
    obtain ⟨rfl, HL⟩ := hrel
    have HB0 : Hid (∀ nq, Below w.heap.size w (wr.drewN nq)) := fun nq => ⟨HL.out.os, HL.out.tape, HL.out.output, HL.out.size, HL.out.block⟩
    have d0 : decide ((0 : Int) < 0) = false := by decide
    clear HL
    go_wp2_with fail
    go_quiet (fail)
    have HB := Lib.hid (HB0.out nq)
    clear HB0
    go_wp2
    go_loopw [7] (fun i wr => i = .int .i64 0 ∧ Hid (Below w.heap.size w wr)) (fun _ _ => 0)
    case atStart => exact ⟨rfl, HB⟩
    case round =>
      clear HB
      obtain ⟨rfl, HL⟩ := hrel
      have HB0 : Hid (∀ nq, Below w.heap.size w (wr.drewN nq)) := fun nq => ⟨HL.out.os, HL.out.tape, HL.out.output, HL.out.size, HL.out.block⟩
      clear HL
      go_wp2_with fail
      go_quiet (fail)
      go_wp2
      go_ret2
      exact ⟨rfl, HB0.out _⟩
end Go.Proofs.Ytmndeohhanbjkaa
