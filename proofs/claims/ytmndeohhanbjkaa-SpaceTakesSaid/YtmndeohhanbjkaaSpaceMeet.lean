/-
  Contracts of package space: meet, reached.
-/
import Derived.Test.YtmndeohhanbjkaaSpaceTake
import Derived.Deep.RegionHeld3
import Derived.Deep.QuietTactic
import Derived.BigQuiet
import Derived.Deep.RegionWith
namespace Go.Proofs.Ytmndeohhanbjkaa
open Go.RowKit Go.ChangeShapes Go.WideShapes Go.ChangeAt

def meetB (x r : Int × Int) : Bool := decide (x.1 < r.1 + r.2) && decide (r.1 < x.1 + x.2)
def fromN (l : List (Int × Int)) (a : Int) : Nat := (l.takeWhile fun x => decide (x.1 + x.2 < a)).length
def downTo (l : List (Int × Int)) (e : Int) (f : Nat) : Nat → Nat
  | 0 => 0
  | k + 1 => if f < k + 1 ∧ e < (l.getD k (0, 0)).1 then downTo l e f k else k + 1
theorem from_at {l : List (Int × Int)} {a : Int} {k : Nat} (h : ∀ x ∈ l.take k, x.1 + x.2 < a) (hk : k < l.length) (hp : ¬ l[k].1 + l[k].2 < a) : fromN l a = k := by
  unfold fromN
  rw [← List.take_append_drop k l, List.takeWhile_append_of_pos (by intro x hx; simpa using h x hx), List.drop_eq_getElem_cons hk, List.takeWhile_cons_of_neg (by simpa using hp)]
  rw [List.append_nil, List.length_take]
  omega
theorem from_end {l : List (Int × Int)} {a : Int} (h : ∀ x ∈ l, x.1 + x.2 < a) : fromN l a = l.length := by
  unfold fromN
  induction l with
  | nil => rfl
  | cons y r ih =>
    rw [List.takeWhile_cons_of_pos (by simpa using h y (List.mem_cons_self ..)), List.length_cons, List.length_cons, ih fun x hx => h x (List.mem_cons_of_mem _ hx)]
theorem from_le (l : List (Int × Int)) (a : Int) : fromN l a ≤ l.length := by
  unfold fromN
  exact (List.takeWhile_prefix _).length_le
theorem from_step {l : List (Int × Int)} {a : Int} {k : Nat} (h : ∀ x ∈ l.take k, x.1 + x.2 < a) (hk : k < l.length) (hp : l[k].1 + l[k].2 < a) : ∀ x ∈ l.take (k + 1), x.1 + x.2 < a := by
  rw [snoc_take l k hk]
  intro x hx
  rcases List.mem_append.1 hx with hx | hx
  · exact h x hx
  · rw [List.mem_singleton.1 hx]; exact hp
theorem down_le (l : List (Int × Int)) (e : Int) (f : Nat) : ∀ k, downTo l e f k ≤ k
  | 0 => Nat.le_refl _
  | k + 1 => by rw [downTo]; split; exact Nat.le_succ_of_le (down_le l e f k); exact Nat.le_refl _
theorem down_ge (l : List (Int × Int)) (e : Int) (f : Nat) : ∀ k, f ≤ k → f ≤ downTo l e f k
  | 0, h => h
  | k + 1, h => by
    rw [downTo]
    split
    · next hc => exact down_ge l e f k (by omega)
    · exact h

abbrev S4 (w : World) (xa xn ra rn : Int) (w' : World) : Prop := w'.cell? ⟨w.heap.size, 0, none⟩ = some (.int .i64 xa) ∧ w'.cell? ⟨w.heap.size, 1, none⟩ = some (.int .i64 xn) ∧ w'.cell? ⟨w.heap.size + 1, 0, none⟩ = some (.int .i64 ra) ∧ w'.cell? ⟨w.heap.size + 1, 1, none⟩ = some (.int .i64 rn)
theorem S4.below {w u v : World} {xa xn ra rn : Int} (h : S4 w xa xn ra rn u) (hb : Below u.heap.size u v) : S4 w xa xn ra rn v := by
  obtain ⟨h0, h1, h2, h3⟩ := h
  exact ⟨(hb.cell (lt_of_cell h0)).trans h0, (hb.cell (lt_of_cell h1)).trans h1, (hb.cell (lt_of_cell h2)).trans h2, (hb.cell (lt_of_cell h3)).trans h3⟩
set_option maxRecDepth 100000 in
set_option maxHeartbeats 2000000 in
theorem meet_any (x r : Int × Int) (w : World) (hx : MayR x) (hr : MayR r) :
    Calls Try.prog 31 #[.agg #[.int .i64 x.1, .int .i64 x.2], .agg #[.int .i64 r.1, .int .i64 r.2]] w fun e w' => e = .returned (.bool (meetB x r)) ∧ Below w.heap.size w w' := by
  obtain ⟨xa, xn⟩ := x
  obtain ⟨ra, rn⟩ := r
  have HX := Lib.hid hx
  have HR := Lib.hid hr
  have B := Box.new w 46 #[.int .i64 xa, .int .i64 xn]
  have B2 := Box.new (w.alloc (.cells #[.int .i64 xa, .int .i64 xn] 46 (0, 0))) 46 #[.int .i64 ra, .int .i64 rn]
  rw [size_alloc] at B2
  have B1 := B.alloc (.cells #[.int .i64 ra, .int .i64 rn] 46 (0, 0))
  have HL := Lib.hid (((Below.refl w.heap.size w).alloc (Nat.le_refl _) (.cells #[.int .i64 xa, .int .i64 xn] 46 (0, 0))).alloc (by rw [size_alloc]; omega) (.cells #[.int .i64 ra, .int .i64 rn] 46 (0, 0)))
  have HS : Hid (S4 w xa xn ra rn ((w.alloc (.cells #[.int .i64 xa, .int .i64 xn] 46 (0, 0))).alloc (.cells #[.int .i64 ra, .int .i64 rn] 46 (0, 0))).drew) := ⟨B1.cell 0 _ rfl, B1.cell 1 _ rfl, B2.cell 0 _ rfl, B2.cell 1 _ rfl⟩
  have HB : Hid (Below w.heap.size w ((w.alloc (.cells #[.int .i64 xa, .int .i64 xn] 46 (0, 0))).alloc (.cells #[.int .i64 ra, .int .i64 rn] 46 (0, 0))).drew) := HL.out.drew
  clear B B1 B2 hx hr HL
  have E := fun (y : Int × Int) (hy : MayR y) (v : World) => end_any y v hy.1 (by have := hy.2.1; have := hy.2.2; omega) (by have := hy.2.1; omega) (by have := hy.1; have := hy.2.2; omega)
  have HE := Lib.hid E
  clear E
  by_cases c0 : xa < ra + rn
  · have HQ := Lib.hid (show meetB (xa, xn) (ra, rn) = decide (ra < xa + xn) by unfold meetB; simp [c0])
    have d0 : decide (xa < ra + rn) = true := decide_eq_true c0
    clear c0
    go_enter Try.func31, Try.ntmps31
    go_wp2_with fail
    go_region_held3 (fun w' => w'.cell? ⟨w.heap.size, 0, none⟩ = some (.int .i64 xa) ∧ w'.cell? ⟨w.heap.size, 1, none⟩ = some (.int .i64 xn) ∧ w'.cell? ⟨w.heap.size + 1, 0, none⟩ = some (.int .i64 ra) ∧ w'.cell? ⟨w.heap.size + 1, 1, none⟩ = some (.int .i64 rn)) (with_reducible exact HS.out)
      (first
        | (go_at_call_of 24 (Value.agg #[.int .i64 ra, .int .i64 rn]); refine (HE.out (ra, rn) HR.out _).mono ?_; rintro e w2 ⟨rfl, hb⟩; have HS := Lib.hid (HS.out.below hb); have HB := Lib.hid (HB.out.trans (hb.mono HB.out.size)); clear hb; dsimp only)
        | (go_at_call_of 24 (Value.agg #[.int .i64 xa, .int .i64 xn]); refine (HE.out (xa, xn) HX.out _).mono ?_; rintro e w3 ⟨rfl, hb⟩; have HS := Lib.hid (HS.out.below hb); have HB := Lib.hid (HB.out.trans (hb.mono HB.out.size)); clear hb; dsimp only))
    all_goals
      go_wp2
      go_ret
      exact ⟨ret_bool HQ.out.symm, HB.out⟩
  · have HQ := Lib.hid (show meetB (xa, xn) (ra, rn) = false by unfold meetB; simp [c0])
    have d0 : decide (xa < ra + rn) = false := decide_eq_false c0
    clear c0
    go_enter Try.func31, Try.ntmps31
    go_wp2_with fail
    obtain ⟨k0, k1, k2, k3⟩ := HS.out
    first | (go_region_with ((go_at_call 24; refine (HE.out (ra, rn) HR.out _).mono ?_; rintro e w2 ⟨rfl, hb⟩; have HS := Lib.hid (HS.out.below hb); have HB := Lib.hid (HB.out.trans (hb.mono HB.out.size)); clear hb k0 k1 k2 k3; obtain ⟨k0, k1, k2, k3⟩ := HS.out; dsimp only))) | fail
    all_goals
      go_wp2
      go_ret
      exact ⟨ret_bool HQ.out.symm, HB.out⟩
end Go.Proofs.Ytmndeohhanbjkaa
