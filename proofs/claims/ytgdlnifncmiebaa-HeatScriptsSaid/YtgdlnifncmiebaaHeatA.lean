/-
  Rows of items; the queue's Len, Less; a mark's worth.
-/
import Derived.Test.YtgdlnifncmiebaaChg
import Derived.Test.YtgdlnifncmiebaaHeld
import Derived.Test.YtgdlnifncmiebaaHeap
import Derived.Deep.RegionLaw
import Derived.Maps.AppendAt
import Derived.RegionTactic
import Derived.BigRegion
namespace Go.Proofs.Ytgdlnifncmiebaa
open Go.RowKit Go.ChangeShapes Go.WideShapes Go.ChangeAt

abbrev ItD := ByteArray × Int
def ItV (x : ItD) : List Value := [.string x.1, .int .i64 x.2]
theorem infoIt : (Try.prog.info? 61).map (fun i => (i.zero, i.size, i.bytes)) = some (some (.agg #[.string ⟨#[]⟩, .int .i64 0]), 2, 24) := by kernel_rfl
/-- The value v is a slice of the call's own that holds the items l. -/
def Its (w : World) (base : Nat) (v : Value) (l : List ItD) : Prop := w.ownsRow base 61 2 v l.length (l.flatMap ItV)
section
variable {w w' : World} {base : Nat} {v : Value} {l : List ItD}
theorem Its.nil (w : World) (base : Nat) : Its w base (.slice none 0 0) [] := World.ownsRow_nil _ _ _ _
theorem Its.own_block (h : Its w base v l) : ∀ k, v.ownBlock = some k → base ≤ k := fun k hk => (World.ownsRow.lt h k hk).1
theorem Its.lt (h : Its w base v l) : ∀ k, v.ownBlock = some k → k < w.heap.size := fun k hk => (World.ownsRow.lt h k hk).2
theorem Its.keep (h : Its w base v l) (hb : Below w.heap.size w w') : Its w' base v l := ownsRow_of h fun k _ hlt => hb.block k hlt
theorem Its.chg {S : List Nat} (h : Its w base v l) (hc : Chg S w w') (hn : ∀ k, v.ownBlock = some k → k ∉ S) : Its w' base v l := ownsRow_of h fun k hk hlt => hc.block k hlt (hn k hk)
theorem Its.form (h : Its w base v l) : (v = .slice none 0 0 ∧ l = []) ∨ ∃ g cap, v = .slice (some ⟨g, 0, none⟩) l.length cap ∧ base ≤ g ∧ g < w.heap.size ∧ l.length ≤ cap ∧ cap ≤ maxLen := by
  rcases h.2 with ⟨rfl, h0⟩ | ⟨g, cap, cur, rfl, hg, hh, h1, h2, _⟩
  · exact .inl ⟨rfl, List.eq_nil_of_length_eq_zero h0⟩
  · exact .inr ⟨g, cap, rfl, hg, lt_of_block hh, h1, h2⟩
theorem Its.cells {g cap n : Nat} (h : Its w base (.slice (some ⟨g, 0, none⟩) n cap) l) {i : Nat} {x : ItD} (hx : l[i]? = some x) : w.cell? ⟨g, i * 2, none⟩ = some (.string x.1) ∧ w.cell? ⟨g, i * 2 + 1, none⟩ = some (.int .i64 x.2) ∧ w.frozen? ⟨g, i * 2, none⟩ = false ∧ w.frozen? ⟨g, i * 2 + 1, none⟩ = false := by
  have hi : i < l.length := (List.getElem?_eq_some_iff.1 hx).1
  have hn : n = l.length := by
    rcases h.2 with ⟨h', _⟩ | ⟨g', cap', cur, h', _⟩
    · simp at h'
    · simp only [Value.slice.injEq] at h'; exact h'.2.1
  subst hn
  have h0 := flat_get ItV 2 (fun _ => rfl) l i x hx 0 (by decide)
  have h1 := flat_get ItV 2 (fun _ => rfl) l i x hx 1 (by decide)
  exact ⟨by rw [World.ownsRow.cellAt h (i * 2) (by omega)]; exact h0, by rw [World.ownsRow.cellAt h (i * 2 + 1) (by omega)]; exact h1, World.ownsRow.frozenAt h _, World.ownsRow.frozenAt h _⟩
end
/-- Which of two items is the hotter: the queue's order. -/
def hotter (a b : ItD) : Bool := if a.2 = b.2 then Op.bytesLess a.1.toList b.1.toList else decide (b.2 < a.2)

theorem qlen (a : Option Addr) (n cap : Nat) (w : World) : Calls Try.prog 25 #[.slice a n cap] w fun e w' => e = .returned (.int .i64 (n : Int)) ∧ w = w' := by
  go_enter Try.func25, Try.ntmps25
  go_wp2
  go_ret
  exact ⟨rfl, rfl⟩

set_option maxRecDepth 100000 in
set_option maxHeartbeats 2000000 in
theorem qless (g cap n i j : Nat) (x y : ItD) (w : World) (hi : i < n) (hj : j < n) (c0 : w.cell? ⟨g, i * 2, none⟩ = some (.string x.1)) (c1 : w.cell? ⟨g, i * 2 + 1, none⟩ = some (.int .i64 x.2)) (d0 : w.cell? ⟨g, j * 2, none⟩ = some (.string y.1)) (d1 : w.cell? ⟨g, j * 2 + 1, none⟩ = some (.int .i64 y.2)) :
    Calls Try.prog 46 #[.slice (some ⟨g, 0, none⟩) n cap, .int .i64 (i : Int), .int .i64 (j : Int)] w fun e w' => e = .returned (.bool (hotter x y)) ∧ Below w.heap.size w w' := by
  obtain ⟨xk, xw⟩ := x
  obtain ⟨yk, yw⟩ := y
  dsimp only at c0 c1 d0 d1
  have HB : Hid (Below w.heap.size w w.drew.drew) := ((Below.refl _ _).drew).drew
  have i0 : (0 : Int) ≤ (i : Int) := by omega
  have j0 : (0 : Int) ≤ (j : Int) := by omega
  have i1 : (i : Int) < (n : Int) := by omega
  have j1 : (j : Int) < (n : Int) := by omega
  by_cases he : xw = yw
  · have hne : (xw != yw) = false := by simpa using he
    have HQ : Hid (hotter (xk, xw) (yk, yw) = Op.bytesLess xk.toList yk.toList) := by show _ = _; unfold hotter; rw [if_pos he]
    clear he
    go_enter Try.func46, Try.ntmps46
    go_wp2_with fail
    refine wp_region_held_quiet (fun W => W.cell? ⟨g, i * 2 + 1, none⟩ = some (.int .i64 xw) ∧ W.cell? ⟨g, j * 2 + 1, none⟩ = some (.int .i64 yw)) (by kernel_rfl) (by kernel_rfl) ⟨c1, d1⟩ ?_
    iterate 11 (apply wpHeld_step; (intro W hS K hK; obtain ⟨r1, r2⟩ := hS; go_simp; exact hK _ rfl))
    refine wpHeld_nil ?_
    go_wp2_with fail
    refine wp_region_held_quiet (fun W => W.cell? ⟨g, i * 2, none⟩ = some (.string xk) ∧ W.cell? ⟨g, j * 2, none⟩ = some (.string yk)) (by kernel_rfl) (by kernel_rfl) ⟨c0, d0⟩ ?_
    iterate 12 (apply wpHeld_step; (intro W hS K hK; obtain ⟨r1, r2⟩ := hS; go_simp; exact hK _ rfl))
    refine wpHeld_nil ?_
    go_wp2
    go_ret
    exact ⟨ret_bool HQ.out.symm, HB.out⟩
  · have hne : (xw != yw) = true := by simpa using he
    have HQ : Hid (hotter (xk, xw) (yk, yw) = decide (yw < xw)) := by show _ = _; unfold hotter; rw [if_neg he]
    clear he
    go_enter Try.func46, Try.ntmps46
    go_wp2_with fail
    refine wp_region_held_quiet (fun W => W.cell? ⟨g, i * 2 + 1, none⟩ = some (.int .i64 xw) ∧ W.cell? ⟨g, j * 2 + 1, none⟩ = some (.int .i64 yw)) (by kernel_rfl) (by kernel_rfl) ⟨c1, d1⟩ ?_
    iterate 11 (apply wpHeld_step; (intro W hS K hK; obtain ⟨r1, r2⟩ := hS; go_simp; exact hK _ rfl))
    refine wpHeld_nil ?_
    go_wp2_with fail
    refine wp_region_held_quiet (fun W => W.cell? ⟨g, i * 2 + 1, none⟩ = some (.int .i64 xw) ∧ W.cell? ⟨g, j * 2 + 1, none⟩ = some (.int .i64 yw)) (by kernel_rfl) (by kernel_rfl) ⟨c1, d1⟩ ?_
    iterate 12 (apply wpHeld_step; (intro W hS K hK; obtain ⟨r1, r2⟩ := hS; go_simp; exact hK _ rfl))
    refine wpHeld_nil ?_
    go_wp2
    go_ret
    exact ⟨ret_bool HQ.out.symm, HB.out⟩

theorem flat_set2 : ∀ (l : List ItD) (i : Nat) (x : ItD), (((l.flatMap ItV).set (i * 2) (.string x.1)).set (i * 2 + 1) (.int .i64 x.2)) = (l.set i x).flatMap ItV
  | [], i, x => by simp
  | y :: r, 0, x => by simp [ItV]
  | y :: r, i + 1, x => by
    have h := flat_set2 r i x
    rw [List.set_cons_succ, List.flatMap_cons, List.flatMap_cons, ← h]
    rw [show (i + 1) * 2 = i * 2 + 2 by omega, show i * 2 + 2 + 1 = i * 2 + 1 + 2 by omega]
    simp [ItV]
theorem Its.set {w : World} {base g cap n : Nat} {l : List ItD} (h : Its w base (.slice (some ⟨g, 0, none⟩) n cap) l) (i : Nat) (x : ItD) : Its ((w.setCell ⟨g, i * 2, none⟩ (.string x.1)).setCell ⟨g, i * 2 + 1, none⟩ (.int .i64 x.2)) base (.slice (some ⟨g, 0, none⟩) n cap) (l.set i x) := by
  have hn : n = l.length := by
    rcases h.2 with ⟨h', _⟩ | ⟨g', cap', cur, h', _⟩
    · simp at h'
    · simp only [Value.slice.injEq] at h'; exact h'.2.1
  subst hn
  have h1 := (World.ownsRow.stored h (i * 2) (.string x.1)).1
  have h2 := (World.ownsRow.stored h1 (i * 2 + 1) (.int .i64 x.2)).1
  unfold Its
  rw [flat_set2] at h2
  simpa using h2

set_option maxRecDepth 100000 in
set_option maxHeartbeats 2000000 in
theorem qswap (base g cap i j : Nat) (l : List ItD) (w : World) (h : Its w base (.slice (some ⟨g, 0, none⟩) l.length cap) l) (hi : i < l.length) (hj : j < l.length) :
    Calls Try.prog 49 #[.slice (some ⟨g, 0, none⟩) l.length cap, .int .i64 (i : Int), .int .i64 (j : Int)] w fun e w' => e = .returned (.tuple #[]) ∧ Its w' base (.slice (some ⟨g, 0, none⟩) l.length cap) (swapL l i j) ∧ Chg [g] w w' := by
  have hx : l[i]? = some (gt l i) := by unfold gt; rw [List.getD_eq_getElem?_getD, List.getElem?_eq_getElem hi]; rfl
  have hy : l[j]? = some (gt l j) := by unfold gt; rw [List.getD_eq_getElem?_getD, List.getElem?_eq_getElem hj]; rfl
  have HI := Lib.hid h
  obtain ⟨c0, c1, _, _⟩ := h.cells hx
  obtain ⟨d0, d1, _, _⟩ := h.cells hy
  have hl : l.length = l.length := rfl
  have HSW : Hid (swapL l i j = (l.set i (gt l j)).set j (gt l i)) := rfl
  generalize swapL l i j = S at *
  generalize gt l i = x at *
  generalize gt l j = y at *
  have i0 : (0 : Int) ≤ (i : Int) := by omega
  have j0 : (0 : Int) ≤ (j : Int) := by omega
  have i1 : (i : Int) < (l.length : Int) := by omega
  have j1 : (j : Int) < (l.length : Int) := by omega
  obtain ⟨xk, xw⟩ := x
  obtain ⟨yk, yw⟩ := y
  dsimp only at c0 c1 d0 d1
  clear hx hy hl h
  go_enter Try.func49, Try.ntmps49
  go_wp2_with fail
  have hI0 := HI.out
  have r1 := (World.ownsRow.stored hI0 (i * 2) (.string yk)).1
  have r2 := (World.ownsRow.stored r1 (i * 2 + 1) (.int .i64 yw)).1
  have r3 := (World.ownsRow.stored r2 (j * 2) (.string xk)).1
  have hL := flat_len ItV 2 (fun _ => rfl) l
  have q1 : ∃ v, (w.setCell ⟨g, i * 2, none⟩ (.string yk)).cell? ⟨g, i * 2 + 1, none⟩ = some v := ⟨_, (World.ownsRow.cellAt r1 (i * 2 + 1) (by omega)).trans (List.getElem?_eq_getElem (by rw [List.length_set, hL]; omega))⟩
  have q2 : ∃ v, ((w.setCell ⟨g, i * 2, none⟩ (.string yk)).setCell ⟨g, i * 2 + 1, none⟩ (.int .i64 yw)).cell? ⟨g, j * 2, none⟩ = some v := ⟨_, (World.ownsRow.cellAt r2 (j * 2) (by omega)).trans (List.getElem?_eq_getElem (by rw [List.length_set, List.length_set, hL]; omega))⟩
  have q3 : ∃ v, (((w.setCell ⟨g, i * 2, none⟩ (.string yk)).setCell ⟨g, i * 2 + 1, none⟩ (.int .i64 yw)).setCell ⟨g, j * 2, none⟩ (.string xk)).cell? ⟨g, j * 2 + 1, none⟩ = some v := ⟨_, (World.ownsRow.cellAt r3 (j * 2 + 1) (by omega)).trans (List.getElem?_eq_getElem (by rw [List.length_set, List.length_set, List.length_set, hL]; omega))⟩
  obtain ⟨v1, q1⟩ := q1
  obtain ⟨v2, q2⟩ := q2
  obtain ⟨v3, q3⟩ := q3
  have f0 : w.frozen? ⟨g, i * 2, none⟩ = false := World.ownsRow.frozenAt hI0 _
  have f1 : (w.setCell ⟨g, i * 2, none⟩ (.string yk)).frozen? ⟨g, i * 2 + 1, none⟩ = false := World.ownsRow.frozenAt r1 _
  have f2 : ((w.setCell ⟨g, i * 2, none⟩ (.string yk)).setCell ⟨g, i * 2 + 1, none⟩ (.int .i64 yw)).frozen? ⟨g, j * 2, none⟩ = false := World.ownsRow.frozenAt r2 _
  have f3 : (((w.setCell ⟨g, i * 2, none⟩ (.string yk)).setCell ⟨g, i * 2 + 1, none⟩ (.int .i64 yw)).setCell ⟨g, j * 2, none⟩ (.string xk)).frozen? ⟨g, j * 2 + 1, none⟩ = false := World.ownsRow.frozenAt r3 _
  have H2 : Hid (Its ((((w.setCell ⟨g, i * 2, none⟩ (.string yk)).setCell ⟨g, i * 2 + 1, none⟩ (.int .i64 yw)).setCell ⟨g, j * 2, none⟩ (.string xk)).setCell ⟨g, j * 2 + 1, none⟩ (.int .i64 xw)) base (.slice (some ⟨g, 0, none⟩) l.length cap) ((l.set i (yk, yw)).set j (xk, xw))) := (Its.set hI0 i (yk, yw)).set j (xk, xw)
  have HC : Hid (Chg [g] w ((((w.setCell ⟨g, i * 2, none⟩ (.string yk)).setCell ⟨g, i * 2 + 1, none⟩ (.int .i64 yw)).setCell ⟨g, j * 2, none⟩ (.string xk)).setCell ⟨g, j * 2 + 1, none⟩ (.int .i64 xw))) := by
    exact ((((Chg.refl [g] w).set g (i * 2) (.string yk) (.inl (by simp))).set g (i * 2 + 1) (.int .i64 yw) (.inl (by simp))).set g (j * 2) (.string xk) (.inl (by simp))).set g (j * 2 + 1) (.int .i64 xw) (.inl (by simp))
  clear r1 r2 r3 hL hI0
  go_region
  all_goals
    go_end0
    exact ⟨rfl, by rw [HSW.out]; exact H2.out, HC.out.drew⟩
end Go.Proofs.Ytgdlnifncmiebaa
