/-
  The contracts of ptr.Same, and the reference's Locs and Same.
-/
import Derived.Test.YtbdnkmkagglmhaaPtrOnC
namespace Go.Proofs.Ytbdnkmkagglmhaa
open Go.RowKit

def sameD (p q : PtrD) : Bool := decide (p.locs = q.locs ∧ p.len = q.len ∧ p.birth = q.birth ∧ p.sum = q.sum)

theorem str_ne {s t : ByteArray} (h : ¬ s = t) : (s.toList == t.toList) = false := by
  rw [beq_eq_false_iff_ne]
  intro e
  apply h
  rw [ByteArray.toList_eq, ByteArray.toList_eq] at e
  apply ByteArray.ext
  exact Array.toList_inj.1 e

set_option maxHeartbeats 1000000 in
theorem same_any (x y : Option Addr) (cx cy : Nat) (p q : PtrD) (w : World) (ha : SlP w x p.locs) (hb : SlP w y q.locs) (la : p.locs.length ≤ 1000) (lb : q.locs.length ≤ 1000) :
    Calls Try.prog 42 #[ptrV x cx p, ptrV y cy q] w fun e w' => e = .returned (.bool (sameD p q)) ∧ Below w.heap.size w w' := by
  have HA := Lib.hid ha
  have HB := Lib.hid hb
  clear ha hb
  obtain ⟨l, n, m, s⟩ := p
  obtain ⟨l', n', m', s'⟩ := q
  unfold ptrV
  simp only at *
  go_enter Try.func42, Try.ntmps42
  go_wp2_with fail
  generalize hx : World.alloc _ _ = wx
  have HX : Hid (Below w.heap.size w wx) := by show Below _ _ _; rw [← hx]; exact ((Below.refl _ _).alloc (Nat.le_refl _) _).alloc (by rw [size_alloc]; omega) _
  have HS : Hid (w.heap.size + 1 < wx.heap.size) := by show _ < _; rw [← hx, size_alloc, size_alloc]; omega
  have HC1 : Hid (∀ j v, (#[.slice x l.length cx, .int .i64 n, .int .i64 m, .string s] : Array Value)[j]? = some v → wx.cell? ⟨w.heap.size, j, none⟩ = some v) := fun j v hj => by
    rw [← hx]
    exact boxed (n := w.heap.size + 1) ((Below.refl _ _).alloc (by rw [size_alloc]; omega) _) (by omega) j v hj
  have HC2 : Hid (∀ j v, (#[.slice y l'.length cy, .int .i64 n', .int .i64 m', .string s'] : Array Value)[j]? = some v → wx.cell? ⟨w.heap.size + 1, j, none⟩ = some v) := fun j v hj => by
    rw [← hx, ← size_alloc w (.cells #[.slice x l.length cx, .int .i64 n, .int .i64 m, .string s] 59 (0, 0))]
    exact boxed0 _ _ _ _ j v hj
  clear hx
  have c0 : wx.cell? ⟨w.heap.size, 0, none⟩ = some (.slice x l.length cx) := HC1.out 0 _ rfl
  have d0 : wx.cell? ⟨w.heap.size + 1, 0, none⟩ = some (.slice y l'.length cy) := HC2.out 0 _ rfl
  go_wp2_with fail
  refine (equal_any x y cx cy l l' wx (HA.out.keep HX.out) (HB.out.keep HX.out) la lb).mono ?_
  rintro e w1 ⟨rfl, hb⟩
  have HL := Lib.hid (HX.out.trans (hb.mono HX.out.size))
  have c1 : w1.cell? ⟨w.heap.size, 1, none⟩ = some (.int .i64 n) := by rw [hb.cell (by have := HS.out; simp only; omega)]; exact HC1.out 1 _ rfl
  have c2 : w1.cell? ⟨w.heap.size, 2, none⟩ = some (.int .i64 m) := by rw [hb.cell (by have := HS.out; simp only; omega)]; exact HC1.out 2 _ rfl
  have c3 : w1.cell? ⟨w.heap.size, 3, none⟩ = some (.string s) := by rw [hb.cell (by have := HS.out; simp only; omega)]; exact HC1.out 3 _ rfl
  have d1 : w1.cell? ⟨w.heap.size + 1, 1, none⟩ = some (.int .i64 n') := by rw [hb.cell HS.out]; exact HC2.out 1 _ rfl
  have d2 : w1.cell? ⟨w.heap.size + 1, 2, none⟩ = some (.int .i64 m') := by rw [hb.cell HS.out]; exact HC2.out 2 _ rfl
  have d3 : w1.cell? ⟨w.heap.size + 1, 3, none⟩ = some (.string s') := by rw [hb.cell HS.out]; exact HC2.out 3 _ rfl
  clear hb c0 d0
  by_cases h1 : l = l'
  · have e1 : sameP l l' = true := decide_eq_true h1
    rw [e1]
    clear e1
    have H1 := Lib.hid h1
    clear h1
    by_cases h2 : n = n'
    · subst h2
      by_cases h3 : m = m'
      · subst h3
        by_cases h4 : s = s'
        · subst h4
          go_wp2
          go_ret
          exact ⟨ret_bool (Eq.symm (decide_eq_true ⟨H1.out, rfl, rfl, rfl⟩)), HL.out⟩
        · have hq := str_ne h4
          have H4 := Lib.hid h4
          clear h4
          go_wp2
          go_ret
          exact ⟨ret_bool (Eq.symm (decide_eq_false fun h => H4.out h.2.2.2)), HL.out⟩
      · have hq : (m == m') = false := by simpa using h3
        have H3 := Lib.hid h3
        clear h3
        go_wp2
        go_ret
        exact ⟨ret_bool (Eq.symm (decide_eq_false fun h => H3.out h.2.2.1)), HL.out⟩
    · have hq : (n == n') = false := by simpa using h2
      have H2 := Lib.hid h2
      clear h2
      go_wp2
      go_ret
      exact ⟨ret_bool (Eq.symm (decide_eq_false fun h => H2.out h.2.1)), HL.out⟩
  · have e1 : sameP l l' = false := decide_eq_false h1
    rw [e1]
    clear e1
    have H1 := Lib.hid h1
    clear h1
    go_wp2
    go_ret
    exact ⟨ret_bool (Eq.symm (decide_eq_false fun h => H1.out h.1)), HL.out⟩
end Go.Proofs.Ytbdnkmkagglmhaa
