/-
  The contracts of the reference's Locs, Same.
-/
import Derived.Test.YtbdnkmkagglmhaaPtrSameC
namespace Go.Proofs.Ytbdnkmkagglmhaa
open Go.RowKit

set_option maxHeartbeats 1000000 in
theorem rlocs_any (x y : Option Addr) (cx cy : Nat) (a b : List (Int × Int)) (w : World) (ha : SlP w x a) (hb : SlP w y b) (la : a.length ≤ 1000) (lb : b.length ≤ 1000) :
    Calls Try.prog 19 #[.slice x a.length cx, .slice y b.length cy] w fun e w' => e = .returned (.bool (sameP a b)) ∧ Below w.heap.size w w' := by
  have HA := Lib.hid ha
  have HB := Lib.hid hb
  clear ha hb
  by_cases hlen : a.length = b.length
  · go_enter Try.func19, Try.ntmps19
    go_wp2
    go_loopw [5] (fun i wr => ∃ k : Nat, k ≤ a.length ∧ i = .int .i64 k ∧ Hid (a.take k = b.take k) ∧ Hid (Below w.heap.size w wr)) (fun i _ => a.length - (intOf i).toNat)
    case atStart => exact ⟨0, Nat.zero_le _, rfl, Lib.hid rfl, Below.refl _ _⟩
    case round =>
      obtain ⟨k, hk, rfl, HN, HL⟩ := hrel
      by_cases hlt : k < a.length
      · have hltb : k < b.length := by omega
        obtain ⟨b1, o1, rfl, hb1, hc0, hc1⟩ := (HA.out.keep HL.out).get k hlt
        obtain ⟨b2, o2, rfl, hb2, hd0, hd1⟩ := (HB.out.keep HL.out).get k hltb
        have T1 := Lib.hid (List.take_succ_eq_append_getElem hlt)
        have T2 := Lib.hid (List.take_succ_eq_append_getElem hltb)
        have G1 := Lib.hid (List.getElem?_eq_getElem hlt)
        have G2 := Lib.hid (List.getElem?_eq_getElem hltb)
        generalize a[k] = u at *
        generalize b[k] = v at *
        obtain ⟨u1, u2⟩ := u
        obtain ⟨v1, v2⟩ := v
        simp only at hc0 hc1 hd0 hd1
        by_cases huv : u1 = v1 ∧ u2 = v2
        · obtain ⟨rfl, rfl⟩ := huv
          have hq : ∀ w, (Op.equalIn 10000 29 (.agg #[.int .i64 u1, .int .i64 u2]) (.agg #[.int .i64 u1, .int .i64 u2])).run Try.prog w = .ok true w := fun w => by rw [eqLoc]; simp
          go_wp2_with fail
          go_region
          clear hq hc0 hc1 hd0 hd1
          go_wp2
          go_roundw
          case rel => exact ⟨k + 1, by omega, by go_num, Lib.hid (by rw [T1.out, T2.out, HN.out]), HL.out.drew⟩
          case measure => simp [intOf]; omega
        · have hq : ∀ w, (Op.equalIn 10000 29 (.agg #[.int .i64 u1, .int .i64 u2]) (.agg #[.int .i64 v1, .int .i64 v2])).run Try.prog w = .ok false w := fun w => by
            rw [eqLoc]
            congr 1
            cases h : (u1 == v1 && u2 == v2)
            · rfl
            · simp at h; exact absurd h huv
          have HU := Lib.hid huv
          clear huv
          go_wp2_with fail
          go_region
          clear hq hc0 hc1 hd0 hd1
          go_wp2
          go_ret
          refine ⟨ret_bool (Eq.symm (decide_eq_false fun h => ?_)), HL.out.drew⟩
          have h1 := G1.out
          rw [h, G2.out] at h1
          injection h1 with h1
          injection h1 with h1 h2
          exact HU.out ⟨h1.symm, h2.symm⟩
      · have hkl : k = a.length := by omega
        subst hkl
        have HE : Hid (a = b) := by
          have := HN.out
          rw [hlen, List.take_length, ← hlen, List.take_length] at this
          exact this
        go_wp2
        go_ret
        exact ⟨ret_bool (Eq.symm (decide_eq_true HE.out)), HL.out⟩
  · have HE : Hid (sameP a b = false) := decide_eq_false fun h => hlen (by rw [h])
    have hq : ((a.length : Int) != (b.length : Int)) = true := by rw [bne_iff_ne]; omega
    rw [HE.out]
    clear HE hlen
    go_enter Try.func19, Try.ntmps19
    go_wp2
    go_ret
    exact ⟨rfl, Below.refl _ _⟩

set_option maxHeartbeats 1000000 in
theorem rsame_any (x y : Option Addr) (cx cy : Nat) (p q : PtrD) (w : World) (ha : SlP w x p.locs) (hb : SlP w y q.locs) (la : p.locs.length ≤ 1000) (lb : q.locs.length ≤ 1000) :
    Calls Try.prog 41 #[ptrV x cx p, ptrV y cy q] w fun e w' => e = .returned (.bool (sameD p q)) ∧ Below w.heap.size w w' := by
  have HA := Lib.hid ha
  have HB := Lib.hid hb
  clear ha hb
  obtain ⟨l, n, m, s⟩ := p
  obtain ⟨l', n', m', s'⟩ := q
  unfold ptrV
  simp only at *
  go_enter Try.func41, Try.ntmps41
  go_wp2_with fail
  generalize hx : World.alloc _ _ = wx
  have HX : Hid (Below w.heap.size w wx) := by show Below _ _ _; rw [← hx]; exact ((Below.refl _ _).alloc (Nat.le_refl _) _).alloc (by rw [size_alloc]; omega) _
  have HS : Hid (w.heap.size + 1 < wx.heap.size) := by show _ < _; rw [← hx, size_alloc, size_alloc]; omega
  have HC1 : Hid (∀ j v, (#[.slice x l.length cx, .int .i64 n, .int .i64 m, .string s] : Array Value)[j]? = some v → wx.cell? ⟨w.heap.size, j, none⟩ = some v) := fun j v hj => by
    rw [← hx]
    exact boxed (n := w.heap.size + 1) ((Below.refl _ _).alloc (by rw [size_alloc]; omega) _) (by omega) j v hj
  have HC2 : Hid (∀ j v, (#[.slice y l'.length cy, .int .i64 n', .int .i64 m', .string s'] : Array Value)[j]? = some v → wx.cell? ⟨w.heap.size + 1, j, none⟩ = some v) := fun j v hj => by
    rw [← hx, ← size_alloc w (.cells #[.slice x l.length cx, .int .i64 n, .int .i64 m, .string s] 59 (0, 0))]
    exact boxed0 _ _ _ _ j v hj
  clear hx
  have c0 : wx.cell? ⟨w.heap.size, 0, none⟩ = some (.slice x l.length cx) := HC1.out 0 _ rfl
  have d0 : wx.cell? ⟨w.heap.size + 1, 0, none⟩ = some (.slice y l'.length cy) := HC2.out 0 _ rfl
  go_wp2_with fail
  refine (rlocs_any x y cx cy l l' wx (HA.out.keep HX.out) (HB.out.keep HX.out) la lb).mono ?_
  rintro e w1 ⟨rfl, hb⟩
  have HL := Lib.hid (HX.out.trans (hb.mono HX.out.size))
  have c1 : w1.cell? ⟨w.heap.size, 1, none⟩ = some (.int .i64 n) := by rw [hb.cell (by have := HS.out; simp only; omega)]; exact HC1.out 1 _ rfl
  have c2 : w1.cell? ⟨w.heap.size, 2, none⟩ = some (.int .i64 m) := by rw [hb.cell (by have := HS.out; simp only; omega)]; exact HC1.out 2 _ rfl
  have c3 : w1.cell? ⟨w.heap.size, 3, none⟩ = some (.string s) := by rw [hb.cell (by have := HS.out; simp only; omega)]; exact HC1.out 3 _ rfl
  have d1 : w1.cell? ⟨w.heap.size + 1, 1, none⟩ = some (.int .i64 n') := by rw [hb.cell HS.out]; exact HC2.out 1 _ rfl
  have d2 : w1.cell? ⟨w.heap.size + 1, 2, none⟩ = some (.int .i64 m') := by rw [hb.cell HS.out]; exact HC2.out 2 _ rfl
  have d3 : w1.cell? ⟨w.heap.size + 1, 3, none⟩ = some (.string s') := by rw [hb.cell HS.out]; exact HC2.out 3 _ rfl
  clear hb c0 d0
  by_cases h1 : l = l'
  · have e1 : sameP l l' = true := decide_eq_true h1
    rw [e1]
    clear e1
    have H1 := Lib.hid h1
    clear h1
    by_cases h2 : n = n'
    · subst h2
      by_cases h3 : m = m'
      · subst h3
        by_cases h4 : s = s'
        · subst h4
          go_wp2
          go_ret
          exact ⟨ret_bool (Eq.symm (decide_eq_true ⟨H1.out, rfl, rfl, rfl⟩)), HL.out⟩
        · have hq := str_ne h4
          have H4 := Lib.hid h4
          clear h4
          go_wp2
          go_ret
          exact ⟨ret_bool (Eq.symm (decide_eq_false fun h => H4.out h.2.2.2)), HL.out⟩
      · have hq : (m == m') = false := by simpa using h3
        have H3 := Lib.hid h3
        clear h3
        go_wp2
        go_ret
        exact ⟨ret_bool (Eq.symm (decide_eq_false fun h => H3.out h.2.2.1)), HL.out⟩
    · have hq : (n == n') = false := by simpa using h2
      have H2 := Lib.hid h2
      clear h2
      go_wp2
      go_ret
      exact ⟨ret_bool (Eq.symm (decide_eq_false fun h => H2.out h.2.1)), HL.out⟩
  · have e1 : sameP l l' = false := decide_eq_false h1
    rw [e1]
    clear e1
    have H1 := Lib.hid h1
    clear h1
    go_wp2
    go_ret
    exact ⟨ret_bool (Eq.symm (decide_eq_false fun h => H1.out h.1)), HL.out⟩
end Go.Proofs.Ytbdnkmkagglmhaa
