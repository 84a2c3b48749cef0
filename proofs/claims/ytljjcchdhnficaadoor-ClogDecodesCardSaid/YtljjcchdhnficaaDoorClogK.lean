/-
  The reference of package clog: Check, Small.
-/
import Derived.Test.YtljjcchdhnficaaDoorMg2
namespace Go.Proofs.YtljjcchdhnficaaDoor
open Go.RowKit

set_option maxRecDepth 100000 in
set_option maxHeartbeats 2000000 in
theorem crcheck_any (seq : Int) (a : Option Addr) (cap : Nat) (l : List CgE) (w : World) (h : SlC w a l) :
    Calls Tryd.prog 14 #[.agg #[.int .i64 seq, .slice a l.length cap]] w fun e w' => e = .returned (.int .i64 (chkC seq l)) ∧ Below w.heap.size w w' := by
  have H := Lib.hid h
  have HX := Lib.hid ((Below.refl w.heap.size w).alloc (Nat.le_refl _) (.cells #[.int .i64 seq, .slice a l.length cap] 24))
  have BX := Lib.hid (Box.new w 24 #[.int .i64 seq, .slice a l.length cap])
  clear h
  by_cases h0 : 0 ≤ seq
  · by_cases h1 : seq ≤ 1099511627776
    · by_cases h2 : l.length ≤ 7
      · have d0 : decide (seq < 0) = false := decide_eq_false (by omega)
        have d1 : decide (1099511627776 < seq) = false := decide_eq_false (by omega)
        have d2 : decide ((7 : Int) < (l.length : Int)) = false := decide_eq_false (by omega)
        go_enter Tryd.func14, Tryd.ntmps14
        go_wp2_with fail
        generalize World.alloc w _ = wx at *
        obtain ⟨g, hg⟩ : ∃ g, g = w.heap.size := ⟨_, rfl⟩
        have HG := Lib.hid hg
        rw [← hg] at BX
        rw [← hg]
        clear hg
        have k0 := BX.out.cell 0 _ rfl
        have k1 := BX.out.cell 1 _ rfl
        have HS := Lib.hid (And.intro h0 (And.intro h1 h2))
        clear h0 h1
        go_wp2
        clear k0 k1
        go_loopw [3] (fun i wr => ∃ k : Nat, k ≤ l.length ∧ i = .int .i64 k ∧ Hid (Box wr g 24 #[.int .i64 seq, .slice a l.length cap]) ∧ Hid (Below w.heap.size w wr) ∧ Hid (∀ j (hj : j < l.length), j < k → MayC l[j])) (fun i _ => l.length - (RowKit.intOf i).toNat)
        case atStart => exact ⟨0, Nat.zero_le _, rfl, BX, HX, fun j hj h => absurd h (Nat.not_lt_zero _)⟩
        case round =>
          clear HX BX
          obtain ⟨k, hk, rfl, BR, HB, HA⟩ := hrel
          have kc := BR.out.cell 1 _ rfl
          by_cases hlt : k < l.length
          · obtain ⟨b, off, rfl, hb, e0, e1, e2, e3⟩ := (H.out.keep HB.out).get k hlt
            have HC : Hid (MayC l[k] → ∀ j (hj : j < l.length), j < k + 1 → MayC l[j]) := fun h j hj h1 => by
              by_cases hjk : j < k
              · exact HA.out j hj hjk
              · obtain rfl : j = k := by omega
                exact h
            have HN : Hid (¬ MayC l[k] → chkC seq l = 1) := fun h => chkC_no hlt h
            have HLT := Lib.hid hlt
            have hk0 : (0 : Int) ≤ (k : Int) := by omega
            have hkl : (k : Int) < (l.length : Int) := by omega
            generalize l[k] = x at *
            obtain ⟨xk, xs, xn, xp⟩ := x
            simp only at e0 e1 e2 e3
            have hz := (Below.refl wr.heap.size wr).alloc (Nat.le_refl _) (.cells #[.string xk, .string xs, .int .i64 xn, .int .i64 xp] 53)
            have BZ := Lib.hid (BR.out.keep hz BR.out.lt)
            have LZ := Lib.hid (HB.out.trans (hz.mono HB.out.size))
            clear hz HA HB BR hlt hb
            by_cases y0 : 1 ≤ xk.size
            · have d3 : decide ((xk.size : Int) < 1) = false := decide_eq_false (by omega)
              by_cases y1 : xk.size ≤ 60
              · have d4 : decide ((60 : Int) < (xk.size : Int)) = false := decide_eq_false (by omega)
                by_cases y2 : xs.size = 32
                · have d5 : ((xs.size : Int) != 32) = false := by rw [bne_eq_false_iff_eq]; omega
                  by_cases y3 : 0 ≤ xn
                  · have d6 : decide (xn < 0) = false := decide_eq_false (by omega)
                    by_cases y4 : xn ≤ 960
                    · have d7 : decide (960 < xn) = false := decide_eq_false (by omega)
                      by_cases y5 : 0 ≤ xp
                      · have d8 : decide (xp < 0) = false := decide_eq_false (by omega)
                        by_cases y6 : xp < 512
                        · have d9 : decide (511 < xp) = false := decide_eq_false (by omega)
                          have HA2 := Lib.hid (HC.out ⟨y0, y1, y2, y3, y4, y5, y6⟩)
                          clear y0 y1 y2 y3 y4 y5 y6
                          go_wp2
                          go_roundw
                          case rel => exact ⟨k + 1, HLT.out, by go_num, BZ, LZ, HA2⟩
                          case measure => have := HLT.out; simp [RowKit.intOf]; omega
                        · have d9 : decide (511 < xp) = true := decide_eq_true (by omega)
                          have HZ := Lib.hid (HN.out (fun h => y6 h.2.2.2.2.2.2))
                          clear y0 y1 y2 y3 y4 y5 y6
                          go_wp2
                          go_ret
                          exact ⟨by rw [HZ.out]; rfl, LZ.out⟩
                      · have d8 : decide (xp < 0) = true := decide_eq_true (by omega)
                        have HZ := Lib.hid (HN.out (fun h => y5 h.2.2.2.2.2.1))
                        clear y0 y1 y2 y3 y4 y5
                        go_wp2
                        go_ret
                        exact ⟨by rw [HZ.out]; rfl, LZ.out⟩
                    · have d7 : decide (960 < xn) = true := decide_eq_true (by omega)
                      have HZ := Lib.hid (HN.out (fun h => y4 h.2.2.2.2.1))
                      clear y0 y1 y2 y3 y4
                      go_wp2
                      go_ret
                      exact ⟨by rw [HZ.out]; rfl, LZ.out⟩
                  · have d6 : decide (xn < 0) = true := decide_eq_true (by omega)
                    have HZ := Lib.hid (HN.out (fun h => y3 h.2.2.2.1))
                    clear y0 y1 y2 y3
                    go_wp2
                    go_ret
                    exact ⟨by rw [HZ.out]; rfl, LZ.out⟩
                · have d5 : ((xs.size : Int) != 32) = true := by rw [bne_iff_ne]; omega
                  have HZ := Lib.hid (HN.out (fun h => y2 h.2.2.1))
                  clear y0 y1 y2
                  go_wp2
                  go_ret
                  exact ⟨by rw [HZ.out]; rfl, LZ.out⟩
              · have d4 : decide ((60 : Int) < (xk.size : Int)) = true := decide_eq_true (by omega)
                have HZ := Lib.hid (HN.out (fun h => y1 h.2.1))
                clear y0 y1
                go_wp2
                go_ret
                exact ⟨by rw [HZ.out]; rfl, LZ.out⟩
            · have d3 : decide ((xk.size : Int) < 1) = true := decide_eq_true (by omega)
              have HZ := Lib.hid (HN.out (fun h => y0 h.1))
              clear y0
              go_wp2
              go_ret
              exact ⟨by rw [HZ.out]; rfl, LZ.out⟩
          · obtain rfl : k = l.length := by omega
            have HZ := Lib.hid (chkC_ok HS.out (fun j hj => HA.out j hj hj))
            clear HA
            go_wp2
            go_ret
            exact ⟨by rw [HZ.out]; rfl, HB.out⟩
      · rw [chkC_bad (fun h => h2 h.2.2)]
        have d0 : decide (seq < 0) = false := decide_eq_false (by omega)
        have d1 : decide (1099511627776 < seq) = false := decide_eq_false (by omega)
        have d2 : decide ((7 : Int) < (l.length : Int)) = true := decide_eq_true (by omega)
        go_enter Tryd.func14, Tryd.ntmps14
        go_wp2_with fail
        generalize World.alloc w _ = wx at *
        have k0 := BX.out.cell 0 _ rfl
        have k1 := BX.out.cell 1 _ rfl
        clear BX
        go_wp2
        go_ret
        exact ⟨rfl, HX.out⟩
    · rw [chkC_bad (fun h => h1 h.2.1)]
      have d0 : decide (seq < 0) = false := decide_eq_false (by omega)
      have d1 : decide (1099511627776 < seq) = true := decide_eq_true (by omega)
      go_enter Tryd.func14, Tryd.ntmps14
      go_wp2_with fail
      generalize World.alloc w _ = wx at *
      have k0 := BX.out.cell 0 _ rfl
      have k1 := BX.out.cell 1 _ rfl
      clear BX
      go_wp2
      go_ret
      exact ⟨rfl, HX.out⟩
  · rw [chkC_bad (fun h => h0 h.1)]
    have d0 : decide (seq < 0) = true := decide_eq_true (by omega)
    go_enter Tryd.func14, Tryd.ntmps14
    go_wp2_with fail
    generalize World.alloc w _ = wx at *
    have k0 := BX.out.cell 0 _ rfl
    have k1 := BX.out.cell 1 _ rfl
    clear BX
    go_wp2
    go_ret
    exact ⟨rfl, HX.out⟩

/-- Small's answer. -/
def SmC (l : List CgE) : Prop := (∀ x ∈ l, x.sum.size ≤ 100 ∧ x.key.size ≤ 100) ∧ l.length ≤ 40
instance (l : List CgE) : Decidable (SmC l) := by unfold SmC; infer_instance
set_option maxRecDepth 100000 in
set_option maxHeartbeats 2000000 in
theorem csmall_any (seq : Int) (a : Option Addr) (cap : Nat) (l : List CgE) (w : World) (h : SlC w a l) (hl : l.length ≤ maxLen) :
    Calls Tryd.prog 8 #[.agg #[.int .i64 seq, .slice a l.length cap]] w fun e w' => e = .returned (.bool (decide (SmC l))) ∧ Below w.heap.size w w' := by
  have H := Lib.hid h
  have HX := Lib.hid ((Below.refl w.heap.size w).alloc (Nat.le_refl _) (.cells #[.int .i64 seq, .slice a l.length cap] 24))
  have BX := Lib.hid (Box.new w 24 #[.int .i64 seq, .slice a l.length cap])
  clear h
  unfold maxLen at hl
  go_enter Tryd.func8, Tryd.ntmps8
  go_wp2_with fail
  generalize World.alloc w _ = wx at *
  have k1 := BX.out.cell 1 _ rfl
  clear BX
  go_wp2
  go_loopw [3] (fun i wr => ∃ k : Nat, k ≤ l.length ∧ i = .int .i64 k ∧ wr = wx ∧ Hid (∀ j (hj : j < l.length), j < k → (l[j]).sum.size ≤ 100 ∧ (l[j]).key.size ≤ 100)) (fun i _ => l.length - (RowKit.intOf i).toNat)
  case atStart => exact ⟨0, Nat.zero_le _, rfl, rfl, fun j hj h => absurd h (Nat.not_lt_zero _)⟩
  case round =>
    obtain ⟨k, hk, rfl, rfl, HA⟩ := hrel
    by_cases hlt : k < l.length
    · obtain ⟨b, off, rfl, hb, e0, e1, e2, e3⟩ := (H.out.keep HX.out).get k hlt
      have HC : Hid ((l[k]).sum.size ≤ 100 ∧ (l[k]).key.size ≤ 100 → ∀ j (hj : j < l.length), j < k + 1 → (l[j]).sum.size ≤ 100 ∧ (l[j]).key.size ≤ 100) := fun h j hj h1 => by
        by_cases hjk : j < k
        · exact HA.out j hj hjk
        · obtain rfl : j = k := by omega
          exact h
      have HN : Hid (¬ ((l[k]).sum.size ≤ 100 ∧ (l[k]).key.size ≤ 100) → decide (SmC l) = false) := fun h => decide_eq_false fun e => h (e.1 _ (List.getElem_mem hlt))
      have HLT := Lib.hid hlt
      have hk0 : (0 : Int) ≤ (k : Int) := by omega
      have hkl : (k : Int) < (l.length : Int) := by omega
      generalize l[k] = x at *
      obtain ⟨xk, xs, xn, xp⟩ := x
      simp only at e0 e1
      clear e2 e3 hb hlt HA
      by_cases y0 : xs.size ≤ 100
      · have d0 : decide ((100 : Int) < (xs.size : Int)) = false := decide_eq_false (by omega)
        by_cases y1 : xk.size ≤ 100
        · have d1 : decide ((100 : Int) < (xk.size : Int)) = false := decide_eq_false (by omega)
          have HA2 := Lib.hid (HC.out ⟨y0, y1⟩)
          clear y0 y1
          go_wp2
          go_roundw
          case rel => exact ⟨k + 1, HLT.out, by go_num, trivial, HA2⟩
          case measure => have := HLT.out; simp [RowKit.intOf]; omega
        · have d1 : decide ((100 : Int) < (xk.size : Int)) = true := decide_eq_true (by omega)
          have HZ := Lib.hid (HN.out (fun h => y1 h.2))
          clear y0 y1
          go_wp2
          go_ret
          exact ⟨by rw [HZ.out]; rfl, HX.out⟩
      · have d0 : decide ((100 : Int) < (xs.size : Int)) = true := decide_eq_true (by omega)
        have HZ := Lib.hid (HN.out (fun h => y0 h.1))
        clear y0
        go_wp2
        go_ret
        exact ⟨by rw [HZ.out]; rfl, HX.out⟩
    · obtain rfl : k = l.length := by omega
      by_cases h4 : l.length ≤ 40
      · have d0 : decide ((l.length : Int) ≤ 40) = true := decide_eq_true (by omega)
        have HZ := Lib.hid (show decide (SmC l) = true from decide_eq_true ⟨fun x hx => by
          obtain ⟨j, hj, rfl⟩ := List.getElem_of_mem hx
          exact HA.out j hj hj, h4⟩)
        clear HA
        go_wp2
        go_ret
        exact ⟨by rw [HZ.out]; rfl, HX.out⟩
      · have d0 : decide ((l.length : Int) ≤ 40) = false := decide_eq_false (by omega)
        have HZ := Lib.hid (show decide (SmC l) = false from decide_eq_false (fun e => h4 e.2))
        clear HA
        go_wp2
        go_ret
        exact ⟨by rw [HZ.out]; rfl, HX.out⟩
end Go.Proofs.YtljjcchdhnficaaDoor
