/-
  The program's Decode of inodes.
-/
import Derived.Test.YtjimjaimfejonaaInodeEnc
import Derived.Test.YtjimjaimfejonaaRes4
import Derived.Test.YtjimjaimfejonaaBox
namespace Go.Proofs.Ytjimjaimfejonaa
open Go.RowKit

def inoV (x : InoD) : Value := .agg #[.bool x.dir, .int .i64 x.size, .int .i64 x.links]
theorem sizeIno : (Try.prog.info? 34).map (·.size) = some 3 := by kernel_rfl

theorem retBox3 {w : World} {D : Nat} {t : TypeId} {y0 y1 y2 : Value} (h : Box w D t #[y0, y1, y2]) (x0 x1 x2 : Value) :
    Box (((w.setCell ⟨D, 0, none⟩ x0).setCell ⟨D, 1, none⟩ x1).setCell ⟨D, 2, none⟩ x2) D t #[x0, x1, x2] ∧
    Only D w (((w.setCell ⟨D, 0, none⟩ x0).setCell ⟨D, 1, none⟩ x1).setCell ⟨D, 2, none⟩ x2) :=
  ⟨((h.set 0 x0).set 1 x1).set 2 x2, ((Only.set D 0 w x0).trans (Only.set D 1 _ x1)).trans (Only.set D 2 _ x2)⟩
/-- Three cells of a box, written one behind the other: each is there when it is written. -/
theorem box3_cells {w : World} {D : Nat} {t : TypeId} {y0 y1 y2 : Value} (h : Box w D t #[y0, y1, y2]) (x0 x1 : Value) :
    w.cell? ⟨D, 0, none⟩ = some y0 ∧ (w.setCell ⟨D, 0, none⟩ x0).cell? ⟨D, 1, none⟩ = some y1 ∧ ((w.setCell ⟨D, 0, none⟩ x0).setCell ⟨D, 1, none⟩ x1).cell? ⟨D, 2, none⟩ = some y2 ∧
    w.frozen? ⟨D, 0, none⟩ = false ∧ (w.setCell ⟨D, 0, none⟩ x0).frozen? ⟨D, 1, none⟩ = false ∧ ((w.setCell ⟨D, 0, none⟩ x0).setCell ⟨D, 1, none⟩ x1).frozen? ⟨D, 2, none⟩ = false :=
  ⟨h.cell 0 _ rfl, (h.set 0 x0).cell 1 _ rfl, ((h.set 0 x0).set 1 x1).cell 2 _ rfl, h.free 0, (h.set 0 x0).free 1, ((h.set 0 x0).set 1 x1).free 2⟩

theorem RdPos.keepI {w w' : World} {b n : Nat} {s : ByteArray} {k : Nat} (h : RdPos w b s k) (hb : Below n w w') (hn : b < n) : RdPos w' b s k := by
  show w'.heap[b]? = _
  rw [hb.block b hn]; exact h

set_option maxRecDepth 100000 in
set_option maxHeartbeats 1000000 in
theorem idecode_any (s : ByteArray) (w : World) : Calls Try.prog 19 #[.string s] w fun e w' => e = .returned (.tuple #[inoV (decI s).1, .int .i64 (decI s).2]) ∧ Below w.heap.size w w' := by
  have BX := Box.new w 34 #[.bool false, .int .i64 0, .int .i64 0]
  have HX : Hid (Below w.heap.size w (w.alloc (.cells #[.bool false, .int .i64 0, .int .i64 0] 34 (0, 0)))) := (Below.refl _ _).alloc (Nat.le_refl _) _
  by_cases h9 : s.size < 9
  · rw [show decI s = (⟨false, 0, 0⟩, 2) from if_pos h9]
    go_enter Try.func19, Try.ntmps19
    go_wp2_with fail
    generalize World.alloc _ _ = wx at *
    refine bodyPost_ret (results_box_tmp rfl _ _ w.heap.size 34 _ (0, 0) _ rfl BX Try.underlying34 rfl sizeIno) rfl ?_
    exact ⟨rfl, HX.out⟩
  · obtain ⟨R, hR⟩ : ∃ R, R = decI s := ⟨_, rfl⟩
    have HRR : Hid (R = if 9 < s.size ∨ 1 < valN s 0 1 ∨ 2147483648 < valN s 1 4 ∨ 2147483648 < valN s 5 4 then (⟨false, 0, 0⟩, 3) else (⟨decide (valN s 0 1 = 1), valN s 1 4, valN s 5 4⟩, 0)) := hR.trans (if_neg h9)
    rw [← hR]
    clear hR
    have he : posEnd s 9 = if 9 < s.size then 3 else 0 := by
      unfold posEnd
      split
      · rfl
      · rw [if_pos (by omega)]
    go_enter Try.func19, Try.ntmps19
    go_wp2_with fail
    generalize World.alloc _ _ = wx at *
    refine (read_pos s _).mono ?_
    rintro e w1 ⟨rfl, hp, hb⟩
    have BX1 := Lib.hid (BX.keep hb BX.lt)
    have HG : Hid (w.heap.size < wx.heap.size) := BX.lt
    have HX1 := Lib.hid (HX.out.trans (hb.mono HX.out.size))
    have HP1 := Lib.hid hp
    clear hb hp BX
    generalize wx.heap.size = r at *
    go_wp2_with fail
    refine (number_pos r s 0 1 (by decide) (by decide) _ HP1.out).mono ?_
    rintro e w2 ⟨rfl, hp, ho⟩
    have BX2 := Lib.hid (ho.box (Nat.ne_of_lt HG.out) BX1.out)
    have HX2 := Lib.hid (HX1.out.trans (ho.below' (Nat.le_of_lt HG.out) HX1.out.size))
    have HP2 := Lib.hid hp
    clear hp ho BX1 HX1 HP1
    go_wp2_with fail
    refine (number_pos r s 1 4 (by decide) (by decide) _ HP2.out).mono ?_
    rintro e w3 ⟨rfl, hp, ho⟩
    have BX3 := Lib.hid (ho.box (Nat.ne_of_lt HG.out) BX2.out)
    have HX3 := Lib.hid (HX2.out.trans (ho.below' (Nat.le_of_lt HG.out) HX2.out.size))
    have HP3 := Lib.hid hp
    clear hp ho BX2 HX2 HP2
    go_wp2_with fail
    refine (number_pos r s 5 4 (by decide) (by decide) _ HP3.out).mono ?_
    rintro e w4 ⟨rfl, hp, ho⟩
    have BX4 := Lib.hid (ho.box (Nat.ne_of_lt HG.out) BX3.out)
    have HX4 := Lib.hid (HX3.out.trans (ho.below' (Nat.le_of_lt HG.out) HX3.out.size))
    have HP4 := Lib.hid hp
    clear hp ho BX3 HX3 HP3
    have HV : Hid (∀ n : Nat, decide (isNum (n : Int)) = decide (¬ 2147483648 < n)) := fun n => by unfold isNum; congr 1; apply propext; omega
    generalize valN s 0 1 = v0 at *
    generalize valN s 1 4 = v1 at *
    generalize valN s 5 4 = v2 at *
    go_wp2_with fail
    refine (end_pos r s 9 _ HP4.out).mono ?_
    rintro e w5 ⟨rfl, rfl⟩
    rw [he]
    clear he
    obtain ⟨q0, q1, q2, q3, q4, q5⟩ := box3_cells BX4.out (.bool false) (.int .i64 0)
    by_cases hz : 9 < s.size
    · have HE : Hid (R = (⟨false, 0, 0⟩, 3)) := HRR.out.trans (if_pos (.inl hz))
      have HR := Lib.hid (retBox3 BX4.out (.bool false) (.int .i64 0) (.int .i64 0))
      rw [if_pos hz]
      go_wp2
      refine bodyPost_ret (results_box_tmp rfl _ _ w.heap.size 34 _ (0, 0) _ rfl HR.out.1 Try.underlying34 rfl sizeIno) rfl ?_
      exact ⟨by rw [HE.out]; rfl, HX4.out.trans (HR.out.2.below' (Nat.le_refl _) HX4.out.size)⟩
    · rw [if_neg hz]
      by_cases h0 : 1 < v0
      · have HE : Hid (R = (⟨false, 0, 0⟩, 3)) := HRR.out.trans (if_pos (.inr (.inl h0)))
        have HR := Lib.hid (retBox3 BX4.out (.bool false) (.int .i64 0) (.int .i64 0))
        go_wp2
        refine bodyPost_ret (results_box_tmp rfl _ _ w.heap.size 34 _ (0, 0) _ rfl HR.out.1 Try.underlying34 rfl sizeIno) rfl ?_
        exact ⟨by rw [HE.out]; rfl, HX4.out.trans (HR.out.2.below' (Nat.le_refl _) HX4.out.size)⟩
      · go_wp2_with fail
        refine (isnum_any _ _).mono ?_
        rintro e w6 ⟨rfl, rfl⟩
        rw [HV.out]
        by_cases h1 : 2147483648 < v1
        · have HE : Hid (R = (⟨false, 0, 0⟩, 3)) := HRR.out.trans (if_pos (.inr (.inr (.inl h1))))
          have HR := Lib.hid (retBox3 BX4.out (.bool false) (.int .i64 0) (.int .i64 0))
          rw [show decide (¬ 2147483648 < v1) = false from decide_eq_false (fun h => h h1)]
          go_wp2
          refine bodyPost_ret (results_box_tmp rfl _ _ w.heap.size 34 _ (0, 0) _ rfl HR.out.1 Try.underlying34 rfl sizeIno) rfl ?_
          exact ⟨by rw [HE.out]; rfl, HX4.out.trans (HR.out.2.below' (Nat.le_refl _) HX4.out.size)⟩
        · rw [show decide (¬ 2147483648 < v1) = true from decide_eq_true h1]
          go_wp2_with fail
          refine (isnum_any _ _).mono ?_
          rintro e w6 ⟨rfl, rfl⟩
          rw [HV.out]
          by_cases h2 : 2147483648 < v2
          · have HE : Hid (R = (⟨false, 0, 0⟩, 3)) := HRR.out.trans (if_pos (.inr (.inr (.inr h2))))
            have HR := Lib.hid (retBox3 BX4.out (.bool false) (.int .i64 0) (.int .i64 0))
            rw [show decide (¬ 2147483648 < v2) = false from decide_eq_false (fun h => h h2)]
            go_wp2
            refine bodyPost_ret (results_box_tmp rfl _ _ w.heap.size 34 _ (0, 0) _ rfl HR.out.1 Try.underlying34 rfl sizeIno) rfl ?_
            exact ⟨by rw [HE.out]; rfl, HX4.out.trans (HR.out.2.below' (Nat.le_refl _) HX4.out.size)⟩
          · have HE : Hid (R = (⟨decide (v0 = 1), v1, v2⟩, 0)) := HRR.out.trans (if_neg (by omega))
            rw [show decide (¬ 2147483648 < v2) = true from decide_eq_true h2]
            have hv : v0 = 0 ∨ v0 = 1 := by omega
            clear q1 q2 q4 q5
            rcases hv with rfl | rfl
            · obtain ⟨-, q1, q2, -, q4, q5⟩ := box3_cells BX4.out (.bool false) (.int .i64 v1)
              have HR := Lib.hid (retBox3 BX4.out (.bool false) (.int .i64 v1) (.int .i64 v2))
              go_wp2
              refine bodyPost_ret (results_box_tmp rfl _ _ w.heap.size 34 _ (0, 0) _ rfl HR.out.1 Try.underlying34 rfl sizeIno) rfl ?_
              exact ⟨by rw [HE.out]; rfl, HX4.out.trans (HR.out.2.below' (Nat.le_refl _) HX4.out.size)⟩
            · obtain ⟨-, q1, q2, -, q4, q5⟩ := box3_cells BX4.out (.bool true) (.int .i64 v1)
              have HR := Lib.hid (retBox3 BX4.out (.bool true) (.int .i64 v1) (.int .i64 v2))
              go_wp2
              refine bodyPost_ret (results_box_tmp rfl _ _ w.heap.size 34 _ (0, 0) _ rfl HR.out.1 Try.underlying34 rfl sizeIno) rfl ?_
              exact ⟨by rw [HE.out]; rfl, HX4.out.trans (HR.out.2.below' (Nat.le_refl _) HX4.out.size)⟩
end Go.Proofs.Ytjimjaimfejonaa
