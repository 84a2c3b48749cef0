/-
  The reference's Decode of inodes.
-/
import Derived.Test.YtjimjaimfejonaaInodeREnc
import Derived.Test.YtjimjaimfejonaaInodeDec
import Derived.Test.YtjimjaimfejonaaRefPos
import Derived.Test.YtjimjaimfejonaaRes4
namespace Go.Proofs.Ytjimjaimfejonaa
open Go.RowKit

theorem sizeRIno : (Try.prog.info? 30).map (·.size) = some 3 := by kernel_rfl

theorem RrPos.lt {w : World} {b : Nat} {s : ByteArray} {k : Nat} (h : RrPos w b s k) : b < w.heap.size := by
  obtain ⟨r, hr, -⟩ := h
  exact lt_of_block hr
theorem RrPos.of {w w' : World} {b : Nat} {s : ByteArray} {k : Nat} (h : RrPos w b s k) (e : w'.heap[b]? = w.heap[b]?) : RrPos w' b s k := by
  obtain ⟨r, hr, hs⟩ := h
  exact ⟨r, e.trans hr, hs⟩

theorem str_ne {a b : ByteArray} (h : a ≠ b) : (a.toList == b.toList) = false := by
  rw [beq_eq_false_iff_ne]
  intro e
  apply h
  rw [ByteArray.toList_eq, ByteArray.toList_eq] at e
  apply ByteArray.ext
  exact Array.toList_inj.1 e

set_option maxRecDepth 100000 in
set_option maxHeartbeats 2000000 in
theorem ridecode_any (s : ByteArray) (w : World) : Calls Try.prog 20 #[.string s] w fun e w' => e = .returned (.tuple #[inoV (decI s).1, .int .i64 (decI s).2]) ∧ Below w.heap.size w w' := by
  have BX := Box.new w 30 #[.bool false, .int .i64 0, .int .i64 0]
  have HX : Hid (Below w.heap.size w (w.alloc (.cells #[.bool false, .int .i64 0, .int .i64 0] 30 (0, 0)))) := (Below.refl _ _).alloc (Nat.le_refl _) _
  have hR0 : ∀ W : World, RrPos (W.alloc (.cells #[.string s, .int .i64 0] 58 (0, 0))) W.heap.size s 0 := fun W => by
    refine ⟨s, ?_, fun _ => ?_⟩
    · rw [show posE s 0 = 0 from if_pos (Nat.zero_le _)]
      exact (MapKept.heap_alloc W _).1
    · exact ByteArray.extract_zero_size.symm
  have HR0 := Lib.hid hR0
  clear hR0
  obtain ⟨R, hR⟩ : ∃ R, R = decI s := ⟨_, rfl⟩
  rw [← hR]
  have HRR := Lib.hid hR
  clear hR
  go_enter Try.func20, Try.ntmps20
  go_wp2_with fail
  have HRD : Hid (RrPos ((w.alloc (.cells #[.bool false, .int .i64 0, .int .i64 0] 30 (0, 0))).alloc (.cells #[.string s, .int .i64 0] 58 (0, 0))) (w.alloc (.cells #[.bool false, .int .i64 0, .int .i64 0] 30 (0, 0))).heap.size s 0) := HR0.out _
  have BX1 := Lib.hid (BX.alloc (.cells #[.string s, .int .i64 0] 58 (0, 0)))
  have HX1 := Lib.hid (HX.out.alloc HX.out.size (.cells #[.string s, .int .i64 0] 58 (0, 0)))
  rw [size_alloc] at HRD
  clear BX HX HR0
  generalize World.alloc _ _ = w1 at *
  have HG : Hid (w.heap.size < w.heap.size + 1) := Nat.lt_succ_self _
  generalize w.heap.size + 1 = r at *
  refine (rnumber_pos r s 0 1 (by decide) (by decide) _ HRD.out).mono ?_
  rintro e w2 ⟨rfl, hp, ho⟩
  have BX2 := Lib.hid (ho.box (Nat.ne_of_lt HG.out) BX1.out)
  have HX2 := Lib.hid (HX1.out.trans (ho.below' (Nat.le_of_lt HG.out) HX1.out.size))
  have HP2 := Lib.hid hp
  clear hp ho BX1 HX1 HRD
  go_wp2_with fail
  refine (rnumber_pos r s 1 4 (by decide) (by decide) _ HP2.out).mono ?_
  rintro e w3 ⟨rfl, hp, ho⟩
  have BX3 := Lib.hid (ho.box (Nat.ne_of_lt HG.out) BX2.out)
  have HX3 := Lib.hid (HX2.out.trans (ho.below' (Nat.le_of_lt HG.out) HX2.out.size))
  have HP3 := Lib.hid hp
  clear hp ho BX2 HX2 HP2
  go_wp2_with fail
  refine (rnumber_pos r s 5 4 (by decide) (by decide) _ HP3.out).mono ?_
  rintro e w4 ⟨rfl, hp, ho⟩
  have BX4 := Lib.hid (ho.box (Nat.ne_of_lt HG.out) BX3.out)
  have HX4 := Lib.hid (HX3.out.trans (ho.below' (Nat.le_of_lt HG.out) HX3.out.size))
  clear ho BX3 HX3 HP3
  obtain ⟨rr, hr, -⟩ := hp
  obtain ⟨-, k1, -, -⟩ := hr.cells
  clear hr
  obtain ⟨q0, q1, q2, q3, q4, q5⟩ := box3_cells BX4.out (.bool false) (.int .i64 0)
  by_cases h9 : s.size < 9
  · rw [show posE s (5 + 4) = 2 from if_neg (by omega)] at k1
    have HE : Hid (R = (⟨false, 0, 0⟩, 2)) := HRR.out.trans (if_pos h9)
    have HR := Lib.hid (retBox3 BX4.out (.bool false) (.int .i64 0) (.int .i64 0))
    clear h9
    go_wp2
    refine bodyPost_ret (results_box_tmp rfl _ _ w.heap.size 30 _ (0, 0) _ rfl HR.out.1 Try.underlying30 rfl sizeRIno) rfl ?_
    exact ⟨by rw [HE.out]; rfl, HX4.out.trans (HR.out.2.below' (Nat.le_refl _) HX4.out.size)⟩
  · rw [show posE s (5 + 4) = 0 from if_pos (by omega)] at k1
    have HD := Lib.hid (enc_decI s h9)
    have HE : Hid (R = if 9 < s.size ∨ 1 < valN s 0 1 ∨ 2147483648 < valN s 1 4 ∨ 2147483648 < valN s 5 4 then (⟨false, 0, 0⟩, 3) else (⟨decide (valN s 0 1 = 1), valN s 1 4, valN s 5 4⟩, 0)) := HRR.out.trans (if_neg h9)
    clear h9 q0 q1 q2 q3 q4 q5
    have hv : ((valN s 0 1 : Int) == 1) = decide (valN s 0 1 = 1) := by
      by_cases e : valN s 0 1 = 1
      · rw [e]; rfl
      · rw [decide_eq_false e, beq_eq_false_iff_ne]; omega
    generalize valN s 0 1 = v0 at *
    generalize valN s 1 4 = v1 at *
    generalize valN s 5 4 = v2 at *
    generalize decide (v0 = 1) = d at *
    have B5 := Box.new w4 30 #[.bool d, .int .i64 v1, .int .i64 v2]
    have HG4 : Hid (w.heap.size < w4.heap.size) := BX4.out.lt
    have BX5 := Lib.hid (BX4.out.alloc (.cells #[.bool d, .int .i64 v1, .int .i64 v2] 30 (0, 0)))
    have HX5 := Lib.hid (HX4.out.alloc HX4.out.size (.cells #[.bool d, .int .i64 v1, .int .i64 v2] 30 (0, 0)))
    go_wp2_with fail
    generalize World.alloc _ _ = w5 at *
    have HB5 := Lib.hid B5
    clear B5
    refine (riencode_any d v1 v2 _).mono ?_
    rintro e w6 ⟨rfl, hb⟩
    have BX6 := Lib.hid (BX5.out.keep hb BX5.out.lt)
    have HX6 := Lib.hid (HX5.out.trans (hb.mono HX5.out.size))
    have HB6 := Lib.hid (HB5.out.keep hb HB5.out.lt)
    clear hb BX5 HX5 HB5
    by_cases hC : 9 < s.size ∨ 1 < v0 ∨ 2147483648 < v1 ∨ 2147483648 < v2
    · have HE2 := Lib.hid (HE.out.trans (if_pos hC))
      have HR := Lib.hid (retBox3 BX6.out (.bool false) (.int .i64 0) (.int .i64 0))
      obtain ⟨q0, q1, q2, q3, q4, q5⟩ := box3_cells BX6.out (.bool false) (.int .i64 0)
      by_cases hi : isNum v1 ∧ isNum v2
      · have hne : inoB d v1 v2 ≠ s := fun e => (HD.out.1 ⟨e, hi⟩) hC
        have hq := str_ne hne
        rw [show encI d v1 v2 = (inoB d v1 v2, 0) from if_pos hi]
        clear hi hne hC
        go_wp2
        refine bodyPost_ret (results_box_tmp rfl _ _ w.heap.size 30 _ (0, 0) _ rfl HR.out.1 Try.underlying30 rfl sizeRIno) rfl ?_
        exact ⟨by rw [HE2.out]; rfl, HX6.out.trans (HR.out.2.below' (Nat.le_refl _) HX6.out.size)⟩
      · rw [show encI d v1 v2 = (⟨#[]⟩, 1) from if_neg hi]
        clear hi hC
        go_wp2
        refine bodyPost_ret (results_box_tmp rfl _ _ w.heap.size 30 _ (0, 0) _ rfl HR.out.1 Try.underlying30 rfl sizeRIno) rfl ?_
        exact ⟨by rw [HE2.out]; rfl, HX6.out.trans (HR.out.2.below' (Nat.le_refl _) HX6.out.size)⟩
    · have HE2 := Lib.hid (HE.out.trans (if_neg hC))
      obtain ⟨hi, hn⟩ := HD.out.2 hC
      rw [show encI d v1 v2 = (s, 0) from by unfold encI; rw [if_pos hn, hi]]
      have p0 := HB6.out.cell 0 _ rfl
      have p1 := HB6.out.cell 1 _ rfl
      have p2 := HB6.out.cell 2 _ rfl
      have HR := Lib.hid (retBox3 BX6.out (.bool d) (.int .i64 v1) (.int .i64 v2))
      obtain ⟨q0, q1, q2, q3, q4, q5⟩ := box3_cells BX6.out (.bool d) (.int .i64 v1)
      clear hi hn hC
      go_wp2
      refine bodyPost_ret (results_box_tmp rfl _ _ w.heap.size 30 _ (0, 0) _ rfl HR.out.1 Try.underlying30 rfl sizeRIno) rfl ?_
      exact ⟨by rw [HE2.out]; rfl, HX6.out.trans (HR.out.2.below' (Nat.le_refl _) HX6.out.size)⟩

end Go.Proofs.Ytjimjaimfejonaa
