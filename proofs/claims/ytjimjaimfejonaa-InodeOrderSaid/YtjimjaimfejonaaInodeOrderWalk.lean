/-
  The walk of InodeOrder.
-/
import Derived.Test.YtjimjaimfejonaaInodeLive
import Derived.Test.YtjimjaimfejonaaFrame
import Derived.Test.YtjimjaimfejonaaOpenTwoN
import Derived.Test.YtjimjaimfejonaaInodeLex
import Derived.Test.YtjimjaimfejonaaSched2
namespace Go.Proofs.Ytjimjaimfejonaa.inodeOrder
open Go.RowKit

set_option maxRecDepth 100000 in
set_option maxHeartbeats 2000000 in
theorem walk (w : World) (fa0 : Int) (fb0 : Int) (fc0 : ByteArray) (fd0 : ByteArray) (zfc0 : fc0.size ≤ maxLen) (zfd0 : fd0.size ≤ maxLen) (_wfa0 : (Lit.int .i64 fa0).wf = true) (wfb0 : (Lit.int .i64 fb0).wf = true) :
    Calls Try.prog 6 #[.agg #[.int .i64 fa0, .int .i64 fb0, .string fc0, .string fd0]] w fun e w' => e = .returned (.bool true) ∧ Below w.heap.size w w' := by
  go_enter Try.func6, Try.ntmps6
  have BX0 := Box.new w 44 #[.int .i64 fa0, .int .i64 fb0, .string fc0, .string fd0]
  have HABX : Hid (Below w.heap.size w (w.alloc (.cells #[.int .i64 fa0, .int .i64 fb0, .string fc0, .string fd0] 44 (0, 0)))) := (Below.refl _ _).alloc (Nat.le_refl _) _
  go_wp2_with fail
  generalize World.alloc _ _ = xBX at *
  skip
  have BX_n := Lib.hid BX0
  clear BX0
  have c0 : xBX.drew.cell? ⟨w.heap.size, 0, none⟩ = some (.int .i64 fa0) := BX_n.out.cell 0 _ rfl
  have c1 : xBX.drew.cell? ⟨w.heap.size, 1, none⟩ = some (.int .i64 fb0) := BX_n.out.cell 1 _ rfl
  have c2 : xBX.drew.cell? ⟨w.heap.size, 2, none⟩ = some (.string fc0) := BX_n.out.cell 2 _ rfl
  have c3 : xBX.drew.cell? ⟨w.heap.size, 3, none⟩ = some (.string fd0) := BX_n.out.cell 3 _ rfl
  refine wp_region_sched (fun W => W.cell? ⟨w.heap.size, 0, none⟩ = some (.int .i64 fa0) ∧ W.cell? ⟨w.heap.size, 1, none⟩ = some (.int .i64 fb0) ∧ W.cell? ⟨w.heap.size, 2, none⟩ = some (.string fc0) ∧ W.cell? ⟨w.heap.size, 3, none⟩ = some (.string fd0)) 11 [(0, false), (1, false), (2, false), (3, false), (4, false), (5, false), (6, false), (7, false), (8, false), (9, false), (10, false)] (by kernel_rfl) (by kernel_rfl) ⟨c0, c1, c2, c3⟩ ?_
  simp only [List.drop_succ_cons, List.drop_zero]
  iterate 11 (apply wpSch_step rfl; (intro W hS K hK; obtain ⟨r1, r2, r3, r4⟩ := hS; go_simp; exact hK _ rfl))
  refine wpSch_nil ?_
  clear c0 c1 c2 c3
  have HD : Hid (Below w.heap.size w xBX.drew) := ⟨HABX.out.os, HABX.out.tape, HABX.out.output, HABX.out.size, HABX.out.block⟩
  generalize xBX.drew = x1 at *
  clear BX_n HABX
  by_cases q0 : fa0 < 0
  · skip
    go_wp2_with fail
    refine (live_any _).mono ?_
    rintro e v1 ⟨rfl, hb⟩
    have HB1 := Lib.hid (HD.out.trans (hb.mono HD.out.size))
    clear hb HD
    go_wp2
    go_ret
    exact ⟨rfl, HB1.out⟩
  by_cases q1 : 2147483648 < fa0
  · skip
    go_wp2_with fail
    refine (live_any _).mono ?_
    rintro e v1 ⟨rfl, hb⟩
    have HB1 := Lib.hid (HD.out.trans (hb.mono HD.out.size))
    clear hb HD
    go_wp2
    go_ret
    exact ⟨rfl, HB1.out⟩
  by_cases q2 : fb0 < 0
  · skip
    go_wp2_with fail
    refine (live_any _).mono ?_
    rintro e v1 ⟨rfl, hb⟩
    have HB1 := Lib.hid (HD.out.trans (hb.mono HD.out.size))
    clear hb HD
    go_wp2
    go_ret
    exact ⟨rfl, HB1.out⟩
  by_cases q3 : 2147483648 < fb0
  · skip
    go_wp2_with fail
    refine (live_any _).mono ?_
    rintro e v1 ⟨rfl, hb⟩
    have HB1 := Lib.hid (HD.out.trans (hb.mono HD.out.size))
    clear hb HD
    go_wp2
    go_ret
    exact ⟨rfl, HB1.out⟩
  by_cases q4 : fc0.size = 0
  · skip
    obtain rfl : fc0 = ⟨#[]⟩ := by apply ByteArray.ext; exact Array.eq_empty_of_size_eq_zero q4
    go_wp2_with fail
    refine (live_any _).mono ?_
    rintro e v1 ⟨rfl, hb⟩
    have HB1 := Lib.hid (HD.out.trans (hb.mono HD.out.size))
    clear hb HD
    go_wp2
    go_ret
    exact ⟨rfl, HB1.out⟩
  obtain ⟨g1, g2⟩ := str_some fc0 (by omega)
  by_cases q5 : fd0.size = 0
  · skip
    obtain rfl : fd0 = ⟨#[]⟩ := by apply ByteArray.ext; exact Array.eq_empty_of_size_eq_zero q5
    go_wp2_with fail
    refine (live_any _).mono ?_
    rintro e v1 ⟨rfl, hb⟩
    have HB1 := Lib.hid (HD.out.trans (hb.mono HD.out.size))
    clear hb HD
    go_wp2
    go_ret
    exact ⟨rfl, HB1.out⟩
  obtain ⟨g3, g4⟩ := str_some fd0 (by omega)
  by_cases q6 : 255 < fc0.size
  · skip
    go_wp2_with fail
    refine (live_any _).mono ?_
    rintro e v1 ⟨rfl, hb⟩
    have HB1 := Lib.hid (HD.out.trans (hb.mono HD.out.size))
    clear hb HD
    go_wp2
    go_ret
    exact ⟨rfl, HB1.out⟩
  by_cases q7 : 255 < fd0.size
  · skip
    go_wp2_with fail
    refine (live_any _).mono ?_
    rintro e v1 ⟨rfl, hb⟩
    have HB1 := Lib.hid (HD.out.trans (hb.mono HD.out.size))
    clear hb HD
    go_wp2
    go_ret
    exact ⟨rfl, HB1.out⟩
  have HN : isNum fa0 := ⟨by omega, by omega⟩
  have HM : isNum fb0 := ⟨by omega, by omega⟩
  have HA : isNam fc0 := ⟨by omega, by omega⟩
  have HB : isNam fd0 := ⟨by omega, by omega⟩
  have k1 := key_less fa0 fb0 HN HM
  have k2 := chk_less 5 fa0 fb0 (by decide) HN HM
  have k3 := ent_less fa0 fb0 fc0 fd0 HN HM HA HB
  clear HN HM HA HB
  have hc : fa0 < fb0 ∨ (fa0 = fb0 ∧ Op.bytesLess fc0.toList fd0.toList = true) ∨ (fa0 = fb0 ∧ Op.bytesLess fc0.toList fd0.toList = false) ∨ fb0 < fa0 := by
    rcases Int.lt_trichotomy fa0 fb0 with h | h | h
    · exact .inl h
    · cases hb : Op.bytesLess fc0.toList fd0.toList
      · exact .inr (.inr (.inl ⟨h, rfl⟩))
      · exact .inr (.inl ⟨h, rfl⟩)
    · exact .inr (.inr (.inr h))
  rcases hc with h | ⟨h, hb⟩ | ⟨h, hb⟩ | h
  · skip
    have e1 : decide (fa0 < fb0) = true := decide_eq_true h
    rw [e1] at k1 k2 k3
    simp only [Bool.true_or] at k3
    go_wp2_with fail
    refine (key_any fa0 _).mono ?_
    rintro e v1 ⟨rfl, hb⟩
    have HB1 := Lib.hid (HD.out.trans (hb.mono HD.out.size))
    clear hb HD
    go_wp2_with fail
    refine (key_any fb0 _).mono ?_
    rintro e v2 ⟨rfl, hb⟩
    have HB2 := Lib.hid (HB1.out.trans (hb.mono HB1.out.size))
    clear hb HB1
    go_wp2_with fail
    refine (chunk_any 5 fa0 _).mono ?_
    rintro e v3 ⟨rfl, hb⟩
    have HB3 := Lib.hid (HB2.out.trans (hb.mono HB2.out.size))
    clear hb HB2
    go_wp2_with fail
    refine (chunk_any 5 fb0 _).mono ?_
    rintro e v4 ⟨rfl, hb⟩
    have HB4 := Lib.hid (HB3.out.trans (hb.mono HB3.out.size))
    clear hb HB3
    go_wp2_with fail
    refine (entry_any fa0 fc0 _).mono ?_
    rintro e v5 ⟨rfl, hb⟩
    have HB5 := Lib.hid (HB4.out.trans (hb.mono HB4.out.size))
    clear hb HB4
    go_wp2_with fail
    refine (entry_any fb0 fd0 _).mono ?_
    rintro e v6 ⟨rfl, hb⟩
    have HB6 := Lib.hid (HB5.out.trans (hb.mono HB5.out.size))
    clear hb HB5
    go_wp2_with fail
    refine (live_any _).mono ?_
    rintro e v7 ⟨rfl, hb⟩
    have HB7 := Lib.hid (HB6.out.trans (hb.mono HB6.out.size))
    clear hb HB6
    go_wp2
    go_ret
    exact ⟨rfl, HB7.out⟩
  · skip
    subst h
    have e1 : decide (fa0 < fa0) = false := decide_eq_false (by omega)
    rw [e1] at k1 k2 k3
    rw [hb] at k3
    simp only [Bool.false_or, decide_true, Bool.true_and] at k3
    go_wp2_with fail
    refine (key_any fa0 _).mono ?_
    rintro e v1 ⟨rfl, hb⟩
    have HB1 := Lib.hid (HD.out.trans (hb.mono HD.out.size))
    clear hb HD
    go_wp2_with fail
    refine (key_any fa0 _).mono ?_
    rintro e v2 ⟨rfl, hb⟩
    have HB2 := Lib.hid (HB1.out.trans (hb.mono HB1.out.size))
    clear hb HB1
    go_wp2_with fail
    refine (chunk_any 5 fa0 _).mono ?_
    rintro e v3 ⟨rfl, hb⟩
    have HB3 := Lib.hid (HB2.out.trans (hb.mono HB2.out.size))
    clear hb HB2
    go_wp2_with fail
    refine (chunk_any 5 fa0 _).mono ?_
    rintro e v4 ⟨rfl, hb⟩
    have HB4 := Lib.hid (HB3.out.trans (hb.mono HB3.out.size))
    clear hb HB3
    go_wp2_with fail
    refine (entry_any fa0 fc0 _).mono ?_
    rintro e v5 ⟨rfl, hb⟩
    have HB5 := Lib.hid (HB4.out.trans (hb.mono HB4.out.size))
    clear hb HB4
    go_wp2_with fail
    refine (entry_any fa0 fd0 _).mono ?_
    rintro e v6 ⟨rfl, hb⟩
    have HB6 := Lib.hid (HB5.out.trans (hb.mono HB5.out.size))
    clear hb HB5
    go_wp2_with fail
    refine (live_any _).mono ?_
    rintro e v7 ⟨rfl, hb⟩
    have HB7 := Lib.hid (HB6.out.trans (hb.mono HB6.out.size))
    clear hb HB6
    go_wp2
    go_ret
    exact ⟨rfl, HB7.out⟩
  · skip
    subst h
    have e1 : decide (fa0 < fa0) = false := decide_eq_false (by omega)
    rw [e1] at k1 k2 k3
    rw [hb] at k3
    simp only [Bool.false_or, decide_true, Bool.true_and] at k3
    go_wp2_with fail
    refine (key_any fa0 _).mono ?_
    rintro e v1 ⟨rfl, hb⟩
    have HB1 := Lib.hid (HD.out.trans (hb.mono HD.out.size))
    clear hb HD
    go_wp2_with fail
    refine (key_any fa0 _).mono ?_
    rintro e v2 ⟨rfl, hb⟩
    have HB2 := Lib.hid (HB1.out.trans (hb.mono HB1.out.size))
    clear hb HB1
    go_wp2_with fail
    refine (chunk_any 5 fa0 _).mono ?_
    rintro e v3 ⟨rfl, hb⟩
    have HB3 := Lib.hid (HB2.out.trans (hb.mono HB2.out.size))
    clear hb HB2
    go_wp2_with fail
    refine (chunk_any 5 fa0 _).mono ?_
    rintro e v4 ⟨rfl, hb⟩
    have HB4 := Lib.hid (HB3.out.trans (hb.mono HB3.out.size))
    clear hb HB3
    go_wp2_with fail
    refine (entry_any fa0 fc0 _).mono ?_
    rintro e v5 ⟨rfl, hb⟩
    have HB5 := Lib.hid (HB4.out.trans (hb.mono HB4.out.size))
    clear hb HB4
    go_wp2_with fail
    refine (entry_any fa0 fd0 _).mono ?_
    rintro e v6 ⟨rfl, hb⟩
    have HB6 := Lib.hid (HB5.out.trans (hb.mono HB5.out.size))
    clear hb HB5
    go_wp2_with fail
    refine (live_any _).mono ?_
    rintro e v7 ⟨rfl, hb⟩
    have HB7 := Lib.hid (HB6.out.trans (hb.mono HB6.out.size))
    clear hb HB6
    go_wp2
    go_ret
    exact ⟨rfl, HB7.out⟩
  · skip
    have e1 : decide (fa0 < fb0) = false := decide_eq_false (by omega)
    have e2 : decide (fa0 = fb0) = false := decide_eq_false (by omega)
    have e3 : (fa0 == fb0) = false := by rw [beq_eq_false_iff_ne]; omega
    rw [e1] at k1 k2 k3
    rw [e2] at k3
    simp only [Bool.false_or, Bool.false_and] at k3
    go_wp2_with fail
    refine (key_any fa0 _).mono ?_
    rintro e v1 ⟨rfl, hb⟩
    have HB1 := Lib.hid (HD.out.trans (hb.mono HD.out.size))
    clear hb HD
    go_wp2_with fail
    refine (key_any fb0 _).mono ?_
    rintro e v2 ⟨rfl, hb⟩
    have HB2 := Lib.hid (HB1.out.trans (hb.mono HB1.out.size))
    clear hb HB1
    go_wp2_with fail
    refine (chunk_any 5 fa0 _).mono ?_
    rintro e v3 ⟨rfl, hb⟩
    have HB3 := Lib.hid (HB2.out.trans (hb.mono HB2.out.size))
    clear hb HB2
    go_wp2_with fail
    refine (chunk_any 5 fb0 _).mono ?_
    rintro e v4 ⟨rfl, hb⟩
    have HB4 := Lib.hid (HB3.out.trans (hb.mono HB3.out.size))
    clear hb HB3
    go_wp2_with fail
    refine (entry_any fa0 fc0 _).mono ?_
    rintro e v5 ⟨rfl, hb⟩
    have HB5 := Lib.hid (HB4.out.trans (hb.mono HB4.out.size))
    clear hb HB4
    go_wp2_with fail
    refine (entry_any fb0 fd0 _).mono ?_
    rintro e v6 ⟨rfl, hb⟩
    have HB6 := Lib.hid (HB5.out.trans (hb.mono HB5.out.size))
    clear hb HB5
    go_wp2_with fail
    refine (live_any _).mono ?_
    rintro e v7 ⟨rfl, hb⟩
    have HB7 := Lib.hid (HB6.out.trans (hb.mono HB6.out.size))
    clear hb HB6
    go_wp2
    go_ret
    exact ⟨rfl, HB7.out⟩
end Go.Proofs.Ytjimjaimfejonaa.inodeOrder
