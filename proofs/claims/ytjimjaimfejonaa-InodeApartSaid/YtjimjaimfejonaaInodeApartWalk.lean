/-
  The walk of InodeApart.
-/
import Derived.Test.YtjimjaimfejonaaInodeLive
import Derived.Test.YtjimjaimfejonaaFrame
import Derived.Test.YtjimjaimfejonaaOpenTwoN
import Derived.Test.YtjimjaimfejonaaInodeLex
import Derived.Test.YtjimjaimfejonaaSched2
import Derived.Test.YtjimjaimfejonaaInodeRDec
namespace Go.Proofs.Ytjimjaimfejonaa.inodeApart
open Go.RowKit

set_option maxRecDepth 100000 in
set_option maxHeartbeats 2000000 in
theorem walk (w : World) (fa0 : Int) (fb0 : Int) (fc0 : ByteArray) (fd0 : ByteArray) (zfc0 : fc0.size ≤ maxLen) (zfd0 : fd0.size ≤ maxLen) (_wfa0 : (Lit.int .i64 fa0).wf = true) (wfb0 : (Lit.int .i64 fb0).wf = true) :
    Calls Try.prog 7 #[.agg #[.int .i64 fa0, .int .i64 fb0, .string fc0, .string fd0]] w fun e w' => e = .returned (.bool true) ∧ Below w.heap.size w w' := by
  by_cases q0 : 255 < fc0.size
  · skip
    go_enter Try.func7, Try.ntmps7
    have BX0 := Box.new w 44 #[.int .i64 fa0, .int .i64 fb0, .string fc0, .string fd0]
    have HABX : Hid (Below w.heap.size w (w.alloc (.cells #[.int .i64 fa0, .int .i64 fb0, .string fc0, .string fd0] 44 (0, 0)))) := (Below.refl _ _).alloc (Nat.le_refl _) _
    go_wp2_with fail
    generalize World.alloc _ _ = xBX at *
    skip
    have BX_n := Lib.hid BX0
    clear BX0
    refine (live_any _).mono ?_
    rintro e v1 ⟨rfl, hb⟩
    have HB1 := Lib.hid (HABX.out.trans (hb.mono HABX.out.size))
    have BX_1 := Lib.hid (BX_n.out.keep hb BX_n.out.lt)
    clear hb HABX BX_n
    go_wp2
    go_ret
    exact ⟨rfl, HB1.out⟩
  by_cases q1 : 255 < fd0.size
  · skip
    go_enter Try.func7, Try.ntmps7
    have BX0 := Box.new w 44 #[.int .i64 fa0, .int .i64 fb0, .string fc0, .string fd0]
    have HABX : Hid (Below w.heap.size w (w.alloc (.cells #[.int .i64 fa0, .int .i64 fb0, .string fc0, .string fd0] 44 (0, 0)))) := (Below.refl _ _).alloc (Nat.le_refl _) _
    go_wp2_with fail
    generalize World.alloc _ _ = xBX at *
    skip
    have BX_n := Lib.hid BX0
    clear BX0
    refine (live_any _).mono ?_
    rintro e v1 ⟨rfl, hb⟩
    have HB1 := Lib.hid (HABX.out.trans (hb.mono HABX.out.size))
    have BX_1 := Lib.hid (BX_n.out.keep hb BX_n.out.lt)
    clear hb HABX BX_n
    go_wp2
    go_ret
    exact ⟨rfl, HB1.out⟩
  by_cases q2 : fc0.size = 0
  · skip
    obtain rfl : fc0 = ⟨#[]⟩ := by apply ByteArray.ext; exact Array.eq_empty_of_size_eq_zero q2
    go_enter Try.func7, Try.ntmps7
    have BX0 := Box.new w 44 #[.int .i64 fa0, .int .i64 fb0, .string ⟨#[]⟩, .string fd0]
    have HABX : Hid (Below w.heap.size w (w.alloc (.cells #[.int .i64 fa0, .int .i64 fb0, .string ⟨#[]⟩, .string fd0] 44 (0, 0)))) := (Below.refl _ _).alloc (Nat.le_refl _) _
    go_wp2_with fail
    generalize World.alloc _ _ = xBX at *
    skip
    have BX_n := Lib.hid BX0
    clear BX0
    refine (live_any _).mono ?_
    rintro e v1 ⟨rfl, hb⟩
    have HB1 := Lib.hid (HABX.out.trans (hb.mono HABX.out.size))
    have BX_1 := Lib.hid (BX_n.out.keep hb BX_n.out.lt)
    clear hb HABX BX_n
    go_wp2
    go_ret
    exact ⟨rfl, HB1.out⟩
  obtain ⟨g1, g2⟩ := str_some fc0 (by omega)
  by_cases q3 : fd0.size = 0
  · skip
    obtain rfl : fd0 = ⟨#[]⟩ := by apply ByteArray.ext; exact Array.eq_empty_of_size_eq_zero q3
    go_enter Try.func7, Try.ntmps7
    have BX0 := Box.new w 44 #[.int .i64 fa0, .int .i64 fb0, .string fc0, .string ⟨#[]⟩]
    have HABX : Hid (Below w.heap.size w (w.alloc (.cells #[.int .i64 fa0, .int .i64 fb0, .string fc0, .string ⟨#[]⟩] 44 (0, 0)))) := (Below.refl _ _).alloc (Nat.le_refl _) _
    go_wp2_with fail
    generalize World.alloc _ _ = xBX at *
    skip
    have BX_n := Lib.hid BX0
    clear BX0
    refine (live_any _).mono ?_
    rintro e v1 ⟨rfl, hb⟩
    have HB1 := Lib.hid (HABX.out.trans (hb.mono HABX.out.size))
    have BX_1 := Lib.hid (BX_n.out.keep hb BX_n.out.lt)
    clear hb HABX BX_n
    go_wp2
    go_ret
    exact ⟨rfl, HB1.out⟩
  obtain ⟨g3, g4⟩ := str_some fd0 (by omega)
  by_cases q4 : fa0 < 0
  · skip
    go_enter Try.func7, Try.ntmps7
    have BX0 := Box.new w 44 #[.int .i64 fa0, .int .i64 fb0, .string fc0, .string fd0]
    have HABX : Hid (Below w.heap.size w (w.alloc (.cells #[.int .i64 fa0, .int .i64 fb0, .string fc0, .string fd0] 44 (0, 0)))) := (Below.refl _ _).alloc (Nat.le_refl _) _
    go_wp2_with fail
    generalize World.alloc _ _ = xBX at *
    skip
    have BX_n := Lib.hid BX0
    clear BX0
    refine (live_any _).mono ?_
    rintro e v1 ⟨rfl, hb⟩
    have HB1 := Lib.hid (HABX.out.trans (hb.mono HABX.out.size))
    have BX_1 := Lib.hid (BX_n.out.keep hb BX_n.out.lt)
    clear hb HABX BX_n
    go_wp2
    go_ret
    exact ⟨rfl, HB1.out⟩
  by_cases q5 : fb0 < 0
  · skip
    go_enter Try.func7, Try.ntmps7
    have BX0 := Box.new w 44 #[.int .i64 fa0, .int .i64 fb0, .string fc0, .string fd0]
    have HABX : Hid (Below w.heap.size w (w.alloc (.cells #[.int .i64 fa0, .int .i64 fb0, .string fc0, .string fd0] 44 (0, 0)))) := (Below.refl _ _).alloc (Nat.le_refl _) _
    go_wp2_with fail
    generalize World.alloc _ _ = xBX at *
    skip
    have BX_n := Lib.hid BX0
    clear BX0
    refine (live_any _).mono ?_
    rintro e v1 ⟨rfl, hb⟩
    have HB1 := Lib.hid (HABX.out.trans (hb.mono HABX.out.size))
    have BX_1 := Lib.hid (BX_n.out.keep hb BX_n.out.lt)
    clear hb HABX BX_n
    go_wp2
    go_ret
    exact ⟨rfl, HB1.out⟩
  by_cases q6 : 2147483648 < fa0
  · skip
    go_enter Try.func7, Try.ntmps7
    have BX0 := Box.new w 44 #[.int .i64 fa0, .int .i64 fb0, .string fc0, .string fd0]
    have HABX : Hid (Below w.heap.size w (w.alloc (.cells #[.int .i64 fa0, .int .i64 fb0, .string fc0, .string fd0] 44 (0, 0)))) := (Below.refl _ _).alloc (Nat.le_refl _) _
    go_wp2_with fail
    generalize World.alloc _ _ = xBX at *
    skip
    have BX_n := Lib.hid BX0
    clear BX0
    refine (live_any _).mono ?_
    rintro e v1 ⟨rfl, hb⟩
    have HB1 := Lib.hid (HABX.out.trans (hb.mono HABX.out.size))
    have BX_1 := Lib.hid (BX_n.out.keep hb BX_n.out.lt)
    clear hb HABX BX_n
    go_wp2
    go_ret
    exact ⟨rfl, HB1.out⟩
  by_cases q7 : 2147483648 < fb0
  · skip
    go_enter Try.func7, Try.ntmps7
    have BX0 := Box.new w 44 #[.int .i64 fa0, .int .i64 fb0, .string fc0, .string fd0]
    have HABX : Hid (Below w.heap.size w (w.alloc (.cells #[.int .i64 fa0, .int .i64 fb0, .string fc0, .string fd0] 44 (0, 0)))) := (Below.refl _ _).alloc (Nat.le_refl _) _
    go_wp2_with fail
    generalize World.alloc _ _ = xBX at *
    skip
    have BX_n := Lib.hid BX0
    clear BX0
    refine (live_any _).mono ?_
    rintro e v1 ⟨rfl, hb⟩
    have HB1 := Lib.hid (HABX.out.trans (hb.mono HABX.out.size))
    have BX_1 := Lib.hid (BX_n.out.keep hb BX_n.out.lt)
    clear hb HABX BX_n
    go_wp2
    go_ret
    exact ⟨rfl, HB1.out⟩
  have HN : isNum fa0 := ⟨by omega, by omega⟩
  have HM : isNum fb0 := ⟨by omega, by omega⟩
  have HA : isNam fc0 := ⟨by omega, by omega⟩
  have HB : isNam fd0 := ⟨by omega, by omega⟩
  have H1 : isNum 1 := by decide
  have k1 := ne_first (first_key fa0 HN) (first_ent fb0 fd0 HM HB) (by decide)
  have k2 := ne_first (first_key fa0 HN) (first_chk fb0 fa0 HM HN) (by decide)
  have k3 := ne_first (first_ent fa0 fc0 HN HA) (first_chk fb0 fa0 HM HN) (by decide)
  have j1 := Lib.hid (ent_inj fa0 fb0 fc0 fd0 HN HM HA HB)
  have j2 := Lib.hid (chk_inj fa0 fb0 1 HN HM H1)
  clear HN HM HA HB H1
  go_enter Try.func7, Try.ntmps7
  have BX0 := Box.new w 44 #[.int .i64 fa0, .int .i64 fb0, .string fc0, .string fd0]
  have HABX : Hid (Below w.heap.size w (w.alloc (.cells #[.int .i64 fa0, .int .i64 fb0, .string fc0, .string fd0] 44 (0, 0)))) := (Below.refl _ _).alloc (Nat.le_refl _) _
  go_wp2_with fail
  generalize World.alloc _ _ = xBX at *
  skip
  have BX_n := Lib.hid BX0
  clear BX0
  have HL0 : Hid (w.heap.size < xBX.heap.size) := BX_n.out.lt
  have d0 : xBX.drew.cell? ⟨w.heap.size, 0, none⟩ = some (.int .i64 fa0) := BX_n.out.cell 0 _ rfl
  have d1 : xBX.drew.cell? ⟨w.heap.size, 1, none⟩ = some (.int .i64 fb0) := BX_n.out.cell 1 _ rfl
  have d2 : xBX.drew.cell? ⟨w.heap.size, 2, none⟩ = some (.string fc0) := BX_n.out.cell 2 _ rfl
  have d3 : xBX.drew.cell? ⟨w.heap.size, 3, none⟩ = some (.string fd0) := BX_n.out.cell 3 _ rfl
  refine wp_region_sched (fun W => W.cell? ⟨w.heap.size, 0, none⟩ = some (.int .i64 fa0) ∧ W.cell? ⟨w.heap.size, 1, none⟩ = some (.int .i64 fb0) ∧ W.cell? ⟨w.heap.size, 2, none⟩ = some (.string fc0) ∧ W.cell? ⟨w.heap.size, 3, none⟩ = some (.string fd0)) 30 [(0, false), (1, false), (3, false), (4, false), (5, false), (6, false), (2, true), (7, true), (8, false), (9, false), (10, false), (11, false), (13, false), (14, false), (15, false), (16, false), (12, true), (17, true), (18, false), (19, false), (20, false), (21, false), (22, false), (23, false), (24, false), (26, false), (27, false), (28, false), (29, false), (25, true)] (by kernel_rfl) (by kernel_rfl) ⟨d0, d1, d2, d3⟩ ?_
  simp only [List.drop_succ_cons, List.drop_zero]
  iterate 6 (apply wpSch_step rfl; (intro W hS K hK; obtain ⟨r0, r1, r2, r3⟩ := hS; go_simp; exact hK _ rfl))
  refine wpSch_make rfl (fun K' hK => ?_)
  go_simp
  refine (key_any _ _).mono ?_
  rintro e v1 ⟨rfl, hb⟩
  have d0 := (hb.cell (p := ⟨w.heap.size, 0, none⟩) HL0.out).trans d0
  have d1 := (hb.cell (p := ⟨w.heap.size, 1, none⟩) HL0.out).trans d1
  have d2 := (hb.cell (p := ⟨w.heap.size, 2, none⟩) HL0.out).trans d2
  have d3 := (hb.cell (p := ⟨w.heap.size, 3, none⟩) HL0.out).trans d3
  have HS1 : Hid (Below w.heap.size w v1) := HABX.out.trans ((show Below xBX.heap.size xBX v1 from ⟨hb.os, hb.tape, hb.output, hb.size, hb.block⟩).mono HABX.out.size)
  have HL1 : Hid (w.heap.size < v1.heap.size) := Nat.lt_of_lt_of_le HL0.out hb.size
  refine hK _ _ _ (fun _ h => h) ⟨d0, d1, d2, d3⟩ ?_
  clear hK K' hb HABX
  refine wpSch_make rfl (fun K' hK => ?_)
  go_simp
  refine (entry_any _ _ _).mono ?_
  rintro e v2 ⟨rfl, hb⟩
  have d0 := (hb.cell (p := ⟨w.heap.size, 0, none⟩) HL1.out).trans d0
  have d1 := (hb.cell (p := ⟨w.heap.size, 1, none⟩) HL1.out).trans d1
  have d2 := (hb.cell (p := ⟨w.heap.size, 2, none⟩) HL1.out).trans d2
  have d3 := (hb.cell (p := ⟨w.heap.size, 3, none⟩) HL1.out).trans d3
  have HS2 : Hid (Below w.heap.size w v2) := HS1.out.trans ((show Below v1.heap.size v1 v2 from ⟨hb.os, hb.tape, hb.output, hb.size, hb.block⟩).mono HS1.out.size)
  have HL2 : Hid (w.heap.size < v2.heap.size) := Nat.lt_of_lt_of_le HL1.out hb.size
  refine hK _ _ _ (fun _ h => h) ⟨d0, d1, d2, d3⟩ ?_
  clear hK K' hb HS1
  iterate 8 (apply wpSch_step rfl; (intro W hS K hK; obtain ⟨r0, r1, r2, r3⟩ := hS; go_simp; exact hK _ rfl))
  refine wpSch_make rfl (fun K' hK => ?_)
  go_simp
  refine (key_any _ _).mono ?_
  rintro e v3 ⟨rfl, hb⟩
  have d0 := (hb.cell (p := ⟨w.heap.size, 0, none⟩) HL2.out).trans d0
  have d1 := (hb.cell (p := ⟨w.heap.size, 1, none⟩) HL2.out).trans d1
  have d2 := (hb.cell (p := ⟨w.heap.size, 2, none⟩) HL2.out).trans d2
  have d3 := (hb.cell (p := ⟨w.heap.size, 3, none⟩) HL2.out).trans d3
  have HS3 : Hid (Below w.heap.size w v3) := HS2.out.trans ((show Below v2.heap.size v2 v3 from ⟨hb.os, hb.tape, hb.output, hb.size, hb.block⟩).mono HS2.out.size)
  have HL3 : Hid (w.heap.size < v3.heap.size) := Nat.lt_of_lt_of_le HL2.out hb.size
  refine hK _ _ _ (fun _ h => h) ⟨d0, d1, d2, d3⟩ ?_
  clear hK K' hb HS2
  refine wpSch_make rfl (fun K' hK => ?_)
  go_simp
  refine (chunk_any _ _ _).mono ?_
  rintro e v4 ⟨rfl, hb⟩
  have d0 := (hb.cell (p := ⟨w.heap.size, 0, none⟩) HL3.out).trans d0
  have d1 := (hb.cell (p := ⟨w.heap.size, 1, none⟩) HL3.out).trans d1
  have d2 := (hb.cell (p := ⟨w.heap.size, 2, none⟩) HL3.out).trans d2
  have d3 := (hb.cell (p := ⟨w.heap.size, 3, none⟩) HL3.out).trans d3
  have HS4 : Hid (Below w.heap.size w v4) := HS3.out.trans ((show Below v3.heap.size v3 v4 from ⟨hb.os, hb.tape, hb.output, hb.size, hb.block⟩).mono HS3.out.size)
  have HL4 : Hid (w.heap.size < v4.heap.size) := Nat.lt_of_lt_of_le HL3.out hb.size
  refine hK _ _ _ (fun _ h => h) ⟨d0, d1, d2, d3⟩ ?_
  clear hK K' hb HS3
  iterate 11 (apply wpSch_step rfl; (intro W hS K hK; obtain ⟨r0, r1, r2, r3⟩ := hS; go_simp; exact hK _ rfl))
  refine wpSch_make rfl (fun K' hK => ?_)
  go_simp
  refine (entry_any _ _ _).mono ?_
  rintro e v5 ⟨rfl, hb⟩
  have d0 := (hb.cell (p := ⟨w.heap.size, 0, none⟩) HL4.out).trans d0
  have d1 := (hb.cell (p := ⟨w.heap.size, 1, none⟩) HL4.out).trans d1
  have d2 := (hb.cell (p := ⟨w.heap.size, 2, none⟩) HL4.out).trans d2
  have d3 := (hb.cell (p := ⟨w.heap.size, 3, none⟩) HL4.out).trans d3
  have HS5 : Hid (Below w.heap.size w v5) := HS4.out.trans ((show Below v4.heap.size v4 v5 from ⟨hb.os, hb.tape, hb.output, hb.size, hb.block⟩).mono HS4.out.size)
  have HL5 : Hid (w.heap.size < v5.heap.size) := Nat.lt_of_lt_of_le HL4.out hb.size
  refine hK _ _ _ (fun _ h => h) ⟨d0, d1, d2, d3⟩ ?_
  clear hK K' hb HS4
  refine wpSch_nil ?_
  have HDD := Lib.hid d0
  have HDE := Lib.hid d1
  have HDF := Lib.hid d2
  have HDG := Lib.hid d3
  have HLL := HL5
  clear d0 d1 d2 d3
  go_wp2_with fail
  refine (chunk_any _ _ _).mono ?_
  rintro e w5 ⟨rfl, hb⟩
  have HW5 := Lib.hid (HS5.out.trans (hb.mono HS5.out.size))
  have HL5 : Hid (w.heap.size < w5.heap.size) := Nat.lt_of_lt_of_le HLL.out hb.size
  have d0 := (hb.cell (p := ⟨w.heap.size, 0, none⟩) HLL.out).trans HDD.out
  have d1 := (hb.cell (p := ⟨w.heap.size, 1, none⟩) HLL.out).trans HDE.out
  have d2 := (hb.cell (p := ⟨w.heap.size, 2, none⟩) HLL.out).trans HDF.out
  have d3 := (hb.cell (p := ⟨w.heap.size, 3, none⟩) HLL.out).trans HDG.out
  clear hb HDD HDE HDF HDG HLL
  have hc : (fa0 = fb0 ∧ fc0 = fd0) ∨ (fa0 = fb0 ∧ fc0 ≠ fd0) ∨ fa0 ≠ fb0 := by
    by_cases h1 : fa0 = fb0
    · by_cases h2 : fc0 = fd0
      · exact .inl ⟨h1, h2⟩
      · exact .inr (.inl ⟨h1, h2⟩)
    · exact .inr (.inr h1)
  rcases hc with ⟨rfl, rfl⟩ | ⟨rfl, h⟩ | h
  · skip
    clear j1 j2
    go_wp2_with fail
    refine wp_region_sched (fun W => W.cell? ⟨w.heap.size, 0, none⟩ = some (.int .i64 fa0) ∧ W.cell? ⟨w.heap.size, 1, none⟩ = some (.int .i64 fa0) ∧ W.cell? ⟨w.heap.size, 2, none⟩ = some (.string fc0) ∧ W.cell? ⟨w.heap.size, 3, none⟩ = some (.string fc0)) 37 [(0, false), (1, false), (2, false), (3, false), (5, false), (6, false), (7, false), (8, false), (11, false), (12, false), (13, false), (14, false), (15, false), (4, true), (9, true), (10, false), (16, false), (17, false), (18, false), (19, false), (20, false), (21, false), (22, false), (23, false), (24, false), (25, false), (26, false), (28, false), (29, false), (32, false), (33, false), (34, false), (35, false), (36, false), (27, true), (30, true), (31, false)] (by kernel_rfl) (by kernel_rfl) ⟨d0, d1, d2, d3⟩ ?_
    simp only [List.drop_succ_cons, List.drop_zero]
    iterate 13 (apply wpSch_step rfl; (intro W hS K hK; obtain ⟨r0, r1, r2, r3⟩ := hS; go_simp; exact hK _ rfl))
    refine wpSch_make rfl (fun K' hK => ?_)
    go_simp
    refine (entry_any _ _ _).mono ?_
    rintro e v6 ⟨rfl, hb⟩
    have d0 := (hb.cell (p := ⟨w.heap.size, 0, none⟩) HL5.out).trans d0
    have d1 := (hb.cell (p := ⟨w.heap.size, 1, none⟩) HL5.out).trans d1
    have d2 := (hb.cell (p := ⟨w.heap.size, 2, none⟩) HL5.out).trans d2
    have d3 := (hb.cell (p := ⟨w.heap.size, 3, none⟩) HL5.out).trans d3
    have HS6 : Hid (Below w.heap.size w v6) := HW5.out.trans ((show Below w5.heap.size w5 v6 from ⟨hb.os, hb.tape, hb.output, hb.size, hb.block⟩).mono HW5.out.size)
    have HL6 : Hid (w.heap.size < v6.heap.size) := Nat.lt_of_lt_of_le HL5.out hb.size
    refine hK _ _ _ (fun _ h => h) ⟨d0, d1, d2, d3⟩ ?_
    clear hK K' hb HW5
    refine wpSch_make rfl (fun K' hK => ?_)
    go_simp
    refine (entry_any _ _ _).mono ?_
    rintro e v7 ⟨rfl, hb⟩
    have d0 := (hb.cell (p := ⟨w.heap.size, 0, none⟩) HL6.out).trans d0
    have d1 := (hb.cell (p := ⟨w.heap.size, 1, none⟩) HL6.out).trans d1
    have d2 := (hb.cell (p := ⟨w.heap.size, 2, none⟩) HL6.out).trans d2
    have d3 := (hb.cell (p := ⟨w.heap.size, 3, none⟩) HL6.out).trans d3
    have HS7 : Hid (Below w.heap.size w v7) := HS6.out.trans ((show Below v6.heap.size v6 v7 from ⟨hb.os, hb.tape, hb.output, hb.size, hb.block⟩).mono HS6.out.size)
    have HL7 : Hid (w.heap.size < v7.heap.size) := Nat.lt_of_lt_of_le HL6.out hb.size
    refine hK _ _ _ (fun _ h => h) ⟨d0, d1, d2, d3⟩ ?_
    clear hK K' hb HS6
    iterate 19 (apply wpSch_step rfl; (intro W hS K hK; obtain ⟨r0, r1, r2, r3⟩ := hS; go_simp; exact hK _ rfl))
    refine wpSch_make rfl (fun K' hK => ?_)
    go_simp
    refine (chunk_any _ _ _).mono ?_
    rintro e v8 ⟨rfl, hb⟩
    have d0 := (hb.cell (p := ⟨w.heap.size, 0, none⟩) HL7.out).trans d0
    have d1 := (hb.cell (p := ⟨w.heap.size, 1, none⟩) HL7.out).trans d1
    have d2 := (hb.cell (p := ⟨w.heap.size, 2, none⟩) HL7.out).trans d2
    have d3 := (hb.cell (p := ⟨w.heap.size, 3, none⟩) HL7.out).trans d3
    have HS8 : Hid (Below w.heap.size w v8) := HS7.out.trans ((show Below v7.heap.size v7 v8 from ⟨hb.os, hb.tape, hb.output, hb.size, hb.block⟩).mono HS7.out.size)
    have HL8 : Hid (w.heap.size < v8.heap.size) := Nat.lt_of_lt_of_le HL7.out hb.size
    refine hK _ _ _ (fun _ h => h) ⟨d0, d1, d2, d3⟩ ?_
    clear hK K' hb HS7
    refine wpSch_make rfl (fun K' hK => ?_)
    go_simp
    refine (chunk_any _ _ _).mono ?_
    rintro e v9 ⟨rfl, hb⟩
    have d0 := (hb.cell (p := ⟨w.heap.size, 0, none⟩) HL8.out).trans d0
    have d1 := (hb.cell (p := ⟨w.heap.size, 1, none⟩) HL8.out).trans d1
    have d2 := (hb.cell (p := ⟨w.heap.size, 2, none⟩) HL8.out).trans d2
    have d3 := (hb.cell (p := ⟨w.heap.size, 3, none⟩) HL8.out).trans d3
    have HS9 : Hid (Below w.heap.size w v9) := HS8.out.trans ((show Below v8.heap.size v8 v9 from ⟨hb.os, hb.tape, hb.output, hb.size, hb.block⟩).mono HS8.out.size)
    have HL9 : Hid (w.heap.size < v9.heap.size) := Nat.lt_of_lt_of_le HL8.out hb.size
    refine hK _ _ _ (fun _ h => h) ⟨d0, d1, d2, d3⟩ ?_
    clear hK K' hb HS8
    iterate 1 (apply wpSch_step rfl; (intro W hS K hK; obtain ⟨r0, r1, r2, r3⟩ := hS; go_simp; exact hK _ rfl))
    refine wpSch_nil ?_
    clear d0 d1 d2 d3
    go_wp2_with fail
    refine (live_any _).mono ?_
    rintro e v10 ⟨rfl, hb⟩
    have HB10 := Lib.hid (HS9.out.trans (hb.mono HS9.out.size))
    clear hb HS9
    go_wp2
    go_ret
    exact ⟨rfl, HB10.out⟩
  · skip
    have e1 := str_ne h
    have e2 := str_ne (fun e => h (j1.out.1 e).2)
    clear j1 j2 h
    go_wp2_with fail
    refine wp_region_sched (fun W => W.cell? ⟨w.heap.size, 0, none⟩ = some (.int .i64 fa0) ∧ W.cell? ⟨w.heap.size, 1, none⟩ = some (.int .i64 fa0) ∧ W.cell? ⟨w.heap.size, 2, none⟩ = some (.string fc0) ∧ W.cell? ⟨w.heap.size, 3, none⟩ = some (.string fd0)) 37 [(0, false), (1, false), (2, false), (3, false), (5, false), (6, false), (7, false), (8, false), (11, false), (12, false), (13, false), (14, false), (15, false), (4, true), (9, true), (10, false), (16, false), (17, false), (18, false), (19, false), (20, false), (21, false), (22, false), (23, false), (24, false), (25, false), (26, false), (28, false), (29, false), (32, false), (33, false), (34, false), (35, false), (36, false), (27, true), (30, true), (31, false)] (by kernel_rfl) (by kernel_rfl) ⟨d0, d1, d2, d3⟩ ?_
    simp only [List.drop_succ_cons, List.drop_zero]
    iterate 13 (apply wpSch_step rfl; (intro W hS K hK; obtain ⟨r0, r1, r2, r3⟩ := hS; go_simp; exact hK _ rfl))
    refine wpSch_make rfl (fun K' hK => ?_)
    go_simp
    refine (entry_any _ _ _).mono ?_
    rintro e v6 ⟨rfl, hb⟩
    have d0 := (hb.cell (p := ⟨w.heap.size, 0, none⟩) HL5.out).trans d0
    have d1 := (hb.cell (p := ⟨w.heap.size, 1, none⟩) HL5.out).trans d1
    have d2 := (hb.cell (p := ⟨w.heap.size, 2, none⟩) HL5.out).trans d2
    have d3 := (hb.cell (p := ⟨w.heap.size, 3, none⟩) HL5.out).trans d3
    have HS6 : Hid (Below w.heap.size w v6) := HW5.out.trans ((show Below w5.heap.size w5 v6 from ⟨hb.os, hb.tape, hb.output, hb.size, hb.block⟩).mono HW5.out.size)
    have HL6 : Hid (w.heap.size < v6.heap.size) := Nat.lt_of_lt_of_le HL5.out hb.size
    refine hK _ _ _ (fun _ h => h) ⟨d0, d1, d2, d3⟩ ?_
    clear hK K' hb HW5
    refine wpSch_make rfl (fun K' hK => ?_)
    go_simp
    refine (entry_any _ _ _).mono ?_
    rintro e v7 ⟨rfl, hb⟩
    have d0 := (hb.cell (p := ⟨w.heap.size, 0, none⟩) HL6.out).trans d0
    have d1 := (hb.cell (p := ⟨w.heap.size, 1, none⟩) HL6.out).trans d1
    have d2 := (hb.cell (p := ⟨w.heap.size, 2, none⟩) HL6.out).trans d2
    have d3 := (hb.cell (p := ⟨w.heap.size, 3, none⟩) HL6.out).trans d3
    have HS7 : Hid (Below w.heap.size w v7) := HS6.out.trans ((show Below v6.heap.size v6 v7 from ⟨hb.os, hb.tape, hb.output, hb.size, hb.block⟩).mono HS6.out.size)
    have HL7 : Hid (w.heap.size < v7.heap.size) := Nat.lt_of_lt_of_le HL6.out hb.size
    refine hK _ _ _ (fun _ h => h) ⟨d0, d1, d2, d3⟩ ?_
    clear hK K' hb HS6
    iterate 19 (apply wpSch_step rfl; (intro W hS K hK; obtain ⟨r0, r1, r2, r3⟩ := hS; go_simp; exact hK _ rfl))
    refine wpSch_make rfl (fun K' hK => ?_)
    go_simp
    refine (chunk_any _ _ _).mono ?_
    rintro e v8 ⟨rfl, hb⟩
    have d0 := (hb.cell (p := ⟨w.heap.size, 0, none⟩) HL7.out).trans d0
    have d1 := (hb.cell (p := ⟨w.heap.size, 1, none⟩) HL7.out).trans d1
    have d2 := (hb.cell (p := ⟨w.heap.size, 2, none⟩) HL7.out).trans d2
    have d3 := (hb.cell (p := ⟨w.heap.size, 3, none⟩) HL7.out).trans d3
    have HS8 : Hid (Below w.heap.size w v8) := HS7.out.trans ((show Below v7.heap.size v7 v8 from ⟨hb.os, hb.tape, hb.output, hb.size, hb.block⟩).mono HS7.out.size)
    have HL8 : Hid (w.heap.size < v8.heap.size) := Nat.lt_of_lt_of_le HL7.out hb.size
    refine hK _ _ _ (fun _ h => h) ⟨d0, d1, d2, d3⟩ ?_
    clear hK K' hb HS7
    refine wpSch_make rfl (fun K' hK => ?_)
    go_simp
    refine (chunk_any _ _ _).mono ?_
    rintro e v9 ⟨rfl, hb⟩
    have d0 := (hb.cell (p := ⟨w.heap.size, 0, none⟩) HL8.out).trans d0
    have d1 := (hb.cell (p := ⟨w.heap.size, 1, none⟩) HL8.out).trans d1
    have d2 := (hb.cell (p := ⟨w.heap.size, 2, none⟩) HL8.out).trans d2
    have d3 := (hb.cell (p := ⟨w.heap.size, 3, none⟩) HL8.out).trans d3
    have HS9 : Hid (Below w.heap.size w v9) := HS8.out.trans ((show Below v8.heap.size v8 v9 from ⟨hb.os, hb.tape, hb.output, hb.size, hb.block⟩).mono HS8.out.size)
    have HL9 : Hid (w.heap.size < v9.heap.size) := Nat.lt_of_lt_of_le HL8.out hb.size
    refine hK _ _ _ (fun _ h => h) ⟨d0, d1, d2, d3⟩ ?_
    clear hK K' hb HS8
    iterate 1 (apply wpSch_step rfl; (intro W hS K hK; obtain ⟨r0, r1, r2, r3⟩ := hS; go_simp; exact hK _ rfl))
    refine wpSch_nil ?_
    clear d0 d1 d2 d3
    go_wp2_with fail
    refine (live_any _).mono ?_
    rintro e v10 ⟨rfl, hb⟩
    have HB10 := Lib.hid (HS9.out.trans (hb.mono HS9.out.size))
    clear hb HS9
    go_wp2
    go_ret
    exact ⟨rfl, HB10.out⟩
  · skip
    have e1 : (fa0 == fb0) = false := by rw [beq_eq_false_iff_ne]; exact h
    have e2 := str_ne (fun e => h (j1.out.1 e).1)
    have e3 := str_ne (fun e => h (j2.out.1 e))
    clear j1 j2 h
    go_wp2_with fail
    refine wp_region_sched (fun W => W.cell? ⟨w.heap.size, 0, none⟩ = some (.int .i64 fa0) ∧ W.cell? ⟨w.heap.size, 1, none⟩ = some (.int .i64 fb0) ∧ W.cell? ⟨w.heap.size, 2, none⟩ = some (.string fc0) ∧ W.cell? ⟨w.heap.size, 3, none⟩ = some (.string fd0)) 37 [(0, false), (1, false), (2, false), (3, false), (5, false), (6, false), (7, false), (8, false), (11, false), (12, false), (13, false), (14, false), (15, false), (4, true), (9, true), (10, false), (16, false), (17, false), (18, false), (19, false), (20, false), (21, false), (22, false), (23, false), (24, false), (25, false), (26, false), (28, false), (29, false), (32, false), (33, false), (34, false), (35, false), (36, false), (27, true), (30, true), (31, false)] (by kernel_rfl) (by kernel_rfl) ⟨d0, d1, d2, d3⟩ ?_
    simp only [List.drop_succ_cons, List.drop_zero]
    iterate 13 (apply wpSch_step rfl; (intro W hS K hK; obtain ⟨r0, r1, r2, r3⟩ := hS; go_simp; exact hK _ rfl))
    refine wpSch_make rfl (fun K' hK => ?_)
    go_simp
    refine (entry_any _ _ _).mono ?_
    rintro e v6 ⟨rfl, hb⟩
    have d0 := (hb.cell (p := ⟨w.heap.size, 0, none⟩) HL5.out).trans d0
    have d1 := (hb.cell (p := ⟨w.heap.size, 1, none⟩) HL5.out).trans d1
    have d2 := (hb.cell (p := ⟨w.heap.size, 2, none⟩) HL5.out).trans d2
    have d3 := (hb.cell (p := ⟨w.heap.size, 3, none⟩) HL5.out).trans d3
    have HS6 : Hid (Below w.heap.size w v6) := HW5.out.trans ((show Below w5.heap.size w5 v6 from ⟨hb.os, hb.tape, hb.output, hb.size, hb.block⟩).mono HW5.out.size)
    have HL6 : Hid (w.heap.size < v6.heap.size) := Nat.lt_of_lt_of_le HL5.out hb.size
    refine hK _ _ _ (fun _ h => h) ⟨d0, d1, d2, d3⟩ ?_
    clear hK K' hb HW5
    refine wpSch_make rfl (fun K' hK => ?_)
    go_simp
    refine (entry_any _ _ _).mono ?_
    rintro e v7 ⟨rfl, hb⟩
    have d0 := (hb.cell (p := ⟨w.heap.size, 0, none⟩) HL6.out).trans d0
    have d1 := (hb.cell (p := ⟨w.heap.size, 1, none⟩) HL6.out).trans d1
    have d2 := (hb.cell (p := ⟨w.heap.size, 2, none⟩) HL6.out).trans d2
    have d3 := (hb.cell (p := ⟨w.heap.size, 3, none⟩) HL6.out).trans d3
    have HS7 : Hid (Below w.heap.size w v7) := HS6.out.trans ((show Below v6.heap.size v6 v7 from ⟨hb.os, hb.tape, hb.output, hb.size, hb.block⟩).mono HS6.out.size)
    have HL7 : Hid (w.heap.size < v7.heap.size) := Nat.lt_of_lt_of_le HL6.out hb.size
    refine hK _ _ _ (fun _ h => h) ⟨d0, d1, d2, d3⟩ ?_
    clear hK K' hb HS6
    iterate 19 (apply wpSch_step rfl; (intro W hS K hK; obtain ⟨r0, r1, r2, r3⟩ := hS; go_simp; exact hK _ rfl))
    refine wpSch_make rfl (fun K' hK => ?_)
    go_simp
    refine (chunk_any _ _ _).mono ?_
    rintro e v8 ⟨rfl, hb⟩
    have d0 := (hb.cell (p := ⟨w.heap.size, 0, none⟩) HL7.out).trans d0
    have d1 := (hb.cell (p := ⟨w.heap.size, 1, none⟩) HL7.out).trans d1
    have d2 := (hb.cell (p := ⟨w.heap.size, 2, none⟩) HL7.out).trans d2
    have d3 := (hb.cell (p := ⟨w.heap.size, 3, none⟩) HL7.out).trans d3
    have HS8 : Hid (Below w.heap.size w v8) := HS7.out.trans ((show Below v7.heap.size v7 v8 from ⟨hb.os, hb.tape, hb.output, hb.size, hb.block⟩).mono HS7.out.size)
    have HL8 : Hid (w.heap.size < v8.heap.size) := Nat.lt_of_lt_of_le HL7.out hb.size
    refine hK _ _ _ (fun _ h => h) ⟨d0, d1, d2, d3⟩ ?_
    clear hK K' hb HS7
    refine wpSch_make rfl (fun K' hK => ?_)
    go_simp
    refine (chunk_any _ _ _).mono ?_
    rintro e v9 ⟨rfl, hb⟩
    have d0 := (hb.cell (p := ⟨w.heap.size, 0, none⟩) HL8.out).trans d0
    have d1 := (hb.cell (p := ⟨w.heap.size, 1, none⟩) HL8.out).trans d1
    have d2 := (hb.cell (p := ⟨w.heap.size, 2, none⟩) HL8.out).trans d2
    have d3 := (hb.cell (p := ⟨w.heap.size, 3, none⟩) HL8.out).trans d3
    have HS9 : Hid (Below w.heap.size w v9) := HS8.out.trans ((show Below v8.heap.size v8 v9 from ⟨hb.os, hb.tape, hb.output, hb.size, hb.block⟩).mono HS8.out.size)
    have HL9 : Hid (w.heap.size < v9.heap.size) := Nat.lt_of_lt_of_le HL8.out hb.size
    refine hK _ _ _ (fun _ h => h) ⟨d0, d1, d2, d3⟩ ?_
    clear hK K' hb HS8
    iterate 1 (apply wpSch_step rfl; (intro W hS K hK; obtain ⟨r0, r1, r2, r3⟩ := hS; go_simp; exact hK _ rfl))
    refine wpSch_nil ?_
    clear d0 d1 d2 d3
    go_wp2_with fail
    refine (live_any _).mono ?_
    rintro e v10 ⟨rfl, hb⟩
    have HB10 := Lib.hid (HS9.out.trans (hb.mono HS9.out.size))
    clear hb HS9
    go_wp2
    go_ret
    exact ⟨rfl, HB10.out⟩
end Go.Proofs.Ytjimjaimfejonaa.inodeApart
