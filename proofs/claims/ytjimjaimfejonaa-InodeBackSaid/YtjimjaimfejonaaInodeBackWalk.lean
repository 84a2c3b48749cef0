/-
  The walk of InodeBack.
-/
import Derived.Test.YtjimjaimfejonaaInodeLive
import Derived.Test.YtjimjaimfejonaaFrame
import Derived.Test.YtjimjaimfejonaaOpenIno
import Derived.Test.YtjimjaimfejonaaInodeRDec
import Derived.Test.YtjimjaimfejonaaInodeLex
namespace Go.Proofs.Ytjimjaimfejonaa.inodeBack
open Go.RowKit

/-- The model's '==' at an inode of the reference's. -/
theorem eqRIno (x1 y1 : Bool) (x2 y2 x3 y3 : Int) (w : World) : (Op.equalIn 10000 30 (.agg #[.bool x1, .int .i64 x2, .int .i64 x3]) (.agg #[.bool y1, .int .i64 y2, .int .i64 y3])).run Try.prog w = .ok (x1 == y1 && (x2 == y2 && x3 == y3)) w := by
  have u3 := Try.underlying3
  have a3 := Try.isAgg3
  have z3 := Try.sizeOf3
  have u9 := Try.underlying4
  have a9 := Try.isAgg4
  have z9 := Try.sizeOf4
  have hS : Try.prog.underlying 30 = some (.struct (Try.prog.fieldsOf 30)) := by kernel_rfl
  have hp : Try.prog.stoodInHeld 30 = false := by kernel_rfl
  rw [show (10000 : Nat) = 9999 + 1 from rfl, run_equalIn_agg w 9999 30 _ _ hS hp]
  simp only [Program.fieldsOf, Try.underlying30]
  go_simp
  by_cases h1 : x1 = y1 <;> by_cases h2 : x2 = y2 <;> by_cases h3 : x3 = y3 <;> simp [h1, h2, h3]

set_option maxRecDepth 100000 in
set_option maxHeartbeats 2000000 in
theorem walk (w : World) (a0 : Int) (_w0 : (Lit.int .i64 a0).wf = true) (a1 : ByteArray) (w1 : a1.size ≤ 140737488351232) (fa2 : Bool) (fb2 : Int) (fc2 : Int) (_wfb2 : (Lit.int .i64 fb2).wf = true) (_wfc2 : (Lit.int .i64 fc2).wf = true) :
    Calls Try.prog 5 #[.int .i64 a0, .string a1, .agg #[.bool fa2, .int .i64 fb2, .int .i64 fc2]] w fun e w' => e = .returned (.bool true) ∧ Below w.heap.size w w' := by
  by_cases hl : 400 < a1.size
  · skip
    go_enter Try.func5, Try.ntmps5
    have BX0 := Box.new w 30 #[.bool fa2, .int .i64 fb2, .int .i64 fc2]
    have HABX : Hid (Below w.heap.size w (w.alloc (.cells #[.bool fa2, .int .i64 fb2, .int .i64 fc2] 30 (0, 0)))) := (Below.refl _ _).alloc (Nat.le_refl _) _
    go_wp2_with fail
    generalize World.alloc _ _ = xBX at *
    skip
    have BX_n := Lib.hid BX0
    clear BX0
    refine (live_any _).mono ?_
    rintro e v1 ⟨rfl, hb⟩
    have HB1 := Lib.hid (HABX.out.trans (hb.mono HABX.out.size))
    have BX_1 := Lib.hid (BX_n.out.keep hb BX_n.out.lt)
    clear hb HABX BX_n
    go_wp2
    go_ret
    exact ⟨rfl, HB1.out⟩
  by_cases hn : isNum a0
  · skip
    have HN := Lib.hid (which_key a0 hn)
    obtain ⟨g1, g2⟩ := str_some (keyB a0) (by rw [key_size a0 hn]; omega)
    by_cases hs : isNam a1
    · skip
      have HS := Lib.hid (which_ent a0 a1 hn hs)
      obtain ⟨g3, g4⟩ := str_some (entB a0 a1) (by rw [ent_size a0 a1 hn hs]; omega)
      clear hn hs
      go_enter Try.func5, Try.ntmps5
      have BX0 := Box.new w 30 #[.bool fa2, .int .i64 fb2, .int .i64 fc2]
      have HABX : Hid (Below w.heap.size w (w.alloc (.cells #[.bool fa2, .int .i64 fb2, .int .i64 fc2] 30 (0, 0)))) := (Below.refl _ _).alloc (Nat.le_refl _) _
      go_wp2_with fail
      generalize World.alloc _ _ = xBX at *
      skip
      have BX_n := Lib.hid BX0
      clear BX0
      refine (key_any a0 _).mono ?_
      rintro e v1 ⟨rfl, hb⟩
      have HB1 := Lib.hid (HABX.out.trans (hb.mono HABX.out.size))
      have BX_1 := Lib.hid (BX_n.out.keep hb BX_n.out.lt)
      clear hb HABX BX_n
      go_wp2_with fail
      refine (entry_any a0 a1 _).mono ?_
      rintro e v2 ⟨rfl, hb⟩
      have HB2 := Lib.hid (HB1.out.trans (hb.mono HB1.out.size))
      have BX_2 := Lib.hid (BX_1.out.keep hb BX_1.out.lt)
      clear hb HB1 BX_1
      go_wp2_with fail
      refine (which_any (keyB a0) _).mono ?_
      rintro e v3 ⟨rfl, hb⟩
      have HB3 := Lib.hid (HB2.out.trans (hb.mono HB2.out.size))
      have BX_3 := Lib.hid (BX_2.out.keep hb BX_2.out.lt)
      clear hb HB2 BX_2
      rw [HN.out]
      unfold whV
      simp only
      go_wp2_with fail
      refine (which_any (entB a0 a1) _).mono ?_
      rintro e v4 ⟨rfl, hb⟩
      have HB4 := Lib.hid (HB3.out.trans (hb.mono HB3.out.size))
      have BX_4 := Lib.hid (BX_3.out.keep hb BX_3.out.lt)
      clear hb HB3 BX_3
      rw [HS.out]
      unfold whV
      simp only
      have c0 := BX_4.out.cell 0 _ rfl
      have c1 := BX_4.out.cell 1 _ rfl
      have c2 := BX_4.out.cell 2 _ rfl
      go_wp2_with fail
      refine (iencode_any fa2 fb2 fc2 _).mono ?_
      rintro e v5 ⟨rfl, hb⟩
      have HB5 := Lib.hid (HB4.out.trans (hb.mono HB4.out.size))
      have BX_5 := Lib.hid (BX_4.out.keep hb BX_4.out.lt)
      clear hb HB4 BX_4
      clear c0 c1 c2
      by_cases hi : isNum fb2 ∧ isNum fc2
      · skip
        rw [show encI fa2 fb2 fc2 = (inoB fa2 fb2 fc2, 0) from if_pos hi]
        have HD := Lib.hid (dec_encI fa2 fb2 fc2 hi.1 hi.2)
        clear hi
        go_wp2_with fail
        refine (idecode_any (inoB fa2 fb2 fc2) _).mono ?_
        rintro e v6 ⟨rfl, hb⟩
        have HB6 := Lib.hid (HB5.out.trans (hb.mono HB5.out.size))
        have BX_6 := Lib.hid (BX_5.out.keep hb BX_5.out.lt)
        clear hb HB5 BX_5
        rw [HD.out]
        unfold inoV
        simp only
        generalize inoB fa2 fb2 fc2 = T at *
        have BY0 := Box.new v6 34 #[.bool fa2, .int .i64 fb2, .int .i64 fc2]
        have HABY : Hid (Below w.heap.size w (v6.alloc (.cells #[.bool fa2, .int .i64 fb2, .int .i64 fc2] 34 (0, 0)))) := HB6.out.alloc HB6.out.size _
        have BX_aBY := Lib.hid (BX_6.out.alloc (.cells #[.bool fa2, .int .i64 fb2, .int .i64 fc2] 34 (0, 0)))
        go_wp2_with fail
        generalize World.alloc _ _ = xBY at *
        generalize v6.heap.size = gBY at *
        have BY_n := Lib.hid BY0
        clear BX_6 BY0 HB6
        have GX := Lib.hid BX_aBY.out.lt
        have GY := Lib.hid BY_n.out.lt
        have y0 : xBY.drew.cell? ⟨gBY, 0, none⟩ = some (.bool fa2) := BY_n.out.cell 0 _ rfl
        have y1 : xBY.drew.cell? ⟨gBY, 1, none⟩ = some (.int .i64 fb2) := BY_n.out.cell 1 _ rfl
        have y2 : xBY.drew.cell? ⟨gBY, 2, none⟩ = some (.int .i64 fc2) := BY_n.out.cell 2 _ rfl
        have x0 : xBY.drew.cell? ⟨w.heap.size, 0, none⟩ = some (.bool fa2) := BX_aBY.out.cell 0 _ rfl
        have x1 : xBY.drew.cell? ⟨w.heap.size, 1, none⟩ = some (.int .i64 fb2) := BX_aBY.out.cell 1 _ rfl
        have x2 : xBY.drew.cell? ⟨w.heap.size, 2, none⟩ = some (.int .i64 fc2) := BX_aBY.out.cell 2 _ rfl
        have q7 : ∀ w, (Op.equalIn 10000 30 (.agg #[.bool fa2, .int .i64 fb2, .int .i64 fc2]) (.agg #[.bool fa2, .int .i64 fb2, .int .i64 fc2])).run Try.prog w = .ok true w := fun w => by rw [eqRIno]; simp
        refine wp_region_sched (fun W => W.cell? ⟨gBY, 0, none⟩ = some (.bool fa2) ∧ W.cell? ⟨gBY, 1, none⟩ = some (.int .i64 fb2) ∧ W.cell? ⟨gBY, 2, none⟩ = some (.int .i64 fc2) ∧ W.cell? ⟨w.heap.size, 0, none⟩ = some (.bool fa2) ∧ W.cell? ⟨w.heap.size, 1, none⟩ = some (.int .i64 fb2) ∧ W.cell? ⟨w.heap.size, 2, none⟩ = some (.int .i64 fc2)) 6 [(0, false), (1, false), (2, false), (3, false), (5, false), (4, true)] (by kernel_rfl) (by kernel_rfl) ⟨y0, y1, y2, x0, x1, x2⟩ ?_
        simp only [List.drop_succ_cons, List.drop_zero]
        iterate 5 (apply wpSch_step rfl; (intro W hS K hK; obtain ⟨r1, r2, r3, r4, r5, r6⟩ := hS; go_simp; exact hK _ rfl))
        refine wpSch_make rfl (fun K' hK => ?_)
        go_simp
        refine (told_any ⟨fa2, fb2, fc2⟩ _).mono ?_
        rintro e wt ⟨rfl, hb⟩
        unfold inoV
        dsimp only
        have y0 := (hb.cell (p := ⟨gBY, 0, none⟩) GY.out).trans y0
        have y1 := (hb.cell (p := ⟨gBY, 1, none⟩) GY.out).trans y1
        have y2 := (hb.cell (p := ⟨gBY, 2, none⟩) GY.out).trans y2
        have x0 := (hb.cell (p := ⟨w.heap.size, 0, none⟩) GX.out).trans x0
        have x1 := (hb.cell (p := ⟨w.heap.size, 1, none⟩) GX.out).trans x1
        have x2 := (hb.cell (p := ⟨w.heap.size, 2, none⟩) GX.out).trans x2
        have HT := Lib.hid (HABY.out.trans ((show Below xBY.heap.size xBY wt from ⟨hb.os, hb.tape, hb.output, hb.size, hb.block⟩).mono HABY.out.size))
        refine hK _ _ _ (fun _ h => h) ⟨y0, y1, y2, x0, x1, x2⟩ ?_
        clear hK K' hb y0 y1 y2 x0 x1 x2
        refine wpSch_nil ?_
        go_wp2_with fail
        refine (live_any _).mono ?_
        rintro e v7 ⟨rfl, hb⟩
        have HB7 := Lib.hid (HT.out.trans (hb.mono HT.out.size))
        clear hb HT
        go_wp2
        go_ret
        exact ⟨rfl, HB7.out⟩
      · skip
        rw [show encI fa2 fb2 fc2 = (⟨#[]⟩, 1) from if_neg hi]
        clear hi
        go_wp2_with fail
        refine (idecode_any ⟨#[]⟩ _).mono ?_
        rintro e v6 ⟨rfl, hb⟩
        have HB6 := Lib.hid (HB5.out.trans (hb.mono HB5.out.size))
        have BX_6 := Lib.hid (BX_5.out.keep hb BX_5.out.lt)
        clear hb HB5 BX_5
        rw [show decI ⟨#[]⟩ = (⟨false, 0, 0⟩, 2) from if_pos (by decide)]
        unfold inoV
        simp only
        have BY0 := Box.new v6 34 #[.bool false, .int .i64 0, .int .i64 0]
        have HABY : Hid (Below w.heap.size w (v6.alloc (.cells #[.bool false, .int .i64 0, .int .i64 0] 34 (0, 0)))) := HB6.out.alloc HB6.out.size _
        have BX_aBY := Lib.hid (BX_6.out.alloc (.cells #[.bool false, .int .i64 0, .int .i64 0] 34 (0, 0)))
        go_wp2_with fail
        generalize World.alloc _ _ = xBY at *
        generalize v6.heap.size = gBY at *
        have BY_n := Lib.hid BY0
        clear BX_6 BY0 HB6
        refine wp_region_sched (fun _ => True) 6 [(0, false), (1, false), (2, false), (3, false), (5, false), (4, true)] (by kernel_rfl) (by kernel_rfl) trivial ?_
        simp only [List.drop_succ_cons, List.drop_zero]
        iterate 5 (apply wpSch_step rfl; (intro W hS K hK; go_simp; exact hK _ rfl))
        refine wpSch_make rfl (fun K' hK => ?_)
        go_simp
        refine hK _ _ _ (fun _ h => h) trivial ?_
        clear hK K'
        refine wpSch_nil ?_
        have HAD : Hid (Below w.heap.size w xBY.drew) := ⟨HABY.out.os, HABY.out.tape, HABY.out.output, HABY.out.size, HABY.out.block⟩
        go_wp2_with fail
        refine (live_any _).mono ?_
        rintro e v7 ⟨rfl, hb⟩
        have HB7 := Lib.hid (HAD.out.trans (hb.mono HAD.out.size))
        clear hb HAD
        go_wp2
        go_ret
        exact ⟨rfl, HB7.out⟩
    · skip
      have HE0 : Hid (entB a0 a1 = ⟨#[]⟩) := if_neg (fun e => hs e.2)
      clear hn hs
      go_enter Try.func5, Try.ntmps5
      have BX0 := Box.new w 30 #[.bool fa2, .int .i64 fb2, .int .i64 fc2]
      have HABX : Hid (Below w.heap.size w (w.alloc (.cells #[.bool fa2, .int .i64 fb2, .int .i64 fc2] 30 (0, 0)))) := (Below.refl _ _).alloc (Nat.le_refl _) _
      go_wp2_with fail
      generalize World.alloc _ _ = xBX at *
      skip
      have BX_n := Lib.hid BX0
      clear BX0
      refine (key_any a0 _).mono ?_
      rintro e v1 ⟨rfl, hb⟩
      have HB1 := Lib.hid (HABX.out.trans (hb.mono HABX.out.size))
      have BX_1 := Lib.hid (BX_n.out.keep hb BX_n.out.lt)
      clear hb HABX BX_n
      go_wp2_with fail
      refine (entry_any a0 a1 _).mono ?_
      rintro e v2 ⟨rfl, hb⟩
      have HB2 := Lib.hid (HB1.out.trans (hb.mono HB1.out.size))
      have BX_2 := Lib.hid (BX_1.out.keep hb BX_1.out.lt)
      clear hb HB1 BX_1
      rw [HE0.out]
      go_wp2_with fail
      refine (which_any (keyB a0) _).mono ?_
      rintro e v3 ⟨rfl, hb⟩
      have HB3 := Lib.hid (HB2.out.trans (hb.mono HB2.out.size))
      have BX_3 := Lib.hid (BX_2.out.keep hb BX_2.out.lt)
      clear hb HB2 BX_2
      rw [HN.out]
      unfold whV
      simp only
      have c0 := BX_3.out.cell 0 _ rfl
      have c1 := BX_3.out.cell 1 _ rfl
      have c2 := BX_3.out.cell 2 _ rfl
      go_wp2_with fail
      refine (iencode_any fa2 fb2 fc2 _).mono ?_
      rintro e v4 ⟨rfl, hb⟩
      have HB4 := Lib.hid (HB3.out.trans (hb.mono HB3.out.size))
      have BX_4 := Lib.hid (BX_3.out.keep hb BX_3.out.lt)
      clear hb HB3 BX_3
      clear c0 c1 c2
      by_cases hi : isNum fb2 ∧ isNum fc2
      · skip
        rw [show encI fa2 fb2 fc2 = (inoB fa2 fb2 fc2, 0) from if_pos hi]
        have HD := Lib.hid (dec_encI fa2 fb2 fc2 hi.1 hi.2)
        clear hi
        go_wp2_with fail
        refine (idecode_any (inoB fa2 fb2 fc2) _).mono ?_
        rintro e v5 ⟨rfl, hb⟩
        have HB5 := Lib.hid (HB4.out.trans (hb.mono HB4.out.size))
        have BX_5 := Lib.hid (BX_4.out.keep hb BX_4.out.lt)
        clear hb HB4 BX_4
        rw [HD.out]
        unfold inoV
        simp only
        generalize inoB fa2 fb2 fc2 = T at *
        have BY0 := Box.new v5 34 #[.bool fa2, .int .i64 fb2, .int .i64 fc2]
        have HABY : Hid (Below w.heap.size w (v5.alloc (.cells #[.bool fa2, .int .i64 fb2, .int .i64 fc2] 34 (0, 0)))) := HB5.out.alloc HB5.out.size _
        have BX_aBY := Lib.hid (BX_5.out.alloc (.cells #[.bool fa2, .int .i64 fb2, .int .i64 fc2] 34 (0, 0)))
        go_wp2_with fail
        generalize World.alloc _ _ = xBY at *
        generalize v5.heap.size = gBY at *
        have BY_n := Lib.hid BY0
        clear BX_5 BY0 HB5
        have GX := Lib.hid BX_aBY.out.lt
        have GY := Lib.hid BY_n.out.lt
        have y0 : xBY.drew.cell? ⟨gBY, 0, none⟩ = some (.bool fa2) := BY_n.out.cell 0 _ rfl
        have y1 : xBY.drew.cell? ⟨gBY, 1, none⟩ = some (.int .i64 fb2) := BY_n.out.cell 1 _ rfl
        have y2 : xBY.drew.cell? ⟨gBY, 2, none⟩ = some (.int .i64 fc2) := BY_n.out.cell 2 _ rfl
        have x0 : xBY.drew.cell? ⟨w.heap.size, 0, none⟩ = some (.bool fa2) := BX_aBY.out.cell 0 _ rfl
        have x1 : xBY.drew.cell? ⟨w.heap.size, 1, none⟩ = some (.int .i64 fb2) := BX_aBY.out.cell 1 _ rfl
        have x2 : xBY.drew.cell? ⟨w.heap.size, 2, none⟩ = some (.int .i64 fc2) := BX_aBY.out.cell 2 _ rfl
        have q7 : ∀ w, (Op.equalIn 10000 30 (.agg #[.bool fa2, .int .i64 fb2, .int .i64 fc2]) (.agg #[.bool fa2, .int .i64 fb2, .int .i64 fc2])).run Try.prog w = .ok true w := fun w => by rw [eqRIno]; simp
        refine wp_region_sched (fun W => W.cell? ⟨gBY, 0, none⟩ = some (.bool fa2) ∧ W.cell? ⟨gBY, 1, none⟩ = some (.int .i64 fb2) ∧ W.cell? ⟨gBY, 2, none⟩ = some (.int .i64 fc2) ∧ W.cell? ⟨w.heap.size, 0, none⟩ = some (.bool fa2) ∧ W.cell? ⟨w.heap.size, 1, none⟩ = some (.int .i64 fb2) ∧ W.cell? ⟨w.heap.size, 2, none⟩ = some (.int .i64 fc2)) 6 [(0, false), (1, false), (2, false), (3, false), (5, false), (4, true)] (by kernel_rfl) (by kernel_rfl) ⟨y0, y1, y2, x0, x1, x2⟩ ?_
        simp only [List.drop_succ_cons, List.drop_zero]
        iterate 5 (apply wpSch_step rfl; (intro W hS K hK; obtain ⟨r1, r2, r3, r4, r5, r6⟩ := hS; go_simp; exact hK _ rfl))
        refine wpSch_make rfl (fun K' hK => ?_)
        go_simp
        refine (told_any ⟨fa2, fb2, fc2⟩ _).mono ?_
        rintro e wt ⟨rfl, hb⟩
        unfold inoV
        dsimp only
        have y0 := (hb.cell (p := ⟨gBY, 0, none⟩) GY.out).trans y0
        have y1 := (hb.cell (p := ⟨gBY, 1, none⟩) GY.out).trans y1
        have y2 := (hb.cell (p := ⟨gBY, 2, none⟩) GY.out).trans y2
        have x0 := (hb.cell (p := ⟨w.heap.size, 0, none⟩) GX.out).trans x0
        have x1 := (hb.cell (p := ⟨w.heap.size, 1, none⟩) GX.out).trans x1
        have x2 := (hb.cell (p := ⟨w.heap.size, 2, none⟩) GX.out).trans x2
        have HT := Lib.hid (HABY.out.trans ((show Below xBY.heap.size xBY wt from ⟨hb.os, hb.tape, hb.output, hb.size, hb.block⟩).mono HABY.out.size))
        refine hK _ _ _ (fun _ h => h) ⟨y0, y1, y2, x0, x1, x2⟩ ?_
        clear hK K' hb y0 y1 y2 x0 x1 x2
        refine wpSch_nil ?_
        go_wp2_with fail
        refine (live_any _).mono ?_
        rintro e v6 ⟨rfl, hb⟩
        have HB6 := Lib.hid (HT.out.trans (hb.mono HT.out.size))
        clear hb HT
        go_wp2
        go_ret
        exact ⟨rfl, HB6.out⟩
      · skip
        rw [show encI fa2 fb2 fc2 = (⟨#[]⟩, 1) from if_neg hi]
        clear hi
        go_wp2_with fail
        refine (idecode_any ⟨#[]⟩ _).mono ?_
        rintro e v5 ⟨rfl, hb⟩
        have HB5 := Lib.hid (HB4.out.trans (hb.mono HB4.out.size))
        have BX_5 := Lib.hid (BX_4.out.keep hb BX_4.out.lt)
        clear hb HB4 BX_4
        rw [show decI ⟨#[]⟩ = (⟨false, 0, 0⟩, 2) from if_pos (by decide)]
        unfold inoV
        simp only
        have BY0 := Box.new v5 34 #[.bool false, .int .i64 0, .int .i64 0]
        have HABY : Hid (Below w.heap.size w (v5.alloc (.cells #[.bool false, .int .i64 0, .int .i64 0] 34 (0, 0)))) := HB5.out.alloc HB5.out.size _
        have BX_aBY := Lib.hid (BX_5.out.alloc (.cells #[.bool false, .int .i64 0, .int .i64 0] 34 (0, 0)))
        go_wp2_with fail
        generalize World.alloc _ _ = xBY at *
        generalize v5.heap.size = gBY at *
        have BY_n := Lib.hid BY0
        clear BX_5 BY0 HB5
        refine wp_region_sched (fun _ => True) 6 [(0, false), (1, false), (2, false), (3, false), (5, false), (4, true)] (by kernel_rfl) (by kernel_rfl) trivial ?_
        simp only [List.drop_succ_cons, List.drop_zero]
        iterate 5 (apply wpSch_step rfl; (intro W hS K hK; go_simp; exact hK _ rfl))
        refine wpSch_make rfl (fun K' hK => ?_)
        go_simp
        refine hK _ _ _ (fun _ h => h) trivial ?_
        clear hK K'
        refine wpSch_nil ?_
        have HAD : Hid (Below w.heap.size w xBY.drew) := ⟨HABY.out.os, HABY.out.tape, HABY.out.output, HABY.out.size, HABY.out.block⟩
        go_wp2_with fail
        refine (live_any _).mono ?_
        rintro e v6 ⟨rfl, hb⟩
        have HB6 := Lib.hid (HAD.out.trans (hb.mono HAD.out.size))
        clear hb HAD
        go_wp2
        go_ret
        exact ⟨rfl, HB6.out⟩
  · skip
    have HN : Hid (keyB a0 = ⟨#[]⟩) := if_neg hn
    have HE0 : Hid (entB a0 a1 = ⟨#[]⟩) := if_neg (fun e => hn e.1)
    clear hn
    go_enter Try.func5, Try.ntmps5
    have BX0 := Box.new w 30 #[.bool fa2, .int .i64 fb2, .int .i64 fc2]
    have HABX : Hid (Below w.heap.size w (w.alloc (.cells #[.bool fa2, .int .i64 fb2, .int .i64 fc2] 30 (0, 0)))) := (Below.refl _ _).alloc (Nat.le_refl _) _
    go_wp2_with fail
    generalize World.alloc _ _ = xBX at *
    skip
    have BX_n := Lib.hid BX0
    clear BX0
    refine (key_any a0 _).mono ?_
    rintro e v1 ⟨rfl, hb⟩
    have HB1 := Lib.hid (HABX.out.trans (hb.mono HABX.out.size))
    have BX_1 := Lib.hid (BX_n.out.keep hb BX_n.out.lt)
    clear hb HABX BX_n
    rw [HN.out]
    go_wp2_with fail
    refine (entry_any a0 a1 _).mono ?_
    rintro e v2 ⟨rfl, hb⟩
    have HB2 := Lib.hid (HB1.out.trans (hb.mono HB1.out.size))
    have BX_2 := Lib.hid (BX_1.out.keep hb BX_1.out.lt)
    clear hb HB1 BX_1
    rw [HE0.out]
    have c0 := BX_2.out.cell 0 _ rfl
    have c1 := BX_2.out.cell 1 _ rfl
    have c2 := BX_2.out.cell 2 _ rfl
    go_wp2_with fail
    refine (iencode_any fa2 fb2 fc2 _).mono ?_
    rintro e v3 ⟨rfl, hb⟩
    have HB3 := Lib.hid (HB2.out.trans (hb.mono HB2.out.size))
    have BX_3 := Lib.hid (BX_2.out.keep hb BX_2.out.lt)
    clear hb HB2 BX_2
    clear c0 c1 c2
    by_cases hi : isNum fb2 ∧ isNum fc2
    · skip
      rw [show encI fa2 fb2 fc2 = (inoB fa2 fb2 fc2, 0) from if_pos hi]
      have HD := Lib.hid (dec_encI fa2 fb2 fc2 hi.1 hi.2)
      clear hi
      go_wp2_with fail
      refine (idecode_any (inoB fa2 fb2 fc2) _).mono ?_
      rintro e v4 ⟨rfl, hb⟩
      have HB4 := Lib.hid (HB3.out.trans (hb.mono HB3.out.size))
      have BX_4 := Lib.hid (BX_3.out.keep hb BX_3.out.lt)
      clear hb HB3 BX_3
      rw [HD.out]
      unfold inoV
      simp only
      generalize inoB fa2 fb2 fc2 = T at *
      have BY0 := Box.new v4 34 #[.bool fa2, .int .i64 fb2, .int .i64 fc2]
      have HABY : Hid (Below w.heap.size w (v4.alloc (.cells #[.bool fa2, .int .i64 fb2, .int .i64 fc2] 34 (0, 0)))) := HB4.out.alloc HB4.out.size _
      have BX_aBY := Lib.hid (BX_4.out.alloc (.cells #[.bool fa2, .int .i64 fb2, .int .i64 fc2] 34 (0, 0)))
      go_wp2_with fail
      generalize World.alloc _ _ = xBY at *
      generalize v4.heap.size = gBY at *
      have BY_n := Lib.hid BY0
      clear BX_4 BY0 HB4
      have GX := Lib.hid BX_aBY.out.lt
      have GY := Lib.hid BY_n.out.lt
      have y0 : xBY.drew.cell? ⟨gBY, 0, none⟩ = some (.bool fa2) := BY_n.out.cell 0 _ rfl
      have y1 : xBY.drew.cell? ⟨gBY, 1, none⟩ = some (.int .i64 fb2) := BY_n.out.cell 1 _ rfl
      have y2 : xBY.drew.cell? ⟨gBY, 2, none⟩ = some (.int .i64 fc2) := BY_n.out.cell 2 _ rfl
      have x0 : xBY.drew.cell? ⟨w.heap.size, 0, none⟩ = some (.bool fa2) := BX_aBY.out.cell 0 _ rfl
      have x1 : xBY.drew.cell? ⟨w.heap.size, 1, none⟩ = some (.int .i64 fb2) := BX_aBY.out.cell 1 _ rfl
      have x2 : xBY.drew.cell? ⟨w.heap.size, 2, none⟩ = some (.int .i64 fc2) := BX_aBY.out.cell 2 _ rfl
      have q7 : ∀ w, (Op.equalIn 10000 30 (.agg #[.bool fa2, .int .i64 fb2, .int .i64 fc2]) (.agg #[.bool fa2, .int .i64 fb2, .int .i64 fc2])).run Try.prog w = .ok true w := fun w => by rw [eqRIno]; simp
      refine wp_region_sched (fun W => W.cell? ⟨gBY, 0, none⟩ = some (.bool fa2) ∧ W.cell? ⟨gBY, 1, none⟩ = some (.int .i64 fb2) ∧ W.cell? ⟨gBY, 2, none⟩ = some (.int .i64 fc2) ∧ W.cell? ⟨w.heap.size, 0, none⟩ = some (.bool fa2) ∧ W.cell? ⟨w.heap.size, 1, none⟩ = some (.int .i64 fb2) ∧ W.cell? ⟨w.heap.size, 2, none⟩ = some (.int .i64 fc2)) 6 [(0, false), (1, false), (2, false), (3, false), (5, false), (4, true)] (by kernel_rfl) (by kernel_rfl) ⟨y0, y1, y2, x0, x1, x2⟩ ?_
      simp only [List.drop_succ_cons, List.drop_zero]
      iterate 5 (apply wpSch_step rfl; (intro W hS K hK; obtain ⟨r1, r2, r3, r4, r5, r6⟩ := hS; go_simp; exact hK _ rfl))
      refine wpSch_make rfl (fun K' hK => ?_)
      go_simp
      refine (told_any ⟨fa2, fb2, fc2⟩ _).mono ?_
      rintro e wt ⟨rfl, hb⟩
      unfold inoV
      dsimp only
      have y0 := (hb.cell (p := ⟨gBY, 0, none⟩) GY.out).trans y0
      have y1 := (hb.cell (p := ⟨gBY, 1, none⟩) GY.out).trans y1
      have y2 := (hb.cell (p := ⟨gBY, 2, none⟩) GY.out).trans y2
      have x0 := (hb.cell (p := ⟨w.heap.size, 0, none⟩) GX.out).trans x0
      have x1 := (hb.cell (p := ⟨w.heap.size, 1, none⟩) GX.out).trans x1
      have x2 := (hb.cell (p := ⟨w.heap.size, 2, none⟩) GX.out).trans x2
      have HT := Lib.hid (HABY.out.trans ((show Below xBY.heap.size xBY wt from ⟨hb.os, hb.tape, hb.output, hb.size, hb.block⟩).mono HABY.out.size))
      refine hK _ _ _ (fun _ h => h) ⟨y0, y1, y2, x0, x1, x2⟩ ?_
      clear hK K' hb y0 y1 y2 x0 x1 x2
      refine wpSch_nil ?_
      go_wp2_with fail
      refine (live_any _).mono ?_
      rintro e v5 ⟨rfl, hb⟩
      have HB5 := Lib.hid (HT.out.trans (hb.mono HT.out.size))
      clear hb HT
      go_wp2
      go_ret
      exact ⟨rfl, HB5.out⟩
    · skip
      rw [show encI fa2 fb2 fc2 = (⟨#[]⟩, 1) from if_neg hi]
      clear hi
      go_wp2_with fail
      refine (idecode_any ⟨#[]⟩ _).mono ?_
      rintro e v4 ⟨rfl, hb⟩
      have HB4 := Lib.hid (HB3.out.trans (hb.mono HB3.out.size))
      have BX_4 := Lib.hid (BX_3.out.keep hb BX_3.out.lt)
      clear hb HB3 BX_3
      rw [show decI ⟨#[]⟩ = (⟨false, 0, 0⟩, 2) from if_pos (by decide)]
      unfold inoV
      simp only
      have BY0 := Box.new v4 34 #[.bool false, .int .i64 0, .int .i64 0]
      have HABY : Hid (Below w.heap.size w (v4.alloc (.cells #[.bool false, .int .i64 0, .int .i64 0] 34 (0, 0)))) := HB4.out.alloc HB4.out.size _
      have BX_aBY := Lib.hid (BX_4.out.alloc (.cells #[.bool false, .int .i64 0, .int .i64 0] 34 (0, 0)))
      go_wp2_with fail
      generalize World.alloc _ _ = xBY at *
      generalize v4.heap.size = gBY at *
      have BY_n := Lib.hid BY0
      clear BX_4 BY0 HB4
      refine wp_region_sched (fun _ => True) 6 [(0, false), (1, false), (2, false), (3, false), (5, false), (4, true)] (by kernel_rfl) (by kernel_rfl) trivial ?_
      simp only [List.drop_succ_cons, List.drop_zero]
      iterate 5 (apply wpSch_step rfl; (intro W hS K hK; go_simp; exact hK _ rfl))
      refine wpSch_make rfl (fun K' hK => ?_)
      go_simp
      refine hK _ _ _ (fun _ h => h) trivial ?_
      clear hK K'
      refine wpSch_nil ?_
      have HAD : Hid (Below w.heap.size w xBY.drew) := ⟨HABY.out.os, HABY.out.tape, HABY.out.output, HABY.out.size, HABY.out.block⟩
      go_wp2_with fail
      refine (live_any _).mono ?_
      rintro e v5 ⟨rfl, hb⟩
      have HB5 := Lib.hid (HAD.out.trans (hb.mono HAD.out.size))
      clear hb HAD
      go_wp2
      go_ret
      exact ⟨rfl, HB5.out⟩
end Go.Proofs.Ytjimjaimfejonaa.inodeBack
