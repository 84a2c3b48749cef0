/-
  The walk of InodeTexts.
-/
import Derived.Test.YtjimjaimfejonaaInodeLive
import Derived.Test.YtjimjaimfejonaaFrame
import Derived.Test.YtjimjaimfejonaaOpenIno
import Derived.Test.YtjimjaimfejonaaInodeRDec
namespace Go.Proofs.Ytjimjaimfejonaa.inodeTexts
open Go.RowKit

/-- The model's '==' at an inode of the reference's. -/
theorem eqRIno (x1 y1 : Bool) (x2 y2 x3 y3 : Int) (w : World) : (Op.equalIn 10000 30 (.agg #[.bool x1, .int .i64 x2, .int .i64 x3]) (.agg #[.bool y1, .int .i64 y2, .int .i64 y3])).run Try.prog w = .ok (x1 == y1 && (x2 == y2 && x3 == y3)) w := by
  have u3 := Try.underlying3
  have a3 := Try.isAgg3
  have z3 := Try.sizeOf3
  have u9 := Try.underlying4
  have a9 := Try.isAgg4
  have z9 := Try.sizeOf4
  have hS : Try.prog.underlying 30 = some (.struct (Try.prog.fieldsOf 30)) := by kernel_rfl
  have hp : Try.prog.stoodInHeld 30 = false := by kernel_rfl
  rw [show (10000 : Nat) = 9999 + 1 from rfl, run_equalIn_agg w 9999 30 _ _ hS hp]
  simp only [Program.fieldsOf, Try.underlying30]
  go_simp
  by_cases h1 : x1 = y1 <;> by_cases h2 : x2 = y2 <;> by_cases h3 : x3 = y3 <;> simp [h1, h2, h3]

set_option maxRecDepth 100000 in
set_option maxHeartbeats 2000000 in
theorem walk (w : World) (fa0 : Bool) (fb0 : Int) (fc0 : Int) (_wfb0 : (Lit.int .i64 fb0).wf = true) (_wfc0 : (Lit.int .i64 fc0).wf = true) (a1 : ByteArray) (w1 : a1.size ≤ 140737488351232) :
    Calls Try.prog 4 #[.agg #[.bool fa0, .int .i64 fb0, .int .i64 fc0], .string a1] w fun e w' => e = .returned (.bool true) ∧ Below w.heap.size w w' := by
  by_cases hl : 100 < a1.size
  · skip
    go_enter Try.func4, Try.ntmps4
    have BX0 := Box.new w 30 #[.bool fa0, .int .i64 fb0, .int .i64 fc0]
    have HABX : Hid (Below w.heap.size w (w.alloc (.cells #[.bool fa0, .int .i64 fb0, .int .i64 fc0] 30 (0, 0)))) := (Below.refl _ _).alloc (Nat.le_refl _) _
    go_wp2_with fail
    generalize World.alloc _ _ = xBX at *
    skip
    have BX_n := Lib.hid BX0
    clear BX0
    refine (live_any _).mono ?_
    rintro e v1 ⟨rfl, hb⟩
    have HB1 := Lib.hid (HABX.out.trans (hb.mono HABX.out.size))
    have BX_1 := Lib.hid (BX_n.out.keep hb BX_n.out.lt)
    clear hb HABX BX_n
    go_wp2
    go_ret
    exact ⟨rfl, HB1.out⟩
  · skip
    go_enter Try.func4, Try.ntmps4
    have BX0 := Box.new w 30 #[.bool fa0, .int .i64 fb0, .int .i64 fc0]
    have HABX : Hid (Below w.heap.size w (w.alloc (.cells #[.bool fa0, .int .i64 fb0, .int .i64 fc0] 30 (0, 0)))) := (Below.refl _ _).alloc (Nat.le_refl _) _
    go_wp2_with fail
    generalize World.alloc _ _ = xBX at *
    skip
    have BX_n := Lib.hid BX0
    clear BX0
    have c0 := BX_n.out.cell 0 _ rfl
    have c1 := BX_n.out.cell 1 _ rfl
    have c2 := BX_n.out.cell 2 _ rfl
    go_wp2_with fail
    refine (iencode_any fa0 fb0 fc0 _).mono ?_
    rintro e v1 ⟨rfl, hb⟩
    have HB1 := Lib.hid (HABX.out.trans (hb.mono HABX.out.size))
    have BX_1 := Lib.hid (BX_n.out.keep hb BX_n.out.lt)
    clear hb HABX BX_n
    clear c0 c1 c2
    have c0 := BX_1.out.cell 0 _ rfl
    have c1 := BX_1.out.cell 1 _ rfl
    have c2 := BX_1.out.cell 2 _ rfl
    go_wp2_with fail
    refine (riencode_any fa0 fb0 fc0 _).mono ?_
    rintro e v2 ⟨rfl, hb⟩
    have HB2 := Lib.hid (HB1.out.trans (hb.mono HB1.out.size))
    have BX_2 := Lib.hid (BX_1.out.keep hb BX_1.out.lt)
    clear hb HB1 BX_1
    clear c0 c1 c2
    generalize encI fa0 fb0 fc0 = E at *
    obtain ⟨E1, E2⟩ := E
    go_wp2_with fail
    refine (idecode_any a1 _).mono ?_
    rintro e v3 ⟨rfl, hb⟩
    have HB3 := Lib.hid (HB2.out.trans (hb.mono HB2.out.size))
    have BX_3 := Lib.hid (BX_2.out.keep hb BX_2.out.lt)
    clear hb HB2 BX_2
    generalize hD : decI a1 = D at *
    have HD := Lib.hid hD
    clear hD
    obtain ⟨⟨D1, D2, D3⟩, D4⟩ := D
    unfold inoV
    simp only at *
    have BY0 := Box.new v3 34 #[.bool D1, .int .i64 D2, .int .i64 D3]
    have HABY : Hid (Below w.heap.size w (v3.alloc (.cells #[.bool D1, .int .i64 D2, .int .i64 D3] 34 (0, 0)))) := HB3.out.alloc HB3.out.size _
    have BX_aBY := Lib.hid (BX_3.out.alloc (.cells #[.bool D1, .int .i64 D2, .int .i64 D3] 34 (0, 0)))
    go_wp2_with fail
    generalize World.alloc _ _ = xBY at *
    generalize v3.heap.size = gBY at *
    have BY_n := Lib.hid BY0
    clear BX_3 BY0 HB3
    refine (ridecode_any a1 _).mono ?_
    rintro e v4 ⟨rfl, hb⟩
    have HB4 := Lib.hid (HABY.out.trans (hb.mono HABY.out.size))
    have BX_4 := Lib.hid (BX_aBY.out.keep hb BX_aBY.out.lt)
    have BY_4 := Lib.hid (BY_n.out.keep hb BY_n.out.lt)
    clear hb HABY BX_aBY BY_n
    rw [HD.out]
    unfold inoV
    simp only
    have BZ0 := Box.new v4 30 #[.bool D1, .int .i64 D2, .int .i64 D3]
    have HABZ : Hid (Below w.heap.size w (v4.alloc (.cells #[.bool D1, .int .i64 D2, .int .i64 D3] 30 (0, 0)))) := HB4.out.alloc HB4.out.size _
    have BX_aBZ := Lib.hid (BX_4.out.alloc (.cells #[.bool D1, .int .i64 D2, .int .i64 D3] 30 (0, 0)))
    have BY_aBZ := Lib.hid (BY_4.out.alloc (.cells #[.bool D1, .int .i64 D2, .int .i64 D3] 30 (0, 0)))
    go_wp2_with fail
    generalize World.alloc _ _ = xBZ at *
    generalize v4.heap.size = gBZ at *
    have BZ_n := Lib.hid BZ0
    clear BX_4 BY_4 BZ0 HB4
    have GY := Lib.hid BY_aBZ.out.lt
    have GZ := Lib.hid BZ_n.out.lt
    have y0 : xBZ.drew.cell? ⟨gBY, 0, none⟩ = some (.bool D1) := BY_aBZ.out.cell 0 _ rfl
    have y1 : xBZ.drew.cell? ⟨gBY, 1, none⟩ = some (.int .i64 D2) := BY_aBZ.out.cell 1 _ rfl
    have y2 : xBZ.drew.cell? ⟨gBY, 2, none⟩ = some (.int .i64 D3) := BY_aBZ.out.cell 2 _ rfl
    have z0 : xBZ.drew.cell? ⟨gBZ, 0, none⟩ = some (.bool D1) := BZ_n.out.cell 0 _ rfl
    have z1 : xBZ.drew.cell? ⟨gBZ, 1, none⟩ = some (.int .i64 D2) := BZ_n.out.cell 1 _ rfl
    have z2 : xBZ.drew.cell? ⟨gBZ, 2, none⟩ = some (.int .i64 D3) := BZ_n.out.cell 2 _ rfl
    have q7 : ∀ w, (Op.equalIn 10000 30 (.agg #[.bool D1, .int .i64 D2, .int .i64 D3]) (.agg #[.bool D1, .int .i64 D2, .int .i64 D3])).run Try.prog w = .ok true w := fun w => by rw [eqRIno]; simp
    refine wp_region_sched (fun W => W.cell? ⟨gBY, 0, none⟩ = some (.bool D1) ∧ W.cell? ⟨gBY, 1, none⟩ = some (.int .i64 D2) ∧ W.cell? ⟨gBY, 2, none⟩ = some (.int .i64 D3) ∧ W.cell? ⟨gBZ, 0, none⟩ = some (.bool D1) ∧ W.cell? ⟨gBZ, 1, none⟩ = some (.int .i64 D2) ∧ W.cell? ⟨gBZ, 2, none⟩ = some (.int .i64 D3)) 17 [(0, false), (1, false), (2, false), (3, false), (4, false), (5, false), (6, false), (7, false), (8, false), (9, false), (11, false), (10, true), (12, false), (13, false), (14, false), (15, false), (16, false)] (by kernel_rfl) (by kernel_rfl) ⟨y0, y1, y2, z0, z1, z2⟩ ?_
    simp only [List.drop_succ_cons, List.drop_zero]
    iterate 11 (apply wpSch_step rfl; (intro W hS K hK; obtain ⟨r1, r2, r3, r4, r5, r6⟩ := hS; go_simp; exact hK _ rfl))
    refine wpSch_make rfl (fun K' hK => ?_)
    go_simp
    refine (told_any ⟨D1, D2, D3⟩ _).mono ?_
    rintro e wt ⟨rfl, hb⟩
    unfold inoV
    dsimp only
    have y0 := (hb.cell (p := ⟨gBY, 0, none⟩) GY.out).trans y0
    have y1 := (hb.cell (p := ⟨gBY, 1, none⟩) GY.out).trans y1
    have y2 := (hb.cell (p := ⟨gBY, 2, none⟩) GY.out).trans y2
    have z0 := (hb.cell (p := ⟨gBZ, 0, none⟩) GZ.out).trans z0
    have z1 := (hb.cell (p := ⟨gBZ, 1, none⟩) GZ.out).trans z1
    have z2 := (hb.cell (p := ⟨gBZ, 2, none⟩) GZ.out).trans z2
    have HT := Lib.hid (HABZ.out.trans ((show Below xBZ.heap.size xBZ wt from ⟨hb.os, hb.tape, hb.output, hb.size, hb.block⟩).mono HABZ.out.size))
    refine hK _ _ _ (fun _ h => h) ⟨y0, y1, y2, z0, z1, z2⟩ ?_
    clear hK K' hb y0 y1 y2 z0 z1 z2
    iterate 5 (apply wpSch_step rfl; (intro W hS K hK; obtain ⟨r1, r2, r3, r4, r5, r6⟩ := hS; go_simp; exact hK _ rfl))
    refine wpSch_nil ?_
    go_wp2_with fail
    refine (live_any _).mono ?_
    rintro e v5 ⟨rfl, hb⟩
    have HB5 := Lib.hid (HT.out.trans (hb.mono HT.out.size))
    clear hb HT
    go_wp2
    go_ret
    exact ⟨rfl, HB5.out⟩
end Go.Proofs.Ytjimjaimfejonaa.inodeTexts
