/-
  The program's Encode and Decode of inodes.
-/
import Derived.Test.YtjimjaimfejonaaInodeWord
import Derived.Test.YtjimjaimfejonaaSched2
namespace Go.Proofs.Ytjimjaimfejonaa
open Go.RowKit

set_option maxRecDepth 100000 in
set_option maxHeartbeats 1000000 in
theorem iencode_any (d : Bool) (n m : Int) (w : World) : Calls Try.prog 17 #[.agg #[.bool d, .int .i64 n, .int .i64 m]] w fun e w' => e = .returned (.tuple #[.string (encI d n m).1, .int .i64 (encI d n m).2]) ∧ Below w.heap.size w w' := by
  have BX := Box.new w 34 #[.bool d, .int .i64 n, .int .i64 m]
  have HX : Hid (Below w.heap.size w (w.alloc (.cells #[.bool d, .int .i64 n, .int .i64 m] 34 (0, 0)))) := (Below.refl _ _).alloc (Nat.le_refl _) _
  by_cases hn : isNum n
  · have hdn : decide (isNum n) = true := decide_eq_true hn
    by_cases hm : isNum m
    · have hdm : decide (isNum m) = true := decide_eq_true hm
      rw [show encI d n m = (inoB d n m, 0) from if_pos ⟨hn, hm⟩]
      clear hn hm
      have HI : Hid (inoB d n m = (putB (if d then 1 else 0) 1 ++ putB n 4) ++ putB m 4) := rfl
      generalize inoB d n m = R at *
      have hp1 := putB_size (if d then 1 else 0) 1
      have hp2 := putB_size n 4
      have hp3 := putB_size m 4
      have q1 : ¬ 9223372036854775807 < (putB (if d then 1 else 0) 1).size + (putB n 4).size := by omega
      have q2 : (putB (if d then 1 else 0) 1 ++ putB n 4).size = (putB (if d then 1 else 0) 1).size + (putB n 4).size := ByteArray.size_append
      have q3 : ¬ 9223372036854775807 < (putB (if d then 1 else 0) 1).size + (putB n 4).size + (putB m 4).size := by omega
      generalize hb1 : putB (if d then 1 else 0) 1 = p1 at *
      generalize hb2 : putB n 4 = p2 at *
      generalize hb3 : putB m 4 = p3 at *
      have HP1 := Lib.hid hb1
      have HP2 := Lib.hid hb2
      have HP3 := Lib.hid hb3
      clear hp1 hp2 hp3 hb1 hb2 hb3
      cases d
      all_goals
        go_enter Try.func17, Try.ntmps17
        go_wp2_with fail
        generalize hwx : World.alloc _ _ = wx at *
        have c0 := BX.cell 0 _ rfl
        have c1 := BX.cell 1 _ rfl
        have c2 := BX.cell 2 _ rfl
        have HG := Lib.hid BX.lt
        clear BX
        go_wp2_with fail
        refine (isnum_any n _).mono ?_
        rintro e w1 ⟨rfl, rfl⟩
        rw [hdn]
        go_wp2_with fail
        refine (isnum_any m _).mono ?_
        rintro e w1 ⟨rfl, rfl⟩
        rw [hdm]
        go_wp2_with fail
        clear c0
        refine wp_region_sched (fun W => W.cell? ⟨w.heap.size, 1, none⟩ = some (.int .i64 n) ∧ W.cell? ⟨w.heap.size, 2, none⟩ = some (.int .i64 m)) 9 [(0, false), (2, false), (3, false), (6, false), (7, false), (1, true), (4, true), (5, false), (8, true)] (by kernel_rfl) (by kernel_rfl) ⟨c1, c2⟩ ?_
        simp only [List.drop_succ_cons, List.drop_zero]
        iterate 5 (apply wpSch_step rfl; (intro W hS K hK; obtain ⟨r1, r2⟩ := hS; go_simp; exact hK _ rfl))
        refine wpSch_make rfl (fun K' hK => ?_)
        go_simp
        refine (put_any _ 1 _).mono ?_
        rintro e w2 ⟨rfl, hb⟩
        first
          | rw [show putB 0 1 = p1 from by simpa using HP1.out]
          | rw [show putB 1 1 = p1 from by simpa using HP1.out]
        have c1 := (hb.cell (p := ⟨w.heap.size, 1, none⟩) HG.out).trans c1
        have c2 := (hb.cell (p := ⟨w.heap.size, 2, none⟩) HG.out).trans c2
        have HX := Lib.hid (HX.out.trans ((show Below wx.heap.size wx w2 from ⟨hb.os, hb.tape, hb.output, hb.size, hb.block⟩).mono HX.out.size))
        have HG : Hid (w.heap.size < w2.heap.size) := Nat.lt_of_lt_of_le HG.out hb.size
        refine hK _ _ _ (fun _ h => h) ⟨c1, c2⟩ ?_
        clear hK K' hb
        refine wpSch_make rfl (fun K' hK => ?_)
        go_simp
        refine (put_any n 4 _).mono ?_
        rintro e w3 ⟨rfl, hb⟩
        rw [HP2.out]
        have c1 := (hb.cell (p := ⟨w.heap.size, 1, none⟩) HG.out).trans c1
        have c2 := (hb.cell (p := ⟨w.heap.size, 2, none⟩) HG.out).trans c2
        have HX := Lib.hid (HX.out.trans (hb.mono HX.out.size))
        have HG : Hid (w.heap.size < w3.heap.size) := Nat.lt_of_lt_of_le HG.out hb.size
        refine hK _ _ _ (fun _ h => h) ⟨c1, c2⟩ ?_
        clear hK K' hb
        apply wpSch_step rfl
        · intro W hS K hK
          obtain ⟨r1, r2⟩ := hS
          go_simp
          exact hK _ rfl
        refine wpSch_make rfl (fun K' hK => ?_)
        go_simp
        refine (put_any m 4 _).mono ?_
        rintro e w4 ⟨rfl, hb⟩
        rw [HP3.out]
        have HX := Lib.hid (HX.out.trans (hb.mono HX.out.size))
        have c1 := (hb.cell (p := ⟨w.heap.size, 1, none⟩) HG.out).trans c1
        have c2 := (hb.cell (p := ⟨w.heap.size, 2, none⟩) HG.out).trans c2
        refine hK _ _ _ (fun _ h => h) ⟨c1, c2⟩ ?_
        clear hK K' hb c1 c2 HG
        refine wpSch_nil ?_
        go_wp2
        go_ret2
        exact ⟨by rw [HI.out]; rfl, HX.out⟩
    · rw [show encI d n m = (⟨#[]⟩, 1) from if_neg (fun e => hm e.2)]
      have hdm : decide (isNum m) = false := decide_eq_false hm
      clear hn hm
      go_enter Try.func17, Try.ntmps17
      go_wp2_with fail
      generalize hwx : World.alloc _ _ = wx at *
      have c1 := BX.cell 1 _ rfl
      have c2 := BX.cell 2 _ rfl
      clear BX
      go_wp2_with fail
      refine (isnum_any n _).mono ?_
      rintro e w1 ⟨rfl, rfl⟩
      rw [hdn]
      go_wp2_with fail
      refine (isnum_any m _).mono ?_
      rintro e w1 ⟨rfl, rfl⟩
      rw [hdm]
      go_wp2
      go_ret2
      exact ⟨rfl, HX.out⟩
  · rw [show encI d n m = (⟨#[]⟩, 1) from if_neg (fun e => hn e.1)]
    have hdn : decide (isNum n) = false := decide_eq_false hn
    clear hn
    go_enter Try.func17, Try.ntmps17
    go_wp2_with fail
    generalize hwx : World.alloc _ _ = wx at *
    have c1 := BX.cell 1 _ rfl
    clear BX
    go_wp2_with fail
    refine (isnum_any n _).mono ?_
    rintro e w1 ⟨rfl, rfl⟩
    rw [hdn]
    go_wp2
    go_ret2
    exact ⟨rfl, HX.out⟩
end Go.Proofs.Ytjimjaimfejonaa
