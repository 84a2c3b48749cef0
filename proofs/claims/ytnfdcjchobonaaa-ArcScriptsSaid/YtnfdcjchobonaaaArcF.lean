/-
  Contracts: keep.
-/
import Derived.Test.YtnfdcjchobonaaaArcE
namespace Go.Proofs.Ytnfdcjchobonaaa
open Go.RowKit Go.ChangeShapes Go.WideShapes Go.ChangeAt

theorem step_small (n m : Nat) (hn : n ≤ 10000) : 1 ≤ max 1 ((n / m : Nat) : Int) ∧ max 1 ((n / m : Nat) : Int) ≤ 10000 := by
  have hle : n / m ≤ 10000 := Nat.le_trans (Nat.div_le_self n m) hn
  omega
theorem new_len (d : ArcD) : (newA d).1.len ≤ d.len := by
  unfold newA
  split
  · split
    · exact old_len d in2
    · exact Nat.le_trans (room_len _ _) (old_len d in4)
  · split
    · refine Nat.le_trans (room_len _ _) ?_
      split
      · exact old_len d in5
      · exact Nat.le_refl _
    · exact Nat.le_refl _
theorem has_pos {d : ArcD} {i : Nat} {k : ByteArray} (h : hasA d i k = true) : 1 ≤ (d.l i).length := by
  have := hasK_iff.1 h
  cases hd : d.l i with
  | nil => rw [hd] at this; simp at this
  | cons x r => simp

set_option maxRecDepth 100000 in
set_option maxHeartbeats 2000000 in
theorem keep_any (b : Nat) (F : List Nat) (d : ArcD) (k : ByteArray) (w : World) (h : ArcF b d F w) (hlen : d.len ≤ 8000) (hok : OkA d) :
    Calls Try.prog 27 #[.pointer (some ⟨b, 0, none⟩), .string k] w fun e w' => e = .returned (.string (keepA d k).2) ∧ Tod (ArcF b (keepA d k).1) F w w' := by
  have HM : Hid (keepA d k = if hasA d 4 k = true then againA { d with t := min d.c (d.t + stepA d 4 5) } k 4 false
    else if hasA d 5 k = true then againA { d with t := max 0 (d.t - stepA d 5 4) } k 5 true
    else (addA (newA d).1 2 k, (newA d).2)) := rfl
  have HF := Lib.hid h
  have HOK := Lib.hid hok
  have HLEN := Lib.hid hlen
  generalize keepA d k = M at *
  obtain ⟨v, h, rfl⟩ := h
  have H4 := Lib.hid (has_list b 4 in4 v d k w h (by omega))
  have H5 := Lib.hid (has_list b 5 in5 v d k w h (by omega))
  obtain ⟨a, c, hc⟩ := h.cells
  have q0 := hc.z
  have q1 := hc.t
  have q4 := hc.l 4 in4
  have q5 := hc.l 5 in5
  have HV := Lib.hid h
  have L4 := d.le_len in4
  have L5 := d.le_len in5
  cases h4 : hasA d 4 k
  · have hno := Lib.hid h4
    rw [h4] at H4
    clear h4
    cases h4 : hasA d 5 k
    · have h5 := h4
      clear h4
      have HMM : Hid (M = (addA (newA d).1 2 k, (newA d).2)) := by show _ = _; rw [HM.out, if_neg (by rw [hno.out]; simp), if_neg (by rw [h5]; simp)]
      rw [h5] at H5
      have HN := Lib.hid (new_any b (fpA b v) d w ⟨v, h, rfl⟩ (by omega) hok)
      have HNL := Lib.hid (Nat.le_trans (new_len d) hlen)
      generalize newA d = r at *
      obtain ⟨d1, left⟩ := r
      dsimp only at HN HNL HMM
      clear HM h hc hlen hok L4 L5 q0 q1 q4 q5 h5
      go_enter Try.func27, Try.ntmps27
      go_wp2_with fail
      refine H4.out.mono ?_
      rintro e w1 ⟨rfl, rfl⟩
      go_wp2_with fail
      refine H5.out.mono ?_
      rintro e w1 ⟨rfl, rfl⟩
      go_wp2_with fail
      refine HN.out.mono ?_
      rintro e w2 ⟨rfl, ht⟩
      obtain ⟨F2, ⟨v2, h2, rfl⟩, hc2, hf2⟩ := ht
      have HT2 := Lib.hid (add_list b 2 in2 v2 d1 k w2 h2 (by have := HNL.out; omega))
      have HC2 := Lib.hid hc2
      have HF2 := Lib.hid hf2
      clear h2 hc2 hf2 HN
      go_wp2_with fail
      refine HT2.out.mono ?_
      rintro e w3 ⟨rfl, ht⟩
      have HT := Lib.hid (Tod.seq HC2.out HF2.out ht)
      clear ht HT2
      go_wp2
      go_ret
      rw [HMM.out]
      exact ⟨rfl, HT.out⟩
    · have P4 := has_pos h4
      have HMM : Hid (M = againA { d with t := max 0 (d.t - stepA d 5 4) } k 5 true) := by show _ = _; rw [HM.out, if_neg (by rw [hno.out]; simp), if_pos h4]
      rw [h4] at H5
      have hst : stepA d 5 4 = max 1 (((d.l 4).length / (d.l 5).length : Nat) : Int) := rfl
      have S1 := step_small (d.l 4).length (d.l 5).length (by omega)
      have HS : Hid (∀ W, W.cell? ⟨b, 5, none⟩ = some (.slice (a 5) (d.l 5).length (c 5)) → Calls Try.prog 36 #[.pointer (some ⟨b, 5, none⟩), .agg #[.slice (a 4) (d.l 4).length (c 4)]] W fun e w' => e = .returned (.int .i64 (max 1 (((d.l 4).length / (d.l 5).length : Nat) : Int))) ∧ Below W.heap.size W w') :=
        fun W hW => step_list b 5 (d.l 5).length (c 5) (d.l 4).length (c 4) (a 4) (a 5) W hW P4 (by omega)
      rw [← hst] at S1 HS
      have S2 := HOK.out.2.1
      have S3 := HOK.out.2.2.1
      have S4 := HOK.out.2.2.2
      have W1 : IntKind.i64.wrap (d.t - stepA d 5 4) = d.t - stepA d 5 4 := IntWalk.i64_in _ ⟨by omega, by omega⟩
      obtain ⟨T, hT⟩ : ∃ T, T = max 0 (d.t - stepA d 5 4) := ⟨_, rfl⟩
      rw [← hT] at HMM
      generalize stepA d 5 4 = st at *
      have hT2 : (if st < d.t then d.t - st else 0) = T := by
        rw [hT]
        split <;> omega
      have HTT : Hid (∀ w2, Below w.heap.size w.drew w2 → ArcF b { d with t := T } (fpA b v) (w2.setCell ⟨b, 1, none⟩ (.int .i64 T)) ∧ Chg (fpA b v) w (w2.setCell ⟨b, 1, none⟩ (.int .i64 T)) ∧ w2.cell? ⟨b, 1, none⟩ = some (.int .i64 d.t) ∧ w2.frozen? ⟨b, 1, none⟩ = false) := by
        intro w2 hb
        have hb' : Below w.heap.size w w2 := ⟨hb.os, hb.tape, hb.output, hb.size, hb.block⟩
        have h2 := HV.out.keep hb'
        refine ⟨⟨v, h2.target T, rfl⟩, (Chg.of hb' (Nat.le_refl _)).set b 1 _ (.inl (mem_fpA.2 (.inl rfl))), h2.box.cell 1 _ rfl, h2.box.free 1⟩
      have HAG : Hid (∀ w2 F2, ArcF b { d with t := T } F2 w2 → Calls Try.prog 37 #[.pointer (some ⟨b, 0, none⟩), .string k, .pointer (some ⟨b, 5, none⟩), .bool true] w2 fun e w' => e = .returned (.string M.2) ∧ Tod (ArcF b M.1) F2 w2 w') := by
        intro w2 F2 h2
        rw [HMM.out]
        exact again_any b 5 in5 F2 _ k true w2 h2 (by have := HLEN.out; show d.len ≤ 9000; omega)
      generalize hn4 : (d.l 5).length = n4 at *
      generalize hn5 : (d.l 4).length = n5 at *
      generalize hz : d.c = z at *
      generalize ht : d.t = t at *
      clear hst HM h hc hlen hok L4 L5 hn4 hn5 hz P4 h4 hT HMM ht
      go_enter Try.func27, Try.ntmps27
      go_wp2_with fail
      refine H4.out.mono ?_
      rintro e w1 ⟨rfl, rfl⟩
      go_wp2_with fail
      refine H5.out.mono ?_
      rintro e w1 ⟨rfl, rfl⟩
      go_wp2_with fail
      refine wp_region_held_mid (fun W => W.cell? ⟨b, 1, none⟩ = some (.int .i64 t) ∧ W.cell? ⟨b, 4, none⟩ = some (.slice (a 4) n5 (c 4))) 12 2 (by kernel_rfl) (by kernel_rfl) ⟨q1, q4⟩ ?_
      simp only [List.take_succ_cons, List.take_zero, List.drop_succ_cons, List.drop_zero]
      iterate 12 (apply wpHeld_step; (intro W hS K hK; obtain ⟨r1, r5⟩ := hS; go_simp; exact hK _ rfl))
      refine wpHeld_nil ?_
      refine wpOp_step rfl (fun K' hK => ?_)
      go_simp
      refine (HS.out w.drew q5).mono ?_
      rintro e w2 ⟨rfl, hb⟩
      have r0 : w2.cell? ⟨b, 0, none⟩ = some (.int .i64 z) := (hb.cell (p := ⟨b, 0, none⟩) (lt_of_cell q0)).trans q0
      have r1 : w2.cell? ⟨b, 1, none⟩ = some (.int .i64 t) := (hb.cell (p := ⟨b, 1, none⟩) (lt_of_cell q0)).trans q1
      have r5 : w2.cell? ⟨b, 4, none⟩ = some (.slice (a 4) n5 (c 4)) := (hb.cell (p := ⟨b, 4, none⟩) (lt_of_cell q0)).trans q4
      have HB := Lib.hid hb
      refine hK _ _ ⟨⟨r1, r5⟩, ?_⟩
      clear hK K' hb q0 q1 q4 q5 r0 r1 r5
      apply wpHeld_step
      · intro W hS K hK
        go_simp
        exact hK _ rfl
      apply wpHeld_step
      · intro W hS K hK
        go_simp
        try rw [hT2]
        exact hK _ rfl
      refine wpHeld_nil ?_
      clear hT2
      obtain ⟨g1, g2, g3, g4⟩ := HTT.out w2 HB.out
      have HA2 := Lib.hid (HAG.out _ _ g1)
      have HC2 := Lib.hid g2
      clear g1 g2 HAG HTT
      go_wp2_with fail
      refine HA2.out.mono ?_
      rintro e w3 ⟨rfl, ht3⟩
      have HT := Lib.hid (Tod.seq HC2.out (fun _ hk => .inl hk) ht3)
      clear ht3
      go_wp2
      go_ret
      exact ⟨rfl, HT.out⟩
  · have P4 := has_pos h4
    have HMM : Hid (M = againA { d with t := min d.c (d.t + stepA d 4 5) } k 4 false) := by show _ = _; rw [HM.out, if_pos h4]
    rw [h4] at H4
    have hst : stepA d 4 5 = max 1 (((d.l 5).length / (d.l 4).length : Nat) : Int) := rfl
    have S1 := step_small (d.l 5).length (d.l 4).length (by omega)
    have HS : Hid (∀ W, W.cell? ⟨b, 4, none⟩ = some (.slice (a 4) (d.l 4).length (c 4)) → Calls Try.prog 36 #[.pointer (some ⟨b, 4, none⟩), .agg #[.slice (a 5) (d.l 5).length (c 5)]] W fun e w' => e = .returned (.int .i64 (max 1 (((d.l 5).length / (d.l 4).length : Nat) : Int))) ∧ Below W.heap.size W w') :=
      fun W hW => step_list b 4 (d.l 4).length (c 4) (d.l 5).length (c 5) (a 5) (a 4) W hW P4 (by omega)
    rw [← hst] at S1 HS
    have S2 := HOK.out.2.1
    have S3 := HOK.out.2.2.1
    have S4 := HOK.out.2.2.2
    have W1 : IntKind.i64.wrap (d.t + stepA d 4 5) = d.t + stepA d 4 5 := IntWalk.i64_in _ ⟨by omega, by omega⟩
    obtain ⟨T, hT⟩ : ∃ T, T = min d.c (d.t + stepA d 4 5) := ⟨_, rfl⟩
    rw [← hT] at HMM
    generalize stepA d 4 5 = st at *
    have hT2 : (if d.t + st < d.c then d.t + st else d.c) = T := by
      rw [hT]
      split <;> omega
    have HTT : Hid (∀ w2, Below w.heap.size w.drew w2 → ArcF b { d with t := T } (fpA b v) (w2.setCell ⟨b, 1, none⟩ (.int .i64 T)) ∧ Chg (fpA b v) w (w2.setCell ⟨b, 1, none⟩ (.int .i64 T)) ∧ w2.cell? ⟨b, 1, none⟩ = some (.int .i64 d.t) ∧ w2.frozen? ⟨b, 1, none⟩ = false) := by
      intro w2 hb
      have hb' : Below w.heap.size w w2 := ⟨hb.os, hb.tape, hb.output, hb.size, hb.block⟩
      have h2 := HV.out.keep hb'
      refine ⟨⟨v, h2.target T, rfl⟩, (Chg.of hb' (Nat.le_refl _)).set b 1 _ (.inl (mem_fpA.2 (.inl rfl))), h2.box.cell 1 _ rfl, h2.box.free 1⟩
    have HAG : Hid (∀ w2 F2, ArcF b { d with t := T } F2 w2 → Calls Try.prog 37 #[.pointer (some ⟨b, 0, none⟩), .string k, .pointer (some ⟨b, 4, none⟩), .bool false] w2 fun e w' => e = .returned (.string M.2) ∧ Tod (ArcF b M.1) F2 w2 w') := by
      intro w2 F2 h2
      rw [HMM.out]
      exact again_any b 4 in4 F2 _ k false w2 h2 (by have := HLEN.out; show d.len ≤ 9000; omega)
    generalize hn4 : (d.l 4).length = n4 at *
    generalize hn5 : (d.l 5).length = n5 at *
    generalize hz : d.c = z at *
    generalize ht : d.t = t at *
    clear hst HM H5 h hc hlen hok L4 L5 hn4 hn5 hz P4 h4 hT HMM ht
    go_enter Try.func27, Try.ntmps27
    go_wp2_with fail
    refine H4.out.mono ?_
    rintro e w1 ⟨rfl, rfl⟩
    go_wp2_with fail
    refine wp_region_held_mid (fun W => W.cell? ⟨b, 0, none⟩ = some (.int .i64 z) ∧ W.cell? ⟨b, 1, none⟩ = some (.int .i64 t) ∧ W.cell? ⟨b, 5, none⟩ = some (.slice (a 5) n5 (c 5))) 16 2 (by kernel_rfl) (by kernel_rfl) ⟨q0, q1, q5⟩ ?_
    simp only [List.take_succ_cons, List.take_zero, List.drop_succ_cons, List.drop_zero]
    iterate 16 (apply wpHeld_step; (intro W hS K hK; obtain ⟨r0, r1, r5⟩ := hS; go_simp; exact hK _ rfl))
    refine wpHeld_nil ?_
    refine wpOp_step rfl (fun K' hK => ?_)
    go_simp
    refine (HS.out w.drew q4).mono ?_
    rintro e w2 ⟨rfl, hb⟩
    have r0 : w2.cell? ⟨b, 0, none⟩ = some (.int .i64 z) := (hb.cell (p := ⟨b, 0, none⟩) (lt_of_cell q0)).trans q0
    have r1 : w2.cell? ⟨b, 1, none⟩ = some (.int .i64 t) := (hb.cell (p := ⟨b, 1, none⟩) (lt_of_cell q0)).trans q1
    have r5 : w2.cell? ⟨b, 5, none⟩ = some (.slice (a 5) n5 (c 5)) := (hb.cell (p := ⟨b, 5, none⟩) (lt_of_cell q0)).trans q5
    have HB := Lib.hid hb
    refine hK _ _ ⟨⟨r0, r1, r5⟩, ?_⟩
    clear hK K' hb q0 q1 q4 q5 r0 r1 r5
    apply wpHeld_step
    · intro W hS K hK
      go_simp
      exact hK _ rfl
    apply wpHeld_step
    · intro W hS K hK
      go_simp
      try rw [hT2]
      exact hK _ rfl
    refine wpHeld_nil ?_
    clear hT2
    obtain ⟨g1, g2, g3, g4⟩ := HTT.out w2 HB.out
    have HA2 := Lib.hid (HAG.out _ _ g1)
    have HC2 := Lib.hid g2
    clear g1 g2 HAG HTT
    go_wp2_with fail
    refine HA2.out.mono ?_
    rintro e w3 ⟨rfl, ht3⟩
    have HT := Lib.hid (Tod.seq HC2.out (fun _ hk => .inl hk) ht3)
    clear ht3
    go_wp2
    go_ret
    exact ⟨rfl, HT.out⟩
end Go.Proofs.Ytnfdcjchobonaaa
