/-
  Texts put together: ArcF, ArcG, ArcH, ArcL.
-/
import Derived.Test.YtphhnhldbajaoaaGreatDoorMg3
import Derived.Deep.RegionHeld3
namespace Go.Proofs.YtphhnhldbajaoaaGreatDoor
open Go.RowKit Go.ChangeShapes Go.WideShapes Go.ChangeAt

theorem step_small (n m : Nat) (hn : n ≤ 10000) : 1 ≤ max 1 ((n / m : Nat) : Int) ∧ max 1 ((n / m : Nat) : Int) ≤ 10000 := by
  have hle : n / m ≤ 10000 := Nat.le_trans (Nat.div_le_self n m) hn
  omega
theorem new_len (d : ArcD) : (newA d).1.len ≤ d.len := by
  unfold newA
  split
  · split
    · exact old_len d in2
    · exact Nat.le_trans (room_len _ _) (old_len d in4)
  · split
    · refine Nat.le_trans (room_len _ _) ?_
      split
      · exact old_len d in5
      · exact Nat.le_refl _
    · exact Nat.le_refl _
theorem has_pos {d : ArcD} {i : Nat} {k : ByteArray} (h : hasA d i k = true) : 1 ≤ (d.l i).length := by
  have := hasK_iff.1 h
  cases hd : d.l i with
  | nil => rw [hd] at this; simp at this
  | cons x r => simp

set_option maxRecDepth 100000 in
set_option maxHeartbeats 2000000 in
theorem keep_any (b : Nat) (F : List Nat) (d : ArcD) (k : ByteArray) (w : World) (h : ArcF b d F w) (hlen : d.len ≤ 8000) (hok : OkA d) :
    Calls Tryz.prog 120 #[.pointer (some ⟨b, 0, none⟩), .string k] w fun e w' => e = .returned (.string (keepA d k).2) ∧ Tod (ArcF b (keepA d k).1) F w w' := by
  have HM : Hid (keepA d k = if hasA d 4 k = true then againA { d with t := min d.c (d.t + stepA d 4 5) } k 4 false
    else if hasA d 5 k = true then againA { d with t := max 0 (d.t - stepA d 5 4) } k 5 true
    else (addA (newA d).1 2 k, (newA d).2)) := rfl
  have HF := Lib.hid h
  have HOK := Lib.hid hok
  have HLEN := Lib.hid hlen
  generalize keepA d k = M at *
  obtain ⟨v, h, rfl⟩ := h
  have H4 := Lib.hid (has_list b 4 in4 v d k w h (by omega))
  have H5 := Lib.hid (has_list b 5 in5 v d k w h (by omega))
  obtain ⟨a, c, hc⟩ := h.cells
  have q0 := hc.z
  have q1 := hc.t
  have q4 := hc.l 4 in4
  have q5 := hc.l 5 in5
  have HV := Lib.hid h
  have L4 := d.le_len in4
  have L5 := d.le_len in5
  cases h4 : hasA d 4 k
  · have hno := Lib.hid h4
    rw [h4] at H4
    clear h4
    cases h4 : hasA d 5 k
    · have h5 := h4
      clear h4
      have HMM : Hid (M = (addA (newA d).1 2 k, (newA d).2)) := by show _ = _; rw [HM.out, if_neg (by rw [hno.out]; simp), if_neg (by rw [h5]; simp)]
      rw [h5] at H5
      have HN := Lib.hid (new_any b (fpA b v) d w ⟨v, h, rfl⟩ (by omega) hok)
      have HNL := Lib.hid (Nat.le_trans (new_len d) hlen)
      generalize newA d = r at *
      obtain ⟨d1, left⟩ := r
      dsimp only at HN HNL HMM
      clear HM h hc hlen hok L4 L5 q0 q1 q4 q5 h5
      go_enter Tryz.func120, Tryz.ntmps120
      go_wp2_with fail
      refine H4.out.mono ?_
      rintro e w1 ⟨rfl, rfl⟩
      go_wp2_with fail
      refine H5.out.mono ?_
      rintro e w1 ⟨rfl, rfl⟩
      go_wp2_with fail
      refine HN.out.mono ?_
      rintro e w2 ⟨rfl, ht⟩
      obtain ⟨F2, ⟨v2, h2, rfl⟩, hc2, hf2⟩ := ht
      have HT2 := Lib.hid (add_list b 2 in2 v2 d1 k w2 h2 (by have := HNL.out; omega))
      have HC2 := Lib.hid hc2
      have HF2 := Lib.hid hf2
      clear h2 hc2 hf2 HN
      go_wp2_with fail
      refine HT2.out.mono ?_
      rintro e w3 ⟨rfl, ht⟩
      have HT := Lib.hid (Tod.seq HC2.out HF2.out ht)
      clear ht HT2
      go_wp2
      go_ret
      rw [HMM.out]
      exact ⟨rfl, HT.out⟩
    · have P4 := has_pos h4
      have HMM : Hid (M = againA { d with t := max 0 (d.t - stepA d 5 4) } k 5 true) := by show _ = _; rw [HM.out, if_neg (by rw [hno.out]; simp), if_pos h4]
      rw [h4] at H5
      have hst : stepA d 5 4 = max 1 (((d.l 4).length / (d.l 5).length : Nat) : Int) := rfl
      have S1 := step_small (d.l 4).length (d.l 5).length (by omega)
      have HS : Hid (∀ W, W.cell? ⟨b, 5, none⟩ = some (.slice (a 5) (d.l 5).length (c 5)) → Calls Tryz.prog 141 #[.pointer (some ⟨b, 5, none⟩), .agg #[.slice (a 4) (d.l 4).length (c 4)]] W fun e w' => e = .returned (.int .i64 (max 1 (((d.l 4).length / (d.l 5).length : Nat) : Int))) ∧ Below W.heap.size W w') :=
        fun W hW => step_list b 5 (d.l 5).length (c 5) (d.l 4).length (c 4) (a 4) (a 5) W hW P4 (by omega)
      rw [← hst] at S1 HS
      have S2 := HOK.out.2.1
      have S3 := HOK.out.2.2.1
      have S4 := HOK.out.2.2.2
      have W1 : IntKind.i64.wrap (d.t - stepA d 5 4) = d.t - stepA d 5 4 := IntWalk.i64_in _ ⟨by omega, by omega⟩
      obtain ⟨T, hT⟩ : ∃ T, T = max 0 (d.t - stepA d 5 4) := ⟨_, rfl⟩
      rw [← hT] at HMM
      generalize stepA d 5 4 = st at *
      have hT2 : (if st < d.t then d.t - st else 0) = T := by
        rw [hT]
        split <;> omega
      have HTT : Hid (∀ w2, Below w.heap.size w.drew w2 → ArcF b { d with t := T } (fpA b v) (w2.setCell ⟨b, 1, none⟩ (.int .i64 T)) ∧ Chg (fpA b v) w (w2.setCell ⟨b, 1, none⟩ (.int .i64 T)) ∧ w2.cell? ⟨b, 1, none⟩ = some (.int .i64 d.t) ∧ w2.frozen? ⟨b, 1, none⟩ = false) := by
        intro w2 hb
        have hb' : Below w.heap.size w w2 := ⟨hb.os, hb.tape, hb.output, hb.size, hb.block⟩
        have h2 := HV.out.keep hb'
        refine ⟨⟨v, h2.target T, rfl⟩, (Chg.of hb' (Nat.le_refl _)).set b 1 _ (.inl (mem_fpA.2 (.inl rfl))), h2.box.cell 1 _ rfl, h2.box.free 1⟩
      have HAG : Hid (∀ w2 F2, ArcF b { d with t := T } F2 w2 → Calls Tryz.prog 142 #[.pointer (some ⟨b, 0, none⟩), .string k, .pointer (some ⟨b, 5, none⟩), .bool true] w2 fun e w' => e = .returned (.string M.2) ∧ Tod (ArcF b M.1) F2 w2 w') := by
        intro w2 F2 h2
        rw [HMM.out]
        exact again_any b 5 in5 F2 _ k true w2 h2 (by have := HLEN.out; show d.len ≤ 9000; omega)
      generalize hn4 : (d.l 5).length = n4 at *
      generalize hn5 : (d.l 4).length = n5 at *
      generalize hz : d.c = z at *
      generalize ht : d.t = t at *
      clear hst HM h hc hlen hok L4 L5 hn4 hn5 hz P4 h4 hT HMM ht
      go_enter Tryz.func120, Tryz.ntmps120
      go_wp2_with fail
      refine H4.out.mono ?_
      rintro e w1 ⟨rfl, rfl⟩
      go_wp2_with fail
      refine H5.out.mono ?_
      rintro e w1 ⟨rfl, rfl⟩
      go_wp2_with fail
      refine wp_region_held_mid (fun W => W.cell? ⟨b, 1, none⟩ = some (.int .i64 t) ∧ W.cell? ⟨b, 4, none⟩ = some (.slice (a 4) n5 (c 4))) 12 2 (by kernel_rfl) (by kernel_rfl) ⟨q1, q4⟩ ?_
      simp only [List.take_succ_cons, List.take_zero, List.drop_succ_cons, List.drop_zero]
      iterate 12 (apply wpHeld_step; (intro W hS K hK; obtain ⟨r1, r5⟩ := hS; go_simp; exact hK _ rfl))
      refine wpHeld_nil ?_
      refine wpOp_step rfl (fun K' hK => ?_)
      go_simp
      refine (HS.out w.drew q5).mono ?_
      rintro e w2 ⟨rfl, hb⟩
      have r0 : w2.cell? ⟨b, 0, none⟩ = some (.int .i64 z) := (hb.cell (p := ⟨b, 0, none⟩) (lt_of_cell q0)).trans q0
      have r1 : w2.cell? ⟨b, 1, none⟩ = some (.int .i64 t) := (hb.cell (p := ⟨b, 1, none⟩) (lt_of_cell q0)).trans q1
      have r5 : w2.cell? ⟨b, 4, none⟩ = some (.slice (a 4) n5 (c 4)) := (hb.cell (p := ⟨b, 4, none⟩) (lt_of_cell q0)).trans q4
      have HB := Lib.hid hb
      refine hK _ _ ⟨⟨r1, r5⟩, ?_⟩
      clear hK K' hb q0 q1 q4 q5 r0 r1 r5
      apply wpHeld_step
      · intro W hS K hK
        go_simp
        exact hK _ rfl
      apply wpHeld_step
      · intro W hS K hK
        go_simp
        try rw [hT2]
        exact hK _ rfl
      refine wpHeld_nil ?_
      clear hT2
      obtain ⟨g1, g2, g3, g4⟩ := HTT.out w2 HB.out
      have HA2 := Lib.hid (HAG.out _ _ g1)
      have HC2 := Lib.hid g2
      clear g1 g2 HAG HTT
      go_wp2_with fail
      refine HA2.out.mono ?_
      rintro e w3 ⟨rfl, ht3⟩
      have HT := Lib.hid (Tod.seq HC2.out (fun _ hk => .inl hk) ht3)
      clear ht3
      go_wp2
      go_ret
      exact ⟨rfl, HT.out⟩
  · have P4 := has_pos h4
    have HMM : Hid (M = againA { d with t := min d.c (d.t + stepA d 4 5) } k 4 false) := by show _ = _; rw [HM.out, if_pos h4]
    rw [h4] at H4
    have hst : stepA d 4 5 = max 1 (((d.l 5).length / (d.l 4).length : Nat) : Int) := rfl
    have S1 := step_small (d.l 5).length (d.l 4).length (by omega)
    have HS : Hid (∀ W, W.cell? ⟨b, 4, none⟩ = some (.slice (a 4) (d.l 4).length (c 4)) → Calls Tryz.prog 141 #[.pointer (some ⟨b, 4, none⟩), .agg #[.slice (a 5) (d.l 5).length (c 5)]] W fun e w' => e = .returned (.int .i64 (max 1 (((d.l 5).length / (d.l 4).length : Nat) : Int))) ∧ Below W.heap.size W w') :=
      fun W hW => step_list b 4 (d.l 4).length (c 4) (d.l 5).length (c 5) (a 5) (a 4) W hW P4 (by omega)
    rw [← hst] at S1 HS
    have S2 := HOK.out.2.1
    have S3 := HOK.out.2.2.1
    have S4 := HOK.out.2.2.2
    have W1 : IntKind.i64.wrap (d.t + stepA d 4 5) = d.t + stepA d 4 5 := IntWalk.i64_in _ ⟨by omega, by omega⟩
    obtain ⟨T, hT⟩ : ∃ T, T = min d.c (d.t + stepA d 4 5) := ⟨_, rfl⟩
    rw [← hT] at HMM
    generalize stepA d 4 5 = st at *
    have hT2 : (if d.t + st < d.c then d.t + st else d.c) = T := by
      rw [hT]
      split <;> omega
    have HTT : Hid (∀ w2, Below w.heap.size w.drew w2 → ArcF b { d with t := T } (fpA b v) (w2.setCell ⟨b, 1, none⟩ (.int .i64 T)) ∧ Chg (fpA b v) w (w2.setCell ⟨b, 1, none⟩ (.int .i64 T)) ∧ w2.cell? ⟨b, 1, none⟩ = some (.int .i64 d.t) ∧ w2.frozen? ⟨b, 1, none⟩ = false) := by
      intro w2 hb
      have hb' : Below w.heap.size w w2 := ⟨hb.os, hb.tape, hb.output, hb.size, hb.block⟩
      have h2 := HV.out.keep hb'
      refine ⟨⟨v, h2.target T, rfl⟩, (Chg.of hb' (Nat.le_refl _)).set b 1 _ (.inl (mem_fpA.2 (.inl rfl))), h2.box.cell 1 _ rfl, h2.box.free 1⟩
    have HAG : Hid (∀ w2 F2, ArcF b { d with t := T } F2 w2 → Calls Tryz.prog 142 #[.pointer (some ⟨b, 0, none⟩), .string k, .pointer (some ⟨b, 4, none⟩), .bool false] w2 fun e w' => e = .returned (.string M.2) ∧ Tod (ArcF b M.1) F2 w2 w') := by
      intro w2 F2 h2
      rw [HMM.out]
      exact again_any b 4 in4 F2 _ k false w2 h2 (by have := HLEN.out; show d.len ≤ 9000; omega)
    generalize hn4 : (d.l 4).length = n4 at *
    generalize hn5 : (d.l 5).length = n5 at *
    generalize hz : d.c = z at *
    generalize ht : d.t = t at *
    clear hst HM H5 h hc hlen hok L4 L5 hn4 hn5 hz P4 h4 hT HMM ht
    go_enter Tryz.func120, Tryz.ntmps120
    go_wp2_with fail
    refine H4.out.mono ?_
    rintro e w1 ⟨rfl, rfl⟩
    go_wp2_with fail
    refine wp_region_held_mid (fun W => W.cell? ⟨b, 0, none⟩ = some (.int .i64 z) ∧ W.cell? ⟨b, 1, none⟩ = some (.int .i64 t) ∧ W.cell? ⟨b, 5, none⟩ = some (.slice (a 5) n5 (c 5))) 16 2 (by kernel_rfl) (by kernel_rfl) ⟨q0, q1, q5⟩ ?_
    simp only [List.take_succ_cons, List.take_zero, List.drop_succ_cons, List.drop_zero]
    iterate 16 (apply wpHeld_step; (intro W hS K hK; obtain ⟨r0, r1, r5⟩ := hS; go_simp; exact hK _ rfl))
    refine wpHeld_nil ?_
    refine wpOp_step rfl (fun K' hK => ?_)
    go_simp
    refine (HS.out w.drew q4).mono ?_
    rintro e w2 ⟨rfl, hb⟩
    have r0 : w2.cell? ⟨b, 0, none⟩ = some (.int .i64 z) := (hb.cell (p := ⟨b, 0, none⟩) (lt_of_cell q0)).trans q0
    have r1 : w2.cell? ⟨b, 1, none⟩ = some (.int .i64 t) := (hb.cell (p := ⟨b, 1, none⟩) (lt_of_cell q0)).trans q1
    have r5 : w2.cell? ⟨b, 5, none⟩ = some (.slice (a 5) n5 (c 5)) := (hb.cell (p := ⟨b, 5, none⟩) (lt_of_cell q0)).trans q5
    have HB := Lib.hid hb
    refine hK _ _ ⟨⟨r0, r1, r5⟩, ?_⟩
    clear hK K' hb q0 q1 q4 q5 r0 r1 r5
    apply wpHeld_step
    · intro W hS K hK
      go_simp
      exact hK _ rfl
    apply wpHeld_step
    · intro W hS K hK
      go_simp
      try rw [hT2]
      exact hK _ rfl
    refine wpHeld_nil ?_
    clear hT2
    obtain ⟨g1, g2, g3, g4⟩ := HTT.out w2 HB.out
    have HA2 := Lib.hid (HAG.out _ _ g1)
    have HC2 := Lib.hid g2
    clear g1 g2 HAG HTT
    go_wp2_with fail
    refine HA2.out.mono ?_
    rintro e w3 ⟨rfl, ht3⟩
    have HT := Lib.hid (Tod.seq HC2.out (fun _ hk => .inl hk) ht3)
    clear ht3
    go_wp2
    go_ret
    exact ⟨rfl, HT.out⟩
end Go.Proofs.YtphhnhldbajaoaaGreatDoor

namespace Go.Proofs.YtphhnhldbajaoaaGreatDoor
open Go.RowKit Go.ChangeShapes Go.WideShapes Go.ChangeAt

theorem some_no {d : ArcD} {i j : Nat} {k : ByteArray} (h : (someA d i j k).2 = false) : (someA d i j k).1 = d := by
  unfold someA at h ⊢
  split at h
  · cases h
  · split at h
    · cases h
    · rename_i h1 h2; rw [if_neg h1, if_neg h2]
theorem ask_some (d : ArcD) (k : ByteArray) (hk : k ≠ empA) : askA d k = if (someA d 2 3 k).2 = true then (addA (someA d 2 3 k).1 3 k, true, empA) else ((keepA d k).1, false, (keepA d k).2) := by
  unfold askA someA
  rw [if_neg hk]
  cases h1 : hasA d 2 k <;> cases h2 : hasA d 3 k <;> rfl
theorem some_len (d : ArcD) {i j : Nat} (hi : InA i) (hj : InA j) (k : ByteArray) : (someA d i j k).1.len ≤ d.len := by
  unfold someA
  split
  · exact take_len d hi k
  · split
    · exact take_len d hj k
    · exact Nat.le_refl _

/-- The two lists told in a new block. -/
theorem two_new {b : Nat} {F : List Nat} {d : ArcD} {w : World} (h : ArcF b d F w) (i j : Nat) (W : World) (hW : W = (w.alloc (.cells #[.pointer (some ⟨b, i, none⟩), .pointer (some ⟨b, j, none⟩)] 167 (0, 0))).drew) :
    ArcF b d F W ∧ TwoP W w.heap.size b i j ∧ w.heap.size ∉ F ∧ ∀ (d' : ArcD) (w' : World), Tod (ArcF b d') F W w' → Tod (ArcF b d') F w w' := by
  subst hW
  have hb : Below w.heap.size w (w.alloc (.cells #[.pointer (some ⟨b, i, none⟩), .pointer (some ⟨b, j, none⟩)] 167 (0, 0))).drew := ((Below.refl _ _).alloc (Nat.le_refl _) _).drew
  have hF := (fixed_arc b d).keep _ _ _ _ h (Chg.of (S := []) hb (Nat.le_refl _)) (fun _ _ hm => by cases hm)
  refine ⟨hF, Box.new w _ _, fun hm => by have := (fixed_arc b d).lt _ _ h _ hm; omega, fun _ _ ht => ?_⟩
  exact Tod.seq (Chg.of hb (Nat.le_refl _)) (fun _ hk => .inl hk) ht

set_option maxRecDepth 100000 in
set_option maxHeartbeats 2000000 in
theorem ask_any (b : Nat) (F : List Nat) (d : ArcD) (k : ByteArray) (w : World) (h : ArcF b d F w) (hlen : d.len ≤ 8000) (hok : OkA d) :
    Calls Tryz.prog 87 #[.pointer (some ⟨b, 0, none⟩), .string k] w fun e w' => e = .returned (.tuple #[.bool (askA d k).2.1, .string (askA d k).2.2]) ∧ Tod (ArcF b (askA d k).1) F w w' := by
  have HMD : Hid (∃ v, ArcAt w b v d) := by obtain ⟨v, h1, _⟩ := h; exact ⟨v, h1⟩
  obtain ⟨v, hv⟩ := HMD.out
  have HD := Lib.hid (made_any b v d w hv hok.1)
  by_cases hk : k = empA
  · have e : askA d k = (d, false, empA) := by unfold askA; rw [if_pos hk]
    rw [e]
    have HT : Hid (Tod (ArcF b d) F w w) := Tod.same (fixed_arc b d) h (Below.refl _ _)
    subst hk
    clear h hlen hok hv e HMD
    go_enter Tryz.func87, Tryz.ntmps87
    go_wp2_with fail
    refine HD.out.mono ?_
    rintro e w1 ⟨rfl, rfl⟩
    go_wp2
    go_ret2
    exact ⟨rfl, HT.out⟩
  · obtain ⟨e1, e2⟩ := str_emp hk
    have HM := Lib.hid (ask_some d k hk)
    generalize hM : askA d k = M at *
    clear hM
    obtain ⟨W, hW⟩ : ∃ W, W = (w.alloc (.cells #[.pointer (some ⟨b, 2, none⟩), .pointer (some ⟨b, 3, none⟩)] 167 (0, 0))).drew := ⟨_, rfl⟩
    obtain ⟨t1, t2, t3, t4⟩ := two_new h 2 3 W hW
    have HU := Lib.hid t4
    have HSM := Lib.hid (some_take w.heap.size b 2 3 in2 in3 F d k W t1 (by omega) t2 t3)
    have HKP := Lib.hid (fun (F' : List Nat) (w' : World) (hh : ArcF b d F' w') => keep_any b F' d k w' hh hlen hok)
    have HLN := Lib.hid (Nat.le_trans (some_len d in2 in3 k) hlen)
    have HNO := Lib.hid (@some_no d 2 3 k)
    generalize someA d 2 3 k = r at *
    obtain ⟨d1, hit⟩ := r
    dsimp only at HM HSM HLN HNO
    have HWW := Lib.hid hW
    clear h hlen hok hv HMD t1 t2 t3 t4 hW hk
    go_enter Tryz.func87, Tryz.ntmps87
    go_wp2_with fail
    refine HD.out.mono ?_
    rintro e w1 ⟨rfl, rfl⟩
    go_wp2_with fail
    refine wp_region_held_tail (fun _ => True) 7 (by kernel_rfl) (by kernel_rfl) trivial ?_
    simp only [List.take_succ_cons, List.take_zero, List.drop_succ_cons, List.drop_zero]
    iterate 7 (apply wpHeld_step; (intro W' hS K hK; go_simp; exact hK _ rfl))
    refine wpHeld_nil ?_
    refine wpOp_step rfl (fun K' hK => ?_)
    go_simp
    rw [← HWW.out]
    refine hK _ _ ⟨trivial, ?_⟩
    clear hK K'
    go_wp2_with fail
    refine HSM.out.mono ?_
    rintro e w2 ⟨rfl, ht⟩
    cases hit
    · have HMM : Hid (M = ((keepA d k).1, false, (keepA d k).2)) := by show _ = _; rw [HM.out]; rfl
      have e3 : d1 = d := HNO.out rfl
      subst e3
      obtain ⟨F2, h2, hc2, hf2⟩ := HU.out _ _ ht
      have HK2 := Lib.hid (HKP.out F2 w2 h2)
      have HC2 := Lib.hid hc2
      have HF2 := Lib.hid hf2
      clear ht h2 hc2 hf2 HKP HSM
      go_wp2_with fail
      refine HK2.out.mono ?_
      rintro e w3 ⟨rfl, ht⟩
      have HT := Lib.hid (Tod.seq HC2.out HF2.out ht)
      clear ht
      go_wp2
      go_ret2
      rw [HMM.out]
      exact ⟨rfl, HT.out⟩
    · have HMM : Hid (M = (addA d1 3 k, true, empA)) := by show _ = _; rw [HM.out]; rfl
      obtain ⟨F2, ⟨v2, h2, rfl⟩, hc2, hf2⟩ := HU.out _ _ ht
      have HK2 := Lib.hid (add_list b 3 in3 v2 d1 k w2 h2 (by have := HLN.out; omega))
      have HC2 := Lib.hid hc2
      have HF2 := Lib.hid hf2
      clear ht h2 hc2 hf2 HKP HSM
      go_wp2_with fail
      refine HK2.out.mono ?_
      rintro e w3 ⟨rfl, ht⟩
      have HT := Lib.hid (Tod.seq HC2.out HF2.out ht)
      clear ht
      go_wp2
      go_ret2
      rw [HMM.out]
      exact ⟨rfl, HT.out⟩
end Go.Proofs.YtphhnhldbajaoaaGreatDoor

namespace Go.Proofs.YtphhnhldbajaoaaGreatDoor
open Go.RowKit Go.ChangeShapes Go.WideShapes Go.ChangeAt

set_option maxRecDepth 100000 in
set_option maxHeartbeats 2000000 in
theorem hasq_any (b : Nat) (v : Nat → Value) (d : ArcD) (k : ByteArray) (w : World) (h : ArcAt w b v d) (hlen : d.len ≤ 10000) (hok : OkA d) :
    Calls Tryz.prog 89 #[.pointer (some ⟨b, 0, none⟩), .string k] w fun e w' => e = .returned (.bool (hasA d 2 k || hasA d 3 k)) ∧ Below w.heap.size w w' := by
  obtain ⟨W, hW⟩ : ∃ W, W = (w.alloc (.cells #[.pointer (some ⟨b, 2, none⟩), .pointer (some ⟨b, 3, none⟩)] 167 (0, 0))).drew := ⟨_, rfl⟩
  have hb : Below w.heap.size w W := by rw [hW]; exact ((Below.refl _ _).alloc (Nat.le_refl _) _).drew
  have hg : TwoP W w.heap.size b 2 3 := by rw [hW]; exact Box.new w _ _
  have HSM := Lib.hid (some_has w.heap.size b 2 3 in2 in3 v d k W (h.keep hb) hlen hg)
  have HA := Lib.hid h
  have HAW := Lib.hid (h.keep hb)
  have HB := Lib.hid hb
  have HWW := Lib.hid hW
  have HC := Lib.hid hok.1
  clear h hlen hok hW hb hg
  go_enter Tryz.func89, Tryz.ntmps89
  go_wp2_with fail
  refine wp_region_held_tail (fun W => ArcAt W b v d) 10 (by kernel_rfl) (by kernel_rfl) (HA.out.keep ((Below.refl _ _).drew)) ?_
  simp only [List.take_succ_cons, List.take_zero, List.drop_succ_cons, List.drop_zero]
  apply wpHeld_step
  · intro W' hS K hK
    go_simp
    exact hK _ rfl
  apply wpHeld_step
  · intro W' hS K hK
    go_simp
    exact ⟨_, callW (made_any b v d W' hS HC.out), hK _ rfl⟩
  iterate 8 (apply wpHeld_step; (intro W' hS K hK; go_simp; exact hK _ rfl))
  refine wpHeld_nil ?_
  refine wpOp_step rfl (fun K' hK => ?_)
  go_simp
  rw [← HWW.out]
  refine hK _ _ ⟨HAW.out, ?_⟩
  clear hK K'
  go_wp2_with fail
  refine HSM.out.mono ?_
  rintro e w2 ⟨rfl, rfl⟩
  go_wp2
  go_ret
  exact ⟨rfl, HB.out⟩

def newDA (c : Int) : ArcD := ⟨c, 0, fun _ => []⟩
set_option maxRecDepth 100000 in
theorem arc_new (c : Int) (w : World) (h1 : 1 ≤ c) (h2 : c ≤ 64) :
    Calls Tryz.prog 67 #[.int .i64 c] w fun e w' => e = .returned (.pointer (some ⟨w.heap.size, 0, none⟩)) ∧ ArcF w.heap.size (newDA c) [w.heap.size] w' ∧ Below w.heap.size w w' := by
  have e1 : decide (c < 1) = false := decide_eq_false (by omega)
  have e2 : decide (64 < c) = false := decide_eq_false (by omega)
  have HB : Hid (∀ o, Below w.heap.size w (w.alloc o)) := fun o => (Below.refl _ _).alloc (Nat.le_refl _) o
  go_enter Tryz.func67, Tryz.ntmps67
  go_wp2
  go_ret
  refine ⟨rfl, ⟨fun _ => .slice none 0 0, ⟨Box.new w _ _, fun _ _ => Ks.nil _ _, fun _ _ h => (by cases h), fun _ _ _ _ _ _ h => (by cases h)⟩, rfl⟩, HB.out _⟩
theorem arc_new_none (c : Int) (w : World) (h : c < 1 ∨ 64 < c) :
    Calls Tryz.prog 67 #[.int .i64 c] w fun e w' => e = .returned (.pointer none) ∧ w = w' := by
  rcases h with h | h
  · have e1 : decide (c < 1) = true := decide_eq_true h
    go_enter Tryz.func67, Tryz.ntmps67
    go_wp2
    go_ret
    exact ⟨rfl, rfl⟩
  · have e1 : decide (c < 1) = false := decide_eq_false (by omega)
    have e2 : decide (64 < c) = true := decide_eq_true h
    go_enter Tryz.func67, Tryz.ntmps67
    go_wp2
    go_ret
    exact ⟨rfl, rfl⟩

theorem ask_nil (k : ByteArray) (w : World) : Calls Tryz.prog 87 #[.pointer none, .string k] w fun e w' => e = .returned (.tuple #[.bool false, .string empA]) ∧ w = w' := by
  have HD := Lib.hid (made_nil w)
  go_enter Tryz.func87, Tryz.ntmps87
  go_wp2_with fail
  refine HD.out.mono ?_
  rintro e w1 ⟨rfl, rfl⟩
  go_wp2
  go_ret2
  exact ⟨rfl, rfl⟩
theorem hasq_nil (k : ByteArray) (w : World) : Calls Tryz.prog 89 #[.pointer none, .string k] w fun e w' => e = .returned (.bool false) ∧ Below w.heap.size w w' := by
  have HB : Hid (Below w.heap.size w w.drew) := (Below.refl _ _).drew
  go_enter Tryz.func89, Tryz.ntmps89
  go_wp2_with fail
  refine wp_region_held_quiet (fun _ => True) (by kernel_rfl) (by kernel_rfl) trivial ?_
  apply wpHeld_step
  · intro W' hS K hK
    go_simp
    exact hK _ rfl
  apply wpHeld_step
  · intro W' hS K hK
    go_simp
    exact ⟨_, callW (made_nil W'), hK _ rfl⟩
  iterate 12 (apply wpHeld_step; (intro W' hS K hK; go_simp; exact hK _ rfl))
  refine wpHeld_nil ?_
  go_wp2
  go_ret
  exact ⟨rfl, HB.out⟩
end Go.Proofs.YtphhnhldbajaoaaGreatDoor

namespace Go.Proofs.YtphhnhldbajaoaaGreatDoor
open Go.RowKit Go.ChangeShapes Go.WideShapes Go.ChangeAt

abbrev S4 (b : Nat) (v2 v3 v4 v5 : Value) (w : World) : Prop := w.cell? ⟨b, 2, none⟩ = some v2 ∧ w.cell? ⟨b, 3, none⟩ = some v3 ∧ w.cell? ⟨b, 4, none⟩ = some v4 ∧ w.cell? ⟨b, 5, none⟩ = some v5
end Go.Proofs.YtphhnhldbajaoaaGreatDoor
