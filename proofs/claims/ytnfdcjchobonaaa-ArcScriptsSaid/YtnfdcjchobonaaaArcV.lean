/-
  The reference's cache: again, New, Ask.
-/
import Derived.Test.YtnfdcjchobonaaaArcU
import Derived.Test.YtnfdcjchobonaaaArcF
namespace Go.Proofs.Ytnfdcjchobonaaa
open Go.RowKit Go.ChangeShapes Go.WideShapes Go.ChangeAt

theorem rnew (c : Int) (w : World) (h1 : 1 ≤ c) (h2 : c ≤ 64) :
    Calls Try.prog 11 #[.int .i64 c] w fun e w' => e = .returned (.pointer (some ⟨w.heap.size, 0, none⟩)) ∧ RefF w.heap.size (newD c) [w.heap.size] w' ∧ Below w.heap.size w w' := by
  have e1 : decide (c < 1) = false := decide_eq_false (by omega)
  have e2 : decide (64 < c) = false := decide_eq_false (by omega)
  have HB : Hid (∀ o, Below w.heap.size w (w.alloc o)) := fun o => (Below.refl _ _).alloc (Nat.le_refl _) o
  go_enter Try.func11, Try.ntmps11
  go_wp2
  go_ret
  refine ⟨rfl, ⟨fun _ => .slice none 0 0, ⟨Box.new w _ _, fun _ _ => Ks.nil _ _, fun _ _ h => (by cases h)⟩, rfl⟩, HB.out _⟩
theorem rnew_none (c : Int) (w : World) (h : c < 1 ∨ 64 < c) :
    Calls Try.prog 11 #[.int .i64 c] w fun e w' => e = .returned (.pointer none) ∧ w = w' := by
  rcases h with h | h
  · have e1 : decide (c < 1) = true := decide_eq_true h
    go_enter Try.func11, Try.ntmps11
    go_wp2
    go_ret
    exact ⟨rfl, rfl⟩
  · have e1 : decide (c < 1) = false := decide_eq_false (by omega)
    have e2 : decide (64 < c) = true := decide_eq_true h
    go_enter Try.func11, Try.ntmps11
    go_wp2
    go_ret
    exact ⟨rfl, rfl⟩
theorem tod_target_ref {b : Nat} {v : Nat → Value} {d : ArcD} {w W : World} (h : RefAt W b v d) (hb : Below w.heap.size w W) (t : Int) : Tod (RefF b { d with t := t }) (fpA b v) w (W.setCell ⟨b, 4, none⟩ (.int .i64 t)) :=
  ⟨fpA b v, ⟨v, h.target t, rfl⟩, (Chg.of hb (Nat.le_refl _)).set b 4 _ (.inl (mem_fpA.2 (.inl rfl))), fun _ h => .inl h⟩

theorem quo_facts (n m : Nat) (hm : 1 ≤ m) (hn : n ≤ 10000) (st : Int) (hst : st = max 1 ((n / m : Nat) : Int)) : ∃ q : Int, (n : Int).tdiv (m : Int) = q ∧ wrap64 q = q ∧ (if 1 < q then q else 1) = st ∧ (if q < 1 then 1 else q) = st ∧ ¬ ((m : Int) = 0) ∧ ((m : Int) == 0) = false ∧ 1 ≤ st ∧ st ≤ 10000 ∧ (n : Int) / (m : Int) = q ∧ IntKind.i64.wrap q = q := by
  obtain ⟨d1, d2⟩ := div_small n m hn
  have s := step_small n m hn
  have hm0 : ¬ ((m : Int) = 0) := by omega
  rw [Int.natCast_ediv] at hst s
  refine ⟨(n : Int) / (m : Int), Int.tdiv_eq_ediv_of_nonneg (by omega), IntWalk.wrap64_in _ (by omega), ?_, ?_, hm0, by simpa using hm0, by omega, by omega, rfl, IntWalk.i64_in _ ⟨by omega, by omega⟩⟩
  · rw [hst]; generalize (n : Int) / (m : Int) = q at *; split <;> omega
  · rw [hst]; generalize (n : Int) / (m : Int) = q at *; split <;> omega

set_option maxRecDepth 100000 in
set_option maxHeartbeats 2000000 in
theorem ragain (b : Nat) (F : List Nat) (d : ArcD) (k : ByteArray) (w : World) (h : RefF b d F w) (hlen : d.len ≤ 8000) (hv : InvA d) (hok : OkA d) (hk : k ≠ emp) (h0 : tK d k = 0) (h45 : (hasA d 4 k || hasA d 5 k) = true) :
    Calls Try.prog 29 #[.pointer (some ⟨b, 0, none⟩), .string k] w fun e w' => e = .returned (.string (keepA d k).2) ∧ Tod (RefF b (keepA d k).1) F w w' := by
  have HM : Hid (keepA d k = if hasA d 4 k = true then againA { d with t := min d.c (d.t + stepA d 4 5) } k 4 false
    else if hasA d 5 k = true then againA { d with t := max 0 (d.t - stepA d 5 4) } k 5 true
    else (addA (newA d).1 2 k, (newA d).2)) := rfl
  generalize keepA d k = M at *
  have HV := Lib.hid hv
  have HLEN := Lib.hid hlen
  have HK0 := Lib.hid h0
  have HKE := Lib.hid hk
  obtain ⟨v, h, rfl⟩ := h
  obtain ⟨ra, rc, hc⟩ := h.cells
  have HA := Lib.hid h
  have q4 := hc.c4
  have q5 := hc.c5
  have qt := hc.t
  have qz := hc.z
  have L4 := d.le_len in4
  have L5 := d.le_len in5
  have H4 : Hid (Calls Try.prog 21 #[.slice (ra 4) (d.l 4).length (rc 4), .string k] w fun e w' => e = .returned (.bool (hasA d 4 k)) ∧ w = w') := in_keys (ra 4) (rc 4) (d.l 4) k w (hc.s 4 in4) (by omega)
  obtain ⟨k1, k2, k3, k4⟩ := hok
  obtain ⟨n4, hn4⟩ : ∃ n, n = (d.l 4).length := ⟨_, rfl⟩
  obtain ⟨n5, hn5⟩ : ∃ n, n = (d.l 5).length := ⟨_, rfl⟩
  rw [← hn4] at q4 H4 L4
  rw [← hn5] at q5 L5
  cases h4 : hasA d 4 k
  · have h5' : hasA d 5 k = true := by rw [h4] at h45; simpa using h45
    have P : 1 ≤ n5 := by rw [hn5]; exact has_pos h5'
    have HMM : Hid (M = againA { d with t := max 0 (d.t - stepA d 5 4) } k 5 true) := by show _ = _; rw [HM.out, if_neg (by rw [h4]; simp), if_pos h5']
    rw [h4] at H4
    have hst : stepA d 5 4 = max 1 ((n4 / n5 : Nat) : Int) := by rw [hn4, hn5]; rfl
    obtain ⟨q, y1, y2, y3, y4, y5, y6, S1, S2, y7, y9⟩ := quo_facts n4 n5 P (by omega) _ hst
    have y8 : ¬ n5 = 0 := by omega
    obtain ⟨T, hT⟩ : ∃ T, T = max 0 (d.t - stepA d 5 4) := ⟨_, rfl⟩
    rw [← hT] at HMM
    have W1 : IntKind.i64.wrap (d.t - stepA d 5 4) = d.t - stepA d 5 4 := IntWalk.i64_in _ ⟨by omega, by omega⟩
    have hT1 : (if stepA d 5 4 < d.t then d.t - stepA d 5 4 else 0) = T := by rw [hT]; split <;> omega
    have hT2 : (if d.t - stepA d 5 4 < 0 then 0 else d.t - stepA d 5 4) = T := by rw [hT]; split <;> omega
    have HHK : Hid (hasA { d with t := T } 5 k = true) := h5'
    have HT : Hid (∀ W, Below w.heap.size w W → Tod (RefF b { d with t := T }) (fpA b v) w (W.setCell ⟨b, 4, none⟩ (.int .i64 T))) := fun W hW => tod_target_ref (HA.out.keep hW) hW T
    have HF : Hid (∀ W, Below w.heap.size w W → W.cell? ⟨b, 4, none⟩ = some (.int .i64 d.t) ∧ W.frozen? ⟨b, 4, none⟩ = false) := fun W hW => ⟨(HA.out.keep hW).box.cell 4 _ rfl, (HA.out.keep hW).box.free 4⟩
    generalize stepA d 5 4 = st at *
    clear hst HM hc h hlen hv hk h0 h45 L4 L5 hn4 hn5 P h4 hT S1 S2 k1 k2 k3 k4
    go_enter Try.func29, Try.ntmps29
    go_wp2_with fail
    refine H4.out.mono ?_
    rintro e w1 ⟨rfl, rfl⟩
    go_wp2_with fail
    refine wp_region_held_tail (fun W => W.cell? ⟨b, 4, none⟩ = some (.int .i64 d.t)) 10 (by kernel_rfl) (by kernel_rfl) qt ?_
    simp only [List.take_succ_cons, List.take_zero, List.drop_succ_cons, List.drop_zero]
    iterate 10 (apply wpHeld_step; (intro W hS K hK; have r4 := hS; go_simp; (try rw [y7]); (try rw [y9]); (try rw [y3]); (try rw [y4]); (try rw [W1]); exact hK _ rfl))
    refine wpHeld_nil ?_
    refine wpOp_step rfl (fun K' hK => ?_)
    go_simp
    (try rw [hT1])
    (try rw [hT2])
    refine hK _ _ ⟨qt, ?_⟩
    clear hK K' y1 y2 y3 y4 y5 y6 y7 y8 y9 W1 hT1 hT2 q4 q5
    obtain ⟨g3, g4⟩ := HF.out w.drew ((Below.refl _ _).drew)
    have HT := Lib.hid (HT.out w.drew ((Below.refl _ _).drew))
    clear HF qt qz
    have HVT : Hid (InvA { d with t := T }) := HV
    have HLT : Hid (({ d with t := T } : ArcD).len ≤ 8000) := HLEN
    have HK0T : Hid (tK { d with t := T } k = 0) := HK0
    generalize hd2 : ({ d with t := T } : ArcD) = d2 at *
    clear hd2
    have HRM : Hid (Calls Try.prog 31 #[.pointer (some ⟨b, 0, none⟩), .bool true] (w.drew.setCell ⟨b, 4, none⟩ (.int .i64 T)) fun e w' => e = .returned (.string (roomA d2 true).2) ∧ Tod (RefF b (roomA d2 true).1) (fpA b v) w w') := by
      obtain ⟨F1, r1, r2, r3⟩ := HT.out
      refine (rroom_any b F1 d2 true _ r1 (by have := HLT.out; omega) HVT.out).mono ?_
      rintro e w' ⟨rfl, ht⟩
      exact ⟨rfl, Tod.seq r2 r3 ht⟩
    have hrs := room_spec HVT.out true
    have hout : (roomA d2 true).2 ≠ k := fun e1 => by have := hrs.r.t k HKE.out; rw [if_pos e1] at this; have := HK0T.out; omega
    have HHR : Hid (hasA (roomA d2 true).1 5 k = true) := by
      have hb := hrs.b k (Ne.symm hout)
      have hh := HHK.out
      unfold hasA at hh
      rw [cK_has] at hh
      show hasA (roomA d2 true).1 5 k = true
      unfold hasA
      rw [cK_has]
      rw [hb.2]
      exact hh
    have HVR : Hid (InvA (roomA d2 true).1) := hrs.r.inv HVT.out
    have HLR : Hid ((roomA d2 true).1.len ≤ 8000) := Nat.le_trans (room_len d2 true) HLT.out
    have HMM2 : Hid (M = (addA (takeA (roomA d2 true).1 5 k) 3 k, (roomA d2 true).2)) := HMM
    generalize roomA d2 true = r at *
    obtain ⟨d3, out⟩ := r
    dsimp only at HRM HHR HVR HLR HMM2
    clear hrs hout HT HMM HVT HLT HK0T HHK
    go_wp2_with fail
    refine HRM.out.mono ?_
    rintro e w2 ⟨rfl, ht⟩
    have HT := Lib.hid ht
    have HDP : Hid (Calls Try.prog 15 #[.pointer (some ⟨b, 0, none⟩), .string k] w2 fun e w' => e = .returned (.bool (hasA d3 2 k || hasA d3 3 k)) ∧ Tod (RefF b (takeA d3 5 k)) (fpA b v) w w') := by
      obtain ⟨F1, r1, r2, r3⟩ := HT.out
      refine (rdrop_any b F1 d3 k _ r1 (by have := HLR.out; omega) HVR.out).mono ?_
      rintro e w' ⟨rfl, ht⟩
      rw [rdrop_take HVR.out in5 HHR.out] at ht
      exact ⟨rfl, Tod.seq r2 r3 ht⟩
    clear ht HT HRM
    generalize (hasA d3 2 k || hasA d3 3 k) = hb3 at *
    go_wp2_with fail
    refine HDP.out.mono ?_
    rintro e w3 ⟨rfl, ht⟩
    have HT := Lib.hid ht
    have hl3 : ((takeA d3 5 k).l 3).length ≤ 8000 := by have := (takeA d3 5 k).le_len in3; have := take_len d3 in5 k; have := HLR.out; omega
    have HL3 := Lib.hid hl3
    clear ht HDP hl3
    generalize hd4 : takeA d3 5 k = d4 at *
    clear hd4
    obtain ⟨v0, hA⟩ := ref_at HT.out
    obtain ⟨a, c, hc⟩ := hA.cells
    have q0 := hc.c3
    have HW := Lib.hid (rwith (.slice (a 3) (d4.l 3).length (c 3)) (d4.l 3) k _ (ks_of hA in3 hc.c3) (by have := HL3.out; omega))
    clear hc hA
    go_wp2_with fail
    refine HW.out.mono ?_
    rintro e w1 ⟨xv, rfl, hk, hb⟩
    obtain ⟨xa, xc, rfl, _⟩ := hk.view
    have e9 : ((d4.l 3) ++ [k]).length = (d4.l 3).length + 1 := by simp
    rw [e9] at hk
    obtain ⟨u1, g1, g2⟩ := ref_store HT.out hb (j := 1) (by decide)
    have HT := Lib.hid (ref_put HT.out in3 (j := 1) rfl hb hk)
    clear hk hb HW q0
    go_wp2
    go_ret
    rw [HMM2.out]
    exact ⟨rfl, HT.out⟩
  · have h4' := h4
    have P : 1 ≤ n4 := by rw [hn4]; exact has_pos h4'
    have HMM : Hid (M = againA { d with t := min d.c (d.t + stepA d 4 5) } k 4 false) := by show _ = _; rw [HM.out, if_pos h4]
    rw [h4] at H4
    have hst : stepA d 4 5 = max 1 ((n5 / n4 : Nat) : Int) := by rw [hn4, hn5]; rfl
    obtain ⟨q, y1, y2, y3, y4, y5, y6, S1, S2, y7, y9⟩ := quo_facts n5 n4 P (by omega) _ hst
    have y8 : ¬ n4 = 0 := by omega
    obtain ⟨T, hT⟩ : ∃ T, T = min d.c (d.t + stepA d 4 5) := ⟨_, rfl⟩
    rw [← hT] at HMM
    have W1 : IntKind.i64.wrap (d.t + stepA d 4 5) = d.t + stepA d 4 5 := IntWalk.i64_in _ ⟨by omega, by omega⟩
    have hT1 : (if d.t + stepA d 4 5 < d.c then d.t + stepA d 4 5 else d.c) = T := by rw [hT]; split <;> omega
    have hT2 : (if d.c < d.t + stepA d 4 5 then d.c else d.t + stepA d 4 5) = T := by rw [hT]; split <;> omega
    have HHK : Hid (hasA { d with t := T } 4 k = true) := h4'
    have HT : Hid (∀ W, Below w.heap.size w W → Tod (RefF b { d with t := T }) (fpA b v) w (W.setCell ⟨b, 4, none⟩ (.int .i64 T))) := fun W hW => tod_target_ref (HA.out.keep hW) hW T
    have HF : Hid (∀ W, Below w.heap.size w W → W.cell? ⟨b, 4, none⟩ = some (.int .i64 d.t) ∧ W.frozen? ⟨b, 4, none⟩ = false) := fun W hW => ⟨(HA.out.keep hW).box.cell 4 _ rfl, (HA.out.keep hW).box.free 4⟩
    generalize stepA d 4 5 = st at *
    clear hst HM hc h hlen hv hk h0 h45 L4 L5 hn4 hn5 P h4 hT S1 S2 k1 k2 k3 k4
    go_enter Try.func29, Try.ntmps29
    go_wp2_with fail
    refine H4.out.mono ?_
    rintro e w1 ⟨rfl, rfl⟩
    go_wp2_with fail
    refine wp_region_held_tail (fun W => W.cell? ⟨b, 4, none⟩ = some (.int .i64 d.t) ∧ W.cell? ⟨b, 5, none⟩ = some (.int .i64 d.c)) 14 (by kernel_rfl) (by kernel_rfl) ⟨qt, qz⟩ ?_
    simp only [List.take_succ_cons, List.take_zero, List.drop_succ_cons, List.drop_zero]
    iterate 14 (apply wpHeld_step; (intro W hS K hK; obtain ⟨r4, r5⟩ := hS; go_simp; (try rw [y7]); (try rw [y9]); (try rw [y3]); (try rw [y4]); (try rw [W1]); exact hK _ rfl))
    refine wpHeld_nil ?_
    refine wpOp_step rfl (fun K' hK => ?_)
    go_simp
    (try rw [hT1])
    (try rw [hT2])
    refine hK _ _ ⟨⟨qt, qz⟩, ?_⟩
    clear hK K' y1 y2 y3 y4 y5 y6 y7 y8 y9 W1 hT1 hT2 q4 q5
    obtain ⟨g3, g4⟩ := HF.out w.drew ((Below.refl _ _).drew)
    have HT := Lib.hid (HT.out w.drew ((Below.refl _ _).drew))
    clear HF qt qz
    have HVT : Hid (InvA { d with t := T }) := HV
    have HLT : Hid (({ d with t := T } : ArcD).len ≤ 8000) := HLEN
    have HK0T : Hid (tK { d with t := T } k = 0) := HK0
    generalize hd2 : ({ d with t := T } : ArcD) = d2 at *
    clear hd2
    have HRM : Hid (Calls Try.prog 31 #[.pointer (some ⟨b, 0, none⟩), .bool false] (w.drew.setCell ⟨b, 4, none⟩ (.int .i64 T)) fun e w' => e = .returned (.string (roomA d2 false).2) ∧ Tod (RefF b (roomA d2 false).1) (fpA b v) w w') := by
      obtain ⟨F1, r1, r2, r3⟩ := HT.out
      refine (rroom_any b F1 d2 false _ r1 (by have := HLT.out; omega) HVT.out).mono ?_
      rintro e w' ⟨rfl, ht⟩
      exact ⟨rfl, Tod.seq r2 r3 ht⟩
    have hrs := room_spec HVT.out false
    have hout : (roomA d2 false).2 ≠ k := fun e1 => by have := hrs.r.t k HKE.out; rw [if_pos e1] at this; have := HK0T.out; omega
    have HHR : Hid (hasA (roomA d2 false).1 4 k = true) := by
      have hb := hrs.b k (Ne.symm hout)
      have hh := HHK.out
      unfold hasA at hh
      rw [cK_has] at hh
      show hasA (roomA d2 false).1 4 k = true
      unfold hasA
      rw [cK_has]
      rw [hb.1]
      exact hh
    have HVR : Hid (InvA (roomA d2 false).1) := hrs.r.inv HVT.out
    have HLR : Hid ((roomA d2 false).1.len ≤ 8000) := Nat.le_trans (room_len d2 false) HLT.out
    have HMM2 : Hid (M = (addA (takeA (roomA d2 false).1 4 k) 3 k, (roomA d2 false).2)) := HMM
    generalize roomA d2 false = r at *
    obtain ⟨d3, out⟩ := r
    dsimp only at HRM HHR HVR HLR HMM2
    clear hrs hout HT HMM HVT HLT HK0T HHK
    go_wp2_with fail
    refine HRM.out.mono ?_
    rintro e w2 ⟨rfl, ht⟩
    have HT := Lib.hid ht
    have HDP : Hid (Calls Try.prog 15 #[.pointer (some ⟨b, 0, none⟩), .string k] w2 fun e w' => e = .returned (.bool (hasA d3 2 k || hasA d3 3 k)) ∧ Tod (RefF b (takeA d3 4 k)) (fpA b v) w w') := by
      obtain ⟨F1, r1, r2, r3⟩ := HT.out
      refine (rdrop_any b F1 d3 k _ r1 (by have := HLR.out; omega) HVR.out).mono ?_
      rintro e w' ⟨rfl, ht⟩
      rw [rdrop_take HVR.out in4 HHR.out] at ht
      exact ⟨rfl, Tod.seq r2 r3 ht⟩
    clear ht HT HRM
    generalize (hasA d3 2 k || hasA d3 3 k) = hb3 at *
    go_wp2_with fail
    refine HDP.out.mono ?_
    rintro e w3 ⟨rfl, ht⟩
    have HT := Lib.hid ht
    have hl3 : ((takeA d3 4 k).l 3).length ≤ 8000 := by have := (takeA d3 4 k).le_len in3; have := take_len d3 in4 k; have := HLR.out; omega
    have HL3 := Lib.hid hl3
    clear ht HDP hl3
    generalize hd4 : takeA d3 4 k = d4 at *
    clear hd4
    obtain ⟨v0, hA⟩ := ref_at HT.out
    obtain ⟨a, c, hc⟩ := hA.cells
    have q0 := hc.c3
    have HW := Lib.hid (rwith (.slice (a 3) (d4.l 3).length (c 3)) (d4.l 3) k _ (ks_of hA in3 hc.c3) (by have := HL3.out; omega))
    clear hc hA
    go_wp2_with fail
    refine HW.out.mono ?_
    rintro e w1 ⟨xv, rfl, hk, hb⟩
    obtain ⟨xa, xc, rfl, _⟩ := hk.view
    have e9 : ((d4.l 3) ++ [k]).length = (d4.l 3).length + 1 := by simp
    rw [e9] at hk
    obtain ⟨u1, g1, g2⟩ := ref_store HT.out hb (j := 1) (by decide)
    have HT := Lib.hid (ref_put HT.out in3 (j := 1) rfl hb hk)
    clear hk hb HW q0
    go_wp2
    go_ret
    rw [HMM2.out]
    exact ⟨rfl, HT.out⟩
end Go.Proofs.Ytnfdcjchobonaaa
