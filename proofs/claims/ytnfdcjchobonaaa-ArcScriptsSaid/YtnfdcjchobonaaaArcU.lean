/-
  The reference's cache: room.
-/
import Derived.Test.YtnfdcjchobonaaaArcT
namespace Go.Proofs.Ytnfdcjchobonaaa
open Go.RowKit Go.ChangeShapes Go.WideShapes Go.ChangeAt

set_option maxRecDepth 100000 in
set_option maxHeartbeats 4000000 in
theorem rroom_any (b : Nat) (F : List Nat) (d : ArcD) (even : Bool) (w : World) (h : RefF b d F w) (hlen : d.len ≤ 9000) (hv : InvA d) :
    Calls Try.prog 31 #[.pointer (some ⟨b, 0, none⟩), .bool even] w fun e w' => e = .returned (.string (roomA d even).2) ∧ Tod (RefF b (roomA d even).1) F w w' := by
  obtain ⟨M, hM⟩ : ∃ M, M = roomA d even := ⟨_, rfl⟩
  rw [← hM]
  have HM : Hid (M = if room1 d even = true then moveA d 2 4 else moveA d 3 5) := hM
  have HR : Hid (room1 d even = (decide (0 < (d.l 2).length) && (decide (d.t < ((d.l 2).length : Int)) || (even && decide (((d.l 2).length : Int) = d.t)) || decide ((d.l 3).length = 0)))) := rfl
  have L2 := d.le_len in2
  have L3 := d.le_len in3
  have L4 := d.le_len in4
  have L5 := d.le_len in5
  have HT := Lib.hid (ref_keep (ref_same h) ((Below.refl _ _).drew))
  have HV := Lib.hid hv
  obtain ⟨v, h, rfl⟩ := h
  obtain ⟨ra, rc, hc⟩ := h.cells
  have q1 := hc.t
  have q2 := hc.c2
  have q3 := hc.c3
  clear hM h hc hv
  generalize hn2 : (d.l 2).length = n2 at *
  generalize hn3 : (d.l 3).length = n3 at *
  generalize ht : d.t = t at *
  have N2 := Lib.hid hn2
  have N3 := Lib.hid hn3
  clear hn2 hn3 ht
  rcases Nat.eq_zero_or_pos n2 with h2 | h2
  · have HMf : Hid (M = moveA d 3 5) := by show _ = _; rw [HM.out, if_neg]; rw [HR.out, h2]; simp
    subst h2
    go_enter Try.func31, Try.ntmps31
    go_wp2_with fail
    refine wp_region_held_quiet (fun W => W.cell? ⟨b, 0, none⟩ = some (.slice (ra 2) 0 (rc 2)) ∧ W.cell? ⟨b, 1, none⟩ = some (.slice (ra 3) n3 (rc 3)) ∧ W.cell? ⟨b, 4, none⟩ = some (.int .i64 t)) (by kernel_rfl) (by kernel_rfl) ⟨q2, q3, q1⟩ ?_
    iterate 41 (apply wpHeld_step; (intro W hS K hK; obtain ⟨r2, r3, r1⟩ := hS; go_simp; exact hK _ rfl))
    refine wpHeld_nil ?_
    clear q1 q2 q3
    rcases Nat.eq_zero_or_pos n3 with h3 | h3
    · have HME : Hid (M = (d, emp)) := by
        show _ = _
        rw [HMf.out]
        have e3 : d.l 3 = [] := List.eq_nil_of_length_eq_zero (N3.out.trans h3)
        unfold moveA oldA
        rw [e3]
        rfl
      obtain ⟨v0, hA⟩ := ref_at HT.out
      obtain ⟨a, c, hc⟩ := hA.cells
      have q2 := hc.c3
      rw [N3.out] at q2
      subst h3
      clear hc hA
      go_wp2
      go_ret
      rw [HME.out]
      exact ⟨rfl, HT.out⟩
    · have h3i : (0 : Int) < (n3 : Int) := by omega
      obtain ⟨v0, hA⟩ := ref_at HT.out
      obtain ⟨a, c, hc⟩ := hA.cells
      have q2 := hc.c3
      cases hd : d.l 3 with
      | nil => have := N3.out; rw [hd] at this; simp at this; omega
      | cons x r =>
        have HD := Lib.hid hd
        have HMV := Lib.hid (HMf.out.trans (move_cons HV.out in3 (j := 5) hd))
        obtain ⟨g, off, eg, _, hcell⟩ := hc.s 3 in3 (by rw [hd]; simp)
        have q3 := hcell 0 x (by rw [hd]; rfl)
        rw [Nat.add_zero] at q3
        rw [eg] at q2
        have hlp : (0 : Int) < ((d.l 3).length : Int) := by rw [hd]; simp only [List.length_cons]; omega
        have hln : 0 < (d.l 3).length := by rw [hd]; simp only [List.length_cons]; omega
        have hone : cK (d.l 3) x ≤ 1 := by have := HV.out.one x; unfold cnt at this; omega
        have hbnd : (d.l 3).length ≤ 10000 := by have := N3.out; omega
        have HW := Lib.hid (rwithout (a 3) (c 3) (d.l 3) x _ (hc.s 3 in3) hbnd hone)
        rw [eg] at HW
        clear hc hA hcell hd eg
        go_wp2_with fail
        clear q2 q3 hlp hln
        refine HW.out.mono ?_
        rintro e w1 ⟨xv, rfl, hk, hb⟩
        obtain ⟨xa, xc, rfl, _⟩ := hk.view
        obtain ⟨u1, g1, g2⟩ := ref_store HT.out hb (j := 1) (by decide)
        have HT := Lib.hid (ref_put HT.out in3 (j := 1) rfl hb hk)
        clear hk hb HW
        obtain ⟨v0, hA⟩ := ref_at HT.out
        obtain ⟨a, c, hc⟩ := hA.cells
        have q0 := hc.c5
        have HW := Lib.hid (rwith (.slice (a 5) ((d.put 3 (dropK (d.l 3) x)).l 5).length (c 5)) ((d.put 3 (dropK (d.l 3) x)).l 5) x _ (ks_of hA in5 hc.c5) (show (d.l 5).length ≤ 10000 by omega))
        clear hc hA
        go_wp2_with fail
        refine HW.out.mono ?_
        rintro e w1 ⟨xv, rfl, hk, hb⟩
        obtain ⟨xa, xc, rfl, _⟩ := hk.view
        have e9 : (((d.put 3 (dropK (d.l 3) x)).l 5) ++ [x]).length = ((d.put 3 (dropK (d.l 3) x)).l 5).length + 1 := by simp
        rw [e9] at hk
        obtain ⟨u1, g1, g2⟩ := ref_store HT.out hb (j := 3) (by decide)
        have HT := Lib.hid (ref_put HT.out in5 (j := 3) rfl hb hk)
        clear hk hb HW q0
        go_wp2
        go_ret
        rw [HMV.out]
        exact ⟨rfl, HT.out⟩
  · have hp2 : (0 : Int) < (n2 : Int) := by omega
    have D0 : decide (0 < n2) = true := decide_eq_true h2
    cases D1 : decide (t < (n2 : Int))
    · cases even
      · rcases Nat.eq_zero_or_pos n3 with h3 | h3
        · have HMt : Hid (M = moveA d 2 4) := by show _ = _; rw [HM.out, if_pos]; rw [HR.out]; subst h3; simp [D0, D1]
          have e3 : ((n3 : Int) == 0) = true := by rw [h3]; rfl
          clear h3
          go_enter Try.func31, Try.ntmps31
          go_wp2_with fail
          refine wp_region_held_quiet (fun W => W.cell? ⟨b, 0, none⟩ = some (.slice (ra 2) n2 (rc 2)) ∧ W.cell? ⟨b, 1, none⟩ = some (.slice (ra 3) n3 (rc 3)) ∧ W.cell? ⟨b, 4, none⟩ = some (.int .i64 t)) (by kernel_rfl) (by kernel_rfl) ⟨q2, q3, q1⟩ ?_
          iterate 41 (apply wpHeld_step; (intro W hS K hK; obtain ⟨r2, r3, r1⟩ := hS; go_simp; exact hK _ rfl))
          refine wpHeld_nil ?_
          clear q1 q2 q3
          obtain ⟨v0, hA⟩ := ref_at HT.out
          obtain ⟨a, c, hc⟩ := hA.cells
          have q2 := hc.c2
          cases hd : d.l 2 with
          | nil => have := N2.out; rw [hd] at this; simp at this; omega
          | cons x r =>
            have HD := Lib.hid hd
            have HMV := Lib.hid (HMt.out.trans (move_cons HV.out in2 (j := 4) hd))
            obtain ⟨g, off, eg, _, hcell⟩ := hc.s 2 in2 (by rw [hd]; simp)
            have q3 := hcell 0 x (by rw [hd]; rfl)
            rw [Nat.add_zero] at q3
            rw [eg] at q2
            have hlp : (0 : Int) < ((d.l 2).length : Int) := by rw [hd]; simp only [List.length_cons]; omega
            have hln : 0 < (d.l 2).length := by rw [hd]; simp only [List.length_cons]; omega
            have hone : cK (d.l 2) x ≤ 1 := by have := HV.out.one x; unfold cnt at this; omega
            have hbnd : (d.l 2).length ≤ 10000 := by have := N2.out; omega
            have HW := Lib.hid (rwithout (a 2) (c 2) (d.l 2) x _ (hc.s 2 in2) hbnd hone)
            rw [eg] at HW
            clear hc hA hcell hd eg
            go_wp2_with fail
            clear q2 q3 hlp hln
            refine HW.out.mono ?_
            rintro e w1 ⟨xv, rfl, hk, hb⟩
            obtain ⟨xa, xc, rfl, _⟩ := hk.view
            obtain ⟨u1, g1, g2⟩ := ref_store HT.out hb (j := 0) (by decide)
            have HT := Lib.hid (ref_put HT.out in2 (j := 0) rfl hb hk)
            clear hk hb HW
            obtain ⟨v0, hA⟩ := ref_at HT.out
            obtain ⟨a, c, hc⟩ := hA.cells
            have q0 := hc.c4
            have HW := Lib.hid (rwith (.slice (a 4) ((d.put 2 (dropK (d.l 2) x)).l 4).length (c 4)) ((d.put 2 (dropK (d.l 2) x)).l 4) x _ (ks_of hA in4 hc.c4) (show (d.l 4).length ≤ 10000 by omega))
            clear hc hA
            go_wp2_with fail
            refine HW.out.mono ?_
            rintro e w1 ⟨xv, rfl, hk, hb⟩
            obtain ⟨xa, xc, rfl, _⟩ := hk.view
            have e9 : (((d.put 2 (dropK (d.l 2) x)).l 4) ++ [x]).length = ((d.put 2 (dropK (d.l 2) x)).l 4).length + 1 := by simp
            rw [e9] at hk
            obtain ⟨u1, g1, g2⟩ := ref_store HT.out hb (j := 2) (by decide)
            have HT := Lib.hid (ref_put HT.out in4 (j := 2) rfl hb hk)
            clear hk hb HW q0
            go_wp2
            go_ret
            rw [HMV.out]
            exact ⟨rfl, HT.out⟩
        · have HMf : Hid (M = moveA d 3 5) := by show _ = _; rw [HM.out, if_neg]; rw [HR.out]; have h4 : ¬ n3 = 0 := (by omega); simp [D0, D1, h4]
          have e3 : ((n3 : Int) == 0) = false := by rw [beq_eq_false_iff_ne]; omega
          go_enter Try.func31, Try.ntmps31
          go_wp2_with fail
          refine wp_region_held_quiet (fun W => W.cell? ⟨b, 0, none⟩ = some (.slice (ra 2) n2 (rc 2)) ∧ W.cell? ⟨b, 1, none⟩ = some (.slice (ra 3) n3 (rc 3)) ∧ W.cell? ⟨b, 4, none⟩ = some (.int .i64 t)) (by kernel_rfl) (by kernel_rfl) ⟨q2, q3, q1⟩ ?_
          iterate 41 (apply wpHeld_step; (intro W hS K hK; obtain ⟨r2, r3, r1⟩ := hS; go_simp; exact hK _ rfl))
          refine wpHeld_nil ?_
          clear q1 q2 q3
          have h3i : (0 : Int) < (n3 : Int) := by omega
          obtain ⟨v0, hA⟩ := ref_at HT.out
          obtain ⟨a, c, hc⟩ := hA.cells
          have q2 := hc.c3
          cases hd : d.l 3 with
          | nil => have := N3.out; rw [hd] at this; simp at this; omega
          | cons x r =>
            have HD := Lib.hid hd
            have HMV := Lib.hid (HMf.out.trans (move_cons HV.out in3 (j := 5) hd))
            obtain ⟨g, off, eg, _, hcell⟩ := hc.s 3 in3 (by rw [hd]; simp)
            have q3 := hcell 0 x (by rw [hd]; rfl)
            rw [Nat.add_zero] at q3
            rw [eg] at q2
            have hlp : (0 : Int) < ((d.l 3).length : Int) := by rw [hd]; simp only [List.length_cons]; omega
            have hln : 0 < (d.l 3).length := by rw [hd]; simp only [List.length_cons]; omega
            have hone : cK (d.l 3) x ≤ 1 := by have := HV.out.one x; unfold cnt at this; omega
            have hbnd : (d.l 3).length ≤ 10000 := by have := N3.out; omega
            have HW := Lib.hid (rwithout (a 3) (c 3) (d.l 3) x _ (hc.s 3 in3) hbnd hone)
            rw [eg] at HW
            clear hc hA hcell hd eg
            go_wp2_with fail
            clear q2 q3 hlp hln
            refine HW.out.mono ?_
            rintro e w1 ⟨xv, rfl, hk, hb⟩
            obtain ⟨xa, xc, rfl, _⟩ := hk.view
            obtain ⟨u1, g1, g2⟩ := ref_store HT.out hb (j := 1) (by decide)
            have HT := Lib.hid (ref_put HT.out in3 (j := 1) rfl hb hk)
            clear hk hb HW
            obtain ⟨v0, hA⟩ := ref_at HT.out
            obtain ⟨a, c, hc⟩ := hA.cells
            have q0 := hc.c5
            have HW := Lib.hid (rwith (.slice (a 5) ((d.put 3 (dropK (d.l 3) x)).l 5).length (c 5)) ((d.put 3 (dropK (d.l 3) x)).l 5) x _ (ks_of hA in5 hc.c5) (show (d.l 5).length ≤ 10000 by omega))
            clear hc hA
            go_wp2_with fail
            refine HW.out.mono ?_
            rintro e w1 ⟨xv, rfl, hk, hb⟩
            obtain ⟨xa, xc, rfl, _⟩ := hk.view
            have e9 : (((d.put 3 (dropK (d.l 3) x)).l 5) ++ [x]).length = ((d.put 3 (dropK (d.l 3) x)).l 5).length + 1 := by simp
            rw [e9] at hk
            obtain ⟨u1, g1, g2⟩ := ref_store HT.out hb (j := 3) (by decide)
            have HT := Lib.hid (ref_put HT.out in5 (j := 3) rfl hb hk)
            clear hk hb HW q0
            go_wp2
            go_ret
            rw [HMV.out]
            exact ⟨rfl, HT.out⟩
      · cases D2 : decide ((n2 : Int) = t)
        · have e4 : ((n2 : Int) == t) = false := by rw [beq_eq_false_iff_ne]; simpa using D2
          rcases Nat.eq_zero_or_pos n3 with h3 | h3
          · have HMt : Hid (M = moveA d 2 4) := by show _ = _; rw [HM.out, if_pos]; rw [HR.out]; subst h3; simp [D0, D1, D2]
            have e3 : ((n3 : Int) == 0) = true := by rw [h3]; rfl
            clear h3
            go_enter Try.func31, Try.ntmps31
            go_wp2_with fail
            refine wp_region_held_quiet (fun W => W.cell? ⟨b, 0, none⟩ = some (.slice (ra 2) n2 (rc 2)) ∧ W.cell? ⟨b, 1, none⟩ = some (.slice (ra 3) n3 (rc 3)) ∧ W.cell? ⟨b, 4, none⟩ = some (.int .i64 t)) (by kernel_rfl) (by kernel_rfl) ⟨q2, q3, q1⟩ ?_
            iterate 41 (apply wpHeld_step; (intro W hS K hK; obtain ⟨r2, r3, r1⟩ := hS; go_simp; exact hK _ rfl))
            refine wpHeld_nil ?_
            clear q1 q2 q3
            obtain ⟨v0, hA⟩ := ref_at HT.out
            obtain ⟨a, c, hc⟩ := hA.cells
            have q2 := hc.c2
            cases hd : d.l 2 with
            | nil => have := N2.out; rw [hd] at this; simp at this; omega
            | cons x r =>
              have HD := Lib.hid hd
              have HMV := Lib.hid (HMt.out.trans (move_cons HV.out in2 (j := 4) hd))
              obtain ⟨g, off, eg, _, hcell⟩ := hc.s 2 in2 (by rw [hd]; simp)
              have q3 := hcell 0 x (by rw [hd]; rfl)
              rw [Nat.add_zero] at q3
              rw [eg] at q2
              have hlp : (0 : Int) < ((d.l 2).length : Int) := by rw [hd]; simp only [List.length_cons]; omega
              have hln : 0 < (d.l 2).length := by rw [hd]; simp only [List.length_cons]; omega
              have hone : cK (d.l 2) x ≤ 1 := by have := HV.out.one x; unfold cnt at this; omega
              have hbnd : (d.l 2).length ≤ 10000 := by have := N2.out; omega
              have HW := Lib.hid (rwithout (a 2) (c 2) (d.l 2) x _ (hc.s 2 in2) hbnd hone)
              rw [eg] at HW
              clear hc hA hcell hd eg
              go_wp2_with fail
              clear q2 q3 hlp hln
              refine HW.out.mono ?_
              rintro e w1 ⟨xv, rfl, hk, hb⟩
              obtain ⟨xa, xc, rfl, _⟩ := hk.view
              obtain ⟨u1, g1, g2⟩ := ref_store HT.out hb (j := 0) (by decide)
              have HT := Lib.hid (ref_put HT.out in2 (j := 0) rfl hb hk)
              clear hk hb HW
              obtain ⟨v0, hA⟩ := ref_at HT.out
              obtain ⟨a, c, hc⟩ := hA.cells
              have q0 := hc.c4
              have HW := Lib.hid (rwith (.slice (a 4) ((d.put 2 (dropK (d.l 2) x)).l 4).length (c 4)) ((d.put 2 (dropK (d.l 2) x)).l 4) x _ (ks_of hA in4 hc.c4) (show (d.l 4).length ≤ 10000 by omega))
              clear hc hA
              go_wp2_with fail
              refine HW.out.mono ?_
              rintro e w1 ⟨xv, rfl, hk, hb⟩
              obtain ⟨xa, xc, rfl, _⟩ := hk.view
              have e9 : (((d.put 2 (dropK (d.l 2) x)).l 4) ++ [x]).length = ((d.put 2 (dropK (d.l 2) x)).l 4).length + 1 := by simp
              rw [e9] at hk
              obtain ⟨u1, g1, g2⟩ := ref_store HT.out hb (j := 2) (by decide)
              have HT := Lib.hid (ref_put HT.out in4 (j := 2) rfl hb hk)
              clear hk hb HW q0
              go_wp2
              go_ret
              rw [HMV.out]
              exact ⟨rfl, HT.out⟩
          · have HMf : Hid (M = moveA d 3 5) := by show _ = _; rw [HM.out, if_neg]; rw [HR.out]; have h4 : ¬ n3 = 0 := (by omega); simp [D0, D1, h4, D2]
            have e3 : ((n3 : Int) == 0) = false := by rw [beq_eq_false_iff_ne]; omega
            go_enter Try.func31, Try.ntmps31
            go_wp2_with fail
            refine wp_region_held_quiet (fun W => W.cell? ⟨b, 0, none⟩ = some (.slice (ra 2) n2 (rc 2)) ∧ W.cell? ⟨b, 1, none⟩ = some (.slice (ra 3) n3 (rc 3)) ∧ W.cell? ⟨b, 4, none⟩ = some (.int .i64 t)) (by kernel_rfl) (by kernel_rfl) ⟨q2, q3, q1⟩ ?_
            iterate 41 (apply wpHeld_step; (intro W hS K hK; obtain ⟨r2, r3, r1⟩ := hS; go_simp; exact hK _ rfl))
            refine wpHeld_nil ?_
            clear q1 q2 q3
            have h3i : (0 : Int) < (n3 : Int) := by omega
            obtain ⟨v0, hA⟩ := ref_at HT.out
            obtain ⟨a, c, hc⟩ := hA.cells
            have q2 := hc.c3
            cases hd : d.l 3 with
            | nil => have := N3.out; rw [hd] at this; simp at this; omega
            | cons x r =>
              have HD := Lib.hid hd
              have HMV := Lib.hid (HMf.out.trans (move_cons HV.out in3 (j := 5) hd))
              obtain ⟨g, off, eg, _, hcell⟩ := hc.s 3 in3 (by rw [hd]; simp)
              have q3 := hcell 0 x (by rw [hd]; rfl)
              rw [Nat.add_zero] at q3
              rw [eg] at q2
              have hlp : (0 : Int) < ((d.l 3).length : Int) := by rw [hd]; simp only [List.length_cons]; omega
              have hln : 0 < (d.l 3).length := by rw [hd]; simp only [List.length_cons]; omega
              have hone : cK (d.l 3) x ≤ 1 := by have := HV.out.one x; unfold cnt at this; omega
              have hbnd : (d.l 3).length ≤ 10000 := by have := N3.out; omega
              have HW := Lib.hid (rwithout (a 3) (c 3) (d.l 3) x _ (hc.s 3 in3) hbnd hone)
              rw [eg] at HW
              clear hc hA hcell hd eg
              go_wp2_with fail
              clear q2 q3 hlp hln
              refine HW.out.mono ?_
              rintro e w1 ⟨xv, rfl, hk, hb⟩
              obtain ⟨xa, xc, rfl, _⟩ := hk.view
              obtain ⟨u1, g1, g2⟩ := ref_store HT.out hb (j := 1) (by decide)
              have HT := Lib.hid (ref_put HT.out in3 (j := 1) rfl hb hk)
              clear hk hb HW
              obtain ⟨v0, hA⟩ := ref_at HT.out
              obtain ⟨a, c, hc⟩ := hA.cells
              have q0 := hc.c5
              have HW := Lib.hid (rwith (.slice (a 5) ((d.put 3 (dropK (d.l 3) x)).l 5).length (c 5)) ((d.put 3 (dropK (d.l 3) x)).l 5) x _ (ks_of hA in5 hc.c5) (show (d.l 5).length ≤ 10000 by omega))
              clear hc hA
              go_wp2_with fail
              refine HW.out.mono ?_
              rintro e w1 ⟨xv, rfl, hk, hb⟩
              obtain ⟨xa, xc, rfl, _⟩ := hk.view
              have e9 : (((d.put 3 (dropK (d.l 3) x)).l 5) ++ [x]).length = ((d.put 3 (dropK (d.l 3) x)).l 5).length + 1 := by simp
              rw [e9] at hk
              obtain ⟨u1, g1, g2⟩ := ref_store HT.out hb (j := 3) (by decide)
              have HT := Lib.hid (ref_put HT.out in5 (j := 3) rfl hb hk)
              clear hk hb HW q0
              go_wp2
              go_ret
              rw [HMV.out]
              exact ⟨rfl, HT.out⟩
        · have HMt : Hid (M = moveA d 2 4) := by show _ = _; rw [HM.out, if_pos]; rw [HR.out]; simp [D0, D1, D2]
          have e4 : ((n2 : Int) == t) = true := by simpa using D2
          clear D0 D2
          go_enter Try.func31, Try.ntmps31
          go_wp2_with fail
          refine wp_region_held_quiet (fun W => W.cell? ⟨b, 0, none⟩ = some (.slice (ra 2) n2 (rc 2)) ∧ W.cell? ⟨b, 1, none⟩ = some (.slice (ra 3) n3 (rc 3)) ∧ W.cell? ⟨b, 4, none⟩ = some (.int .i64 t)) (by kernel_rfl) (by kernel_rfl) ⟨q2, q3, q1⟩ ?_
          iterate 41 (apply wpHeld_step; (intro W hS K hK; obtain ⟨r2, r3, r1⟩ := hS; go_simp; exact hK _ rfl))
          refine wpHeld_nil ?_
          clear q1 q2 q3
          obtain ⟨v0, hA⟩ := ref_at HT.out
          obtain ⟨a, c, hc⟩ := hA.cells
          have q2 := hc.c2
          cases hd : d.l 2 with
          | nil => have := N2.out; rw [hd] at this; simp at this; omega
          | cons x r =>
            have HD := Lib.hid hd
            have HMV := Lib.hid (HMt.out.trans (move_cons HV.out in2 (j := 4) hd))
            obtain ⟨g, off, eg, _, hcell⟩ := hc.s 2 in2 (by rw [hd]; simp)
            have q3 := hcell 0 x (by rw [hd]; rfl)
            rw [Nat.add_zero] at q3
            rw [eg] at q2
            have hlp : (0 : Int) < ((d.l 2).length : Int) := by rw [hd]; simp only [List.length_cons]; omega
            have hln : 0 < (d.l 2).length := by rw [hd]; simp only [List.length_cons]; omega
            have hone : cK (d.l 2) x ≤ 1 := by have := HV.out.one x; unfold cnt at this; omega
            have hbnd : (d.l 2).length ≤ 10000 := by have := N2.out; omega
            have HW := Lib.hid (rwithout (a 2) (c 2) (d.l 2) x _ (hc.s 2 in2) hbnd hone)
            rw [eg] at HW
            clear hc hA hcell hd eg
            go_wp2_with fail
            clear q2 q3 hlp hln
            refine HW.out.mono ?_
            rintro e w1 ⟨xv, rfl, hk, hb⟩
            obtain ⟨xa, xc, rfl, _⟩ := hk.view
            obtain ⟨u1, g1, g2⟩ := ref_store HT.out hb (j := 0) (by decide)
            have HT := Lib.hid (ref_put HT.out in2 (j := 0) rfl hb hk)
            clear hk hb HW
            obtain ⟨v0, hA⟩ := ref_at HT.out
            obtain ⟨a, c, hc⟩ := hA.cells
            have q0 := hc.c4
            have HW := Lib.hid (rwith (.slice (a 4) ((d.put 2 (dropK (d.l 2) x)).l 4).length (c 4)) ((d.put 2 (dropK (d.l 2) x)).l 4) x _ (ks_of hA in4 hc.c4) (show (d.l 4).length ≤ 10000 by omega))
            clear hc hA
            go_wp2_with fail
            refine HW.out.mono ?_
            rintro e w1 ⟨xv, rfl, hk, hb⟩
            obtain ⟨xa, xc, rfl, _⟩ := hk.view
            have e9 : (((d.put 2 (dropK (d.l 2) x)).l 4) ++ [x]).length = ((d.put 2 (dropK (d.l 2) x)).l 4).length + 1 := by simp
            rw [e9] at hk
            obtain ⟨u1, g1, g2⟩ := ref_store HT.out hb (j := 2) (by decide)
            have HT := Lib.hid (ref_put HT.out in4 (j := 2) rfl hb hk)
            clear hk hb HW q0
            go_wp2
            go_ret
            rw [HMV.out]
            exact ⟨rfl, HT.out⟩
    · have HMt : Hid (M = moveA d 2 4) := by show _ = _; rw [HM.out, if_pos]; rw [HR.out]; simp [D0, D1]
      clear D0
      go_enter Try.func31, Try.ntmps31
      go_wp2_with fail
      refine wp_region_held_quiet (fun W => W.cell? ⟨b, 0, none⟩ = some (.slice (ra 2) n2 (rc 2)) ∧ W.cell? ⟨b, 1, none⟩ = some (.slice (ra 3) n3 (rc 3)) ∧ W.cell? ⟨b, 4, none⟩ = some (.int .i64 t)) (by kernel_rfl) (by kernel_rfl) ⟨q2, q3, q1⟩ ?_
      iterate 41 (apply wpHeld_step; (intro W hS K hK; obtain ⟨r2, r3, r1⟩ := hS; go_simp; exact hK _ rfl))
      refine wpHeld_nil ?_
      clear q1 q2 q3
      obtain ⟨v0, hA⟩ := ref_at HT.out
      obtain ⟨a, c, hc⟩ := hA.cells
      have q2 := hc.c2
      cases hd : d.l 2 with
      | nil => have := N2.out; rw [hd] at this; simp at this; omega
      | cons x r =>
        have HD := Lib.hid hd
        have HMV := Lib.hid (HMt.out.trans (move_cons HV.out in2 (j := 4) hd))
        obtain ⟨g, off, eg, _, hcell⟩ := hc.s 2 in2 (by rw [hd]; simp)
        have q3 := hcell 0 x (by rw [hd]; rfl)
        rw [Nat.add_zero] at q3
        rw [eg] at q2
        have hlp : (0 : Int) < ((d.l 2).length : Int) := by rw [hd]; simp only [List.length_cons]; omega
        have hln : 0 < (d.l 2).length := by rw [hd]; simp only [List.length_cons]; omega
        have hone : cK (d.l 2) x ≤ 1 := by have := HV.out.one x; unfold cnt at this; omega
        have hbnd : (d.l 2).length ≤ 10000 := by have := N2.out; omega
        have HW := Lib.hid (rwithout (a 2) (c 2) (d.l 2) x _ (hc.s 2 in2) hbnd hone)
        rw [eg] at HW
        clear hc hA hcell hd eg
        go_wp2_with fail
        clear q2 q3 hlp hln
        refine HW.out.mono ?_
        rintro e w1 ⟨xv, rfl, hk, hb⟩
        obtain ⟨xa, xc, rfl, _⟩ := hk.view
        obtain ⟨u1, g1, g2⟩ := ref_store HT.out hb (j := 0) (by decide)
        have HT := Lib.hid (ref_put HT.out in2 (j := 0) rfl hb hk)
        clear hk hb HW
        obtain ⟨v0, hA⟩ := ref_at HT.out
        obtain ⟨a, c, hc⟩ := hA.cells
        have q0 := hc.c4
        have HW := Lib.hid (rwith (.slice (a 4) ((d.put 2 (dropK (d.l 2) x)).l 4).length (c 4)) ((d.put 2 (dropK (d.l 2) x)).l 4) x _ (ks_of hA in4 hc.c4) (show (d.l 4).length ≤ 10000 by omega))
        clear hc hA
        go_wp2_with fail
        refine HW.out.mono ?_
        rintro e w1 ⟨xv, rfl, hk, hb⟩
        obtain ⟨xa, xc, rfl, _⟩ := hk.view
        have e9 : (((d.put 2 (dropK (d.l 2) x)).l 4) ++ [x]).length = ((d.put 2 (dropK (d.l 2) x)).l 4).length + 1 := by simp
        rw [e9] at hk
        obtain ⟨u1, g1, g2⟩ := ref_store HT.out hb (j := 2) (by decide)
        have HT := Lib.hid (ref_put HT.out in4 (j := 2) rfl hb hk)
        clear hk hb HW q0
        go_wp2
        go_ret
        rw [HMV.out]
        exact ⟨rfl, HT.out⟩
end Go.Proofs.Ytnfdcjchobonaaa
