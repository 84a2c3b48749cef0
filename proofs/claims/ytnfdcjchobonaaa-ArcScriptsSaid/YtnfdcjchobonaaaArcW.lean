/-
  The reference's cache: Ask.
-/
import Derived.Test.YtnfdcjchobonaaaArcV
namespace Go.Proofs.Ytnfdcjchobonaaa
open Go.RowKit Go.ChangeShapes Go.WideShapes Go.ChangeAt

theorem old_cons {d : ArcD} {i : Nat} {x : ByteArray} {r : List ByteArray} (e : d.l i = x :: r) : oldA d i = (d.put i (dropK (d.l i) x), x) := by
  unfold oldA
  rw [e, dropK, if_pos rfl]
theorem ask_hit_eq {d : ArcD} (hv : InvA d) {k : ByteArray} (hk : k ≠ emp) (h : (hasA d 2 k || hasA d 3 k) = true) : askA d k = (addA (rdrop d k) 3 k, true, emp) := by
  unfold askA
  rw [if_neg hk]
  cases h2 : hasA d 2 k
  · have h3 : hasA d 3 k = true := by rw [h2] at h; exact h
    rw [if_neg (by simp), if_pos h3, rdrop_take hv in3 h3]
  · rw [if_pos rfl, rdrop_take hv in2 h2]
theorem ask_miss_eq {d : ArcD} {k : ByteArray} (hk : k ≠ emp) (h : (hasA d 2 k || hasA d 3 k) = false) : askA d k = ((keepA d k).1, false, (keepA d k).2) := by
  rw [Bool.or_eq_false_iff] at h
  unfold askA
  rw [if_neg hk, if_neg (by rw [h.1]; simp), if_neg (by rw [h.2]; simp)]
theorem keep_new_eq {d : ArcD} {k : ByteArray} (h4 : hasA d 4 k = false) (h5 : hasA d 5 k = false) : keepA d k = (addA (newA d).1 2 k, (newA d).2) := by
  unfold keepA
  rw [if_neg (by rw [h4]; simp), if_neg (by rw [h5]; simp)]

set_option maxRecDepth 100000 in
set_option maxHeartbeats 4000000 in
theorem rask (b : Nat) (F : List Nat) (d : ArcD) (k : ByteArray) (w : World) (h : RefF b d F w) (hlen : d.len ≤ 7000) (hv : InvA d) (hok : OkA d) (hbd : BndA d) :
    Calls Try.prog 13 #[.pointer (some ⟨b, 0, none⟩), .string k] w fun e w' => e = .returned (.tuple #[.bool (askA d k).2.1, .string (askA d k).2.2]) ∧ Tod (RefF b (askA d k).1) F w w' := by
  by_cases hk : k = emp
  · have e : askA d k = (d, false, emp) := by unfold askA; rw [if_pos hk]
    rw [e]
    have HT := Lib.hid (ref_same h)
    subst hk
    clear h hlen hok hv hbd e
    go_enter Try.func13, Try.ntmps13
    go_wp2
    go_ret2
    exact ⟨rfl, HT.out⟩
  · obtain ⟨e1, e2⟩ := str_emp hk
    have HKE := Lib.hid hk
    have HV := Lib.hid hv
    have HOK := Lib.hid hok
    have HBD := Lib.hid hbd
    have HLEN := Lib.hid hlen
    have L2 := d.le_len in2
    have L3 := d.le_len in3
    have L4 := d.le_len in4
    have L5 := d.le_len in5
    have HT := Lib.hid (ref_same h)
    have HH : Hid (Calls Try.prog 18 #[.pointer (some ⟨b, 0, none⟩), .string k] w fun e w' => e = .returned (.bool (hasA d 2 k || hasA d 3 k)) ∧ w = w') := by
      obtain ⟨v, hA, _⟩ := h
      exact rhas b v d k w hA (by omega)
    have HDR : Hid (Calls Try.prog 15 #[.pointer (some ⟨b, 0, none⟩), .string k] w fun e w' => e = .returned (.bool (hasA d 2 k || hasA d 3 k)) ∧ Tod (RefF b (rdrop d k)) F w w') := rdrop_any b F d k w h (by omega) hv
    clear hk
    cases hh : (hasA d 2 k || hasA d 3 k)
    · have HA : Hid (askA d k = ((keepA d k).1, false, (keepA d k).2)) := ask_miss_eq HKE.out hh
      rw [hh] at HH
      have h0 : tK d k = 0 := by
        have := @has_t d k
        rw [hh] at this
        simp at this
        exact this
      have HAG : Hid ((hasA d 4 k || hasA d 5 k) = true → Calls Try.prog 29 #[.pointer (some ⟨b, 0, none⟩), .string k] w fun e w' => e = .returned (.string (keepA d k).2) ∧ Tod (RefF b (keepA d k).1) F w w') := fun hh45 => ragain b F d k w h (by omega) hv hok HKE.out h0 hh45
      obtain ⟨v0, hA, _⟩ := h
      obtain ⟨a, c, hc⟩ := hA.cells
      have q4 := hc.c4
      have q5 := hc.c5
      have H4 : Hid (Calls Try.prog 21 #[.slice (a 4) (d.l 4).length (c 4), .string k] w fun e w' => e = .returned (.bool (hasA d 4 k)) ∧ w = w') := in_keys (a 4) (c 4) (d.l 4) k w (hc.s 4 in4) (by omega)
      have H5 : Hid (Calls Try.prog 21 #[.slice (a 5) (d.l 5).length (c 5), .string k] w fun e w' => e = .returned (.bool (hasA d 5 k)) ∧ w = w') := in_keys (a 5) (c 5) (d.l 5) k w (hc.s 5 in5) (by omega)
      rw [HA.out]
      clear hlen hv hok hbd hA h0 HDR hh
      cases h4 : hasA d 4 k
      · rw [h4] at H4
        cases h5 : hasA d 5 k
        · rw [h5] at H5
          have HKN : Hid (keepA d k = (addA (newA d).1 2 k, (newA d).2)) := keep_new_eq h4 h5
          have HNW : Hid (newA d = if onceA d = d.c then (if ((d.l 2).length : Int) = d.c then oldA d 2 else roomA (oldA d 4).1 false) else if d.c ≤ allA d then roomA (if allA d = 2 * d.c then (oldA d 5).1 else d) false else (d, emp)) := rfl
          have HNL : Hid ((newA d).1.len ≤ 7000) := Nat.le_trans (new_len d) HLEN.out
          have HDL : Hid (((newA d).1.l 2).length ≤ 10000) := by show _ ≤ _; have := (newA d).1.le_len in2; have := HNL.out; omega
          have q2 := hc.c2
          have q3 := hc.c3
          have qz := hc.z
          have HSS := Lib.hid hc.s
          obtain ⟨n2, hn2⟩ : ∃ n, n = (d.l 2).length := ⟨_, rfl⟩
          obtain ⟨n3, hn3⟩ : ∃ n, n = (d.l 3).length := ⟨_, rfl⟩
          obtain ⟨n4, hn4⟩ : ∃ n, n = (d.l 4).length := ⟨_, rfl⟩
          obtain ⟨n5, hn5⟩ : ∃ n, n = (d.l 5).length := ⟨_, rfl⟩
          obtain ⟨z, hz⟩ : ∃ n, n = d.c := ⟨_, rfl⟩
          obtain ⟨z1, z2, z3⟩ := HBD.out
          obtain ⟨z4, z5, _, _⟩ := HOK.out
          unfold ArcD.len at z3
          rw [← hn2] at q2 z1 z2 z3 L2
          rw [← hn3] at q3 z1 z3 L3
          rw [← hn4] at q4 z2 z3 L4 H4
          rw [← hn5] at q5 z3 L5 H5
          rw [← hz] at qz z1 z2 z3 z4 z5
          have HLN := HLEN.out
          have ho : onceA d = (n2 : Int) + (n4 : Int) := by rw [hn2, hn4]; rfl
          have hal : allA d = (n2 : Int) + (n3 : Int) + (n4 : Int) + (n5 : Int) := by unfold allA; rw [ho, hn3, hn5]; omega
          have y1 : IntKind.i64.wrap ((n2 : Int) + (n4 : Int)) = (n2 : Int) + (n4 : Int) := IntWalk.i64_in _ ⟨by omega, by omega⟩
          have y2 : IntKind.i64.wrap ((n2 : Int) + (n3 : Int)) = (n2 : Int) + (n3 : Int) := IntWalk.i64_in _ ⟨by omega, by omega⟩
          have y3 : IntKind.i64.wrap ((n2 : Int) + (n3 : Int) + (n4 : Int)) = (n2 : Int) + (n3 : Int) + (n4 : Int) := IntWalk.i64_in _ ⟨by omega, by omega⟩
          have y4 : IntKind.i64.wrap ((n2 : Int) + (n3 : Int) + (n4 : Int) + (n5 : Int)) = (n2 : Int) + (n3 : Int) + (n4 : Int) + (n5 : Int) := IntWalk.i64_in _ ⟨by omega, by omega⟩
          have y5 : IntKind.i64.wrap (2 * z) = 2 * z := IntWalk.i64_in _ ⟨by omega, by omega⟩
          clear hc HA HAG h4 h5
          rw [ho, hal, ← hz, ← hn2] at HNW
          have HN2 := Lib.hid hn2
          have HN3 := Lib.hid hn3
          have HN4 := Lib.hid hn4
          have HN5 := Lib.hid hn5
          clear hn2 hn3 hn4 hn5 hz ho hal
          by_cases c1 : (n2 : Int) + (n4 : Int) = z
          · have b1 : ((n2 : Int) + (n4 : Int) == z) = true := by simpa using c1
            rw [if_pos c1] at HNW
            by_cases c2 : (n2 : Int) = z
            · have b2 : decide ((n2 : Int) < z) = false := decide_eq_false (by omega)
              rw [if_pos c2] at HNW
              have hp : 0 < n2 := by omega
              have hpi : (0 : Int) < (n2 : Int) := by omega
              clear c1 c2
              go_enter Try.func13, Try.ntmps13
              go_wp2_with fail
              refine HH.out.mono ?_
              rintro e w1 ⟨rfl, rfl⟩
              go_wp2_with fail
              refine H4.out.mono ?_
              rintro e w1 ⟨rfl, rfl⟩
              go_wp2_with fail
              refine H5.out.mono ?_
              rintro e w1 ⟨rfl, rfl⟩
              go_wp2_with fail
              refine wp_region_held_quiet (fun W => W.cell? ⟨b, 0, none⟩ = some (.slice (a 2) n2 (c 2)) ∧ W.cell? ⟨b, 1, none⟩ = some (.slice (a 3) n3 (c 3)) ∧ W.cell? ⟨b, 2, none⟩ = some (.slice (a 4) n4 (c 4)) ∧ W.cell? ⟨b, 3, none⟩ = some (.slice (a 5) n5 (c 5)) ∧ W.cell? ⟨b, 5, none⟩ = some (.int .i64 z)) (by kernel_rfl) (by kernel_rfl) ⟨q2, q3, q4, q5, qz⟩ ?_
              iterate 24 (apply wpHeld_step; (intro W hS K hK; obtain ⟨r2, r3, r4, r5, rz⟩ := hS; go_simp; (try rw [y1]); (try rw [y2]); (try rw [y3]); (try rw [y4]); exact hK _ rfl))
              refine wpHeld_nil ?_
              go_wp2_with fail
              refine wp_region_held_quiet (fun W => W.cell? ⟨b, 0, none⟩ = some (.slice (a 2) n2 (c 2)) ∧ W.cell? ⟨b, 1, none⟩ = some (.slice (a 3) n3 (c 3)) ∧ W.cell? ⟨b, 2, none⟩ = some (.slice (a 4) n4 (c 4)) ∧ W.cell? ⟨b, 3, none⟩ = some (.slice (a 5) n5 (c 5)) ∧ W.cell? ⟨b, 5, none⟩ = some (.int .i64 z)) (by kernel_rfl) (by kernel_rfl) ⟨q2, q3, q4, q5, qz⟩ ?_
              iterate 16 (apply wpHeld_step; (intro W hS K hK; obtain ⟨r2, r3, r4, r5, rz⟩ := hS; go_simp; (try rw [y1]); (try rw [y2]); (try rw [y3]); (try rw [y4]); exact hK _ rfl))
              refine wpHeld_nil ?_
              go_wp2_with fail
              refine wp_region_held_quiet (fun W => W.cell? ⟨b, 0, none⟩ = some (.slice (a 2) n2 (c 2)) ∧ W.cell? ⟨b, 1, none⟩ = some (.slice (a 3) n3 (c 3)) ∧ W.cell? ⟨b, 2, none⟩ = some (.slice (a 4) n4 (c 4)) ∧ W.cell? ⟨b, 3, none⟩ = some (.slice (a 5) n5 (c 5)) ∧ W.cell? ⟨b, 5, none⟩ = some (.int .i64 z)) (by kernel_rfl) (by kernel_rfl) ⟨q2, q3, q4, q5, qz⟩ ?_
              iterate 10 (apply wpHeld_step; (intro W hS K hK; obtain ⟨r2, r3, r4, r5, rz⟩ := hS; go_simp; (try rw [y1]); (try rw [y2]); (try rw [y3]); (try rw [y4]); exact hK _ rfl))
              refine wpHeld_nil ?_
              have HT := Lib.hid (ref_keep HT.out ((((Below.refl _ w).drew).drew).drew))
              cases hd : d.l 2 with
              | nil => have := HN2.out; rw [hd] at this; simp at this; omega
              | cons x r =>
                have HNE : Hid (newA d = (d.put 2 (dropK (d.l 2) x), x)) := HNW.out.trans (old_cons hd)
                obtain ⟨g, off, eg, _, hcell⟩ := HSS.out 2 in2 (by rw [hd]; simp)
                have p0 := hcell 0 x (by rw [hd]; rfl)
                rw [Nat.add_zero] at p0
                have hone : cK (d.l 2) x ≤ 1 := by have := HV.out.one x; unfold cnt at this; omega
                have hbnd : (d.l 2).length ≤ 10000 := by rw [← HN2.out]; omega
                have HW := Lib.hid (rwithout (a 2) (c 2) (d.l 2) x w.drew.drew.drew (HSS.out 2 in2) hbnd hone)
                rw [eg, ← HN2.out] at HW
                rw [eg] at q2
                clear hcell hd eg y1 y2 y3 y4 y5
                go_wp2_with fail
                clear q2 q3 q4 q5 qz p0 hp hpi b1 b2
                refine HW.out.mono ?_
                rintro e w1 ⟨xv, rfl, hk, hb⟩
                obtain ⟨xa, xc, rfl, _⟩ := hk.view
                obtain ⟨u1, g1, g2⟩ := ref_store HT.out hb (j := 0) (by decide)
                have HT := Lib.hid (ref_put HT.out in2 (j := 0) rfl hb hk)
                rw [HNE.out] at HDL HKN
                clear hk hb HW HNE HNW HNL HSS
                generalize hdn : d.put 2 (dropK (d.l 2) x) = dn at *
                obtain ⟨v0, hA⟩ := ref_at HT.out
                obtain ⟨a, c, hc⟩ := hA.cells
                have q0 := hc.c2
                have HW := Lib.hid (rwith (.slice (a 2) (dn.l 2).length (c 2)) (dn.l 2) k _ (ks_of hA in2 hc.c2) HDL.out)
                clear hc hA
                go_wp2_with fail
                refine HW.out.mono ?_
                rintro e w1 ⟨xv, rfl, hk, hb⟩
                obtain ⟨xa, xc, rfl, _⟩ := hk.view
                have e9 : ((dn.l 2) ++ [k]).length = (dn.l 2).length + 1 := by simp
                rw [e9] at hk
                obtain ⟨u1, g1, g2⟩ := ref_store HT.out hb (j := 0) (by decide)
                have HT := Lib.hid (ref_put HT.out in2 (j := 0) rfl hb hk)
                clear hk hb HW q0
                go_wp2
                go_ret2
                rw [HKN.out]
                exact ⟨rfl, HT.out⟩
            · have b2 : decide ((n2 : Int) < z) = true := decide_eq_true (by omega)
              rw [if_neg c2] at HNW
              have hp : 0 < n4 := by omega
              have hpi : (0 : Int) < (n4 : Int) := by omega
              clear c1 c2
              go_enter Try.func13, Try.ntmps13
              go_wp2_with fail
              refine HH.out.mono ?_
              rintro e w1 ⟨rfl, rfl⟩
              go_wp2_with fail
              refine H4.out.mono ?_
              rintro e w1 ⟨rfl, rfl⟩
              go_wp2_with fail
              refine H5.out.mono ?_
              rintro e w1 ⟨rfl, rfl⟩
              go_wp2_with fail
              refine wp_region_held_quiet (fun W => W.cell? ⟨b, 0, none⟩ = some (.slice (a 2) n2 (c 2)) ∧ W.cell? ⟨b, 1, none⟩ = some (.slice (a 3) n3 (c 3)) ∧ W.cell? ⟨b, 2, none⟩ = some (.slice (a 4) n4 (c 4)) ∧ W.cell? ⟨b, 3, none⟩ = some (.slice (a 5) n5 (c 5)) ∧ W.cell? ⟨b, 5, none⟩ = some (.int .i64 z)) (by kernel_rfl) (by kernel_rfl) ⟨q2, q3, q4, q5, qz⟩ ?_
              iterate 24 (apply wpHeld_step; (intro W hS K hK; obtain ⟨r2, r3, r4, r5, rz⟩ := hS; go_simp; (try rw [y1]); (try rw [y2]); (try rw [y3]); (try rw [y4]); exact hK _ rfl))
              refine wpHeld_nil ?_
              go_wp2_with fail
              refine wp_region_held_quiet (fun W => W.cell? ⟨b, 0, none⟩ = some (.slice (a 2) n2 (c 2)) ∧ W.cell? ⟨b, 1, none⟩ = some (.slice (a 3) n3 (c 3)) ∧ W.cell? ⟨b, 2, none⟩ = some (.slice (a 4) n4 (c 4)) ∧ W.cell? ⟨b, 3, none⟩ = some (.slice (a 5) n5 (c 5)) ∧ W.cell? ⟨b, 5, none⟩ = some (.int .i64 z)) (by kernel_rfl) (by kernel_rfl) ⟨q2, q3, q4, q5, qz⟩ ?_
              iterate 16 (apply wpHeld_step; (intro W hS K hK; obtain ⟨r2, r3, r4, r5, rz⟩ := hS; go_simp; (try rw [y1]); (try rw [y2]); (try rw [y3]); (try rw [y4]); exact hK _ rfl))
              refine wpHeld_nil ?_
              go_wp2_with fail
              refine wp_region_held_quiet (fun W => W.cell? ⟨b, 0, none⟩ = some (.slice (a 2) n2 (c 2)) ∧ W.cell? ⟨b, 1, none⟩ = some (.slice (a 3) n3 (c 3)) ∧ W.cell? ⟨b, 2, none⟩ = some (.slice (a 4) n4 (c 4)) ∧ W.cell? ⟨b, 3, none⟩ = some (.slice (a 5) n5 (c 5)) ∧ W.cell? ⟨b, 5, none⟩ = some (.int .i64 z)) (by kernel_rfl) (by kernel_rfl) ⟨q2, q3, q4, q5, qz⟩ ?_
              iterate 10 (apply wpHeld_step; (intro W hS K hK; obtain ⟨r2, r3, r4, r5, rz⟩ := hS; go_simp; (try rw [y1]); (try rw [y2]); (try rw [y3]); (try rw [y4]); exact hK _ rfl))
              refine wpHeld_nil ?_
              have HT := Lib.hid (ref_keep HT.out (((((Below.refl _ w).drew).drew).drew).drew))
              cases hd : d.l 4 with
              | nil => have := HN4.out; rw [hd] at this; simp at this; omega
              | cons x r =>
                have HOE := old_cons hd
                obtain ⟨g, off, eg, _, hcell⟩ := HSS.out 4 in4 (by rw [hd]; simp)
                have p0 := hcell 0 x (by rw [hd]; rfl)
                rw [Nat.add_zero] at p0
                have hone : cK (d.l 4) x ≤ 1 := by have := HV.out.one x; unfold cnt at this; omega
                have hbnd : (d.l 4).length ≤ 10000 := by rw [← HN4.out]; omega
                have HW := Lib.hid (rwithout (a 4) (c 4) (d.l 4) x w.drew.drew.drew.drew (HSS.out 4 in4) hbnd hone)
                rw [eg, ← HN4.out] at HW
                rw [eg] at q4
                have HIV : Hid (InvA (d.put 4 (dropK (d.l 4) x))) := by
                  have := (old_low (d := d) (i := 4) (.inl rfl)).2.1
                  rw [HOE] at this
                  exact fun y => Nat.le_trans (this y) (HV.out y)
                have HIL : Hid ((d.put 4 (dropK (d.l 4) x)).len ≤ 7000) := by
                  have := old_len d in4
                  rw [HOE] at this
                  exact Nat.le_trans this HLEN.out
                have HNE : Hid (newA d = roomA (d.put 4 (dropK (d.l 4) x)) false) := by rw [HOE] at HNW; exact HNW
                clear hcell hd eg y1 y2 y3 y4 y5 HOE
                go_wp2_with fail
                refine wp_region_held_tail (fun W => W.cell? ⟨b, 2, none⟩ = some (.slice (some ⟨g, off, none⟩) n4 (c 4)) ∧ W.cell? ⟨g, off, none⟩ = some (.string x)) 11 (by kernel_rfl) (by kernel_rfl) ⟨q4, p0⟩ ?_
                simp only [List.take_succ_cons, List.take_zero, List.drop_succ_cons, List.drop_zero]
                iterate 11 (apply wpHeld_step; (intro W hS K hK; obtain ⟨r4, rp⟩ := hS; go_simp; exact hK _ rfl))
                refine wpHeld_nil ?_
                refine wpOp_step rfl (fun K' hK => ?_)
                go_simp
                refine HW.out.mono ?_
                rintro e w1 ⟨xv, rfl, hk, hb⟩
                obtain ⟨xa, xc, rfl, _⟩ := hk.view
                obtain ⟨u1, g1, g2⟩ := ref_store HT.out hb (j := 2) (by decide)
                have hs1 : w1.cell? ⟨b, 2, none⟩ = some (.slice (some ⟨g, off, none⟩) n4 (c 4)) := (hb.cell (p := ⟨b, 2, none⟩) (lt_of_cell q4)).trans q4
                have hs2 : w1.cell? ⟨g, off, none⟩ = some (.string x) := (hb.cell (p := ⟨g, off, none⟩) (lt_of_cell p0)).trans p0
                refine hK _ _ ⟨⟨hs1, hs2⟩, ?_⟩
                clear hK K' hs1 hs2
                have HT := Lib.hid (ref_put HT.out in4 (j := 2) rfl hb hk)
                rw [HNE.out] at HDL HKN
                clear hk hb HW HNE HNW HNL HSS q2 q3 q4 q5 qz p0 hp hpi
                generalize hd5 : d.put 4 (dropK (d.l 4) x) = d5 at *
                clear hd5
                go_wp2_with fail
                generalize hw5 : World.setCell _ _ _ = w5 at *
                clear hw5 g1 g2
                have HRM : Hid (Calls Try.prog 31 #[.pointer (some ⟨b, 0, none⟩), .bool false] w5 fun e w' => e = .returned (.string (roomA d5 false).2) ∧ Tod (RefF b (roomA d5 false).1) F w w') := by
                  obtain ⟨F1, r1, r2, r3⟩ := HT.out
                  refine (rroom_any b F1 d5 false _ r1 (by have := HIL.out; omega) HIV.out).mono ?_
                  rintro e w' ⟨rfl, ht⟩
                  exact ⟨rfl, Tod.seq r2 r3 ht⟩
                generalize hrr : roomA d5 false = rr at *
                obtain ⟨dn, out⟩ := rr
                dsimp only at HRM HDL HKN
                clear HT hrr HIV HIL
                refine HRM.out.mono ?_
                rintro e w6 ⟨rfl, ht⟩
                have HT := Lib.hid ht
                clear ht HRM
                obtain ⟨v0, hA⟩ := ref_at HT.out
                obtain ⟨a, c, hc⟩ := hA.cells
                have q0 := hc.c2
                have HW := Lib.hid (rwith (.slice (a 2) (dn.l 2).length (c 2)) (dn.l 2) k _ (ks_of hA in2 hc.c2) HDL.out)
                clear hc hA
                go_wp2_with fail
                refine HW.out.mono ?_
                rintro e w1 ⟨xv, rfl, hk, hb⟩
                obtain ⟨xa, xc, rfl, _⟩ := hk.view
                have e9 : ((dn.l 2) ++ [k]).length = (dn.l 2).length + 1 := by simp
                rw [e9] at hk
                obtain ⟨u1, g1, g2⟩ := ref_store HT.out hb (j := 0) (by decide)
                have HT := Lib.hid (ref_put HT.out in2 (j := 0) rfl hb hk)
                clear hk hb HW q0
                go_wp2
                go_ret2
                rw [HKN.out]
                exact ⟨rfl, HT.out⟩

          · have b1 : ((n2 : Int) + (n4 : Int) == z) = false := by simpa using c1
            rw [if_neg c1] at HNW
            by_cases c3 : z ≤ (n2 : Int) + (n3 : Int) + (n4 : Int) + (n5 : Int)
            · have b3 : decide (z ≤ (n2 : Int) + (n3 : Int) + (n4 : Int) + (n5 : Int)) = true := decide_eq_true c3
              rw [if_pos c3] at HNW
              by_cases c4 : (n2 : Int) + (n3 : Int) + (n4 : Int) + (n5 : Int) = 2 * z
              · have b4 : ((n2 : Int) + (n3 : Int) + (n4 : Int) + (n5 : Int) == 2 * z) = true := by simpa using c4
                rw [if_pos c4] at HNW
                have hp : 0 < n5 := by omega
                have hpi : (0 : Int) < (n5 : Int) := by omega
                clear c1 c3 c4
                go_enter Try.func13, Try.ntmps13
                go_wp2_with fail
                refine HH.out.mono ?_
                rintro e w1 ⟨rfl, rfl⟩
                go_wp2_with fail
                refine H4.out.mono ?_
                rintro e w1 ⟨rfl, rfl⟩
                go_wp2_with fail
                refine H5.out.mono ?_
                rintro e w1 ⟨rfl, rfl⟩
                go_wp2_with fail
                refine wp_region_held_quiet (fun W => W.cell? ⟨b, 0, none⟩ = some (.slice (a 2) n2 (c 2)) ∧ W.cell? ⟨b, 1, none⟩ = some (.slice (a 3) n3 (c 3)) ∧ W.cell? ⟨b, 2, none⟩ = some (.slice (a 4) n4 (c 4)) ∧ W.cell? ⟨b, 3, none⟩ = some (.slice (a 5) n5 (c 5)) ∧ W.cell? ⟨b, 5, none⟩ = some (.int .i64 z)) (by kernel_rfl) (by kernel_rfl) ⟨q2, q3, q4, q5, qz⟩ ?_
                iterate 24 (apply wpHeld_step; (intro W hS K hK; obtain ⟨r2, r3, r4, r5, rz⟩ := hS; go_simp; (try rw [y1]); (try rw [y2]); (try rw [y3]); (try rw [y4]); exact hK _ rfl))
                refine wpHeld_nil ?_
                go_wp2_with fail
                refine wp_region_held_quiet (fun W => W.cell? ⟨b, 0, none⟩ = some (.slice (a 2) n2 (c 2)) ∧ W.cell? ⟨b, 1, none⟩ = some (.slice (a 3) n3 (c 3)) ∧ W.cell? ⟨b, 2, none⟩ = some (.slice (a 4) n4 (c 4)) ∧ W.cell? ⟨b, 3, none⟩ = some (.slice (a 5) n5 (c 5)) ∧ W.cell? ⟨b, 5, none⟩ = some (.int .i64 z)) (by kernel_rfl) (by kernel_rfl) ⟨q2, q3, q4, q5, qz⟩ ?_
                iterate 16 (apply wpHeld_step; (intro W hS K hK; obtain ⟨r2, r3, r4, r5, rz⟩ := hS; go_simp; (try rw [y1]); (try rw [y2]); (try rw [y3]); (try rw [y4]); exact hK _ rfl))
                refine wpHeld_nil ?_
                have HT := Lib.hid (ref_keep HT.out ((((Below.refl _ w).drew).drew).drew))
                cases hd : d.l 5 with
                | nil => have := HN5.out; rw [hd] at this; simp at this; omega
                | cons x r =>
                  have HOE := old_cons hd
                  obtain ⟨g, off, eg, _, hcell⟩ := HSS.out 5 in5 (by rw [hd]; simp)
                  have p0 := hcell 0 x (by rw [hd]; rfl)
                  rw [Nat.add_zero] at p0
                  have hone : cK (d.l 5) x ≤ 1 := by have := HV.out.one x; unfold cnt at this; omega
                  have hbnd : (d.l 5).length ≤ 10000 := by rw [← HN5.out]; omega
                  have HW := Lib.hid (rwithout (a 5) (c 5) (d.l 5) x w.drew.drew.drew (HSS.out 5 in5) hbnd hone)
                  rw [eg, ← HN5.out] at HW
                  rw [eg] at q5
                  have HIV : Hid (InvA (d.put 5 (dropK (d.l 5) x))) := by
                    have := (old_low (d := d) (i := 5) (.inr rfl)).2.1
                    rw [HOE] at this
                    exact fun y => Nat.le_trans (this y) (HV.out y)
                  have HIL : Hid ((d.put 5 (dropK (d.l 5) x)).len ≤ 7000) := by
                    have := old_len d in5
                    rw [HOE] at this
                    exact Nat.le_trans this HLEN.out
                  have HNE : Hid (newA d = roomA (d.put 5 (dropK (d.l 5) x)) false) := by rw [HOE] at HNW; exact HNW
                  clear hcell hd eg HOE y1 y2 y3 y4
                  go_wp2_with fail
                  clear b1 b3 b4
                  refine wp_region_held_tail (fun W => W.cell? ⟨b, 3, none⟩ = some (.slice (some ⟨g, off, none⟩) n5 (c 5)) ∧ W.cell? ⟨g, off, none⟩ = some (.string x)) 11 (by kernel_rfl) (by kernel_rfl) ⟨q5, p0⟩ ?_
                  simp only [List.take_succ_cons, List.take_zero, List.drop_succ_cons, List.drop_zero]
                  iterate 11 (apply wpHeld_step; (intro W hS K hK; obtain ⟨r4, rp⟩ := hS; go_simp; exact hK _ rfl))
                  refine wpHeld_nil ?_
                  refine wpOp_step rfl (fun K' hK => ?_)
                  go_simp
                  refine HW.out.mono ?_
                  rintro e w1 ⟨xv, rfl, hk, hb⟩
                  obtain ⟨xa, xc, rfl, _⟩ := hk.view
                  obtain ⟨u1, g1, g2⟩ := ref_store HT.out hb (j := 3) (by decide)
                  have hs1 : w1.cell? ⟨b, 3, none⟩ = some (.slice (some ⟨g, off, none⟩) n5 (c 5)) := (hb.cell (p := ⟨b, 3, none⟩) (lt_of_cell q5)).trans q5
                  have hs2 : w1.cell? ⟨g, off, none⟩ = some (.string x) := (hb.cell (p := ⟨g, off, none⟩) (lt_of_cell p0)).trans p0
                  refine hK _ _ ⟨⟨hs1, hs2⟩, ?_⟩
                  clear hK K' hs1 hs2
                  have HT := Lib.hid (ref_put HT.out in5 (j := 3) rfl hb hk)
                  rw [HNE.out] at HDL HKN
                  clear hk hb HW HNE HNW HNL HSS q2 q3 q4 q5 qz p0 hp hpi
                  generalize hd5 : d.put 5 (dropK (d.l 5) x) = d5 at *
                  clear hd5
                  go_wp2_with fail
                  generalize hw5 : World.setCell _ _ _ = w5 at *
                  clear hw5 g1 g2
                  have HRM : Hid (Calls Try.prog 31 #[.pointer (some ⟨b, 0, none⟩), .bool false] w5 fun e w' => e = .returned (.string (roomA d5 false).2) ∧ Tod (RefF b (roomA d5 false).1) F w w') := by
                    obtain ⟨F1, r1, r2, r3⟩ := HT.out
                    refine (rroom_any b F1 d5 false _ r1 (by have := HIL.out; omega) HIV.out).mono ?_
                    rintro e w' ⟨rfl, ht⟩
                    exact ⟨rfl, Tod.seq r2 r3 ht⟩
                  generalize hrr : roomA d5 false = rr at *
                  obtain ⟨dn, out⟩ := rr
                  dsimp only at HRM HDL HKN
                  clear HT hrr HIV HIL
                  refine HRM.out.mono ?_
                  rintro e w6 ⟨rfl, ht⟩
                  have HT := Lib.hid ht
                  clear ht HRM
                  obtain ⟨v0, hA⟩ := ref_at HT.out
                  obtain ⟨a, c, hc⟩ := hA.cells
                  have q0 := hc.c2
                  have HW := Lib.hid (rwith (.slice (a 2) (dn.l 2).length (c 2)) (dn.l 2) k _ (ks_of hA in2 hc.c2) HDL.out)
                  clear hc hA
                  go_wp2_with fail
                  refine HW.out.mono ?_
                  rintro e w1 ⟨xv, rfl, hk, hb⟩
                  obtain ⟨xa, xc, rfl, _⟩ := hk.view
                  have e9 : ((dn.l 2) ++ [k]).length = (dn.l 2).length + 1 := by simp
                  rw [e9] at hk
                  obtain ⟨u1, g1, g2⟩ := ref_store HT.out hb (j := 0) (by decide)
                  have HT := Lib.hid (ref_put HT.out in2 (j := 0) rfl hb hk)
                  clear hk hb HW q0
                  go_wp2
                  go_ret2
                  rw [HKN.out]
                  exact ⟨rfl, HT.out⟩
              · have b4 : ((n2 : Int) + (n3 : Int) + (n4 : Int) + (n5 : Int) == 2 * z) = false := by simpa using c4
                rw [if_neg c4] at HNW
                clear c1 c3 c4
                go_enter Try.func13, Try.ntmps13
                go_wp2_with fail
                refine HH.out.mono ?_
                rintro e w1 ⟨rfl, rfl⟩
                go_wp2_with fail
                refine H4.out.mono ?_
                rintro e w1 ⟨rfl, rfl⟩
                go_wp2_with fail
                refine H5.out.mono ?_
                rintro e w1 ⟨rfl, rfl⟩
                go_wp2_with fail
                refine wp_region_held_quiet (fun W => W.cell? ⟨b, 0, none⟩ = some (.slice (a 2) n2 (c 2)) ∧ W.cell? ⟨b, 1, none⟩ = some (.slice (a 3) n3 (c 3)) ∧ W.cell? ⟨b, 2, none⟩ = some (.slice (a 4) n4 (c 4)) ∧ W.cell? ⟨b, 3, none⟩ = some (.slice (a 5) n5 (c 5)) ∧ W.cell? ⟨b, 5, none⟩ = some (.int .i64 z)) (by kernel_rfl) (by kernel_rfl) ⟨q2, q3, q4, q5, qz⟩ ?_
                iterate 24 (apply wpHeld_step; (intro W hS K hK; obtain ⟨r2, r3, r4, r5, rz⟩ := hS; go_simp; (try rw [y1]); (try rw [y2]); (try rw [y3]); (try rw [y4]); exact hK _ rfl))
                refine wpHeld_nil ?_
                go_wp2_with fail
                refine wp_region_held_quiet (fun W => W.cell? ⟨b, 0, none⟩ = some (.slice (a 2) n2 (c 2)) ∧ W.cell? ⟨b, 1, none⟩ = some (.slice (a 3) n3 (c 3)) ∧ W.cell? ⟨b, 2, none⟩ = some (.slice (a 4) n4 (c 4)) ∧ W.cell? ⟨b, 3, none⟩ = some (.slice (a 5) n5 (c 5)) ∧ W.cell? ⟨b, 5, none⟩ = some (.int .i64 z)) (by kernel_rfl) (by kernel_rfl) ⟨q2, q3, q4, q5, qz⟩ ?_
                iterate 16 (apply wpHeld_step; (intro W hS K hK; obtain ⟨r2, r3, r4, r5, rz⟩ := hS; go_simp; (try rw [y1]); (try rw [y2]); (try rw [y3]); (try rw [y4]); exact hK _ rfl))
                refine wpHeld_nil ?_
                have HT := Lib.hid (ref_keep HT.out (((Below.refl _ w).drew).drew))
                have HIV : Hid (InvA d) := HV
                have HIL : Hid (d.len ≤ 7000) := HLEN
                have HNE : Hid (newA d = roomA d false) := HNW
                rw [HNE.out] at HDL HKN
                clear HNE HNW HNL HSS
                go_wp2_with fail
                clear q2 q3 q4 q5 qz b1 b3 b4
                have HRM : Hid (Calls Try.prog 31 #[.pointer (some ⟨b, 0, none⟩), .bool false] w.drew.drew fun e w' => e = .returned (.string (roomA d false).2) ∧ Tod (RefF b (roomA d false).1) F w w') := by
                  obtain ⟨F1, r1, r2, r3⟩ := HT.out
                  refine (rroom_any b F1 d false _ r1 (by have := HIL.out; omega) HIV.out).mono ?_
                  rintro e w' ⟨rfl, ht⟩
                  exact ⟨rfl, Tod.seq r2 r3 ht⟩
                generalize hrr : roomA d false = rr at *
                obtain ⟨dn, out⟩ := rr
                dsimp only at HRM HDL HKN
                clear HT hrr HIV HIL
                refine HRM.out.mono ?_
                rintro e w6 ⟨rfl, ht⟩
                have HT := Lib.hid ht
                clear ht HRM
                obtain ⟨v0, hA⟩ := ref_at HT.out
                obtain ⟨a, c, hc⟩ := hA.cells
                have q0 := hc.c2
                have HW := Lib.hid (rwith (.slice (a 2) (dn.l 2).length (c 2)) (dn.l 2) k _ (ks_of hA in2 hc.c2) HDL.out)
                clear hc hA
                go_wp2_with fail
                refine HW.out.mono ?_
                rintro e w1 ⟨xv, rfl, hk, hb⟩
                obtain ⟨xa, xc, rfl, _⟩ := hk.view
                have e9 : ((dn.l 2) ++ [k]).length = (dn.l 2).length + 1 := by simp
                rw [e9] at hk
                obtain ⟨u1, g1, g2⟩ := ref_store HT.out hb (j := 0) (by decide)
                have HT := Lib.hid (ref_put HT.out in2 (j := 0) rfl hb hk)
                clear hk hb HW q0
                go_wp2
                go_ret2
                rw [HKN.out]
                exact ⟨rfl, HT.out⟩
            · have b3 : decide (z ≤ (n2 : Int) + (n3 : Int) + (n4 : Int) + (n5 : Int)) = false := decide_eq_false c3
              rw [if_neg c3] at HNW
              clear c1 c3
              go_enter Try.func13, Try.ntmps13
              go_wp2_with fail
              refine HH.out.mono ?_
              rintro e w1 ⟨rfl, rfl⟩
              go_wp2_with fail
              refine H4.out.mono ?_
              rintro e w1 ⟨rfl, rfl⟩
              go_wp2_with fail
              refine H5.out.mono ?_
              rintro e w1 ⟨rfl, rfl⟩
              go_wp2_with fail
              refine wp_region_held_quiet (fun W => W.cell? ⟨b, 0, none⟩ = some (.slice (a 2) n2 (c 2)) ∧ W.cell? ⟨b, 1, none⟩ = some (.slice (a 3) n3 (c 3)) ∧ W.cell? ⟨b, 2, none⟩ = some (.slice (a 4) n4 (c 4)) ∧ W.cell? ⟨b, 3, none⟩ = some (.slice (a 5) n5 (c 5)) ∧ W.cell? ⟨b, 5, none⟩ = some (.int .i64 z)) (by kernel_rfl) (by kernel_rfl) ⟨q2, q3, q4, q5, qz⟩ ?_
              iterate 24 (apply wpHeld_step; (intro W hS K hK; obtain ⟨r2, r3, r4, r5, rz⟩ := hS; go_simp; (try rw [y1]); (try rw [y2]); (try rw [y3]); (try rw [y4]); exact hK _ rfl))
              refine wpHeld_nil ?_
              go_wp2_with fail
              refine wp_region_held_quiet (fun W => W.cell? ⟨b, 0, none⟩ = some (.slice (a 2) n2 (c 2)) ∧ W.cell? ⟨b, 1, none⟩ = some (.slice (a 3) n3 (c 3)) ∧ W.cell? ⟨b, 2, none⟩ = some (.slice (a 4) n4 (c 4)) ∧ W.cell? ⟨b, 3, none⟩ = some (.slice (a 5) n5 (c 5)) ∧ W.cell? ⟨b, 5, none⟩ = some (.int .i64 z)) (by kernel_rfl) (by kernel_rfl) ⟨q2, q3, q4, q5, qz⟩ ?_
              iterate 16 (apply wpHeld_step; (intro W hS K hK; obtain ⟨r2, r3, r4, r5, rz⟩ := hS; go_simp; (try rw [y1]); (try rw [y2]); (try rw [y3]); (try rw [y4]); exact hK _ rfl))
              refine wpHeld_nil ?_
              have HT := Lib.hid (ref_keep HT.out (((Below.refl _ w).drew).drew))
              rw [HNW.out] at HDL HKN
              obtain ⟨v0, hA⟩ := ref_at HT.out
              obtain ⟨a, c, hc⟩ := hA.cells
              have q0 := hc.c2
              have HW := Lib.hid (rwith (.slice (a 2) (d.l 2).length (c 2)) (d.l 2) k _ (ks_of hA in2 hc.c2) HDL.out)
              clear hc hA
              go_wp2_with fail
              refine HW.out.mono ?_
              rintro e w1 ⟨xv, rfl, hk, hb⟩
              obtain ⟨xa, xc, rfl, _⟩ := hk.view
              have e9 : ((d.l 2) ++ [k]).length = (d.l 2).length + 1 := by simp
              rw [e9] at hk
              obtain ⟨u1, g1, g2⟩ := ref_store HT.out hb (j := 0) (by decide)
              have HT := Lib.hid (ref_put HT.out in2 (j := 0) rfl hb hk)
              clear hk hb HW q0
              go_wp2
              go_ret2
              rw [HKN.out]
              exact ⟨rfl, HT.out⟩
        · rw [h5] at H5
          have HAG := Lib.hid (HAG.out (by rw [h4, h5]; rfl))
          generalize keepA d k = M at *
          clear hc h4 h5
          go_enter Try.func13, Try.ntmps13
          go_wp2_with fail
          refine HH.out.mono ?_
          rintro e w1 ⟨rfl, rfl⟩
          go_wp2_with fail
          refine H4.out.mono ?_
          rintro e w1 ⟨rfl, rfl⟩
          go_wp2_with fail
          refine H5.out.mono ?_
          rintro e w1 ⟨rfl, rfl⟩
          go_wp2_with fail
          refine HAG.out.mono ?_
          rintro e w2 ⟨rfl, ht⟩
          have HT2 := Lib.hid ht
          clear ht
          go_wp2
          go_ret2
          exact ⟨rfl, HT2.out⟩
      · rw [h4] at H4
        have HAG := Lib.hid (HAG.out (by rw [h4]; rfl))
        generalize keepA d k = M at *
        clear hc h4
        go_enter Try.func13, Try.ntmps13
        go_wp2_with fail
        refine HH.out.mono ?_
        rintro e w1 ⟨rfl, rfl⟩
        go_wp2_with fail
        refine H4.out.mono ?_
        rintro e w1 ⟨rfl, rfl⟩
        go_wp2_with fail
        refine HAG.out.mono ?_
        rintro e w2 ⟨rfl, ht⟩
        have HT2 := Lib.hid ht
        clear ht
        go_wp2
        go_ret2
        exact ⟨rfl, HT2.out⟩
    · rw [ask_hit_eq HV.out HKE.out hh]
      rw [hh] at HH HDR
      have HL3 : Hid (((rdrop d k).l 3).length ≤ 10000) := by show _ ≤ _; rw [rdrop_at, if_pos in3]; have := drop_len k (d.l 3); omega
      generalize hd4 : rdrop d k = d4 at *
      clear h hlen hv hok hbd hh hd4
      go_enter Try.func13, Try.ntmps13
      go_wp2_with fail
      refine HH.out.mono ?_
      rintro e w1 ⟨rfl, rfl⟩
      go_wp2_with fail
      refine HDR.out.mono ?_
      rintro e w2 ⟨rfl, ht⟩
      have HT := Lib.hid ht
      clear ht HDR
      obtain ⟨v0, hA⟩ := ref_at HT.out
      obtain ⟨a, c, hc⟩ := hA.cells
      have q0 := hc.c3
      have HW := Lib.hid (rwith (.slice (a 3) (d4.l 3).length (c 3)) (d4.l 3) k _ (ks_of hA in3 hc.c3) HL3.out)
      clear hc hA
      go_wp2_with fail
      refine HW.out.mono ?_
      rintro e w1 ⟨xv, rfl, hk, hb⟩
      obtain ⟨xa, xc, rfl, _⟩ := hk.view
      have e9 : ((d4.l 3) ++ [k]).length = (d4.l 3).length + 1 := by simp
      rw [e9] at hk
      obtain ⟨u1, g1, g2⟩ := ref_store HT.out hb (j := 1) (by decide)
      have HT := Lib.hid (ref_put HT.out in3 (j := 1) rfl hb hk)
      clear hk hb HW q0
      go_wp2
      go_ret2
      exact ⟨rfl, HT.out⟩
end Go.Proofs.Ytnfdcjchobonaaa
