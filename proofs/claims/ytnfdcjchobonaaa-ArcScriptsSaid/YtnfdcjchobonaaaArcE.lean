/-
  Contracts: again, roomForNew.
-/
import Derived.Test.YtnfdcjchobonaaaArcD
import Derived.Test.YtnfdcjchobonaaaHeldM
namespace Go.Proofs.Ytnfdcjchobonaaa
open Go.RowKit Go.ChangeShapes Go.WideShapes Go.ChangeAt

theorem callW {P : Program} {f : FuncId} {args : Array Value} {w : World} {v : Value} (h : Calls P f args w fun e w' => e = .returned v ∧ w = w') :
    Calls P f args w fun e w'' => e = .returned v ∧ w'' = w := h.mono fun _ _ hh => ⟨hh.1, hh.2.symm⟩
theorem move_len (d : ArcD) {i j : Nat} (hi : InA i) (hj : InA j) : (moveA d i j).1.len ≤ d.len := by
  unfold moveA
  split
  · exact old_len d hi
  · next h =>
    show (addA (oldA d i).1 j (oldA d i).2).len ≤ _
    rw [add_len _ hj]
    unfold oldA at h ⊢
    cases hd : d.l i with
    | nil => rw [hd] at h; exact absurd rfl h
    | cons x r =>
      have := d.len_put hi r
      rw [hd] at this
      simp only [List.length_cons] at this
      show (d.put i r).len + 1 ≤ _
      omega
theorem room_len (d : ArcD) (e : Bool) : (roomA d e).1.len ≤ d.len := by
  unfold roomA
  split
  · exact move_len d in2 in4
  · exact move_len d in3 in5
theorem tod_drew {b : Nat} {F : List Nat} {d : ArcD} {w : World} (h : ArcF b d F w) : ArcF b d F w.drew := (fixed_arc b d).keep _ _ _ _ h (Chg.of (S := []) ((Below.refl _ _).drew) (Nat.le_refl _)) (fun _ _ hm => by cases hm)

set_option maxRecDepth 100000 in
set_option maxHeartbeats 1000000 in
theorem again_any (b i : Nat) (hi : InA i) (F : List Nat) (d : ArcD) (k : ByteArray) (even : Bool) (w : World) (h : ArcF b d F w) (hlen : d.len ≤ 9000) :
    Calls Try.prog 37 #[.pointer (some ⟨b, 0, none⟩), .string k, .pointer (some ⟨b, i, none⟩), .bool even] w fun e w' => e = .returned (.string (againA d k i even).2) ∧ Tod (ArcF b (againA d k i even).1) F w w' := by
  have HR := Lib.hid (room_any b F d even w h (by omega))
  have HL := Lib.hid (Nat.le_trans (room_len d even) hlen)
  have HM : Hid (againA d k i even = (addA (takeA (roomA d even).1 i k) 3 k, (roomA d even).2)) := rfl
  generalize againA d k i even = M at *
  generalize roomA d even = r at *
  obtain ⟨d1, left⟩ := r
  dsimp only at HR HL HM
  clear h hlen
  go_enter Try.func37, Try.ntmps37
  go_wp2_with fail
  refine HR.out.mono ?_
  rintro e w1 ⟨rfl, ht⟩
  obtain ⟨F1, ⟨v1, h1, rfl⟩, hc1, hf1⟩ := ht
  have HT1 := Lib.hid (take_list b i hi v1 d1 k w1 h1 (by have := HL.out; omega))
  have HC1 := Lib.hid hc1
  have HF1 := Lib.hid hf1
  clear h1 hc1 hf1 HR
  go_wp2_with fail
  refine HT1.out.mono ?_
  rintro e w2 ⟨rfl, ht⟩
  obtain ⟨F2, ⟨v2, h2, rfl⟩, hc2, hf2⟩ := Tod.seq HC1.out HF1.out ht
  have HT2 := Lib.hid (add_list b 3 in3 v2 (takeA d1 i k) k w2 h2 (by have := HL.out; have := take_len d1 hi k; omega))
  have HC2 := Lib.hid hc2
  have HF2 := Lib.hid hf2
  clear h2 hc2 hf2 ht HT1 HC1 HF1
  go_wp2_with fail
  refine HT2.out.mono ?_
  rintro e w3 ⟨rfl, ht⟩
  have HT := Lib.hid (Tod.seq HC2.out HF2.out ht)
  clear ht HT2
  go_wp2
  go_ret
  rw [HM.out]
  exact ⟨rfl, HT.out⟩

set_option maxRecDepth 100000 in
set_option maxHeartbeats 2000000 in
theorem new_any (b : Nat) (F : List Nat) (d : ArcD) (w : World) (h : ArcF b d F w) (hlen : d.len ≤ 9000) (hok : OkA d) :
    Calls Try.prog 38 #[.pointer (some ⟨b, 0, none⟩)] w fun e w' => e = .returned (.string (newA d).2) ∧ Tod (ArcF b (newA d).1) F w w' := by
  obtain ⟨w3, hw3⟩ : ∃ w3, w3 = w.drew.drew.drew := ⟨_, rfl⟩
  have h3 : ArcF b d F w3 := by rw [hw3]; exact tod_drew (tod_drew (tod_drew h))
  have HU : Hid (∀ {d' : ArcD} {w' : World}, Tod (ArcF b d') F w3 w' → Tod (ArcF b d') F w w') := by
    intro d' w' ht
    rw [hw3] at ht
    exact ht.undrew.undrew.undrew
  have HM : Hid (newA d = if onceA d = d.c then (if ((d.l 2).length : Int) = d.c then oldA d 2 else roomA (oldA d 4).1 false) else if d.c ≤ allA d then roomA (if allA d = 2 * d.c then (oldA d 5).1 else d) false else (d, emp)) := rfl
  have hwl := ArcD.le_len d in2
  have hwl4 := ArcD.le_len d in4
  have hwl3 := ArcD.le_len d in3
  have hwl5 := ArcD.le_len d in5
  have HRD := Lib.hid (fun (d' : ArcD) (F' : List Nat) (w' : World) (hh : ArcF b d' F' w') (hl : d'.len ≤ 9000) => room_any b F' d' false w' hh (by omega))
  have HO2 := Lib.hid (old_len d in2)
  have HO4 := Lib.hid (Nat.le_trans (old_len d in4) hlen)
  have HO5 := Lib.hid (Nat.le_trans (old_len d in5) hlen)
  have HLN := Lib.hid hlen
  have hF := h3
  obtain ⟨v, hv, rfl⟩ := h
  obtain ⟨v3, hv3, hvF⟩ := h3
  have HT2 := Lib.hid (old_list b 2 in2 v3 d w3 hv3 (by omega))
  have HT4 := Lib.hid (old_list b 4 in4 v3 d w3 hv3 (by omega))
  have HT5 := Lib.hid (old_list b 5 in5 v3 d w3 hv3 (by omega))
  rw [← hvF] at HT2 HT4 HT5
  have HFF := Lib.hid hF
  obtain ⟨a, c, hc⟩ := hv.cells
  have q0 := hc.z
  have q2 := hc.l 2 in2
  have q3 := hc.l 3 in3
  have q4 := hc.l 4 in4
  have q5 := hc.l 5 in5
  have p0 : w3.cell? ⟨b, 0, none⟩ = some (.int .i64 d.c) := by rw [hw3]; exact q0
  have HW3 := Lib.hid hw3
  obtain ⟨hok1, hok2, _, _⟩ := hok
  have ho : onceA d = ((d.l 2).length : Int) + ((d.l 4).length : Int) := rfl
  have ha : allA d = onceA d + ((d.l 3).length : Int) + ((d.l 5).length : Int) := rfl
  rw [ho] at ha
  generalize newA d = M at *
  generalize onceA d = once at *
  generalize allA d = all at *
  generalize (d.l 2).length = n2 at *
  generalize (d.l 3).length = n3 at *
  generalize (d.l 4).length = n4 at *
  generalize (d.l 5).length = n5 at *
  generalize hdc : d.c = z at *
  have hdl := hlen
  have W1 : IntKind.i64.wrap ((n2 : Int) + (n4 : Int)) = once := by rw [ho]; exact i64_small _ (by omega) (by omega)
  have W2 : IntKind.i64.wrap (once + (n3 : Int)) = once + (n3 : Int) := i64_small _ (by omega) (by omega)
  have W3 : IntKind.i64.wrap (once + (n3 : Int) + (n5 : Int)) = all := by rw [ha, ← ho]; exact i64_small _ (by omega) (by omega)
  have W4 : IntKind.i64.wrap (2 * z) = 2 * z := i64_small _ (by omega) (by omega)
  clear hv hv3 hvF hc hlen hw3 hwl hwl3 hwl4 hwl5 ho ha hdc hF
  go_enter Try.func38, Try.ntmps38
  go_wp2_with fail
  refine wp_region_held_quiet (fun W => W.cell? ⟨b, 2, none⟩ = some (.slice (a 2) n2 (c 2)) ∧ W.cell? ⟨b, 4, none⟩ = some (.slice (a 4) n4 (c 4))) (by kernel_rfl) (by kernel_rfl) ⟨q2, q4⟩ ?_
  iterate 3 (apply wpHeld_step; (intro W hS K hK; obtain ⟨r2, r4⟩ := hS; go_simp; exact hK _ rfl))
  apply wpHeld_step
  · intro W hS K hK
    obtain ⟨r2, r4⟩ := hS
    go_simp
    exact ⟨_, callW (size_list b 2 _ _ _ W r2), hK _ rfl⟩
  iterate 3 (apply wpHeld_step; (intro W hS K hK; obtain ⟨r2, r4⟩ := hS; go_simp; exact hK _ rfl))
  apply wpHeld_step
  · intro W hS K hK
    obtain ⟨r2, r4⟩ := hS
    go_simp
    exact ⟨_, callW (size_list b 4 _ _ _ W r4), hK _ rfl⟩
  iterate 2 (apply wpHeld_step; (intro W hS K hK; obtain ⟨r2, r4⟩ := hS; go_simp; exact hK _ rfl))
  refine wpHeld_nil ?_
  go_wp2_with fail
  refine wp_region_held_quiet (fun W => W.cell? ⟨b, 3, none⟩ = some (.slice (a 3) n3 (c 3)) ∧ W.cell? ⟨b, 5, none⟩ = some (.slice (a 5) n5 (c 5))) (by kernel_rfl) (by kernel_rfl) ⟨q3, q5⟩ ?_
  iterate 4 (apply wpHeld_step; (intro W hS K hK; obtain ⟨r3, r5⟩ := hS; go_simp; exact hK _ rfl))
  apply wpHeld_step
  · intro W hS K hK
    obtain ⟨r3, r5⟩ := hS
    go_simp
    exact ⟨_, callW (size_list b 3 _ _ _ W r3), hK _ rfl⟩
  iterate 4 (apply wpHeld_step; (intro W hS K hK; obtain ⟨r3, r5⟩ := hS; go_simp; exact hK _ rfl))
  apply wpHeld_step
  · intro W hS K hK
    obtain ⟨r3, r5⟩ := hS
    go_simp
    exact ⟨_, callW (size_list b 5 _ _ _ W r5), hK _ rfl⟩
  iterate 2 (apply wpHeld_step; (intro W hS K hK; obtain ⟨r3, r5⟩ := hS; go_simp; exact hK _ rfl))
  refine wpHeld_nil ?_
  clear W1 W2 W3 q3 q4 q5
  by_cases h1 : once = z
  · subst h1
    have e1 : (once == once) = true := by simp
    go_wp2_with fail
    refine wp_region_held_quiet (fun W => W.cell? ⟨b, 0, none⟩ = some (.int .i64 once) ∧ W.cell? ⟨b, 2, none⟩ = some (.slice (a 2) n2 (c 2))) (by kernel_rfl) (by kernel_rfl) ⟨q0, q2⟩ ?_
    iterate 10 (apply wpHeld_step; (intro W hS K hK; obtain ⟨r0, r2⟩ := hS; go_simp; exact hK _ rfl))
    apply wpHeld_step
    · intro W hS K hK
      obtain ⟨r0, r2⟩ := hS
      go_simp
      exact ⟨_, callW (size_list b 2 _ _ _ W r2), hK _ rfl⟩
    iterate 7 (apply wpHeld_step; (intro W hS K hK; obtain ⟨r0, r2⟩ := hS; go_simp; exact hK _ rfl))
    refine wpHeld_nil ?_
    rw [← HW3.out]
    clear q0 q2
    by_cases h2 : (n2 : Int) = once
    · have e2 : ((n2 : Int) == once) = true := by simpa using h2
      have HMM : Hid (M = oldA d 2) := by show _ = _; rw [HM.out, if_pos trivial, if_pos h2]
      clear h2 HM
      go_wp2_with fail
      refine HT2.out.mono ?_
      rintro e w4 ⟨rfl, ht⟩
      have HT := Lib.hid (HU.out ht)
      clear ht
      go_wp2
      go_ret
      rw [HMM.out]
      exact ⟨rfl, HT.out⟩
    · have e2 : ((n2 : Int) == once) = false := by simpa using h2
      have HMM : Hid (M = roomA (oldA d 4).1 false) := by show _ = _; rw [HM.out, if_pos trivial, if_neg h2]
      clear h2 HM
      go_wp2_with fail
      refine HT4.out.mono ?_
      rintro e w4 ⟨rfl, ht⟩
      obtain ⟨F4, h4, hc4, hf4⟩ := ht
      have HR := Lib.hid (HRD.out _ F4 w4 h4 HO4.out)
      have HC4 := Lib.hid hc4
      have HF4 := Lib.hid hf4
      clear h4 hc4 hf4
      go_wp2_with fail
      refine HR.out.mono ?_
      rintro e w5 ⟨rfl, ht⟩
      have HT := Lib.hid (HU.out (Tod.seq HC4.out HF4.out ht))
      clear ht
      go_wp2
      go_ret
      rw [HMM.out]
      exact ⟨rfl, HT.out⟩
  · have e1 : (once == z) = false := by simpa using h1
    go_wp2_with fail
    refine wp_region_held_quiet (fun W => W.cell? ⟨b, 0, none⟩ = some (.int .i64 z)) (by kernel_rfl) (by kernel_rfl) q0 ?_
    iterate 18 (apply wpHeld_step; (intro W r0 K hK; go_simp; exact hK _ rfl))
    refine wpHeld_nil ?_
    rw [← HW3.out]
    clear q0 q2
    by_cases h2 : z ≤ all
    · have e2 : decide (z ≤ all) = true := decide_eq_true h2
      by_cases h3 : all = 2 * z
      · have e3 : (all == 2 * z) = true := by simpa using h3
        have HMM : Hid (M = roomA (oldA d 5).1 false) := by show _ = _; rw [HM.out, if_neg h1, if_pos h2, if_pos h3]
        clear h3 HM
        go_wp2_with fail
        refine HT5.out.mono ?_
        rintro e w4 ⟨rfl, ht⟩
        obtain ⟨F4, h4, hc4, hf4⟩ := ht
        have HR := Lib.hid (HRD.out _ F4 w4 h4 HO5.out)
        have HC4 := Lib.hid hc4
        have HF4 := Lib.hid hf4
        clear h4 hc4 hf4
        go_wp2_with fail
        refine HR.out.mono ?_
        rintro e w5 ⟨rfl, ht⟩
        have HT := Lib.hid (HU.out (Tod.seq HC4.out HF4.out ht))
        clear ht
        go_wp2
        go_ret
        rw [HMM.out]
        exact ⟨rfl, HT.out⟩
      · have e3 : (all == 2 * z) = false := by simpa using h3
        have HMM : Hid (M = roomA d false) := by show _ = _; rw [HM.out, if_neg h1, if_pos h2, if_neg h3]
        have HR := Lib.hid (HRD.out _ _ w3 HFF.out HLN.out)
        clear h3 HM
        go_wp2_with fail
        refine HR.out.mono ?_
        rintro e w5 ⟨rfl, ht⟩
        have HT := Lib.hid (HU.out ht)
        clear ht
        go_wp2
        go_ret
        rw [HMM.out]
        exact ⟨rfl, HT.out⟩
    · have e2 : decide (z ≤ all) = false := by simpa using h2
      have HMM : Hid (M = (d, emp)) := by show _ = _; rw [HM.out, if_neg h1, if_neg h2]
      have HT : Hid (Tod (ArcF b d) (fpA b v) w w3) := HU.out (Tod.same (fixed_arc b d) HFF.out (Below.refl _ _))
      clear h2 HM
      go_wp2
      go_ret
      rw [HMM.out]
      exact ⟨rfl, HT.out⟩
end Go.Proofs.Ytnfdcjchobonaaa
