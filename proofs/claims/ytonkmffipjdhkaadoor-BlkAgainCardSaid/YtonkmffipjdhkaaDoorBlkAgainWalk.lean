/-
  The walk of BlkAgain.
-/
import Derived.Test.YtonkmffipjdhkaaDoorBlkLive
import Derived.Test.YtonkmffipjdhkaaDoorBlkCp
import Derived.Test.YtonkmffipjdhkaaDoorMg33
import Derived.Test.YtonkmffipjdhkaaDoorMg0
namespace Go.Proofs.YtonkmffipjdhkaaDoor.blkAgain
open Go.RowKit

set_option maxRecDepth 100000 in
set_option maxHeartbeats 4000000 in
theorem walk (w : World) (hK : Kt w) (a0 : ByteArray) (w0 : a0.size ≤ 140737488351232) (a1 : ByteArray) (w1 : a1.size ≤ 140737488351232) (a2 : Int) (w2 : (Lit.int .i64 a2).wf = true) :
    Calls Tryd.prog 6 #[.string a0, .string a1, .int .i64 a2] w fun e w' => e = .returned (.bool true) ∧ Below w.heap.size w w' := by
  by_cases hg0 : 960 < a0.size
  · have d0 : decide ((960 : Int) < (a0.size : Int)) = true := by simp; omega
    go_enter Tryd.func6, Tryd.ntmps6
    go_wp2_with fail
    refine (live_any _ hK).mono ?_
    rintro e wl ⟨rfl, hb⟩
    have HL := Lib.hid hb
    clear hb
    go_wp2
    go_ret
    exact ⟨rfl, HL.out⟩
  have d0 : decide ((960 : Int) < (a0.size : Int)) = false := by simp; omega
  by_cases hg1 : 1024 < a1.size
  · have d1 : decide ((1024 : Int) < (a1.size : Int)) = true := by simp; omega
    go_enter Tryd.func6, Tryd.ntmps6
    go_wp2_with fail
    refine (live_any _ hK).mono ?_
    rintro e wl ⟨rfl, hb⟩
    have HL := Lib.hid hb
    clear hb
    go_wp2
    go_ret
    exact ⟨rfl, HL.out⟩
  have d1 : decide ((1024 : Int) < (a1.size : Int)) = false := by simp; omega
  by_cases hg2 : a2 < 0
  · have d2 : decide (a2 < 0) = true := by simp; omega
    go_enter Tryd.func6, Tryd.ntmps6
    go_wp2_with fail
    refine (live_any _ hK).mono ?_
    rintro e wl ⟨rfl, hb⟩
    have HL := Lib.hid hb
    clear hb
    go_wp2
    go_ret
    exact ⟨rfl, HL.out⟩
  have d2 : decide (a2 < 0) = false := by simp; omega
  by_cases hg3 : 1 < a2
  · have d3 : decide ((1 : Int) < a2) = true := by simp; omega
    go_enter Tryd.func6, Tryd.ntmps6
    go_wp2_with fail
    refine (live_any _ hK).mono ?_
    rintro e wl ⟨rfl, hb⟩
    have HL := Lib.hid hb
    clear hb
    go_wp2
    go_ret
    exact ⟨rfl, HL.out⟩
  have d3 : decide ((1 : Int) < a2) = false := by simp; omega
  by_cases hg4 : a1.size = a0.size
  · have d4 : ((a1.size : Int) == (a0.size : Int)) = true := by simp; omega
    go_enter Tryd.func6, Tryd.ntmps6
    go_wp2_with fail
    refine (live_any _ hK).mono ?_
    rintro e wl ⟨rfl, hb⟩
    have HL := Lib.hid hb
    clear hb
    go_wp2
    go_ret
    exact ⟨rfl, HL.out⟩
  have d4 : ((a1.size : Int) == (a0.size : Int)) = false := by simp; omega
  have HK := Lib.hid hK
  have HB := Lib.hid hK.pos
  obtain ⟨s, hs⟩ : ∃ s, s = a0 := ⟨_, rfl⟩
  subst hs
  have HS9 : Hid (s.size ≤ 960) := by show _ ≤ _; omega
  have HJ : Hid (a1.size ≤ 1024 ∧ a1.size ≠ s.size) := ⟨by omega, by omega⟩
  have ha1 : a2 = ((0 : Nat) : Int) ∨ a2 = ((1 : Nat) : Int) := by omega
  clear hK hg0 hg1 hg2 hg3 hg4 w0 w1 w2
  rcases ha1 with rfl | rfl
  · go_enter Tryd.func6, Tryd.ntmps6
    go_wp2_with fail
    refine (one_new w.heap.size fixed_no 20 20 _ (Nat.le_refl _) ⟨[], rfl, fun _ h => by cases h⟩ (by omega) (by omega)).mono ?_
    rintro e v1 ⟨b, rfl, ho, hb⟩
    have hx := (Below.refl v1.heap.size v1).alloc (Nat.le_refl _) (.cells #[.int .i64 0, .int .i64 7, .int .i64 1, .int .i64 9] 33)
    have BX := Lib.hid (Box.new v1 33 #[.int .i64 0, .int .i64 7, .int .i64 1, .int .i64 9])
    have H1 : Hid (One w.heap.size NoP b (newD 20 20) (v1.alloc (.cells #[.int .i64 0, .int .i64 7, .int .i64 1, .int .i64 9] 33))) := ho.keep fixed_no hx
    have L1 := Lib.hid (hb.trans (hx.mono ho.1))
    have S1 : Hid (SlP (v1.alloc (.cells #[.int .i64 0, .int .i64 7, .int .i64 1, .int .i64 9] 33)) (some ⟨v1.heap.size, 0, none⟩) CL) := fun _ => ⟨v1.heap.size, 0, rfl, BX.out.lt, fun i x hi => by
      match i, hi with
      | 0, hi => simp [CL] at hi; subst hi; exact ⟨BX.out.cell 0 _ rfl, BX.out.cell 1 _ rfl⟩
      | 1, hi => simp [CL] at hi; subst hi; exact ⟨BX.out.cell 2 _ rfl, BX.out.cell 3 _ rfl⟩⟩
    clear ho hb hx BX
    go_wp2_with fail
    generalize World.alloc v1 _ = v2 at *
    generalize v1.heap.size = g1 at *
    refine (bwrite_ok fixed_no H1.out HB.out (some ⟨g1, 0, none⟩) 2 CL s 3 (by decide) S1.out (by have := HS9.out; omega) (HK.out.below L1.out HB.out) (cp_ok HS9.out) (l_fresh CL cl_two (Rg.new 20)) (l_there CL (fun x hx => (cl_two x hx).1) (Rg.new 20)) (by decide)).mono ?_
    rintro e v3 ⟨a, c, rfl, ho, hb⟩
    have L3 := Lib.hid (L1.out.trans hb)
    obtain ⟨bb, off, rfl, _⟩ := ho.row.get 0 (by decide)
    have H3 : Hid (One w.heap.size (Both NoP (LocP (some ⟨bb, off, none⟩) CL)) b (C1 s) v3) := ho
    clear ho hb H1 L1 S1
    obtain ⟨sh, hsh⟩ : ∃ sh, sh = sha s := ⟨_, rfl⟩
    have hpv : ptrV (some ⟨bb, off, none⟩) c (CP s) = .agg #[.slice (some ⟨bb, off, none⟩) 2 c, .int .i64 s.size, .int .i64 3, .string sh] := by rw [hsh]; rfl
    have HPV := Lib.hid hpv
    rw [show ptrV (some ⟨bb, off, none⟩) c (wrP CL s 3) = .agg #[.slice (some ⟨bb, off, none⟩) 2 c, .int .i64 s.size, .int .i64 3, .string sh] from hpv]
    clear hsh hpv
    have ho4 := (H3.out.addBox (fixed_both fixed_no (fixed_loc (some ⟨bb, off, none⟩) CL)) 25 #[.slice (some ⟨bb, off, none⟩) 2 c, .int .i64 s.size, .int .i64 3, .string sh]).swapR
    have L4 := Lib.hid (L3.out.trans (((Below.refl v3.heap.size v3).alloc (Nat.le_refl _) (.cells #[.slice (some ⟨bb, off, none⟩) 2 c, .int .i64 s.size, .int .i64 3, .string sh] 25)).mono H3.out.1))
    have H4 := Lib.hid ho4
    clear ho4 H3 L3
    have k0 := H4.out.drop.box.cell 0 _ rfl
    go_wp2_with fail
    generalize World.alloc v3 _ = v4 at *
    generalize v3.heap.size = g at *
    clear k0
    have P1 := Lib.hid (fixed_both fixed_no (fixed_box g 25 #[.slice (some ⟨bb, off, none⟩) 2 c, .int .i64 s.size, .int .i64 3, .string sh]))
    have PF := Lib.hid (fixed_both P1.out (fixed_loc (some ⟨bb, off, none⟩) CL))
    refine (one_flush PF.out H4.out (by rw [(c_rg1 HS9.out).1]; simp)).mono ?_
    rintro e v5 ⟨rfl, ho, hb⟩
    have H5 : Hid (One w.heap.size (Both (Both NoP (BoxP g 25 #[.slice (some ⟨bb, off, none⟩) 2 c, .int .i64 s.size, .int .i64 3, .string sh])) (LocP (some ⟨bb, off, none⟩) CL)) b (C2 s) v5) := ho
    have L5 := Lib.hid (L4.out.trans hb)
    clear ho hb H4 L4
    have k0 := H5.out.drop.box.cell 0 _ rfl
    have k1 := H5.out.drop.box.cell 1 _ rfl
    have k2 := H5.out.drop.box.cell 2 _ rfl
    have k3 := H5.out.drop.box.cell 3 _ rfl
    obtain ⟨_, _, e0, _, r00, r01⟩ := H5.out.row.get 0 (by decide)
    injection e0 with e0
    injection e0 with e0 e1
    subst e0 e1
    obtain ⟨_, _, e0, _, r10, r11⟩ := H5.out.row.get 1 (by decide)
    injection e0 with e0
    injection e0 with e0 e1
    subst e0 e1
    simp only [CL, List.getElem_cons_zero, List.getElem_cons_succ, Nat.zero_mul, Nat.one_mul, Nat.add_zero] at r00 r01 r10 r11
    go_wp2_with fail
    refine (one_spoil PF.out H5.out (0, 7) a1 (by rw [(c_rg2 HS9.out).2]; simp)).mono ?_
    rintro e v6 ⟨rfl, ho, hb⟩
    have H6 : Hid (One w.heap.size (Both (Both NoP (BoxP g 25 #[.slice (some ⟨bb, off, none⟩) 2 c, .int .i64 s.size, .int .i64 3, .string sh])) (LocP (some ⟨bb, off, none⟩) CL)) b (C3 s a1 0) v6) := ho
    have L6 := Lib.hid (L5.out.trans hb)
    clear ho hb H5 L5 k0 k1 k2 k3 r00 r01 r10 r11
    have CB := Lib.hid (c_bad HS9.out HJ.out.1 HJ.out.2 0 (.inl rfl) (c_rg3 HS9.out HJ.out.1 0 (.inl rfl)).1)
    obtain ⟨T, hT, hT0, hT1, hTs⟩ := CB.out.2.2.2.2.1
    have CG := Lib.hid (c_good HS9.out hT hT0 hT1 hTs)
    have CC := Lib.hid (c_crash hT)
    have CD := Lib.hid (c_bad HS9.out HJ.out.1 HJ.out.2 0 (.inl rfl) (c_crash hT).1)
    clear hT hT0 hT1 hTs
    have W4 : Hid ((C4 s a1 0).waits = [(CL.getD 0 (0, 0), s)]) := by show _ = _; rw [show C4 s a1 0 = writeD (C3 s a1 0) (CL.getD 0 (0, 0)) s from rfl, CB.out.2.2.2.2.2, (c_rg3 HS9.out HJ.out.1 0 (.inl rfl)).2]; rfl
    have k0 := H6.out.drop.box.cell 0 _ rfl
    have k1 := H6.out.drop.box.cell 1 _ rfl
    have k2 := H6.out.drop.box.cell 2 _ rfl
    have k3 := H6.out.drop.box.cell 3 _ rfl
    have hmd := omend P1.out (p := CP s) H6.out HB.out (HK.out.below L6.out HB.out) c (by show CL.length ≤ 1000; decide) (fun l => Nat.le_trans (CB.out.2.2.2.1 l) (by decide)) s 1 CB.out.1 (fun i hi l => Nat.le_trans (CB.out.2.2.1 i hi l) (by decide)) (by rw [(c_rg3 HS9.out HJ.out.1 0 (.inl rfl)).2]; simp)
    rw [HPV.out, show mdK (CP s) s (C3 s a1 0) (CP s).locs.length = (C4 s a1 0, 1) from CB.out.2.1] at hmd
    go_wp2_with fail
    refine (hmd).mono ?_
    rintro e v7 ⟨rfl, ho, hb⟩
    have H7 : Hid (One w.heap.size (Both (Both NoP (BoxP g 25 #[.slice (some ⟨bb, off, none⟩) 2 c, .int .i64 s.size, .int .i64 3, .string sh])) (LocP (some ⟨bb, off, none⟩) CL)) b (C4 s a1 0) v7) := ho
    have L7 := Lib.hid (L6.out.trans hb)
    clear ho hb H6 L6 hmd k0 k1 k2 k3
    have k0 := H7.out.drop.box.cell 0 _ rfl
    have k1 := H7.out.drop.box.cell 1 _ rfl
    have k2 := H7.out.drop.box.cell 2 _ rfl
    have k3 := H7.out.drop.box.cell 3 _ rfl
    have hmd := omend P1.out (p := CP s) (d := C4 s a1 0) H7.out HB.out (HK.out.below L7.out HB.out) c (by show CL.length ≤ 1000; decide) (fun l => Nat.le_trans (CG.out.2.2.2 l) (by decide)) s 0 CG.out.1 (fun i hi l => ?_) (by rw [W4.out]; simp)
    rotate_left
    · match i, hi with
      | 0, _ => exact Nat.le_trans (CG.out.2.2.2 l) (by decide)
      | 1, _ => rw [show mdK (CP s) s (C4 s a1 0) 1 = (C4 s a1 0, 0) from CG.out.2.2.1]; exact Nat.le_trans (CG.out.2.2.2 l) (by decide)
    rw [HPV.out, show mdK (CP s) s (C4 s a1 0) (CP s).locs.length = (C4 s a1 0, 0) from CG.out.2.1] at hmd
    go_wp2_with fail
    refine (hmd).mono ?_
    rintro e v8 ⟨rfl, ho, hb⟩
    have H8 : Hid (One w.heap.size (Both (Both NoP (BoxP g 25 #[.slice (some ⟨bb, off, none⟩) 2 c, .int .i64 s.size, .int .i64 3, .string sh])) (LocP (some ⟨bb, off, none⟩) CL)) b (C4 s a1 0) v8) := ho
    have L8 := Lib.hid (L7.out.trans hb)
    clear ho hb H7 L7 hmd k0 k1 k2 k3
    go_wp2_with fail
    refine (one_waits PF.out H8.out (by rw [W4.out]; simp)).mono ?_
    rintro e v9 ⟨vw, rfl, hp, ho, hb⟩
    have H9 := Lib.hid ho
    have L9 := Lib.hid (L8.out.trans hb)
    obtain ⟨wa, wc, rfl, _⟩ := hp.view
    rw [show ((C4 s a1 0).waits.map (·.1)).length = 1 from by rw [W4.out]; rfl]
    clear hp ho hb H8 L8
    go_wp2_with fail
    refine (one_crash PF.out H9.out none 0 [] Sl.nil (by rw [W4.out]; simp) (by simp)).mono ?_
    rintro e v10 ⟨rfl, ho, hb⟩
    have H10 : Hid (One w.heap.size (Both (Both NoP (BoxP g 25 #[.slice (some ⟨bb, off, none⟩) 2 c, .int .i64 s.size, .int .i64 3, .string sh])) (LocP (some ⟨bb, off, none⟩) CL)) b (crashD (C4 s a1 0) []) v10) := ho
    have L10 := Lib.hid (L9.out.trans hb)
    clear ho hb H9 L9 
    have k0 := H10.out.drop.box.cell 0 _ rfl
    have k1 := H10.out.drop.box.cell 1 _ rfl
    have k2 := H10.out.drop.box.cell 2 _ rfl
    have k3 := H10.out.drop.box.cell 3 _ rfl
    have hmd := omend P1.out (p := CP s) (d := crashD (C4 s a1 0) []) H10.out HB.out (HK.out.below L10.out HB.out) c (by show CL.length ≤ 1000; decide) (fun l => Nat.le_trans (CD.out.2.2.2.1 l) (by decide)) s 1 CD.out.1 (fun i hi l => Nat.le_trans (CD.out.2.2.1 i hi l) (by decide)) (by rw [show (crashD (C4 s a1 0) []).waits = [] from CC.out.2]; simp)
    rw [HPV.out, show mdK (CP s) s (crashD (C4 s a1 0) []) (CP s).locs.length = (writeD (crashD (C4 s a1 0) []) (CL.getD 0 (0, 0)) s, 1) from CD.out.2.1] at hmd
    go_wp2_with fail
    refine (hmd).mono ?_
    rintro e v11 ⟨rfl, ho, hb⟩
    have H11 : Hid (One w.heap.size (Both (Both NoP (BoxP g 25 #[.slice (some ⟨bb, off, none⟩) 2 c, .int .i64 s.size, .int .i64 3, .string sh])) (LocP (some ⟨bb, off, none⟩) CL)) b (writeD (crashD (C4 s a1 0) []) (CL.getD 0 (0, 0)) s) v11) := ho
    have L11 := Lib.hid (L10.out.trans hb)
    clear ho hb H10 L10 hmd k0 k1 k2 k3
    go_wp2_with fail
    refine (live_any _ (HK.out.below L11.out HB.out)).mono ?_
    rintro e wl ⟨rfl, hb⟩
    have HL := Lib.hid (L11.out.trans (hb.mono L11.out.size))
    clear hb
    go_wp2
    go_ret
    exact ⟨rfl, HL.out⟩
  · go_enter Tryd.func6, Tryd.ntmps6
    go_wp2_with fail
    refine (one_new w.heap.size fixed_no 20 20 _ (Nat.le_refl _) ⟨[], rfl, fun _ h => by cases h⟩ (by omega) (by omega)).mono ?_
    rintro e v1 ⟨b, rfl, ho, hb⟩
    have hx := (Below.refl v1.heap.size v1).alloc (Nat.le_refl _) (.cells #[.int .i64 0, .int .i64 7, .int .i64 1, .int .i64 9] 33)
    have BX := Lib.hid (Box.new v1 33 #[.int .i64 0, .int .i64 7, .int .i64 1, .int .i64 9])
    have H1 : Hid (One w.heap.size NoP b (newD 20 20) (v1.alloc (.cells #[.int .i64 0, .int .i64 7, .int .i64 1, .int .i64 9] 33))) := ho.keep fixed_no hx
    have L1 := Lib.hid (hb.trans (hx.mono ho.1))
    have S1 : Hid (SlP (v1.alloc (.cells #[.int .i64 0, .int .i64 7, .int .i64 1, .int .i64 9] 33)) (some ⟨v1.heap.size, 0, none⟩) CL) := fun _ => ⟨v1.heap.size, 0, rfl, BX.out.lt, fun i x hi => by
      match i, hi with
      | 0, hi => simp [CL] at hi; subst hi; exact ⟨BX.out.cell 0 _ rfl, BX.out.cell 1 _ rfl⟩
      | 1, hi => simp [CL] at hi; subst hi; exact ⟨BX.out.cell 2 _ rfl, BX.out.cell 3 _ rfl⟩⟩
    clear ho hb hx BX
    go_wp2_with fail
    generalize World.alloc v1 _ = v2 at *
    generalize v1.heap.size = g1 at *
    refine (bwrite_ok fixed_no H1.out HB.out (some ⟨g1, 0, none⟩) 2 CL s 3 (by decide) S1.out (by have := HS9.out; omega) (HK.out.below L1.out HB.out) (cp_ok HS9.out) (l_fresh CL cl_two (Rg.new 20)) (l_there CL (fun x hx => (cl_two x hx).1) (Rg.new 20)) (by decide)).mono ?_
    rintro e v3 ⟨a, c, rfl, ho, hb⟩
    have L3 := Lib.hid (L1.out.trans hb)
    obtain ⟨bb, off, rfl, _⟩ := ho.row.get 0 (by decide)
    have H3 : Hid (One w.heap.size (Both NoP (LocP (some ⟨bb, off, none⟩) CL)) b (C1 s) v3) := ho
    clear ho hb H1 L1 S1
    obtain ⟨sh, hsh⟩ : ∃ sh, sh = sha s := ⟨_, rfl⟩
    have hpv : ptrV (some ⟨bb, off, none⟩) c (CP s) = .agg #[.slice (some ⟨bb, off, none⟩) 2 c, .int .i64 s.size, .int .i64 3, .string sh] := by rw [hsh]; rfl
    have HPV := Lib.hid hpv
    rw [show ptrV (some ⟨bb, off, none⟩) c (wrP CL s 3) = .agg #[.slice (some ⟨bb, off, none⟩) 2 c, .int .i64 s.size, .int .i64 3, .string sh] from hpv]
    clear hsh hpv
    have ho4 := (H3.out.addBox (fixed_both fixed_no (fixed_loc (some ⟨bb, off, none⟩) CL)) 25 #[.slice (some ⟨bb, off, none⟩) 2 c, .int .i64 s.size, .int .i64 3, .string sh]).swapR
    have L4 := Lib.hid (L3.out.trans (((Below.refl v3.heap.size v3).alloc (Nat.le_refl _) (.cells #[.slice (some ⟨bb, off, none⟩) 2 c, .int .i64 s.size, .int .i64 3, .string sh] 25)).mono H3.out.1))
    have H4 := Lib.hid ho4
    clear ho4 H3 L3
    have k0 := H4.out.drop.box.cell 0 _ rfl
    go_wp2_with fail
    generalize World.alloc v3 _ = v4 at *
    generalize v3.heap.size = g at *
    clear k0
    have P1 := Lib.hid (fixed_both fixed_no (fixed_box g 25 #[.slice (some ⟨bb, off, none⟩) 2 c, .int .i64 s.size, .int .i64 3, .string sh]))
    have PF := Lib.hid (fixed_both P1.out (fixed_loc (some ⟨bb, off, none⟩) CL))
    refine (one_flush PF.out H4.out (by rw [(c_rg1 HS9.out).1]; simp)).mono ?_
    rintro e v5 ⟨rfl, ho, hb⟩
    have H5 : Hid (One w.heap.size (Both (Both NoP (BoxP g 25 #[.slice (some ⟨bb, off, none⟩) 2 c, .int .i64 s.size, .int .i64 3, .string sh])) (LocP (some ⟨bb, off, none⟩) CL)) b (C2 s) v5) := ho
    have L5 := Lib.hid (L4.out.trans hb)
    clear ho hb H4 L4
    have k0 := H5.out.drop.box.cell 0 _ rfl
    have k1 := H5.out.drop.box.cell 1 _ rfl
    have k2 := H5.out.drop.box.cell 2 _ rfl
    have k3 := H5.out.drop.box.cell 3 _ rfl
    obtain ⟨_, _, e0, _, r00, r01⟩ := H5.out.row.get 0 (by decide)
    injection e0 with e0
    injection e0 with e0 e1
    subst e0 e1
    obtain ⟨_, _, e0, _, r10, r11⟩ := H5.out.row.get 1 (by decide)
    injection e0 with e0
    injection e0 with e0 e1
    subst e0 e1
    simp only [CL, List.getElem_cons_zero, List.getElem_cons_succ, Nat.zero_mul, Nat.one_mul, Nat.add_zero] at r00 r01 r10 r11
    go_wp2_with fail
    refine (one_spoil PF.out H5.out (1, 9) a1 (by rw [(c_rg2 HS9.out).2]; simp)).mono ?_
    rintro e v6 ⟨rfl, ho, hb⟩
    have H6 : Hid (One w.heap.size (Both (Both NoP (BoxP g 25 #[.slice (some ⟨bb, off, none⟩) 2 c, .int .i64 s.size, .int .i64 3, .string sh])) (LocP (some ⟨bb, off, none⟩) CL)) b (C3 s a1 1) v6) := ho
    have L6 := Lib.hid (L5.out.trans hb)
    clear ho hb H5 L5 k0 k1 k2 k3 r00 r01 r10 r11
    have CB := Lib.hid (c_bad HS9.out HJ.out.1 HJ.out.2 1 (.inr rfl) (c_rg3 HS9.out HJ.out.1 1 (.inr rfl)).1)
    obtain ⟨T, hT, hT0, hT1, hTs⟩ := CB.out.2.2.2.2.1
    have CG := Lib.hid (c_good HS9.out hT hT0 hT1 hTs)
    have CC := Lib.hid (c_crash hT)
    have CD := Lib.hid (c_bad HS9.out HJ.out.1 HJ.out.2 1 (.inr rfl) (c_crash hT).1)
    clear hT hT0 hT1 hTs
    have W4 : Hid ((C4 s a1 1).waits = [(CL.getD 1 (0, 0), s)]) := by show _ = _; rw [show C4 s a1 1 = writeD (C3 s a1 1) (CL.getD 1 (0, 0)) s from rfl, CB.out.2.2.2.2.2, (c_rg3 HS9.out HJ.out.1 1 (.inr rfl)).2]; rfl
    have k0 := H6.out.drop.box.cell 0 _ rfl
    have k1 := H6.out.drop.box.cell 1 _ rfl
    have k2 := H6.out.drop.box.cell 2 _ rfl
    have k3 := H6.out.drop.box.cell 3 _ rfl
    have hmd := omend P1.out (p := CP s) H6.out HB.out (HK.out.below L6.out HB.out) c (by show CL.length ≤ 1000; decide) (fun l => Nat.le_trans (CB.out.2.2.2.1 l) (by decide)) s 0 CB.out.1 (fun i hi l => Nat.le_trans (CB.out.2.2.1 i hi l) (by decide)) (by rw [(c_rg3 HS9.out HJ.out.1 1 (.inr rfl)).2]; simp)
    rw [HPV.out, show mdK (CP s) s (C3 s a1 1) (CP s).locs.length = (C4 s a1 1, 1) from CB.out.2.1] at hmd
    go_wp2_with fail
    refine (hmd).mono ?_
    rintro e v7 ⟨rfl, ho, hb⟩
    have H7 : Hid (One w.heap.size (Both (Both NoP (BoxP g 25 #[.slice (some ⟨bb, off, none⟩) 2 c, .int .i64 s.size, .int .i64 3, .string sh])) (LocP (some ⟨bb, off, none⟩) CL)) b (C4 s a1 1) v7) := ho
    have L7 := Lib.hid (L6.out.trans hb)
    clear ho hb H6 L6 hmd k0 k1 k2 k3
    have k0 := H7.out.drop.box.cell 0 _ rfl
    have k1 := H7.out.drop.box.cell 1 _ rfl
    have k2 := H7.out.drop.box.cell 2 _ rfl
    have k3 := H7.out.drop.box.cell 3 _ rfl
    have hmd := omend P1.out (p := CP s) (d := C4 s a1 1) H7.out HB.out (HK.out.below L7.out HB.out) c (by show CL.length ≤ 1000; decide) (fun l => Nat.le_trans (CG.out.2.2.2 l) (by decide)) s 0 CG.out.1 (fun i hi l => ?_) (by rw [W4.out]; simp)
    rotate_left
    · match i, hi with
      | 0, _ => exact Nat.le_trans (CG.out.2.2.2 l) (by decide)
      | 1, _ => rw [show mdK (CP s) s (C4 s a1 1) 1 = (C4 s a1 1, 0) from CG.out.2.2.1]; exact Nat.le_trans (CG.out.2.2.2 l) (by decide)
    rw [HPV.out, show mdK (CP s) s (C4 s a1 1) (CP s).locs.length = (C4 s a1 1, 0) from CG.out.2.1] at hmd
    go_wp2_with fail
    refine (hmd).mono ?_
    rintro e v8 ⟨rfl, ho, hb⟩
    have H8 : Hid (One w.heap.size (Both (Both NoP (BoxP g 25 #[.slice (some ⟨bb, off, none⟩) 2 c, .int .i64 s.size, .int .i64 3, .string sh])) (LocP (some ⟨bb, off, none⟩) CL)) b (C4 s a1 1) v8) := ho
    have L8 := Lib.hid (L7.out.trans hb)
    clear ho hb H7 L7 hmd k0 k1 k2 k3
    go_wp2_with fail
    refine (one_waits PF.out H8.out (by rw [W4.out]; simp)).mono ?_
    rintro e v9 ⟨vw, rfl, hp, ho, hb⟩
    have H9 := Lib.hid ho
    have L9 := Lib.hid (L8.out.trans hb)
    obtain ⟨wa, wc, rfl, _⟩ := hp.view
    rw [show ((C4 s a1 1).waits.map (·.1)).length = 1 from by rw [W4.out]; rfl]
    clear hp ho hb H8 L8
    go_wp2_with fail
    refine (one_crash PF.out H9.out none 0 [] Sl.nil (by rw [W4.out]; simp) (by simp)).mono ?_
    rintro e v10 ⟨rfl, ho, hb⟩
    have H10 : Hid (One w.heap.size (Both (Both NoP (BoxP g 25 #[.slice (some ⟨bb, off, none⟩) 2 c, .int .i64 s.size, .int .i64 3, .string sh])) (LocP (some ⟨bb, off, none⟩) CL)) b (crashD (C4 s a1 1) []) v10) := ho
    have L10 := Lib.hid (L9.out.trans hb)
    clear ho hb H9 L9 
    have k0 := H10.out.drop.box.cell 0 _ rfl
    have k1 := H10.out.drop.box.cell 1 _ rfl
    have k2 := H10.out.drop.box.cell 2 _ rfl
    have k3 := H10.out.drop.box.cell 3 _ rfl
    have hmd := omend P1.out (p := CP s) (d := crashD (C4 s a1 1) []) H10.out HB.out (HK.out.below L10.out HB.out) c (by show CL.length ≤ 1000; decide) (fun l => Nat.le_trans (CD.out.2.2.2.1 l) (by decide)) s 0 CD.out.1 (fun i hi l => Nat.le_trans (CD.out.2.2.1 i hi l) (by decide)) (by rw [show (crashD (C4 s a1 1) []).waits = [] from CC.out.2]; simp)
    rw [HPV.out, show mdK (CP s) s (crashD (C4 s a1 1) []) (CP s).locs.length = (writeD (crashD (C4 s a1 1) []) (CL.getD 1 (0, 0)) s, 1) from CD.out.2.1] at hmd
    go_wp2_with fail
    refine (hmd).mono ?_
    rintro e v11 ⟨rfl, ho, hb⟩
    have H11 : Hid (One w.heap.size (Both (Both NoP (BoxP g 25 #[.slice (some ⟨bb, off, none⟩) 2 c, .int .i64 s.size, .int .i64 3, .string sh])) (LocP (some ⟨bb, off, none⟩) CL)) b (writeD (crashD (C4 s a1 1) []) (CL.getD 1 (0, 0)) s) v11) := ho
    have L11 := Lib.hid (L10.out.trans hb)
    clear ho hb H10 L10 hmd k0 k1 k2 k3
    go_wp2_with fail
    refine (live_any _ (HK.out.below L11.out HB.out)).mono ?_
    rintro e wl ⟨rfl, hb⟩
    have HL := Lib.hid (L11.out.trans (hb.mono L11.out.size))
    clear hb
    go_wp2
    go_ret
    exact ⟨rfl, HL.out⟩
end Go.Proofs.YtonkmffipjdhkaaDoor.blkAgain
