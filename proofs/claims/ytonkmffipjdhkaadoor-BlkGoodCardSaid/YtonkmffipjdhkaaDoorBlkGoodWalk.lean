/-
  The walk of BlkGood.
-/
import Derived.Test.YtonkmffipjdhkaaDoorBlkLive
import Derived.Test.YtonkmffipjdhkaaDoorBlkCp
import Derived.Test.YtonkmffipjdhkaaDoorMg41
import Derived.Test.YtonkmffipjdhkaaDoorMg0
namespace Go.Proofs.YtonkmffipjdhkaaDoor.blkGood
open Go.RowKit

set_option maxRecDepth 100000 in
set_option maxHeartbeats 4000000 in
theorem walk (w : World) (hK : Kt w) (a0 : ByteArray) (w0 : a0.size ≤ 140737488351232) (a1 : ByteArray) (w1 : a1.size ≤ 140737488351232) (a2 : ByteArray) (w2 : a2.size ≤ 140737488351232) :
    Calls Tryd.prog 5 #[.string a0, .string a1, .string a2] w fun e w' => e = .returned (.bool true) ∧ Below w.heap.size w w' := by
  by_cases hg0 : 960 < a0.size
  · have d0 : decide ((960 : Int) < (a0.size : Int)) = true := by simp; omega
    go_enter Tryd.func5, Tryd.ntmps5
    go_wp2_with fail
    refine (live_any _ hK).mono ?_
    rintro e wl ⟨rfl, hb⟩
    have HL := Lib.hid hb
    clear hb
    go_wp2
    go_ret
    exact ⟨rfl, HL.out⟩
  have d0 : decide ((960 : Int) < (a0.size : Int)) = false := by simp; omega
  by_cases hg1 : 1024 < a1.size
  · have d1 : decide ((1024 : Int) < (a1.size : Int)) = true := by simp; omega
    go_enter Tryd.func5, Tryd.ntmps5
    go_wp2_with fail
    refine (live_any _ hK).mono ?_
    rintro e wl ⟨rfl, hb⟩
    have HL := Lib.hid hb
    clear hb
    go_wp2
    go_ret
    exact ⟨rfl, HL.out⟩
  have d1 : decide ((1024 : Int) < (a1.size : Int)) = false := by simp; omega
  by_cases hg2 : 1024 < a2.size
  · have d2 : decide ((1024 : Int) < (a2.size : Int)) = true := by simp; omega
    go_enter Tryd.func5, Tryd.ntmps5
    go_wp2_with fail
    refine (live_any _ hK).mono ?_
    rintro e wl ⟨rfl, hb⟩
    have HL := Lib.hid hb
    clear hb
    go_wp2
    go_ret
    exact ⟨rfl, HL.out⟩
  have d2 : decide ((1024 : Int) < (a2.size : Int)) = false := by simp; omega
  have HK := Lib.hid hK
  have HB := Lib.hid hK.pos
  obtain ⟨s, hs⟩ : ∃ s, s = a0 := ⟨_, rfl⟩
  subst hs
  have HS9 : Hid (s.size ≤ 960) := by show _ ≤ _; omega
  have HJ : Hid (a1.size ≤ 1024 ∧ a2.size ≤ 1024) := ⟨by omega, by omega⟩
  have CW := Lib.hid (c_two HS9.out HJ.out.1 HJ.out.2)
  have CR := Lib.hid (c_rg5 HS9.out HJ.out.1 HJ.out.2).2
  clear hK hg0 hg1 hg2 w0 w1 w2
  cases hb0 : alikeB a1 s
  · have HB0 := Lib.hid hb0
    clear hb0
    cases hb1 : alikeB a2 s
    · have HB1 := Lib.hid hb1
      clear hb1
      go_enter Tryd.func5, Tryd.ntmps5
      go_wp2_with fail
      refine (one_new w.heap.size fixed_no 20 20 _ (Nat.le_refl _) ⟨[], rfl, fun _ h => by cases h⟩ (by omega) (by omega)).mono ?_
      rintro e v1 ⟨b, rfl, ho, hb⟩
      have hx := (Below.refl v1.heap.size v1).alloc (Nat.le_refl _) (.cells #[.int .i64 0, .int .i64 7, .int .i64 1, .int .i64 9] 33)
      have BX := Lib.hid (Box.new v1 33 #[.int .i64 0, .int .i64 7, .int .i64 1, .int .i64 9])
      have H1 : Hid (One w.heap.size NoP b (newD 20 20) (v1.alloc (.cells #[.int .i64 0, .int .i64 7, .int .i64 1, .int .i64 9] 33))) := ho.keep fixed_no hx
      have L1 := Lib.hid (hb.trans (hx.mono ho.1))
      have S1 : Hid (SlP (v1.alloc (.cells #[.int .i64 0, .int .i64 7, .int .i64 1, .int .i64 9] 33)) (some ⟨v1.heap.size, 0, none⟩) CL) := fun _ => ⟨v1.heap.size, 0, rfl, BX.out.lt, fun i x hi => by
        match i, hi with
        | 0, hi => simp [CL] at hi; subst hi; exact ⟨BX.out.cell 0 _ rfl, BX.out.cell 1 _ rfl⟩
        | 1, hi => simp [CL] at hi; subst hi; exact ⟨BX.out.cell 2 _ rfl, BX.out.cell 3 _ rfl⟩⟩
      clear ho hb hx BX
      go_wp2_with fail
      generalize World.alloc v1 _ = v2 at *
      generalize v1.heap.size = g1 at *
      refine (bwrite_ok fixed_no H1.out HB.out (some ⟨g1, 0, none⟩) 2 CL s 3 (by decide) S1.out (by have := HS9.out; omega) (HK.out.below L1.out HB.out) (cp_ok HS9.out) (l_fresh CL cl_two (Rg.new 20)) (l_there CL (fun x hx => (cl_two x hx).1) (Rg.new 20)) (by decide)).mono ?_
      rintro e v3 ⟨a, c, rfl, ho, hb⟩
      have L3 := Lib.hid (L1.out.trans hb)
      obtain ⟨bb, off, rfl, _⟩ := ho.row.get 0 (by decide)
      have H3 : Hid (One w.heap.size (Both NoP (LocP (some ⟨bb, off, none⟩) CL)) b (C1 s) v3) := ho
      clear ho hb H1 L1 S1
      obtain ⟨sh, hsh⟩ : ∃ sh, sh = sha s := ⟨_, rfl⟩
      have hpv : ptrV (some ⟨bb, off, none⟩) c (CP s) = .agg #[.slice (some ⟨bb, off, none⟩) 2 c, .int .i64 s.size, .int .i64 3, .string sh] := by rw [hsh]; rfl
      have HPV := Lib.hid hpv
      rw [show ptrV (some ⟨bb, off, none⟩) c (wrP CL s 3) = .agg #[.slice (some ⟨bb, off, none⟩) 2 c, .int .i64 s.size, .int .i64 3, .string sh] from hpv]
      clear hsh hpv
      have ho4 := (H3.out.addBox (fixed_both fixed_no (fixed_loc (some ⟨bb, off, none⟩) CL)) 25 #[.slice (some ⟨bb, off, none⟩) 2 c, .int .i64 s.size, .int .i64 3, .string sh]).swapR
      have L4 := Lib.hid (L3.out.trans (((Below.refl v3.heap.size v3).alloc (Nat.le_refl _) (.cells #[.slice (some ⟨bb, off, none⟩) 2 c, .int .i64 s.size, .int .i64 3, .string sh] 25)).mono H3.out.1))
      have H4 := Lib.hid ho4
      clear ho4 H3 L3
      have k0 := H4.out.drop.box.cell 0 _ rfl
      go_wp2_with fail
      generalize World.alloc v3 _ = v4 at *
      generalize v3.heap.size = g at *
      clear k0
      have P1 := Lib.hid (fixed_both fixed_no (fixed_box g 25 #[.slice (some ⟨bb, off, none⟩) 2 c, .int .i64 s.size, .int .i64 3, .string sh]))
      have PF := Lib.hid (fixed_both P1.out (fixed_loc (some ⟨bb, off, none⟩) CL))
      refine (one_flush PF.out H4.out (by rw [(c_rg1 HS9.out).1]; simp)).mono ?_
      rintro e v5 ⟨rfl, ho, hb⟩
      have H5 : Hid (One w.heap.size (Both (Both NoP (BoxP g 25 #[.slice (some ⟨bb, off, none⟩) 2 c, .int .i64 s.size, .int .i64 3, .string sh])) (LocP (some ⟨bb, off, none⟩) CL)) b (C2 s) v5) := ho
      have L5 := Lib.hid (L4.out.trans hb)
      clear ho hb H4 L4
      go_wp2_with fail
      refine (one_spoil PF.out H5.out (0, 7) a1 (by rw [(c_rg2 HS9.out).2]; simp)).mono ?_
      rintro e v6 ⟨rfl, ho, hb⟩
      have H6 : Hid (One w.heap.size (Both (Both NoP (BoxP g 25 #[.slice (some ⟨bb, off, none⟩) 2 c, .int .i64 s.size, .int .i64 3, .string sh])) (LocP (some ⟨bb, off, none⟩) CL)) b (spoilD (C2 s) (0, 7) a1) v6) := ho
      have L6 := Lib.hid (L5.out.trans hb)
      clear ho hb H5 L5 
      go_wp2_with fail
      refine (one_spoil PF.out H6.out (1, 9) a2 (by rw [CR.out.1]; simp)).mono ?_
      rintro e v7 ⟨rfl, ho, hb⟩
      have H7 : Hid (One w.heap.size (Both (Both NoP (BoxP g 25 #[.slice (some ⟨bb, off, none⟩) 2 c, .int .i64 s.size, .int .i64 3, .string sh])) (LocP (some ⟨bb, off, none⟩) CL)) b (C5 s a1 a2) v7) := ho
      have L7 := Lib.hid (L6.out.trans hb)
      clear ho hb H6 L6 
      have k0 := H7.out.drop.box.cell 0 _ rfl
      have k1 := H7.out.drop.box.cell 1 _ rfl
      have k2 := H7.out.drop.box.cell 2 _ rfl
      have k3 := H7.out.drop.box.cell 3 _ rfl
      have hrd := oread P1.out (p := CP s) H7.out (HK.out.below L7.out HB.out) c (by show CL.length ≤ 1000; decide) (fun l => Nat.le_trans (CW.out.2.2 l) (by decide))
      rw [HPV.out, CW.out.1, HB0.out, HB1.out] at hrd
      simp only [if_true, if_false, Bool.false_eq_true] at hrd
      go_wp2_with fail
      refine (hrd).mono ?_
      rintro e v8 ⟨rfl, hb⟩
      have H8 := Lib.hid (H7.out.keep PF.out hb)
      have L8 := Lib.hid (L7.out.trans (hb.mono H7.out.1))
      clear hb H7 L7 hrd k0 k1 k2 k3
      go_wp2_with fail
      refine (alike_any a1 s _ (by have := HJ.out; omega) (by have := HS9.out; omega)).mono ?_
      rintro e v9 ⟨rfl, hb⟩
      have H9 := Lib.hid (H8.out.keep PF.out hb)
      have L9 := Lib.hid (L8.out.trans (hb.mono H8.out.1))
      clear hb H8 L8 
      rw [HB0.out]
      go_wp2_with fail
      refine (alike_any a2 s _ (by have := HJ.out; omega) (by have := HS9.out; omega)).mono ?_
      rintro e v10 ⟨rfl, hb⟩
      have H10 := Lib.hid (H9.out.keep PF.out hb)
      have L10 := Lib.hid (L9.out.trans (hb.mono H9.out.1))
      clear hb H9 L9 
      rw [HB1.out]
      have hx := (Below.refl v10.heap.size v10).alloc (Nat.le_refl _) (.cells #[.bool false, .bool false] 4)
      have BX := Lib.hid (Box.new v10 4 #[.bool false, .bool false])
      have H11 := Lib.hid (H10.out.keep PF.out hx)
      have L11 := Lib.hid (L10.out.trans (hx.mono H10.out.1))
      clear hx H10 L10
      have k0 := H11.out.drop.box.cell 0 _ rfl
      have k1 := H11.out.drop.box.cell 1 _ rfl
      have k2 := H11.out.drop.box.cell 2 _ rfl
      have k3 := H11.out.drop.box.cell 3 _ rfl
      have hgd := ogood P1.out (p := CP s) H11.out (HK.out.below L11.out HB.out) c (by show CL.length ≤ 1000; decide) (fun l => Nat.le_trans (CW.out.2.2 l) (by decide))
      rw [HPV.out, CW.out.2.1, HB0.out, HB1.out] at hgd
      go_wp2_with fail
      generalize World.alloc v10 _ = v11 at *
      generalize v10.heap.size = g10 at *
      refine hgd.mono ?_
      rintro e v12 ⟨vr, rfl, hbs, hb⟩
      obtain ⟨ra, rc, rfl, hsl⟩ := hbs.view
      have HSL := Lib.hid hsl
      have L12 := Lib.hid (L11.out.trans (hb.mono H11.out.1))
      have BX12 := Lib.hid (BX.out.keep hb BX.out.lt)
      have HS2 : Hid (Sl v12 Value.bool (some ⟨g10, 0, none⟩) [false, false]) := fun _ => ⟨g10, 0, rfl, BX12.out.lt, fun i x hi => by
        match i, hi with
        | 0, hi => simp at hi; subst hi; exact BX12.out.cell 0 _ rfl
        | 1, hi => simp at hi; subst hi; exact BX12.out.cell 1 _ rfl⟩
      clear hbs hb hsl hgd k0 k1 k2 k3 H11 L11 BX
      simp only [List.length_cons, List.length_nil, Nat.reduceAdd]
      go_wp2_with fail
      refine (bools_any ra (some ⟨g10, 0, none⟩) rc 2 [false, false] [false, false] v12 HSL.out HS2.out (by simp) (by simp)).mono ?_
      rintro e v13 ⟨rfl, hb⟩
      rw [show decide (([false, false] : List Bool) = [false, false]) = true from rfl]
      have L13 := Lib.hid (L12.out.trans (hb.mono L12.out.size))
      have BX13 := Lib.hid (BX12.out.keep hb BX12.out.lt)
      clear hb HSL HS2 L12 BX12
      have q0 := BX13.out.cell 0 _ rfl
      have q1 := BX13.out.cell 1 _ rfl
      go_wp2_with fail
      refine (live_any _ (HK.out.below L13.out HB.out)).mono ?_
      rintro e wl ⟨rfl, hb⟩
      have HL := Lib.hid (L13.out.trans (hb.mono L13.out.size))
      clear hb q0 q1
      go_wp2
      go_ret
      exact ⟨rfl, HL.out⟩
    · have HB1 := Lib.hid hb1
      clear hb1
      go_enter Tryd.func5, Tryd.ntmps5
      go_wp2_with fail
      refine (one_new w.heap.size fixed_no 20 20 _ (Nat.le_refl _) ⟨[], rfl, fun _ h => by cases h⟩ (by omega) (by omega)).mono ?_
      rintro e v1 ⟨b, rfl, ho, hb⟩
      have hx := (Below.refl v1.heap.size v1).alloc (Nat.le_refl _) (.cells #[.int .i64 0, .int .i64 7, .int .i64 1, .int .i64 9] 33)
      have BX := Lib.hid (Box.new v1 33 #[.int .i64 0, .int .i64 7, .int .i64 1, .int .i64 9])
      have H1 : Hid (One w.heap.size NoP b (newD 20 20) (v1.alloc (.cells #[.int .i64 0, .int .i64 7, .int .i64 1, .int .i64 9] 33))) := ho.keep fixed_no hx
      have L1 := Lib.hid (hb.trans (hx.mono ho.1))
      have S1 : Hid (SlP (v1.alloc (.cells #[.int .i64 0, .int .i64 7, .int .i64 1, .int .i64 9] 33)) (some ⟨v1.heap.size, 0, none⟩) CL) := fun _ => ⟨v1.heap.size, 0, rfl, BX.out.lt, fun i x hi => by
        match i, hi with
        | 0, hi => simp [CL] at hi; subst hi; exact ⟨BX.out.cell 0 _ rfl, BX.out.cell 1 _ rfl⟩
        | 1, hi => simp [CL] at hi; subst hi; exact ⟨BX.out.cell 2 _ rfl, BX.out.cell 3 _ rfl⟩⟩
      clear ho hb hx BX
      go_wp2_with fail
      generalize World.alloc v1 _ = v2 at *
      generalize v1.heap.size = g1 at *
      refine (bwrite_ok fixed_no H1.out HB.out (some ⟨g1, 0, none⟩) 2 CL s 3 (by decide) S1.out (by have := HS9.out; omega) (HK.out.below L1.out HB.out) (cp_ok HS9.out) (l_fresh CL cl_two (Rg.new 20)) (l_there CL (fun x hx => (cl_two x hx).1) (Rg.new 20)) (by decide)).mono ?_
      rintro e v3 ⟨a, c, rfl, ho, hb⟩
      have L3 := Lib.hid (L1.out.trans hb)
      obtain ⟨bb, off, rfl, _⟩ := ho.row.get 0 (by decide)
      have H3 : Hid (One w.heap.size (Both NoP (LocP (some ⟨bb, off, none⟩) CL)) b (C1 s) v3) := ho
      clear ho hb H1 L1 S1
      obtain ⟨sh, hsh⟩ : ∃ sh, sh = sha s := ⟨_, rfl⟩
      have hpv : ptrV (some ⟨bb, off, none⟩) c (CP s) = .agg #[.slice (some ⟨bb, off, none⟩) 2 c, .int .i64 s.size, .int .i64 3, .string sh] := by rw [hsh]; rfl
      have HPV := Lib.hid hpv
      rw [show ptrV (some ⟨bb, off, none⟩) c (wrP CL s 3) = .agg #[.slice (some ⟨bb, off, none⟩) 2 c, .int .i64 s.size, .int .i64 3, .string sh] from hpv]
      clear hsh hpv
      have ho4 := (H3.out.addBox (fixed_both fixed_no (fixed_loc (some ⟨bb, off, none⟩) CL)) 25 #[.slice (some ⟨bb, off, none⟩) 2 c, .int .i64 s.size, .int .i64 3, .string sh]).swapR
      have L4 := Lib.hid (L3.out.trans (((Below.refl v3.heap.size v3).alloc (Nat.le_refl _) (.cells #[.slice (some ⟨bb, off, none⟩) 2 c, .int .i64 s.size, .int .i64 3, .string sh] 25)).mono H3.out.1))
      have H4 := Lib.hid ho4
      clear ho4 H3 L3
      have k0 := H4.out.drop.box.cell 0 _ rfl
      go_wp2_with fail
      generalize World.alloc v3 _ = v4 at *
      generalize v3.heap.size = g at *
      clear k0
      have P1 := Lib.hid (fixed_both fixed_no (fixed_box g 25 #[.slice (some ⟨bb, off, none⟩) 2 c, .int .i64 s.size, .int .i64 3, .string sh]))
      have PF := Lib.hid (fixed_both P1.out (fixed_loc (some ⟨bb, off, none⟩) CL))
      refine (one_flush PF.out H4.out (by rw [(c_rg1 HS9.out).1]; simp)).mono ?_
      rintro e v5 ⟨rfl, ho, hb⟩
      have H5 : Hid (One w.heap.size (Both (Both NoP (BoxP g 25 #[.slice (some ⟨bb, off, none⟩) 2 c, .int .i64 s.size, .int .i64 3, .string sh])) (LocP (some ⟨bb, off, none⟩) CL)) b (C2 s) v5) := ho
      have L5 := Lib.hid (L4.out.trans hb)
      clear ho hb H4 L4
      go_wp2_with fail
      refine (one_spoil PF.out H5.out (0, 7) a1 (by rw [(c_rg2 HS9.out).2]; simp)).mono ?_
      rintro e v6 ⟨rfl, ho, hb⟩
      have H6 : Hid (One w.heap.size (Both (Both NoP (BoxP g 25 #[.slice (some ⟨bb, off, none⟩) 2 c, .int .i64 s.size, .int .i64 3, .string sh])) (LocP (some ⟨bb, off, none⟩) CL)) b (spoilD (C2 s) (0, 7) a1) v6) := ho
      have L6 := Lib.hid (L5.out.trans hb)
      clear ho hb H5 L5 
      go_wp2_with fail
      refine (one_spoil PF.out H6.out (1, 9) a2 (by rw [CR.out.1]; simp)).mono ?_
      rintro e v7 ⟨rfl, ho, hb⟩
      have H7 : Hid (One w.heap.size (Both (Both NoP (BoxP g 25 #[.slice (some ⟨bb, off, none⟩) 2 c, .int .i64 s.size, .int .i64 3, .string sh])) (LocP (some ⟨bb, off, none⟩) CL)) b (C5 s a1 a2) v7) := ho
      have L7 := Lib.hid (L6.out.trans hb)
      clear ho hb H6 L6 
      have k0 := H7.out.drop.box.cell 0 _ rfl
      have k1 := H7.out.drop.box.cell 1 _ rfl
      have k2 := H7.out.drop.box.cell 2 _ rfl
      have k3 := H7.out.drop.box.cell 3 _ rfl
      have hrd := oread P1.out (p := CP s) H7.out (HK.out.below L7.out HB.out) c (by show CL.length ≤ 1000; decide) (fun l => Nat.le_trans (CW.out.2.2 l) (by decide))
      rw [HPV.out, CW.out.1, HB0.out, HB1.out] at hrd
      simp only [if_true, if_false, Bool.false_eq_true] at hrd
      go_wp2_with fail
      refine (hrd).mono ?_
      rintro e v8 ⟨rfl, hb⟩
      have H8 := Lib.hid (H7.out.keep PF.out hb)
      have L8 := Lib.hid (L7.out.trans (hb.mono H7.out.1))
      clear hb H7 L7 hrd k0 k1 k2 k3
      go_wp2_with fail
      refine (alike_any a1 s _ (by have := HJ.out; omega) (by have := HS9.out; omega)).mono ?_
      rintro e v9 ⟨rfl, hb⟩
      have H9 := Lib.hid (H8.out.keep PF.out hb)
      have L9 := Lib.hid (L8.out.trans (hb.mono H8.out.1))
      clear hb H8 L8 
      rw [HB0.out]
      go_wp2_with fail
      refine (alike_any a2 s _ (by have := HJ.out; omega) (by have := HS9.out; omega)).mono ?_
      rintro e v10 ⟨rfl, hb⟩
      have H10 := Lib.hid (H9.out.keep PF.out hb)
      have L10 := Lib.hid (L9.out.trans (hb.mono H9.out.1))
      clear hb H9 L9 
      rw [HB1.out]
      have hx := (Below.refl v10.heap.size v10).alloc (Nat.le_refl _) (.cells #[.bool false, .bool true] 4)
      have BX := Lib.hid (Box.new v10 4 #[.bool false, .bool true])
      have H11 := Lib.hid (H10.out.keep PF.out hx)
      have L11 := Lib.hid (L10.out.trans (hx.mono H10.out.1))
      clear hx H10 L10
      have k0 := H11.out.drop.box.cell 0 _ rfl
      have k1 := H11.out.drop.box.cell 1 _ rfl
      have k2 := H11.out.drop.box.cell 2 _ rfl
      have k3 := H11.out.drop.box.cell 3 _ rfl
      have hgd := ogood P1.out (p := CP s) H11.out (HK.out.below L11.out HB.out) c (by show CL.length ≤ 1000; decide) (fun l => Nat.le_trans (CW.out.2.2 l) (by decide))
      rw [HPV.out, CW.out.2.1, HB0.out, HB1.out] at hgd
      go_wp2_with fail
      generalize World.alloc v10 _ = v11 at *
      generalize v10.heap.size = g10 at *
      refine hgd.mono ?_
      rintro e v12 ⟨vr, rfl, hbs, hb⟩
      obtain ⟨ra, rc, rfl, hsl⟩ := hbs.view
      have HSL := Lib.hid hsl
      have L12 := Lib.hid (L11.out.trans (hb.mono H11.out.1))
      have BX12 := Lib.hid (BX.out.keep hb BX.out.lt)
      have HS2 : Hid (Sl v12 Value.bool (some ⟨g10, 0, none⟩) [false, true]) := fun _ => ⟨g10, 0, rfl, BX12.out.lt, fun i x hi => by
        match i, hi with
        | 0, hi => simp at hi; subst hi; exact BX12.out.cell 0 _ rfl
        | 1, hi => simp at hi; subst hi; exact BX12.out.cell 1 _ rfl⟩
      clear hbs hb hsl hgd k0 k1 k2 k3 H11 L11 BX
      simp only [List.length_cons, List.length_nil, Nat.reduceAdd]
      go_wp2_with fail
      refine (bools_any ra (some ⟨g10, 0, none⟩) rc 2 [false, true] [false, true] v12 HSL.out HS2.out (by simp) (by simp)).mono ?_
      rintro e v13 ⟨rfl, hb⟩
      rw [show decide (([false, true] : List Bool) = [false, true]) = true from rfl]
      have L13 := Lib.hid (L12.out.trans (hb.mono L12.out.size))
      have BX13 := Lib.hid (BX12.out.keep hb BX12.out.lt)
      clear hb HSL HS2 L12 BX12
      have q0 := BX13.out.cell 0 _ rfl
      have q1 := BX13.out.cell 1 _ rfl
      go_wp2_with fail
      refine (live_any _ (HK.out.below L13.out HB.out)).mono ?_
      rintro e wl ⟨rfl, hb⟩
      have HL := Lib.hid (L13.out.trans (hb.mono L13.out.size))
      clear hb q0 q1
      go_wp2
      go_ret
      exact ⟨rfl, HL.out⟩
  · have HB0 := Lib.hid hb0
    clear hb0
    cases hb1 : alikeB a2 s
    · have HB1 := Lib.hid hb1
      clear hb1
      go_enter Tryd.func5, Tryd.ntmps5
      go_wp2_with fail
      refine (one_new w.heap.size fixed_no 20 20 _ (Nat.le_refl _) ⟨[], rfl, fun _ h => by cases h⟩ (by omega) (by omega)).mono ?_
      rintro e v1 ⟨b, rfl, ho, hb⟩
      have hx := (Below.refl v1.heap.size v1).alloc (Nat.le_refl _) (.cells #[.int .i64 0, .int .i64 7, .int .i64 1, .int .i64 9] 33)
      have BX := Lib.hid (Box.new v1 33 #[.int .i64 0, .int .i64 7, .int .i64 1, .int .i64 9])
      have H1 : Hid (One w.heap.size NoP b (newD 20 20) (v1.alloc (.cells #[.int .i64 0, .int .i64 7, .int .i64 1, .int .i64 9] 33))) := ho.keep fixed_no hx
      have L1 := Lib.hid (hb.trans (hx.mono ho.1))
      have S1 : Hid (SlP (v1.alloc (.cells #[.int .i64 0, .int .i64 7, .int .i64 1, .int .i64 9] 33)) (some ⟨v1.heap.size, 0, none⟩) CL) := fun _ => ⟨v1.heap.size, 0, rfl, BX.out.lt, fun i x hi => by
        match i, hi with
        | 0, hi => simp [CL] at hi; subst hi; exact ⟨BX.out.cell 0 _ rfl, BX.out.cell 1 _ rfl⟩
        | 1, hi => simp [CL] at hi; subst hi; exact ⟨BX.out.cell 2 _ rfl, BX.out.cell 3 _ rfl⟩⟩
      clear ho hb hx BX
      go_wp2_with fail
      generalize World.alloc v1 _ = v2 at *
      generalize v1.heap.size = g1 at *
      refine (bwrite_ok fixed_no H1.out HB.out (some ⟨g1, 0, none⟩) 2 CL s 3 (by decide) S1.out (by have := HS9.out; omega) (HK.out.below L1.out HB.out) (cp_ok HS9.out) (l_fresh CL cl_two (Rg.new 20)) (l_there CL (fun x hx => (cl_two x hx).1) (Rg.new 20)) (by decide)).mono ?_
      rintro e v3 ⟨a, c, rfl, ho, hb⟩
      have L3 := Lib.hid (L1.out.trans hb)
      obtain ⟨bb, off, rfl, _⟩ := ho.row.get 0 (by decide)
      have H3 : Hid (One w.heap.size (Both NoP (LocP (some ⟨bb, off, none⟩) CL)) b (C1 s) v3) := ho
      clear ho hb H1 L1 S1
      obtain ⟨sh, hsh⟩ : ∃ sh, sh = sha s := ⟨_, rfl⟩
      have hpv : ptrV (some ⟨bb, off, none⟩) c (CP s) = .agg #[.slice (some ⟨bb, off, none⟩) 2 c, .int .i64 s.size, .int .i64 3, .string sh] := by rw [hsh]; rfl
      have HPV := Lib.hid hpv
      rw [show ptrV (some ⟨bb, off, none⟩) c (wrP CL s 3) = .agg #[.slice (some ⟨bb, off, none⟩) 2 c, .int .i64 s.size, .int .i64 3, .string sh] from hpv]
      clear hsh hpv
      have ho4 := (H3.out.addBox (fixed_both fixed_no (fixed_loc (some ⟨bb, off, none⟩) CL)) 25 #[.slice (some ⟨bb, off, none⟩) 2 c, .int .i64 s.size, .int .i64 3, .string sh]).swapR
      have L4 := Lib.hid (L3.out.trans (((Below.refl v3.heap.size v3).alloc (Nat.le_refl _) (.cells #[.slice (some ⟨bb, off, none⟩) 2 c, .int .i64 s.size, .int .i64 3, .string sh] 25)).mono H3.out.1))
      have H4 := Lib.hid ho4
      clear ho4 H3 L3
      have k0 := H4.out.drop.box.cell 0 _ rfl
      go_wp2_with fail
      generalize World.alloc v3 _ = v4 at *
      generalize v3.heap.size = g at *
      clear k0
      have P1 := Lib.hid (fixed_both fixed_no (fixed_box g 25 #[.slice (some ⟨bb, off, none⟩) 2 c, .int .i64 s.size, .int .i64 3, .string sh]))
      have PF := Lib.hid (fixed_both P1.out (fixed_loc (some ⟨bb, off, none⟩) CL))
      refine (one_flush PF.out H4.out (by rw [(c_rg1 HS9.out).1]; simp)).mono ?_
      rintro e v5 ⟨rfl, ho, hb⟩
      have H5 : Hid (One w.heap.size (Both (Both NoP (BoxP g 25 #[.slice (some ⟨bb, off, none⟩) 2 c, .int .i64 s.size, .int .i64 3, .string sh])) (LocP (some ⟨bb, off, none⟩) CL)) b (C2 s) v5) := ho
      have L5 := Lib.hid (L4.out.trans hb)
      clear ho hb H4 L4
      go_wp2_with fail
      refine (one_spoil PF.out H5.out (0, 7) a1 (by rw [(c_rg2 HS9.out).2]; simp)).mono ?_
      rintro e v6 ⟨rfl, ho, hb⟩
      have H6 : Hid (One w.heap.size (Both (Both NoP (BoxP g 25 #[.slice (some ⟨bb, off, none⟩) 2 c, .int .i64 s.size, .int .i64 3, .string sh])) (LocP (some ⟨bb, off, none⟩) CL)) b (spoilD (C2 s) (0, 7) a1) v6) := ho
      have L6 := Lib.hid (L5.out.trans hb)
      clear ho hb H5 L5 
      go_wp2_with fail
      refine (one_spoil PF.out H6.out (1, 9) a2 (by rw [CR.out.1]; simp)).mono ?_
      rintro e v7 ⟨rfl, ho, hb⟩
      have H7 : Hid (One w.heap.size (Both (Both NoP (BoxP g 25 #[.slice (some ⟨bb, off, none⟩) 2 c, .int .i64 s.size, .int .i64 3, .string sh])) (LocP (some ⟨bb, off, none⟩) CL)) b (C5 s a1 a2) v7) := ho
      have L7 := Lib.hid (L6.out.trans hb)
      clear ho hb H6 L6 
      have k0 := H7.out.drop.box.cell 0 _ rfl
      have k1 := H7.out.drop.box.cell 1 _ rfl
      have k2 := H7.out.drop.box.cell 2 _ rfl
      have k3 := H7.out.drop.box.cell 3 _ rfl
      have hrd := oread P1.out (p := CP s) H7.out (HK.out.below L7.out HB.out) c (by show CL.length ≤ 1000; decide) (fun l => Nat.le_trans (CW.out.2.2 l) (by decide))
      rw [HPV.out, CW.out.1, HB0.out] at hrd
      simp only [if_true, if_false, Bool.false_eq_true] at hrd
      go_wp2_with fail
      refine (hrd).mono ?_
      rintro e v8 ⟨rfl, hb⟩
      have H8 := Lib.hid (H7.out.keep PF.out hb)
      have L8 := Lib.hid (L7.out.trans (hb.mono H7.out.1))
      clear hb H7 L7 hrd k0 k1 k2 k3
      go_wp2_with fail
      refine (alike_any a1 s _ (by have := HJ.out; omega) (by have := HS9.out; omega)).mono ?_
      rintro e v9 ⟨rfl, hb⟩
      have H9 := Lib.hid (H8.out.keep PF.out hb)
      have L9 := Lib.hid (L8.out.trans (hb.mono H8.out.1))
      clear hb H8 L8 
      rw [HB0.out]
      go_wp2_with fail
      refine (alike_any a2 s _ (by have := HJ.out; omega) (by have := HS9.out; omega)).mono ?_
      rintro e v10 ⟨rfl, hb⟩
      have H10 := Lib.hid (H9.out.keep PF.out hb)
      have L10 := Lib.hid (L9.out.trans (hb.mono H9.out.1))
      clear hb H9 L9 
      rw [HB1.out]
      have hx := (Below.refl v10.heap.size v10).alloc (Nat.le_refl _) (.cells #[.bool true, .bool false] 4)
      have BX := Lib.hid (Box.new v10 4 #[.bool true, .bool false])
      have H11 := Lib.hid (H10.out.keep PF.out hx)
      have L11 := Lib.hid (L10.out.trans (hx.mono H10.out.1))
      clear hx H10 L10
      have k0 := H11.out.drop.box.cell 0 _ rfl
      have k1 := H11.out.drop.box.cell 1 _ rfl
      have k2 := H11.out.drop.box.cell 2 _ rfl
      have k3 := H11.out.drop.box.cell 3 _ rfl
      have hgd := ogood P1.out (p := CP s) H11.out (HK.out.below L11.out HB.out) c (by show CL.length ≤ 1000; decide) (fun l => Nat.le_trans (CW.out.2.2 l) (by decide))
      rw [HPV.out, CW.out.2.1, HB0.out, HB1.out] at hgd
      go_wp2_with fail
      generalize World.alloc v10 _ = v11 at *
      generalize v10.heap.size = g10 at *
      refine hgd.mono ?_
      rintro e v12 ⟨vr, rfl, hbs, hb⟩
      obtain ⟨ra, rc, rfl, hsl⟩ := hbs.view
      have HSL := Lib.hid hsl
      have L12 := Lib.hid (L11.out.trans (hb.mono H11.out.1))
      have BX12 := Lib.hid (BX.out.keep hb BX.out.lt)
      have HS2 : Hid (Sl v12 Value.bool (some ⟨g10, 0, none⟩) [true, false]) := fun _ => ⟨g10, 0, rfl, BX12.out.lt, fun i x hi => by
        match i, hi with
        | 0, hi => simp at hi; subst hi; exact BX12.out.cell 0 _ rfl
        | 1, hi => simp at hi; subst hi; exact BX12.out.cell 1 _ rfl⟩
      clear hbs hb hsl hgd k0 k1 k2 k3 H11 L11 BX
      simp only [List.length_cons, List.length_nil, Nat.reduceAdd]
      go_wp2_with fail
      refine (bools_any ra (some ⟨g10, 0, none⟩) rc 2 [true, false] [true, false] v12 HSL.out HS2.out (by simp) (by simp)).mono ?_
      rintro e v13 ⟨rfl, hb⟩
      rw [show decide (([true, false] : List Bool) = [true, false]) = true from rfl]
      have L13 := Lib.hid (L12.out.trans (hb.mono L12.out.size))
      have BX13 := Lib.hid (BX12.out.keep hb BX12.out.lt)
      clear hb HSL HS2 L12 BX12
      have q0 := BX13.out.cell 0 _ rfl
      have q1 := BX13.out.cell 1 _ rfl
      go_wp2_with fail
      refine (live_any _ (HK.out.below L13.out HB.out)).mono ?_
      rintro e wl ⟨rfl, hb⟩
      have HL := Lib.hid (L13.out.trans (hb.mono L13.out.size))
      clear hb q0 q1
      go_wp2
      go_ret
      exact ⟨rfl, HL.out⟩
    · have HB1 := Lib.hid hb1
      clear hb1
      go_enter Tryd.func5, Tryd.ntmps5
      go_wp2_with fail
      refine (one_new w.heap.size fixed_no 20 20 _ (Nat.le_refl _) ⟨[], rfl, fun _ h => by cases h⟩ (by omega) (by omega)).mono ?_
      rintro e v1 ⟨b, rfl, ho, hb⟩
      have hx := (Below.refl v1.heap.size v1).alloc (Nat.le_refl _) (.cells #[.int .i64 0, .int .i64 7, .int .i64 1, .int .i64 9] 33)
      have BX := Lib.hid (Box.new v1 33 #[.int .i64 0, .int .i64 7, .int .i64 1, .int .i64 9])
      have H1 : Hid (One w.heap.size NoP b (newD 20 20) (v1.alloc (.cells #[.int .i64 0, .int .i64 7, .int .i64 1, .int .i64 9] 33))) := ho.keep fixed_no hx
      have L1 := Lib.hid (hb.trans (hx.mono ho.1))
      have S1 : Hid (SlP (v1.alloc (.cells #[.int .i64 0, .int .i64 7, .int .i64 1, .int .i64 9] 33)) (some ⟨v1.heap.size, 0, none⟩) CL) := fun _ => ⟨v1.heap.size, 0, rfl, BX.out.lt, fun i x hi => by
        match i, hi with
        | 0, hi => simp [CL] at hi; subst hi; exact ⟨BX.out.cell 0 _ rfl, BX.out.cell 1 _ rfl⟩
        | 1, hi => simp [CL] at hi; subst hi; exact ⟨BX.out.cell 2 _ rfl, BX.out.cell 3 _ rfl⟩⟩
      clear ho hb hx BX
      go_wp2_with fail
      generalize World.alloc v1 _ = v2 at *
      generalize v1.heap.size = g1 at *
      refine (bwrite_ok fixed_no H1.out HB.out (some ⟨g1, 0, none⟩) 2 CL s 3 (by decide) S1.out (by have := HS9.out; omega) (HK.out.below L1.out HB.out) (cp_ok HS9.out) (l_fresh CL cl_two (Rg.new 20)) (l_there CL (fun x hx => (cl_two x hx).1) (Rg.new 20)) (by decide)).mono ?_
      rintro e v3 ⟨a, c, rfl, ho, hb⟩
      have L3 := Lib.hid (L1.out.trans hb)
      obtain ⟨bb, off, rfl, _⟩ := ho.row.get 0 (by decide)
      have H3 : Hid (One w.heap.size (Both NoP (LocP (some ⟨bb, off, none⟩) CL)) b (C1 s) v3) := ho
      clear ho hb H1 L1 S1
      obtain ⟨sh, hsh⟩ : ∃ sh, sh = sha s := ⟨_, rfl⟩
      have hpv : ptrV (some ⟨bb, off, none⟩) c (CP s) = .agg #[.slice (some ⟨bb, off, none⟩) 2 c, .int .i64 s.size, .int .i64 3, .string sh] := by rw [hsh]; rfl
      have HPV := Lib.hid hpv
      rw [show ptrV (some ⟨bb, off, none⟩) c (wrP CL s 3) = .agg #[.slice (some ⟨bb, off, none⟩) 2 c, .int .i64 s.size, .int .i64 3, .string sh] from hpv]
      clear hsh hpv
      have ho4 := (H3.out.addBox (fixed_both fixed_no (fixed_loc (some ⟨bb, off, none⟩) CL)) 25 #[.slice (some ⟨bb, off, none⟩) 2 c, .int .i64 s.size, .int .i64 3, .string sh]).swapR
      have L4 := Lib.hid (L3.out.trans (((Below.refl v3.heap.size v3).alloc (Nat.le_refl _) (.cells #[.slice (some ⟨bb, off, none⟩) 2 c, .int .i64 s.size, .int .i64 3, .string sh] 25)).mono H3.out.1))
      have H4 := Lib.hid ho4
      clear ho4 H3 L3
      have k0 := H4.out.drop.box.cell 0 _ rfl
      go_wp2_with fail
      generalize World.alloc v3 _ = v4 at *
      generalize v3.heap.size = g at *
      clear k0
      have P1 := Lib.hid (fixed_both fixed_no (fixed_box g 25 #[.slice (some ⟨bb, off, none⟩) 2 c, .int .i64 s.size, .int .i64 3, .string sh]))
      have PF := Lib.hid (fixed_both P1.out (fixed_loc (some ⟨bb, off, none⟩) CL))
      refine (one_flush PF.out H4.out (by rw [(c_rg1 HS9.out).1]; simp)).mono ?_
      rintro e v5 ⟨rfl, ho, hb⟩
      have H5 : Hid (One w.heap.size (Both (Both NoP (BoxP g 25 #[.slice (some ⟨bb, off, none⟩) 2 c, .int .i64 s.size, .int .i64 3, .string sh])) (LocP (some ⟨bb, off, none⟩) CL)) b (C2 s) v5) := ho
      have L5 := Lib.hid (L4.out.trans hb)
      clear ho hb H4 L4
      go_wp2_with fail
      refine (one_spoil PF.out H5.out (0, 7) a1 (by rw [(c_rg2 HS9.out).2]; simp)).mono ?_
      rintro e v6 ⟨rfl, ho, hb⟩
      have H6 : Hid (One w.heap.size (Both (Both NoP (BoxP g 25 #[.slice (some ⟨bb, off, none⟩) 2 c, .int .i64 s.size, .int .i64 3, .string sh])) (LocP (some ⟨bb, off, none⟩) CL)) b (spoilD (C2 s) (0, 7) a1) v6) := ho
      have L6 := Lib.hid (L5.out.trans hb)
      clear ho hb H5 L5 
      go_wp2_with fail
      refine (one_spoil PF.out H6.out (1, 9) a2 (by rw [CR.out.1]; simp)).mono ?_
      rintro e v7 ⟨rfl, ho, hb⟩
      have H7 : Hid (One w.heap.size (Both (Both NoP (BoxP g 25 #[.slice (some ⟨bb, off, none⟩) 2 c, .int .i64 s.size, .int .i64 3, .string sh])) (LocP (some ⟨bb, off, none⟩) CL)) b (C5 s a1 a2) v7) := ho
      have L7 := Lib.hid (L6.out.trans hb)
      clear ho hb H6 L6 
      have k0 := H7.out.drop.box.cell 0 _ rfl
      have k1 := H7.out.drop.box.cell 1 _ rfl
      have k2 := H7.out.drop.box.cell 2 _ rfl
      have k3 := H7.out.drop.box.cell 3 _ rfl
      have hrd := oread P1.out (p := CP s) H7.out (HK.out.below L7.out HB.out) c (by show CL.length ≤ 1000; decide) (fun l => Nat.le_trans (CW.out.2.2 l) (by decide))
      rw [HPV.out, CW.out.1, HB0.out] at hrd
      simp only [if_true, if_false, Bool.false_eq_true] at hrd
      go_wp2_with fail
      refine (hrd).mono ?_
      rintro e v8 ⟨rfl, hb⟩
      have H8 := Lib.hid (H7.out.keep PF.out hb)
      have L8 := Lib.hid (L7.out.trans (hb.mono H7.out.1))
      clear hb H7 L7 hrd k0 k1 k2 k3
      go_wp2_with fail
      refine (alike_any a1 s _ (by have := HJ.out; omega) (by have := HS9.out; omega)).mono ?_
      rintro e v9 ⟨rfl, hb⟩
      have H9 := Lib.hid (H8.out.keep PF.out hb)
      have L9 := Lib.hid (L8.out.trans (hb.mono H8.out.1))
      clear hb H8 L8 
      rw [HB0.out]
      go_wp2_with fail
      refine (alike_any a2 s _ (by have := HJ.out; omega) (by have := HS9.out; omega)).mono ?_
      rintro e v10 ⟨rfl, hb⟩
      have H10 := Lib.hid (H9.out.keep PF.out hb)
      have L10 := Lib.hid (L9.out.trans (hb.mono H9.out.1))
      clear hb H9 L9 
      rw [HB1.out]
      have hx := (Below.refl v10.heap.size v10).alloc (Nat.le_refl _) (.cells #[.bool true, .bool true] 4)
      have BX := Lib.hid (Box.new v10 4 #[.bool true, .bool true])
      have H11 := Lib.hid (H10.out.keep PF.out hx)
      have L11 := Lib.hid (L10.out.trans (hx.mono H10.out.1))
      clear hx H10 L10
      have k0 := H11.out.drop.box.cell 0 _ rfl
      have k1 := H11.out.drop.box.cell 1 _ rfl
      have k2 := H11.out.drop.box.cell 2 _ rfl
      have k3 := H11.out.drop.box.cell 3 _ rfl
      have hgd := ogood P1.out (p := CP s) H11.out (HK.out.below L11.out HB.out) c (by show CL.length ≤ 1000; decide) (fun l => Nat.le_trans (CW.out.2.2 l) (by decide))
      rw [HPV.out, CW.out.2.1, HB0.out, HB1.out] at hgd
      go_wp2_with fail
      generalize World.alloc v10 _ = v11 at *
      generalize v10.heap.size = g10 at *
      refine hgd.mono ?_
      rintro e v12 ⟨vr, rfl, hbs, hb⟩
      obtain ⟨ra, rc, rfl, hsl⟩ := hbs.view
      have HSL := Lib.hid hsl
      have L12 := Lib.hid (L11.out.trans (hb.mono H11.out.1))
      have BX12 := Lib.hid (BX.out.keep hb BX.out.lt)
      have HS2 : Hid (Sl v12 Value.bool (some ⟨g10, 0, none⟩) [true, true]) := fun _ => ⟨g10, 0, rfl, BX12.out.lt, fun i x hi => by
        match i, hi with
        | 0, hi => simp at hi; subst hi; exact BX12.out.cell 0 _ rfl
        | 1, hi => simp at hi; subst hi; exact BX12.out.cell 1 _ rfl⟩
      clear hbs hb hsl hgd k0 k1 k2 k3 H11 L11 BX
      simp only [List.length_cons, List.length_nil, Nat.reduceAdd]
      go_wp2_with fail
      refine (bools_any ra (some ⟨g10, 0, none⟩) rc 2 [true, true] [true, true] v12 HSL.out HS2.out (by simp) (by simp)).mono ?_
      rintro e v13 ⟨rfl, hb⟩
      rw [show decide (([true, true] : List Bool) = [true, true]) = true from rfl]
      have L13 := Lib.hid (L12.out.trans (hb.mono L12.out.size))
      have BX13 := Lib.hid (BX12.out.keep hb BX12.out.lt)
      clear hb HSL HS2 L12 BX12
      have q0 := BX13.out.cell 0 _ rfl
      have q1 := BX13.out.cell 1 _ rfl
      go_wp2_with fail
      refine (live_any _ (HK.out.below L13.out HB.out)).mono ?_
      rintro e wl ⟨rfl, hb⟩
      have HL := Lib.hid (L13.out.trans (hb.mono L13.out.size))
      clear hb q0 q1
      go_wp2
      go_ret
      exact ⟨rfl, HL.out⟩
end Go.Proofs.YtonkmffipjdhkaaDoor.blkGood
