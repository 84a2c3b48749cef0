/-
  live, the closed part of each statement of package blk.
-/
import Derived.Test.YtonkmffipjdhkaaDoorMg26
namespace Go.Proofs.YtonkmffipjdhkaaDoor
open Go Go.RowKit Go.ChangeShapes Go.WideShapes Go.ChangeAt

set_option maxRecDepth 100000 in
set_option maxHeartbeats 8000000 in
theorem live_any (w : World) (hK : Kt w) : Calls Tryd.prog 8 #[] w fun e w' => e = .returned (.bool true) ∧ Below w.heap.size w w' := by
  have HK := Lib.hid hK
  have HB := Lib.hid hK.pos
  clear hK
  go_enter Tryd.func8, Tryd.ntmps8
  go_wp2_with fail
  refine (one_new w.heap.size fixed_no 20 20 _ (Nat.le_refl _) ⟨[], rfl, fun _ h => by cases h⟩ (by omega) (by omega)).mono ?_
  rintro e v1 ⟨b, rfl, ho, hb⟩
  have hx := (Below.refl v1.heap.size v1).alloc (Nat.le_refl _) (.cells #[.int .i64 1, .int .i64 3, .int .i64 0, .int .i64 4] 33)
  have BX := Lib.hid (Box.new v1 33 #[.int .i64 1, .int .i64 3, .int .i64 0, .int .i64 4])
  have H1 : Hid (One w.heap.size NoP b LD0 (v1.alloc (.cells #[.int .i64 1, .int .i64 3, .int .i64 0, .int .i64 4] 33))) := ho.keep fixed_no hx
  have L1 := Lib.hid (hb.trans (hx.mono ho.1))
  have S1 : Hid (SlP (v1.alloc (.cells #[.int .i64 1, .int .i64 3, .int .i64 0, .int .i64 4] 33)) (some ⟨v1.heap.size, 0, none⟩) LL) := fun _ => ⟨v1.heap.size, 0, rfl, BX.out.lt, fun i x hi => by
    match i, hi with
    | 0, hi => simp [LL] at hi; subst hi; exact ⟨BX.out.cell 0 _ rfl, BX.out.cell 1 _ rfl⟩
    | 1, hi => simp [LL] at hi; subst hi; exact ⟨BX.out.cell 2 _ rfl, BX.out.cell 3 _ rfl⟩⟩
  clear ho hb hx BX
  go_wp2_with fail
  generalize World.alloc v1 _ = v2 at *
  generalize v1.heap.size = g1 at *
  refine (bwrite_ok fixed_no H1.out HB.out (some ⟨g1, 0, none⟩) 2 LL LH 7 (by decide) S1.out (by decide) (HK.out.below L1.out HB.out) lp_ok (l_fresh LL ll_two (Rg.new 20)) (l_there LL (fun x hx => (ll_two x hx).1) (Rg.new 20)) (by decide)).mono ?_
  rintro e v3 ⟨a, c, rfl, ho, hb⟩
  have L3 := Lib.hid (L1.out.trans hb)
  have H3 : Hid (One w.heap.size (Both NoP (LocP a LL)) b LD1 v3) := ho
  clear ho hb H1 L1 S1
  obtain ⟨sh, hsh⟩ : ∃ sh, sh = sha LH := ⟨_, rfl⟩
  have hpv : ∀ a c, ptrV a c LP = .agg #[.slice a 2 c, .int .i64 5, .int .i64 7, .string sh] := fun a c => by rw [hsh]; rfl
  have HPV := Lib.hid hpv
  rw [show ptrV a c (wrP LL LH 7) = .agg #[.slice a 2 c, .int .i64 5, .int .i64 7, .string sh] from hpv a c]
  clear hsh hpv
  have ho4 := (H3.out.addBox (fixed_both fixed_no (fixed_loc a LL)) 25 #[.slice a 2 c, .int .i64 5, .int .i64 7, .string sh]).swapR
  have L4 := Lib.hid (L3.out.trans (((Below.refl v3.heap.size v3).alloc (Nat.le_refl _) (.cells #[.slice a 2 c, .int .i64 5, .int .i64 7, .string sh] 25)).mono H3.out.1))
  have H4 := Lib.hid ho4
  clear ho4 H3 L3
  go_wp2_with fail
  generalize World.alloc v3 _ = v4 at *
  generalize v3.heap.size = g at *
  have P1 := Lib.hid (fixed_both fixed_no (fixed_box g 25 #[.slice a 2 c, .int .i64 5, .int .i64 7, .string sh]))
  have PF := Lib.hid (fixed_both P1.out (fixed_loc a LL))
  refine (one_spoil PF.out H4.out (1, 3) LX (by rw [lr1.2]; decide)).mono ?_
  rintro e v5 ⟨rfl, ho, hb⟩
  have H5 : Hid (One w.heap.size (Both (Both NoP (BoxP g 25 #[.slice a 2 c, .int .i64 5, .int .i64 7, .string sh])) (LocP a LL)) b LD2 v5) := ho
  have L5 := Lib.hid (L4.out.trans hb)
  clear ho hb H4 L4
  have k0 := H5.out.drop.box.cell 0 _ rfl
  have k1 := H5.out.drop.box.cell 1 _ rfl
  have k2 := H5.out.drop.box.cell 2 _ rfl
  have k3 := H5.out.drop.box.cell 3 _ rfl
  have hrd := oread P1.out (p := LP) H5.out (HK.out.below L5.out HB.out) c (by decide) (fun l => Nat.le_trans (lv2.2 l) (by decide))
  rw [HPV.out, lv2.1, show LH = ⟨#[104, 101, 108, 108, 111]⟩ from rfl] at hrd
  go_wp2_with fail
  refine hrd.mono ?_
  rintro e v6 ⟨rfl, hb⟩
  have H6 := Lib.hid (H5.out.keep PF.out hb)
  have L6 := Lib.hid (L5.out.trans (hb.mono H5.out.1))
  clear hb hrd k0 k1 k2 k3 H5 L5
  have k0 := H6.out.drop.box.cell 0 _ rfl
  have k1 := H6.out.drop.box.cell 1 _ rfl
  have k2 := H6.out.drop.box.cell 2 _ rfl
  have k3 := H6.out.drop.box.cell 3 _ rfl
  have hmd := omend P1.out (p := LP) H6.out HB.out (HK.out.below L6.out HB.out) c (by decide) (fun l => Nat.le_trans (lv2.2 l) (by decide)) LH 1 lv2.1 ?_ (by obtain ⟨_, _, h⟩ := lr2; omega)
  rotate_left
  · intro k hk l
    exact Nat.le_trans (lm_small k (Nat.le_of_lt hk) l) (by decide)
  rw [HPV.out, show mdK LP LH LD2 LP.locs.length = (LD3, 1) from lm3.2] at hmd
  go_wp2_with fail
  refine hmd.mono ?_
  rintro e v7 ⟨rfl, ho, hb⟩
  have H7 : Hid (One w.heap.size (Both (Both NoP (BoxP g 25 #[.slice a 2 c, .int .i64 5, .int .i64 7, .string sh])) (LocP a LL)) b LD3 v7) := ho
  have L7 := Lib.hid (L6.out.trans hb)
  clear ho hb hmd k0 k1 k2 k3 H6 L6
  have k0 := H7.out.drop.box.cell 0 _ rfl
  have k1 := H7.out.drop.box.cell 1 _ rfl
  have k2 := H7.out.drop.box.cell 2 _ rfl
  have k3 := H7.out.drop.box.cell 3 _ rfl
  have hrd := oread P1.out (p := LP) H7.out (HK.out.below L7.out HB.out) c (by decide) (fun l => Nat.le_trans (lv3.2 l) (by decide))
  rw [HPV.out, lv3.1, show LH = ⟨#[104, 101, 108, 108, 111]⟩ from rfl] at hrd
  go_wp2_with fail
  refine hrd.mono ?_
  rintro e v8 ⟨rfl, hb⟩
  have H8 := Lib.hid (H7.out.keep PF.out hb)
  have L8 := Lib.hid (L7.out.trans (hb.mono H7.out.1))
  clear hb hrd k0 k1 k2 k3 H7 L7
  go_wp2_with fail
  refine (one_lose PF.out H8.out 1 (by obtain ⟨_, _, h, _⟩ := lr3; omega)).mono ?_
  rintro e v9 ⟨rfl, ho, hb⟩
  rw [show loseE 1 = 0 from rfl]
  have H9 : Hid (One w.heap.size (Both (Both NoP (BoxP g 25 #[.slice a 2 c, .int .i64 5, .int .i64 7, .string sh])) (LocP a LL)) b LD4 v9) := ho
  have L9 := Lib.hid (L8.out.trans hb)
  clear ho hb H8 L8
  go_wp2_with fail
  refine (one_lose PF.out H9.out 0 (by have := wait5.1; omega)).mono ?_
  rintro e v10 ⟨rfl, ho, hb⟩
  rw [show loseE 0 = 0 from rfl]
  have H10 : Hid (One w.heap.size (Both (Both NoP (BoxP g 25 #[.slice a 2 c, .int .i64 5, .int .i64 7, .string sh])) (LocP a LL)) b LD5 v10) := ho
  have L10 := Lib.hid (L9.out.trans hb)
  clear ho hb H9 L9
  have k0 := H10.out.drop.box.cell 0 _ rfl
  have k1 := H10.out.drop.box.cell 1 _ rfl
  have k2 := H10.out.drop.box.cell 2 _ rfl
  have k3 := H10.out.drop.box.cell 3 _ rfl
  have hrd := oread P1.out (p := LP) H10.out (HK.out.below L10.out HB.out) c (by decide) (fun l => Nat.le_trans (lv5.2.2 l) (by decide))
  rw [HPV.out, lv5.1] at hrd
  go_wp2_with fail
  refine hrd.mono ?_
  rintro e v11 ⟨rfl, hb⟩
  have hx := (Below.refl v11.heap.size v11).alloc (Nat.le_refl _) (.cells #[.int .i64 0, .int .i64 1] 33)
  have BX := Lib.hid (Box.new v11 33 #[.int .i64 0, .int .i64 1])
  have H11 := Lib.hid ((H10.out.keep PF.out hb).keep PF.out hx)
  have L11 := Lib.hid ((L10.out.trans (hb.mono H10.out.1)).trans (hx.mono (Nat.le_trans H10.out.1 hb.size)))
  have S1 : Hid (SlP (v11.alloc (.cells #[.int .i64 0, .int .i64 1] 33)) (some ⟨v11.heap.size, 0, none⟩) [(0, 1)]) := fun _ => ⟨v11.heap.size, 0, rfl, BX.out.lt, fun i x hi => by
    match i, hi with
    | 0, hi => simp at hi; subst hi; exact ⟨BX.out.cell 0 _ rfl, BX.out.cell 1 _ rfl⟩⟩
  clear hb hrd k0 k1 k2 k3 H10 L10 hx BX
  go_wp2_with fail
  generalize World.alloc v11 _ = v12 at *
  generalize v11.heap.size = g2 at *
  refine (bwrite_gone (some ⟨b, 0, none⟩) (devSize LD5) (devLost LD5) (some ⟨g2, 0, none⟩) 1 [(0, 1)] LA 0 v12 (by decide) S1.out (by decide) (HK.out.below L11.out HB.out) (one_szf PF.out H11.out) (one_lof PF.out H11.out) la_ok la_far la_gone).mono ?_
  rintro e v13 ⟨rfl, hb⟩
  rw [show nilPV = .agg #[.slice none 0 0, .int .i64 0, .int .i64 0, .string ⟨#[]⟩] from rfl]
  have hx := (Below.refl v13.heap.size v13).alloc (Nat.le_refl _) (.cells #[.slice none 0 0, .int .i64 0, .int .i64 0, .string ⟨#[]⟩] 25)
  have H13 := Lib.hid ((H11.out.keep PF.out hb).keep PF.out hx)
  have L13 := Lib.hid ((L11.out.trans (hb.mono H11.out.1)).trans (hx.mono (Nat.le_trans H11.out.1 hb.size)))
  clear hb hx S1 H11 L11
  go_wp2_with fail
  generalize World.alloc v13 _ = v14 at *
  refine (bwrite_bad (some ⟨b, 0, none⟩) none 0 [] LA 0 v14 (by decide) SlP.nil (by decide) (HK.out.below L13.out HB.out) la_nil).mono ?_
  rintro e v15 ⟨rfl, hb⟩
  rw [show nilPV = .agg #[.slice none 0 0, .int .i64 0, .int .i64 0, .string ⟨#[]⟩] from rfl]
  have hx := (Below.refl v15.heap.size v15).alloc (Nat.le_refl _) (.cells #[.slice none 0 0, .int .i64 0, .int .i64 0, .string ⟨#[]⟩] 25)
  have H15 := Lib.hid ((H13.out.keep PF.out hb).keep PF.out hx)
  have L15 := Lib.hid ((L13.out.trans (hb.mono H13.out.1)).trans (hx.mono (Nat.le_trans H13.out.1 hb.size)))
  clear hb hx H13 L13
  have k0 := H15.out.drop.box.cell 0 _ rfl
  have k1 := H15.out.drop.box.cell 1 _ rfl
  have k2 := H15.out.drop.box.cell 2 _ rfl
  have k3 := H15.out.drop.box.cell 3 _ rfl
  have hgd := ogood P1.out (p := LP) H15.out (HK.out.below L15.out HB.out) c (by decide) (fun l => Nat.le_trans (lv5.2.2 l) (by decide))
  rw [HPV.out, lv5.2.1] at hgd
  go_wp2_with fail
  generalize World.alloc v15 _ = v16 at *
  refine hgd.mono ?_
  rintro e v17 ⟨vr, rfl, hbs, hb⟩
  have L17 := Lib.hid (L15.out.trans (hb.mono H15.out.1))
  have hx := (Below.refl v17.heap.size v17).alloc (Nat.le_refl _) (.cells #[.bool false, .bool false] 4)
  have BX := Lib.hid (Box.new v17 4 #[.bool false, .bool false])
  have L18 := Lib.hid (L17.out.trans (hx.mono L17.out.size))
  have hbs2 := hbs.keep hx
  obtain ⟨ra, rc, rfl, hsl⟩ := hbs2.view
  have HSL := Lib.hid hsl
  have HS2 : Hid (Sl (v17.alloc (.cells #[.bool false, .bool false] 4)) Value.bool (some ⟨v17.heap.size, 0, none⟩) [false, false]) := fun _ => ⟨v17.heap.size, 0, rfl, BX.out.lt, fun i x hi => by
    match i, hi with
    | 0, hi => simp at hi; subst hi; exact BX.out.cell 0 _ rfl
    | 1, hi => simp at hi; subst hi; exact BX.out.cell 1 _ rfl⟩
  clear hbs hb hx BX hbs2 hsl hgd k0 k1 k2 k3 H15 L15 L17
  simp only [List.length_cons, List.length_nil, Nat.reduceAdd]
  go_wp2_with fail
  generalize World.alloc v17 _ = v18 at *
  refine (bools_any ra (some ⟨v17.heap.size, 0, none⟩) rc 2 [false, false] [false, false] v18 HSL.out HS2.out (by decide) (by decide)).mono ?_
  rintro e v19 ⟨rfl, hb⟩
  have L19 := Lib.hid (L18.out.trans (hb.mono L18.out.size))
  clear hb
  rw [show decide (([false, false] : List Bool) = [false, false]) = true from rfl]
  go_wp2
  go_ret
  exact ⟨rfl, L19.out⟩
end Go.Proofs.YtonkmffipjdhkaaDoor
