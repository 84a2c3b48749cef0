/-
  live, the closed part of each statement of package clog.
-/
import Derived.Test.YtljjcchdhnficaaDoorMg19
import Derived.Test.YtljjcchdhnficaaDoorClogL
import Derived.Test.YtljjcchdhnficaaDoorMg29
namespace Go.Proofs.YtljjcchdhnficaaDoor
open Go.RowKit Go.ChangeShapes Go.WideShapes Go.ChangeAt

set_option maxRecDepth 100000 in
set_option maxHeartbeats 4000000 in
theorem clive_any (w : World) (hK : Kt w) : Calls Tryd.prog 9 #[] w fun e w' => e = .returned (.bool true) ∧ Below w.heap.size w w' := by
  have HK := Lib.hid hK
  have HP := Lib.hid hK.pos
  obtain ⟨j0, b0⟩ := lv_new w
  have J0 := Lib.hid j0
  have L0 := Lib.hid b0
  clear hK j0 b0
  go_enter Tryd.func9, Tryd.ntmps9
  go_wp2_with fail
  generalize World.alloc (World.alloc (World.alloc (World.alloc w _) _) _) _ = w0 at *
  obtain ⟨g, hg⟩ : ∃ g, g = w.heap.size := ⟨_, rfl⟩
  rw [← hg]
  rw [← hg] at J0
  clear hg
  refine (cencode_any 3 (some ⟨g, 0, none⟩) 1 [E1] w0 J0.out.s1 (HK.out.below L0.out HP.out)).mono ?_
  rintro e w1 ⟨rfl, hb⟩
  obtain ⟨y1, y2, y3⟩ := lv_enc
  rw [y2]
  generalize (encC 3 [E1]).1 = s at *
  have Y3 := Lib.hid y3
  have hs : (s.size : Int) = 79 := by omega
  have HS := Lib.hid hs
  have J1 := Lib.hid (J0.out.keep hb)
  have L1 := Lib.hid (L0.out.trans (hb.mono L0.out.size))
  clear y2 y3 hb J0 L0 hs
  go_wp2_with fail
  refine (cdecode_long s w1 (by omega) (by omega) (HK.out.below L1.out HP.out)).mono ?_
  rintro e w2 ⟨v, rfl, hp, hb⟩
  rw [Y3.out] at hp ⊢
  obtain ⟨ka, kc, rfl, hk⟩ := hp.view
  have hx := (Below.refl w2.heap.size w2).alloc (Nat.le_refl _) (.cells #[.int .i64 3, .slice ka 1 kc] 32)
  have B2 := Lib.hid (Box.new w2 32 #[.int .i64 3, .slice ka 1 kc])
  have J2 := Lib.hid ((J1.out.keep hb).keep hx)
  have L2 := Lib.hid ((L1.out.trans (hb.mono L1.out.size)).trans (hx.mono (Nat.le_trans L1.out.size hb.size)))
  have K2 := Lib.hid (hk.keep hx)
  clear y1 hb hp hx hk J1 L1
  go_wp2_with fail
  generalize World.alloc w2 _ = v2 at *
  generalize w2.heap.size = g2 at *
  refine (cdecode_cut ⟨#[115, 104, 111, 114, 116]⟩ v2 (by decide)).mono ?_
  rintro e w3 ⟨v, rfl, hp, hb⟩
  rw [lv_cut] at hp ⊢
  obtain ⟨na, nc, rfl, _⟩ := hp.view
  have hx := (Below.refl w3.heap.size w3).alloc (Nat.le_refl _) (.cells #[.int .i64 0, .slice na 0 nc] 32)
  have hbx := hb.trans (hx.mono hb.size)
  have J3 := Lib.hid (J2.out.keep hbx)
  have L3 := Lib.hid (L2.out.trans (hbx.mono L2.out.size))
  have K3 := Lib.hid (K2.out.keep hbx)
  have B3 := Lib.hid (B2.out.keep hbx B2.out.lt)
  clear hb hp hx hbx J2 L2 K2 B2
  have a0 := J3.out.b1.cell 0 _ rfl
  have a1 := J3.out.b1.cell 1 _ rfl
  have c0 := J3.out.b2.cell 0 _ rfl
  have c1 := J3.out.b2.cell 1 _ rfl
  have hx := (Below.refl (w3.alloc (.cells #[.int .i64 0, .slice na 0 nc] 32)).heap.size (w3.alloc (.cells #[.int .i64 0, .slice na 0 nc] 32))).alloc (Nat.le_refl _) (.cells #[.int .i64 3, .slice (some ⟨g, 0, none⟩) 1 1, .int .i64 2, .slice (some ⟨g + 1 + 1, 0, none⟩) 2 2] 32)
  have BR := Box.new (w3.alloc (.cells #[.int .i64 0, .slice na 0 nc] 32)) 32 #[.int .i64 3, .slice (some ⟨g, 0, none⟩) 1 1, .int .i64 2, .slice (some ⟨g + 1 + 1, 0, none⟩) 2 2]
  rw [size_alloc] at BR
  have J4 := Lib.hid (J3.out.keep hx)
  have L4 := Lib.hid (L3.out.trans (hx.mono L3.out.size))
  have K4 := Lib.hid (K3.out.keep hx)
  have B4 := Lib.hid (B3.out.keep hx B3.out.lt)
  have S4 : Hid (SlBk ((w3.alloc (.cells #[.int .i64 0, .slice na 0 nc] 32)).alloc (.cells #[.int .i64 3, .slice (some ⟨g, 0, none⟩) 1 1, .int .i64 2, .slice (some ⟨g + 1 + 1, 0, none⟩) 2 2] 32)) (some ⟨w3.heap.size + 1, 0, none⟩) [⟨3, some ⟨g, 0, none⟩, 1, [E1]⟩, ⟨2, some ⟨g + 1 + 1, 0, none⟩, 2, [E2, E3]⟩]) := fun _ => ⟨w3.heap.size + 1, 0, rfl, BR.lt, fun i x hi => by
    match i, hi with
    | 0, hi => simp at hi; subst hi; exact ⟨BR.cell 0 _ rfl, BR.cell 1 _ rfl, J4.out.s1⟩
    | 1, hi => simp at hi; subst hi; exact ⟨BR.cell 2 _ rfl, BR.cell 3 _ rfl, J4.out.s2⟩⟩
  clear hx BR J3 L3 K3 B3
  go_wp2_with fail
  generalize World.alloc (World.alloc w3 _) _ = v4 at *
  generalize w3.heap.size = g3 at *
  clear a0 a1 c0 c1
  refine (cmerge_ok (some ⟨g3 + 1, 0, none⟩) 2 [⟨3, some ⟨g, 0, none⟩, 1, [E1]⟩, ⟨2, some ⟨g + 1 + 1, 0, none⟩, 2, [E2, E3]⟩] v4 S4.out (by simp)).mono ?_
  rintro e w5 ⟨v, rfl, hp, hb⟩
  rw [show List.map bkM [⟨3, some ⟨g, 0, none⟩, 1, [E1]⟩, ⟨2, some ⟨g + 1 + 1, 0, none⟩, 2, [E2, E3]⟩] = [(3, [E1]), (2, [E2, E3])] from rfl, lv_merge] at hp
  obtain ⟨ma, mc, rfl, hm⟩ := hp.view
  have J5 := Lib.hid (J4.out.keep hb)
  have L5 := Lib.hid (L4.out.trans (hb.mono L4.out.size))
  have K5 := Lib.hid (K4.out.keep hb)
  have B5 := Lib.hid (B4.out.keep hb B4.out.lt)
  have M5 := Lib.hid hm
  clear hp hb hm J4 L4 K4 B4 S4
  go_wp2_with fail
  refine (cencode_any 0 none 0 [] w5 SlC.nil (HK.out.below L5.out HP.out)).mono ?_
  rintro e w6 ⟨rfl, hb⟩
  obtain ⟨y1, y2⟩ := lv_enc0
  rw [y2]
  generalize (encC 0 []).1 = t at *
  have ht : (t.size : Int) = 41 := by omega
  have J6 := Lib.hid (J5.out.keep hb)
  have L6 := Lib.hid (L5.out.trans (hb.mono L5.out.size))
  have K6 := Lib.hid (K5.out.keep hb)
  have B6 := Lib.hid (B5.out.keep hb B5.out.lt)
  have M6 := Lib.hid (M5.out.keep hb)
  have HT := Lib.hid ht
  clear y1 y2 hb J5 L5 K5 B5 M5 ht
  go_wp2_with fail
  have k0 := B6.out.cell 0 _ rfl
  have k1 := B6.out.cell 1 _ rfl
  have k2 := J6.out.b1.cell 1 _ rfl
  have hd := (Below.refl w6.heap.size w6).drew
  have J7 := Lib.hid (J6.out.keep hd)
  have L7 := Lib.hid (L6.out.trans (hd.mono L6.out.size))
  have K7 := Lib.hid (K6.out.keep hd)
  have B7 := Lib.hid (B6.out.keep hd B6.out.lt)
  have M7 := Lib.hid (M6.out.keep hd)
  clear hd J6 L6 K6 B6 M6
  have d0 : ((s.size : Int) == 79) = true := by rw [HS.out]; rfl
  have d1 : ((t.size : Int) == 41) = true := by rw [HT.out]; rfl
  refine wp_region_tree (fun W => W.cell? ⟨g2, 0, none⟩ = some (.int .i64 3) ∧ W.cell? ⟨g2, 1, none⟩ = some (.slice ka 1 kc) ∧ W.cell? ⟨g + 1, 1, none⟩ = some (.slice (some ⟨g, 0, none⟩) 1 1)) 42 (.quiet 0 (.quiet 1 (.quiet 2 (.quiet 3 (.quiet 4 (.quiet 5 (.quiet 6 (.quiet 7 (.quiet 8 (.quiet 9 (.quiet 10 (.quiet 11 (.quiet 12 (.quiet 13 (.quiet 14 (.quiet 15 (.quiet 16 (.quiet 17 (.quiet 18 (.quiet 19 (.quiet 21 (.quiet 22 (.make 20 (.make 23 (.make 24 (.quiet 25 (.quiet 26 (.quiet 27 (.quiet 28 (.quiet 29 (.quiet 30 (.quiet 31 (.quiet 32 (.quiet 33 (.quiet 34 (.quiet 35 (.quiet 37 (.quiet 38 (.quiet 39 (.quiet 40 (.two 36 41 (.make 41 .nil) (.make 36 .nil)))))))))))))))))))))))))))))))))))))))))) (by kernel_rfl) (by kernel_rfl) ⟨k0, k1, k2⟩ ?_
  simp only [List.drop_succ_cons, List.drop_zero]
  clear k0 k1 k2
  iterate 22 (apply wpTr_step rfl; (intro W hS K hK; obtain ⟨z0, z1, z2⟩ := hS; go_simp; exact hK _ rfl))
  refine wpTr_make rfl (fun K' hK => ?_)
  go_simp
  refine (ctold_any ka kc [E1] _ K7.out (by decide)).mono ?_
  rintro e w7 ⟨v, rfl, hp, hb⟩
  obtain ⟨ta, tc, rfl, ht⟩ := hp.view
  have J8 := Lib.hid (J7.out.keep hb)
  have L8 := Lib.hid (L7.out.trans (hb.mono L7.out.size))
  have B8 := Lib.hid (B7.out.keep hb B7.out.lt)
  have M8 := Lib.hid (M7.out.keep hb)
  have T8 := Lib.hid ht
  clear ht hb hp J7 L7 B7 M7 K7
  refine hK _ _ _ (fun _ h => h) ⟨B8.out.cell 0 _ rfl, B8.out.cell 1 _ rfl, J8.out.b1.cell 1 _ rfl⟩ ?_
  clear hK K'
  refine wpTr_make rfl (fun K' hK => ?_)
  go_simp
  refine (ctold_any (some ⟨g, 0, none⟩) 1 [E1] _ J8.out.s1 (by decide)).mono ?_
  rintro e w8 ⟨v, rfl, hp, hb⟩
  obtain ⟨ua, uc, rfl, ht⟩ := hp.view
  have J9 := Lib.hid (J8.out.keep hb)
  have B9 := Lib.hid (B8.out.keep hb B8.out.lt)
  have L9 := Lib.hid (L8.out.trans (hb.mono L8.out.size))
  have M9 := Lib.hid (M8.out.keep hb)
  have T9 := Lib.hid (T8.out.keep hb)
  have U9 := Lib.hid ht
  clear ht hp hb L8 M8 T8 J8 B8
  refine hK _ _ _ (fun _ h => h) ⟨B9.out.cell 0 _ rfl, B9.out.cell 1 _ rfl, J9.out.b1.cell 1 _ rfl⟩ ?_
  clear hK K'
  refine wpTr_make rfl (fun K' hK => ?_)
  go_simp
  refine (csame_any ta ua tc uc [E1] [E1] _ (by decide) (by decide) T9.out U9.out).mono ?_
  rintro e w9 ⟨rfl, hb⟩
  have J10 := Lib.hid (J9.out.keep hb)
  have B10 := Lib.hid (B9.out.keep hb B9.out.lt)
  have L10 := Lib.hid (L9.out.trans (hb.mono L9.out.size))
  have M10 := Lib.hid (M9.out.keep hb)
  clear hb L9 M9 T9 U9 J9 B9
  rw [show decide ([E1] = [E1]) = true from rfl]
  refine hK _ _ _ (fun _ h => h) ⟨B10.out.cell 0 _ rfl, B10.out.cell 1 _ rfl, J10.out.b1.cell 1 _ rfl⟩ ?_
  clear hK K'
  iterate 15 (apply wpTr_step rfl; (intro W hS K hK; obtain ⟨z0, z1, z2⟩ := hS; go_simp; exact hK _ rfl))
  refine wpTr_two rfl rfl (fun K' hK => ?_) (fun K' hK => ?_)
  · go_simp
    refine (ctold_any ma mc [E3, E1] _ M10.out (by decide)).mono ?_
    rintro e w10 ⟨v, rfl, hp, hb⟩
    obtain ⟨ta, tc, rfl, ht⟩ := hp.view
    have hx := (Below.refl w10.heap.size w10).alloc (Nat.le_refl _) (.cells #[.string ⟨#[108]⟩, .string ⟨#[48, 49, 50, 51, 52, 53, 54, 55, 56, 57, 97, 98, 99, 100, 101, 102, 48, 49, 50, 51, 52, 53, 54, 55, 56, 57, 97, 98, 99, 100, 101, 102]⟩, .int .i64 7, .int .i64 1, .string ⟨#[107]⟩, .string ⟨#[48, 49, 50, 51, 52, 53, 54, 55, 56, 57, 97, 98, 99, 100, 101, 102, 48, 49, 50, 51, 52, 53, 54, 55, 56, 57, 97, 98, 99, 100, 101, 102]⟩, .int .i64 5, .int .i64 9] 53)
    have SX := slc_of_box (l := [E3, E1]) (Box.new w10 53 #[.string ⟨#[108]⟩, .string ⟨#[48, 49, 50, 51, 52, 53, 54, 55, 56, 57, 97, 98, 99, 100, 101, 102, 48, 49, 50, 51, 52, 53, 54, 55, 56, 57, 97, 98, 99, 100, 101, 102]⟩, .int .i64 7, .int .i64 1, .string ⟨#[107]⟩, .string ⟨#[48, 49, 50, 51, 52, 53, 54, 55, 56, 57, 97, 98, 99, 100, 101, 102, 48, 49, 50, 51, 52, 53, 54, 55, 56, 57, 97, 98, 99, 100, 101, 102]⟩, .int .i64 5, .int .i64 9]) rfl
    have J11 := Lib.hid (J10.out.keep hb)
    have B11 := Lib.hid (B10.out.keep hb B10.out.lt)
    have J12 := Lib.hid (J11.out.keep hx)
    have B12 := Lib.hid (B11.out.keep hx B11.out.lt)
    have L12 := Lib.hid ((L10.out.trans (hb.mono L10.out.size)).trans (hx.mono (Nat.le_trans L10.out.size hb.size)))
    have T12 := Lib.hid (ht.keep hx)
    have U12 := Lib.hid SX
    clear ht hp hb hx SX J10 B10 L10 M10
    refine hK _ _ _ (fun _ h => h) ⟨B11.out.cell 0 _ rfl, B11.out.cell 1 _ rfl, J11.out.b1.cell 1 _ rfl⟩ ?_
    clear hK K'
    refine wpTr_make rfl (fun K' hK => ?_)
    go_simp
    refine hK _ _ _ (fun _ h => h) ⟨B12.out.cell 0 _ rfl, B12.out.cell 1 _ rfl, J12.out.b1.cell 1 _ rfl⟩ ?_
    clear hK K' J11 B11 J12 B12
    refine wpTr_nil ?_
    go_wp2_with fail
    refine (csame_any ta (some ⟨w10.heap.size, 0, none⟩) tc 2 [E3, E1] [E3, E1] _ (by decide) (by decide) T12.out U12.out).mono ?_
    rintro e w11 ⟨rfl, hb⟩
    rw [show decide ([E3, E1] = [E3, E1]) = true from rfl]
    have L13 := Lib.hid (L12.out.trans (hb.mono L12.out.size))
    clear hb L12 T12 U12
    go_wp2_with fail
    refine (ccheck_any (-1) none 0 [] _ SlC.nil).mono ?_
    rintro e w12 ⟨rfl, hb⟩
    rw [lv_neg]
    have L14 := Lib.hid (L13.out.trans (hb.mono L13.out.size))
    clear hb L13
    go_wp2
    go_ret
    exact ⟨rfl, L14.out⟩
  · go_simp
    have hx := (Below.refl w9.heap.size w9).alloc (Nat.le_refl _) (.cells #[.string ⟨#[108]⟩, .string ⟨#[48, 49, 50, 51, 52, 53, 54, 55, 56, 57, 97, 98, 99, 100, 101, 102, 48, 49, 50, 51, 52, 53, 54, 55, 56, 57, 97, 98, 99, 100, 101, 102]⟩, .int .i64 7, .int .i64 1, .string ⟨#[107]⟩, .string ⟨#[48, 49, 50, 51, 52, 53, 54, 55, 56, 57, 97, 98, 99, 100, 101, 102, 48, 49, 50, 51, 52, 53, 54, 55, 56, 57, 97, 98, 99, 100, 101, 102]⟩, .int .i64 5, .int .i64 9] 53)
    have SX := slc_of_box (l := [E3, E1]) (Box.new w9 53 #[.string ⟨#[108]⟩, .string ⟨#[48, 49, 50, 51, 52, 53, 54, 55, 56, 57, 97, 98, 99, 100, 101, 102, 48, 49, 50, 51, 52, 53, 54, 55, 56, 57, 97, 98, 99, 100, 101, 102]⟩, .int .i64 7, .int .i64 1, .string ⟨#[107]⟩, .string ⟨#[48, 49, 50, 51, 52, 53, 54, 55, 56, 57, 97, 98, 99, 100, 101, 102, 48, 49, 50, 51, 52, 53, 54, 55, 56, 57, 97, 98, 99, 100, 101, 102]⟩, .int .i64 5, .int .i64 9]) rfl
    have J11 := Lib.hid (J10.out.keep hx)
    have B11 := Lib.hid (B10.out.keep hx B10.out.lt)
    have L11 := Lib.hid (L10.out.trans (hx.mono L10.out.size))
    have M11 := Lib.hid (M10.out.keep hx)
    have U11 := Lib.hid SX
    clear hx SX J10 B10 L10 M10
    refine hK _ _ _ (fun _ h => h) ⟨B11.out.cell 0 _ rfl, B11.out.cell 1 _ rfl, J11.out.b1.cell 1 _ rfl⟩ ?_
    clear hK K'
    refine wpTr_make rfl (fun K' hK => ?_)
    go_simp
    refine (ctold_any ma mc [E3, E1] _ M11.out (by decide)).mono ?_
    rintro e w10 ⟨v, rfl, hp, hb⟩
    obtain ⟨ta, tc, rfl, ht⟩ := hp.view
    have J12 := Lib.hid (J11.out.keep hb)
    have B12 := Lib.hid (B11.out.keep hb B11.out.lt)
    have L12 := Lib.hid (L11.out.trans (hb.mono L11.out.size))
    have T12 := Lib.hid ht
    have U12 := Lib.hid (U11.out.keep hb)
    clear ht hp hb J11 B11 L11 M11 U11
    refine hK _ _ _ (fun _ h => h) ⟨B12.out.cell 0 _ rfl, B12.out.cell 1 _ rfl, J12.out.b1.cell 1 _ rfl⟩ ?_
    clear hK K' J12 B12
    refine wpTr_nil ?_
    go_wp2_with fail
    refine (csame_any ta (some ⟨w9.heap.size, 0, none⟩) tc 2 [E3, E1] [E3, E1] _ (by decide) (by decide) T12.out U12.out).mono ?_
    rintro e w11 ⟨rfl, hb⟩
    rw [show decide ([E3, E1] = [E3, E1]) = true from rfl]
    have L13 := Lib.hid (L12.out.trans (hb.mono L12.out.size))
    clear hb L12 T12 U12
    go_wp2_with fail
    refine (ccheck_any (-1) none 0 [] _ SlC.nil).mono ?_
    rintro e w12 ⟨rfl, hb⟩
    rw [lv_neg]
    have L14 := Lib.hid (L13.out.trans (hb.mono L13.out.size))
    clear hb L13
    go_wp2
    go_ret
    exact ⟨rfl, L14.out⟩
end Go.Proofs.YtljjcchdhnficaaDoor
