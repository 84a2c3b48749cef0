/-
  The walk of UberEncodes.
-/
import Derived.Test.YtkapbkkbkfmidaaDoorMg28
import Derived.Test.YtkapbkkbkfmidaaDoorUberLive
import Derived.Test.YtkapbkkbkfmidaaDoorMg0
namespace Go.Proofs.YtkapbkkbkfmidaaDoor
open Go.RowKit
/-- The model's '==' at a root. -/
theorem eqRUb (x1 y1 : Int) (x2 y2 : ByteArray) (w : World) : (Op.equalIn 10000 26 (.agg #[.int .i64 x1, .string x2]) (.agg #[.int .i64 y1, .string y2])).run Tryd.prog w = .ok (x1 == y1 && x2.toList == y2.toList) w := by
  have u3 := Tryd.underlying3
  have a3 := Tryd.isAgg3
  have z3 := Tryd.sizeOf3
  have u9 := Tryd.underlying9
  have a9 := Tryd.isAgg9
  have z9 := Tryd.sizeOf9
  have hS : Tryd.prog.underlying 26 = some (.struct (Tryd.prog.fieldsOf 26)) := by kernel_rfl
  have hp : Tryd.prog.stoodInHeld 26 = false := by kernel_rfl
  rw [show (10000 : Nat) = 9999 + 1 from rfl, run_equalIn_agg w 9999 26 _ _ hS hp]
  simp only [Program.fieldsOf, Tryd.underlying26]
  go_simp
  by_cases h1 : x1 = y1 <;> by_cases h2 : x2.toList = y2.toList <;> simp [h1, h2]

end Go.Proofs.YtkapbkkbkfmidaaDoor
namespace Go.Proofs.YtkapbkkbkfmidaaDoor.uberEncodes
open Go.RowKit

set_option maxRecDepth 100000 in
set_option maxHeartbeats 4000000 in
theorem walk (w : World) (hK : Kt w) (u : UbD) (s : ByteArray) (_w1 : s.size ≤ 140737488351232) :
    Calls Tryd.prog 4 #[ubV u, .string s] w fun e w' => e = .returned (.bool true) ∧ Below w.heap.size w w' := by
  have HK := Lib.hid hK
  have HP := Lib.hid hK.pos
  obtain ⟨t, l⟩ := u
  unfold ubV
  have HX : Hid (Below w.heap.size w (w.alloc (.cells #[.int .i64 t, .string l] 26 (0, 0)))) := (Below.refl _ _).alloc (Nat.le_refl _) _
  have HBX := Lib.hid (Box.new w 26 #[.int .i64 t, .string l])
  clear hK
  by_cases h0 : (1100 : Int) < l.size
  · clear HBX
    go_enter Tryd.func4, Tryd.ntmps4
    go_wp2_with fail
    refine (live_any _ (HK.out.below HX.out HP.out)).mono ?_
    rintro e wl ⟨rfl, hb⟩
    have Hl := Lib.hid (HX.out.trans (hb.mono HX.out.size))
    clear hb
    go_wp2
    go_ret
    exact ⟨rfl, Hl.out⟩
  · by_cases h1 : (1100 : Int) < s.size
    · clear HBX
      go_enter Tryd.func4, Tryd.ntmps4
      go_wp2_with fail
      refine (live_any _ (HK.out.below HX.out HP.out)).mono ?_
      rintro e wl ⟨rfl, hb⟩
      have Hl := Lib.hid (HX.out.trans (hb.mono HX.out.size))
      clear hb
      go_wp2
      go_ret
      exact ⟨rfl, Hl.out⟩
    · have HLZ : Hid (l.size ≤ 1100) := by show _ ≤ _; omega
      have HSZ : Hid (s.size ≤ 1100) := by show _ ≤ _; omega
      go_enter Tryd.func4, Tryd.ntmps4
      go_wp2_with fail
      generalize World.alloc _ _ = wx at *
      have H0 := HX
      have BU := HBX
      clear HX HBX
      refine (own_any ⟨t, l⟩ _).mono ?_
      rintro e w1 ⟨rfl, hb⟩
      have H1 := Lib.hid (H0.out.trans (hb.mono H0.out.size))
      have BU := Lib.hid (BU.out.keep hb BU.out.lt)
      clear hb
      go_wp2_with fail
      refine (encode_any ⟨t, l⟩ _ (by have := HLZ.out; show l.size ≤ _; omega) (HK.out.below H1.out HP.out)).mono ?_
      rintro e w2 ⟨rfl, hb⟩
      have H2 := Lib.hid (H1.out.trans (hb.mono H1.out.size))
      have BU := Lib.hid (BU.out.keep hb BU.out.lt)
      clear hb
      have u0 : w2.cell? ⟨w.heap.size, 0, none⟩ = some (.int .i64 t) := BU.out.cell 0 _ rfl
      have u1 : w2.cell? ⟨w.heap.size, 1, none⟩ = some (.string l) := BU.out.cell 1 _ rfl
      generalize hen : encU ⟨t, l⟩ = en at *
      have HEN := Lib.hid hen
      clear hen
      obtain ⟨ea, ee⟩ := en
      go_wp2_with fail
      clear u0 u1
      refine (rencode_any ⟨t, l⟩ _ (by have := HLZ.out; show l.size ≤ _; omega)).mono ?_
      rintro e w3 ⟨rfl, hb⟩
      rw [HEN.out]
      have H3 := Lib.hid (H2.out.trans (hb.mono H2.out.size))
      clear hb
      clear BU
      go_wp2_with fail
      refine (rof_any s _ (by have := HSZ.out; omega)).mono ?_
      rintro e w4 ⟨rfl, hb⟩
      have H4 := Lib.hid (H3.out.trans (hb.mono H3.out.size))
      clear hb
      have hsh := sha_size s
      generalize sha s = d at *
      have hcat : ¬ (9223372036854775807 < s.size + d.size) := by have := HSZ.out; omega
      go_wp2_with fail
      clear hcat
      refine (decode_any s _ (by have := HSZ.out; omega) (HK.out.below H4.out HP.out)).mono ?_
      rintro e w5 ⟨rfl, hb⟩
      have H5 := Lib.hid (H4.out.trans (hb.mono H4.out.size))
      clear hb
      have hrd := rdec_eq s
      generalize hds : decU s = ds at *
      clear hds
      obtain ⟨⟨ct, cl⟩, ce⟩ := ds
      have HRD := Lib.hid hrd
      clear hrd
      simp only [ubV]
      go_wp2_with fail
      generalize hwx : World.alloc _ _ = wy
      have hb : Below w5.heap.size w5 wy := by rw [← hwx]; exact (Below.refl _ _).alloc (Nat.le_refl _) _
      have Bbc : Hid (Box wy w5.heap.size 30 #[.int .i64 ct, .string cl]) := by show Box _ _ _ _; rw [← hwx]; exact Box.new _ _ _
      clear hwx
      have HLbc : Hid (w.heap.size ≤ w5.heap.size) := H5.out.size
      have H6 := Lib.hid (H5.out.trans (hb.mono H5.out.size))
      clear hb
      generalize w5.heap.size = bc at *
      refine (rdecode_any s _ (by have := HSZ.out; omega)).mono ?_
      rintro e w6 ⟨rfl, hb⟩
      rw [HRD.out]
      simp only [ubV]
      have H7 := Lib.hid (H6.out.trans (hb.mono H6.out.size))
      have Bbc := Lib.hid (Bbc.out.keep hb Bbc.out.lt)
      clear hb
      go_wp2_with fail
      generalize hwx : World.alloc _ _ = wy
      have hb : Below w6.heap.size w6 wy := by rw [← hwx]; exact (Below.refl _ _).alloc (Nat.le_refl _) _
      have Bbx : Hid (Box wy w6.heap.size 26 #[.int .i64 ct, .string cl]) := by show Box _ _ _ _; rw [← hwx]; exact Box.new _ _ _
      clear hwx
      have HLbx : Hid (w.heap.size ≤ w6.heap.size) := H7.out.size
      have HNbxbc : Hid (bc < w6.heap.size) := Bbc.out.lt
      have H8 := Lib.hid (H7.out.trans (hb.mono H7.out.size))
      have Bbc := Lib.hid (Bbc.out.keep hb Bbc.out.lt)
      clear hb
      generalize w6.heap.size = bx at *
      refine (decode_any (s ++ d) _ (by have := HSZ.out; rw [ByteArray.size_append]; omega) (HK.out.below H8.out HP.out)).mono ?_
      rintro e w7 ⟨rfl, hb⟩
      have H9 := Lib.hid (H8.out.trans (hb.mono H8.out.size))
      have Bbc := Lib.hid (Bbc.out.keep hb Bbc.out.lt)
      have Bbx := Lib.hid (Bbx.out.keep hb Bbx.out.lt)
      clear hb
      have hrd := rdec_eq (s ++ d)
      generalize hds : decU (s ++ d) = ds at *
      clear hds
      obtain ⟨⟨kt, kl⟩, ke⟩ := ds
      have HRE := Lib.hid hrd
      clear hrd
      simp only [ubV]
      go_wp2_with fail
      generalize hwx : World.alloc _ _ = wy
      have hb : Below w7.heap.size w7 wy := by rw [← hwx]; exact (Below.refl _ _).alloc (Nat.le_refl _) _
      have Bbk : Hid (Box wy w7.heap.size 30 #[.int .i64 kt, .string kl]) := by show Box _ _ _ _; rw [← hwx]; exact Box.new _ _ _
      clear hwx
      have HLbk : Hid (w.heap.size ≤ w7.heap.size) := H9.out.size
      have HNbkbc : Hid (bc < w7.heap.size) := Bbc.out.lt
      have HNbkbx : Hid (bx < w7.heap.size) := Bbx.out.lt
      have H10 := Lib.hid (H9.out.trans (hb.mono H9.out.size))
      have Bbc := Lib.hid (Bbc.out.keep hb Bbc.out.lt)
      have Bbx := Lib.hid (Bbx.out.keep hb Bbx.out.lt)
      clear hb
      generalize w7.heap.size = bk at *
      refine (rdecode_any (s ++ d) _ (by have := HSZ.out; rw [ByteArray.size_append]; omega)).mono ?_
      rintro e w8 ⟨rfl, hb⟩
      rw [HRE.out]
      simp only [ubV]
      have H11 := Lib.hid (H10.out.trans (hb.mono H10.out.size))
      have Bbc := Lib.hid (Bbc.out.keep hb Bbc.out.lt)
      have Bbx := Lib.hid (Bbx.out.keep hb Bbx.out.lt)
      have Bbk := Lib.hid (Bbk.out.keep hb Bbk.out.lt)
      clear hb
      go_wp2_with fail
      generalize hwx : World.alloc _ _ = wy
      have hb : Below w8.heap.size w8 wy := by rw [← hwx]; exact (Below.refl _ _).alloc (Nat.le_refl _) _
      have Bby : Hid (Box wy w8.heap.size 26 #[.int .i64 kt, .string kl]) := by show Box _ _ _ _; rw [← hwx]; exact Box.new _ _ _
      clear hwx
      have HLbY : Hid (w.heap.size ≤ w8.heap.size) := H11.out.size
      have HNbybc : Hid (bc < w8.heap.size) := Bbc.out.lt
      have HNbybx : Hid (bx < w8.heap.size) := Bbx.out.lt
      have HNbybk : Hid (bk < w8.heap.size) := Bbk.out.lt
      have H12 := Lib.hid (H11.out.trans (hb.mono H11.out.size))
      have Bbc := Lib.hid (Bbc.out.keep hb Bbc.out.lt)
      have Bbx := Lib.hid (Bbx.out.keep hb Bbx.out.lt)
      have Bbk := Lib.hid (Bbk.out.keep hb Bbk.out.lt)
      clear hb
      generalize w8.heap.size = bY at *
      have HQ : Hid (∀ W, (Op.equalIn 10000 26 (.agg #[.int .i64 ct, .string cl]) (.agg #[.int .i64 ct, .string cl])).run Tryd.prog W = .ok true W) := by exact fun W => by have := eqRUb ct ct cl cl W; simpa using this
      have HQ2 : Hid (∀ W, (Op.equalIn 10000 26 (.agg #[.int .i64 kt, .string kl]) (.agg #[.int .i64 kt, .string kl])).run Tryd.prog W = .ok true W) := by exact fun W => by have := eqRUb kt kt kl kl W; simpa using this
      have c0 : wy.drew.cell? ⟨bc, 0, none⟩ = some (.int .i64 ct) := Bbc.out.cell 0 _ rfl
      have c1 : wy.drew.cell? ⟨bc, 1, none⟩ = some (.string cl) := Bbc.out.cell 1 _ rfl
      have c2 : wy.drew.cell? ⟨bx, 0, none⟩ = some (.int .i64 ct) := Bbx.out.cell 0 _ rfl
      have c3 : wy.drew.cell? ⟨bx, 1, none⟩ = some (.string cl) := Bbx.out.cell 1 _ rfl
      have c4 : wy.drew.cell? ⟨bk, 0, none⟩ = some (.int .i64 kt) := Bbk.out.cell 0 _ rfl
      have c5 : wy.drew.cell? ⟨bk, 1, none⟩ = some (.string kl) := Bbk.out.cell 1 _ rfl
      have c6 : wy.drew.cell? ⟨bY, 0, none⟩ = some (.int .i64 kt) := Bby.out.cell 0 _ rfl
      have c7 : wy.drew.cell? ⟨bY, 1, none⟩ = some (.string kl) := Bby.out.cell 1 _ rfl
      have HSS : Hid (∀ W, Below wy.drew.heap.size wy.drew W → W.cell? ⟨bc, 0, none⟩ = some (.int .i64 ct) ∧ W.cell? ⟨bc, 1, none⟩ = some (.string cl) ∧ W.cell? ⟨bx, 0, none⟩ = some (.int .i64 ct) ∧ W.cell? ⟨bx, 1, none⟩ = some (.string cl) ∧ W.cell? ⟨bk, 0, none⟩ = some (.int .i64 kt) ∧ W.cell? ⟨bk, 1, none⟩ = some (.string kl) ∧ W.cell? ⟨bY, 0, none⟩ = some (.int .i64 kt) ∧ W.cell? ⟨bY, 1, none⟩ = some (.string kl)) := by exact fun W hW => ⟨(hW.cell (p := ⟨bc, 0, none⟩) Bbc.out.lt).trans c0, (hW.cell (p := ⟨bc, 1, none⟩) Bbc.out.lt).trans c1, (hW.cell (p := ⟨bx, 0, none⟩) Bbx.out.lt).trans c2, (hW.cell (p := ⟨bx, 1, none⟩) Bbx.out.lt).trans c3, (hW.cell (p := ⟨bk, 0, none⟩) Bbk.out.lt).trans c4, (hW.cell (p := ⟨bk, 1, none⟩) Bbk.out.lt).trans c5, (hW.cell (p := ⟨bY, 0, none⟩) Bby.out.lt).trans c6, (hW.cell (p := ⟨bY, 1, none⟩) Bby.out.lt).trans c7⟩
      have HW : Hid (Below wy.drew.heap.size wy.drew wy.drew) := Below.refl _ _
      have hq1 := HQ.out
      have hq2 := HQ2.out
      have H13 := Lib.hid H12.out.drew
      refine wp_region_sched (fun W => W.cell? ⟨bc, 0, none⟩ = some (.int .i64 ct) ∧ W.cell? ⟨bc, 1, none⟩ = some (.string cl) ∧ W.cell? ⟨bx, 0, none⟩ = some (.int .i64 ct) ∧ W.cell? ⟨bx, 1, none⟩ = some (.string cl) ∧ W.cell? ⟨bk, 0, none⟩ = some (.int .i64 kt) ∧ W.cell? ⟨bk, 1, none⟩ = some (.string kl) ∧ W.cell? ⟨bY, 0, none⟩ = some (.int .i64 kt) ∧ W.cell? ⟨bY, 1, none⟩ = some (.string kl)) 28 [(0, false), (1, false), (2, false), (3, false), (4, false), (5, false), (6, false), (7, false), (8, false), (9, false), (11, false), (10, true), (12, false), (13, false), (14, false), (15, false), (16, false), (17, false), (18, false), (19, false), (20, false), (22, false), (21, true), (23, false), (24, false), (25, false), (26, false), (27, false)] (by kernel_rfl) (by kernel_rfl) ⟨c0, c1, c2, c3, c4, c5, c6, c7⟩ ?_
      clear c0 c1 c2 c3 c4 c5 c6 c7
      simp only [List.drop_succ_cons, List.drop_zero]
      iterate 11 (apply wpSch_step rfl; (intro W hS K hK; obtain ⟨r0, r1, r2, r3, r4, r5, r6, r7⟩ := hS; go_simp; exact hK _ rfl))
      refine wpSch_make rfl (fun K' hK => ?_)
      go_simp
      refine (told_any ⟨ct, cl⟩ _).mono ?_
      rintro e w9 ⟨rfl, hb⟩
      have HW : Hid (Below wy.drew.heap.size wy.drew w9) := HW.out.trans (hb.mono HW.out.size)
      obtain ⟨r0, r1, r2, r3, r4, r5, r6, r7⟩ := HSS.out _ HW.out
      refine hK _ _ _ (fun _ h => h) ⟨r0, r1, r2, r3, r4, r5, r6, r7⟩ ?_
      clear hK K' hb r0 r1 r2 r3 r4 r5 r6 r7
      simp only [ubV]
      iterate 10 (apply wpSch_step rfl; (intro W hS K hK; obtain ⟨r0, r1, r2, r3, r4, r5, r6, r7⟩ := hS; go_simp; exact hK _ rfl))
      refine wpSch_make rfl (fun K' hK => ?_)
      go_simp
      refine (told_any ⟨kt, kl⟩ _).mono ?_
      rintro e wA ⟨rfl, hb⟩
      have HW : Hid (Below wy.drew.heap.size wy.drew wA) := HW.out.trans (hb.mono HW.out.size)
      obtain ⟨r0, r1, r2, r3, r4, r5, r6, r7⟩ := HSS.out _ HW.out
      refine hK _ _ _ (fun _ h => h) ⟨r0, r1, r2, r3, r4, r5, r6, r7⟩ ?_
      clear hK K' hb r0 r1 r2 r3 r4 r5 r6 r7
      simp only [ubV]
      iterate 5 (apply wpSch_step rfl; (intro W hS K hK; obtain ⟨r0, r1, r2, r3, r4, r5, r6, r7⟩ := hS; go_simp; exact hK _ rfl))
      refine wpSch_nil ?_
      have HF := Lib.hid (H13.out.trans (HW.out.mono H13.out.size))
      go_wp2_with fail
      refine (live_any _ (HK.out.below HF.out HP.out)).mono ?_
      rintro e wl ⟨rfl, hb⟩
      have Hl := Lib.hid (HF.out.trans (hb.mono HF.out.size))
      clear hb
      go_wp2
      go_ret
      exact ⟨rfl, Hl.out⟩
end Go.Proofs.YtkapbkkbkfmidaaDoor.uberEncodes
