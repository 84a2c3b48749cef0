/-
  The walk of UberBack.
-/
import Derived.Test.YtkapbkkbkfmidaaDoorUberEncodesWalk
import Derived.Test.YtkapbkkbkfmidaaDoorUberBM
namespace Go.Proofs.YtkapbkkbkfmidaaDoor.uberBack
open Go.RowKit

set_option maxRecDepth 100000 in
set_option maxHeartbeats 4000000 in
theorem walk (w : World) (hK : Kt w) (u : UbD) (s : ByteArray) (_w1 : s.size ≤ 140737488351232) :
    Calls Tryd.prog 7 #[ubV u, .string s] w fun e w' => e = .returned (.bool true) ∧ Below w.heap.size w w' := by
  have HK := Lib.hid hK
  have HP := Lib.hid hK.pos
  obtain ⟨t, l⟩ := u
  unfold ubV
  clear hK
  by_cases h0 : (1000 : Int) < l.size
  · skip
    go_enter Tryd.func7, Tryd.ntmps7
    have BU0 := Box.new w 26 #[.int .i64 t, .string l]
    have HABU : Hid (Below w.heap.size w (w.alloc (.cells #[.int .i64 t, .string l] 26 (0, 0)))) := (Below.refl _ _).alloc (Nat.le_refl _) _
    go_wp2_with fail
    generalize World.alloc _ _ = xBU at *
    skip
    have BU_n := Lib.hid BU0
    clear BU0
    refine (live_any _ (HK.out.below HABU.out HP.out)).mono ?_
    rintro e v1 ⟨rfl, hb⟩
    have HB1 := Lib.hid (HABU.out.trans (hb.mono HABU.out.size))
    have BU_1 := Lib.hid (BU_n.out.keep hb BU_n.out.lt)
    clear hb HABU BU_n
    go_wp2
    go_ret
    exact ⟨rfl, HB1.out⟩
  by_cases h1 : (1000 : Int) < s.size
  · skip
    go_enter Tryd.func7, Tryd.ntmps7
    have BU0 := Box.new w 26 #[.int .i64 t, .string l]
    have HABU : Hid (Below w.heap.size w (w.alloc (.cells #[.int .i64 t, .string l] 26 (0, 0)))) := (Below.refl _ _).alloc (Nat.le_refl _) _
    go_wp2_with fail
    generalize World.alloc _ _ = xBU at *
    skip
    have BU_n := Lib.hid BU0
    clear BU0
    refine (live_any _ (HK.out.below HABU.out HP.out)).mono ?_
    rintro e v1 ⟨rfl, hb⟩
    have HB1 := Lib.hid (HABU.out.trans (hb.mono HABU.out.size))
    have BU_1 := Lib.hid (BU_n.out.keep hb BU_n.out.lt)
    clear hb HABU BU_n
    go_wp2
    go_ret
    exact ⟨rfl, HB1.out⟩
  have HLZ : Hid (l.size ≤ 1000) := by show _ ≤ _; omega
  have HSZ : Hid (s.size ≤ 1000) := by show _ ≤ _; omega
  by_cases hm : mayU ⟨t, l⟩
  · skip
    have HE := Lib.hid (encU_ok hm)
    have HD := Lib.hid (dec_encU hm)
    have HZ := Lib.hid (encU_size hm)
    clear hm
    go_enter Tryd.func7, Tryd.ntmps7
    have BU0 := Box.new w 26 #[.int .i64 t, .string l]
    have HABU : Hid (Below w.heap.size w (w.alloc (.cells #[.int .i64 t, .string l] 26 (0, 0)))) := (Below.refl _ _).alloc (Nat.le_refl _) _
    go_wp2_with fail
    generalize World.alloc _ _ = xBU at *
    skip
    have BU_n := Lib.hid BU0
    clear BU0
    refine (own_any ⟨t, l⟩ _).mono ?_
    rintro e v1 ⟨rfl, hb⟩
    have HB1 := Lib.hid (HABU.out.trans (hb.mono HABU.out.size))
    have BU_1 := Lib.hid (BU_n.out.keep hb BU_n.out.lt)
    clear hb HABU BU_n
    go_wp2_with fail
    refine (encode_any ⟨t, l⟩ _ (by have := HLZ.out; show l.size ≤ _; omega) (HK.out.below HB1.out HP.out)).mono ?_
    rintro e v2 ⟨rfl, hb⟩
    have HB2 := Lib.hid (HB1.out.trans (hb.mono HB1.out.size))
    have BU_2 := Lib.hid (BU_1.out.keep hb BU_1.out.lt)
    clear hb HB1 BU_1
    have h2 : (encU ⟨t, l⟩).2 = 0 := by rw [HE.out]
    generalize (encU ⟨t, l⟩).2 = ee at *
    subst h2
    have hz : (encU ⟨t, l⟩).1.size = 42 + l.size := HZ.out
    generalize (encU ⟨t, l⟩).1 = T at *
    have HTZ : Hid (T.size ≤ 1100) := by show _ ≤ _; have := HLZ.out; omega
    go_wp2_with fail
    refine (decode_any T _ (by have := HTZ.out; omega) (HK.out.below HB2.out HP.out)).mono ?_
    rintro e v3 ⟨rfl, hb⟩
    have HB3 := Lib.hid (HB2.out.trans (hb.mono HB2.out.size))
    have BU_3 := Lib.hid (BU_2.out.keep hb BU_2.out.lt)
    clear hb HB2 BU_2
    rw [HD.out]
    simp only [ubV]
    have BV0 := Box.new v3 30 #[.int .i64 t, .string l]
    have HABV : Hid (Below w.heap.size w (v3.alloc (.cells #[.int .i64 t, .string l] 30 (0, 0)))) := HB3.out.alloc HB3.out.size _
    have BU_aBV := Lib.hid (BU_3.out.alloc (.cells #[.int .i64 t, .string l] 30 (0, 0)))
    go_wp2_with fail
    generalize World.alloc _ _ = xBV at *
    generalize v3.heap.size = gBV at *
    have BV_n := Lib.hid BV0
    clear BU_3 BV0 HB3
    have GU := Lib.hid BU_aBV.out.lt
    have GV := Lib.hid BV_n.out.lt
    have u0 : xBV.drew.cell? ⟨w.heap.size, 0, none⟩ = some (.int .i64 t) := BU_aBV.out.cell 0 _ rfl
    have u1 : xBV.drew.cell? ⟨w.heap.size, 1, none⟩ = some (.string l) := BU_aBV.out.cell 1 _ rfl
    have y0 : xBV.drew.cell? ⟨gBV, 0, none⟩ = some (.int .i64 t) := BV_n.out.cell 0 _ rfl
    have y1 : xBV.drew.cell? ⟨gBV, 1, none⟩ = some (.string l) := BV_n.out.cell 1 _ rfl
    have q7 : ∀ W, (Op.equalIn 10000 26 (.agg #[.int .i64 t, .string l]) (.agg #[.int .i64 t, .string l])).run Tryd.prog W = .ok true W := fun W => by rw [eqRUb]; simp
    have hqz : ((T.size : Int) != 42 + l.size) = false := by rw [bne_eq_false_iff_eq]; omega
    have hqw : IntKind.i64.wrap (42 + (l.size : Int)) = 42 + l.size := i64_small _ (by omega) (by have := HLZ.out; omega)
    refine wp_region_sched (fun W => W.cell? ⟨w.heap.size, 0, none⟩ = some (.int .i64 t) ∧ W.cell? ⟨w.heap.size, 1, none⟩ = some (.string l) ∧ W.cell? ⟨gBV, 0, none⟩ = some (.int .i64 t) ∧ W.cell? ⟨gBV, 1, none⟩ = some (.string l)) 15 [(0, false), (2, false), (1, true), (3, false), (4, false), (5, false), (6, false), (7, false), (8, false), (9, false), (10, false), (11, false), (12, false), (13, false), (14, false)] (by kernel_rfl) (by kernel_rfl) ⟨u0, u1, y0, y1⟩ ?_
    simp only [List.drop_succ_cons, List.drop_zero]
    iterate 2 (apply wpSch_step rfl; (intro W hS K hK; obtain ⟨r1, r2, r3, r4⟩ := hS; go_simp; exact hK _ rfl))
    refine wpSch_make rfl (fun K' hK => ?_)
    go_simp
    refine (told_any ⟨t, l⟩ _).mono ?_
    rintro e wt ⟨rfl, hb⟩
    simp only [ubV]
    have u0 := (hb.cell (p := ⟨w.heap.size, 0, none⟩) GU.out).trans u0
    have u1 := (hb.cell (p := ⟨w.heap.size, 1, none⟩) GU.out).trans u1
    have y0 := (hb.cell (p := ⟨gBV, 0, none⟩) GV.out).trans y0
    have y1 := (hb.cell (p := ⟨gBV, 1, none⟩) GV.out).trans y1
    have HT := Lib.hid (HABV.out.trans ((show Below xBV.heap.size xBV wt from ⟨hb.os, hb.tape, hb.output, hb.size, hb.block⟩).mono HABV.out.size))
    refine hK _ _ _ (fun _ h => h) ⟨u0, u1, y0, y1⟩ ?_
    clear hK K' hb u0 u1 y0 y1 HABV BU_aBV BV_n GU GV
    iterate 12 (apply wpSch_step rfl; (intro W hS K hK; obtain ⟨r1, r2, r3, r4⟩ := hS; go_simp; exact hK _ rfl))
    refine wpSch_nil ?_
    go_wp2_with fail
    refine (rof_any s _ (by have := HSZ.out; omega)).mono ?_
    rintro e v4 ⟨rfl, hb⟩
    have HB4 := Lib.hid (HT.out.trans (hb.mono HT.out.size))
    clear hb HT
    have hsh := sha_size s
    have HCZ : Hid ((s ++ sha s).size ≤ 1100) := by show _ ≤ _; rw [ByteArray.size_append, hsh]; have := HSZ.out; omega
    have hcat : ¬ (9223372036854775807 < s.size + (sha s).size) := by have := HSZ.out; omega
    go_wp2_with fail
    refine (decode_any (s ++ sha s) _ (by have := HCZ.out; omega) (HK.out.below HB4.out HP.out)).mono ?_
    rintro e v5 ⟨rfl, hb⟩
    have HB5 := Lib.hid (HB4.out.trans (hb.mono HB4.out.size))
    clear hb HB4
    clear hcat hsh
    have hback := dec_back (s ++ sha s)
    have hnone := dec_none (s ++ sha s)
    generalize hkk : s ++ sha s = k at *
    generalize decU k = dk at *
    obtain ⟨⟨vt, vl⟩, f⟩ := dk
    simp only [ubV]
    dsimp only at hback hnone
    clear hkk
    by_cases hf : f = 0
    · skip
      obtain ⟨hm, he⟩ := hback hf
      subst hf
      clear hback hnone
      have HM : Hid (vl.size ≤ 960) := hm.2.2
      have HE := Lib.hid he
      clear hm he
      have BV0 := Box.new v5 30 #[.int .i64 vt, .string vl]
      have HABV : Hid (Below w.heap.size w (v5.alloc (.cells #[.int .i64 vt, .string vl] 30 (0, 0)))) := HB5.out.alloc HB5.out.size _
      go_wp2_with fail
      generalize World.alloc _ _ = xBV at *
      generalize v5.heap.size = gBV at *
      have BV_n := Lib.hid BV0
      clear BV0 HB5
      refine (encode_any ⟨vt, vl⟩ _ (by have := HM.out; show vl.size ≤ _; omega) (HK.out.below HABV.out HP.out)).mono ?_
      rintro e ve ⟨rfl, hb⟩
      rw [HE.out]
      have HVE := Lib.hid (HABV.out.trans (hb.mono HABV.out.size))
      clear hb
      go_wp2_with fail
      refine (live_any _ (HK.out.below HVE.out HP.out)).mono ?_
      rintro e v6 ⟨rfl, hb⟩
      have HB6 := Lib.hid (HVE.out.trans (hb.mono HVE.out.size))
      clear hb HVE
      go_wp2
      go_ret
      exact ⟨rfl, HB6.out⟩
    · skip
      have hn := hnone hf
      injection hn with hn1 hn2
      subst hn1 hn2
      clear hback hnone
      have hq : (f != 0) = true := by simpa using hf
      have q7 : ∀ W, (Op.equalIn 10000 30 (.agg #[.int .i64 0, .string ⟨#[]⟩]) (.agg #[.int .i64 0, .string ⟨#[]⟩])).run Tryd.prog W = .ok true W := fun W => by rw [eqUb]; simp
      have BV0 := Box.new v5 30 #[.int .i64 0, .string ⟨#[]⟩]
      have HABV : Hid (Below w.heap.size w (v5.alloc (.cells #[.int .i64 0, .string ⟨#[]⟩] 30 (0, 0)))) := HB5.out.alloc HB5.out.size _
      go_wp2_with fail
      generalize World.alloc _ _ = xBV at *
      generalize v5.heap.size = gBV at *
      have BV_n := Lib.hid BV0
      clear BV0 HB5
      refine (live_any _ (HK.out.below HABV.out HP.out)).mono ?_
      rintro e v6 ⟨rfl, hb⟩
      have HB6 := Lib.hid (HABV.out.trans (hb.mono HABV.out.size))
      have BV_6 := Lib.hid (BV_n.out.keep hb BV_n.out.lt)
      clear hb HABV BV_n
      go_wp2
      go_ret
      exact ⟨rfl, HB6.out⟩
  · skip
    have HE : Hid (encU ⟨t, l⟩ = (⟨#[]⟩, 1)) := if_neg hm
    clear hm
    go_enter Tryd.func7, Tryd.ntmps7
    have BU0 := Box.new w 26 #[.int .i64 t, .string l]
    have HABU : Hid (Below w.heap.size w (w.alloc (.cells #[.int .i64 t, .string l] 26 (0, 0)))) := (Below.refl _ _).alloc (Nat.le_refl _) _
    go_wp2_with fail
    generalize World.alloc _ _ = xBU at *
    skip
    have BU_n := Lib.hid BU0
    clear BU0
    refine (own_any ⟨t, l⟩ _).mono ?_
    rintro e v1 ⟨rfl, hb⟩
    have HB1 := Lib.hid (HABU.out.trans (hb.mono HABU.out.size))
    have BU_1 := Lib.hid (BU_n.out.keep hb BU_n.out.lt)
    clear hb HABU BU_n
    go_wp2_with fail
    refine (encode_any ⟨t, l⟩ _ (by have := HLZ.out; show l.size ≤ _; omega) (HK.out.below HB1.out HP.out)).mono ?_
    rintro e v2 ⟨rfl, hb⟩
    have HB2 := Lib.hid (HB1.out.trans (hb.mono HB1.out.size))
    have BU_2 := Lib.hid (BU_1.out.keep hb BU_1.out.lt)
    clear hb HB1 BU_1
    rw [HE.out]
    go_wp2_with fail
    refine (rof_any s _ (by have := HSZ.out; omega)).mono ?_
    rintro e v3 ⟨rfl, hb⟩
    have HB3 := Lib.hid (HB2.out.trans (hb.mono HB2.out.size))
    have BU_3 := Lib.hid (BU_2.out.keep hb BU_2.out.lt)
    clear hb HB2 BU_2
    have hsh := sha_size s
    have HCZ : Hid ((s ++ sha s).size ≤ 1100) := by show _ ≤ _; rw [ByteArray.size_append, hsh]; have := HSZ.out; omega
    have hcat : ¬ (9223372036854775807 < s.size + (sha s).size) := by have := HSZ.out; omega
    go_wp2_with fail
    refine (decode_any (s ++ sha s) _ (by have := HCZ.out; omega) (HK.out.below HB3.out HP.out)).mono ?_
    rintro e v4 ⟨rfl, hb⟩
    have HB4 := Lib.hid (HB3.out.trans (hb.mono HB3.out.size))
    have BU_4 := Lib.hid (BU_3.out.keep hb BU_3.out.lt)
    clear hb HB3 BU_3
    clear hcat hsh
    have hback := dec_back (s ++ sha s)
    have hnone := dec_none (s ++ sha s)
    generalize hkk : s ++ sha s = k at *
    generalize decU k = dk at *
    obtain ⟨⟨vt, vl⟩, f⟩ := dk
    simp only [ubV]
    dsimp only at hback hnone
    clear hkk
    by_cases hf : f = 0
    · skip
      obtain ⟨hm, he⟩ := hback hf
      subst hf
      clear hback hnone
      have HM : Hid (vl.size ≤ 960) := hm.2.2
      have HE := Lib.hid he
      clear hm he
      have BV0 := Box.new v4 30 #[.int .i64 vt, .string vl]
      have HABV : Hid (Below w.heap.size w (v4.alloc (.cells #[.int .i64 vt, .string vl] 30 (0, 0)))) := HB4.out.alloc HB4.out.size _
      go_wp2_with fail
      generalize World.alloc _ _ = xBV at *
      generalize v4.heap.size = gBV at *
      have BV_n := Lib.hid BV0
      clear BV0 HB4
      refine (encode_any ⟨vt, vl⟩ _ (by have := HM.out; show vl.size ≤ _; omega) (HK.out.below HABV.out HP.out)).mono ?_
      rintro e ve ⟨rfl, hb⟩
      rw [HE.out]
      have HVE := Lib.hid (HABV.out.trans (hb.mono HABV.out.size))
      clear hb
      go_wp2_with fail
      refine (live_any _ (HK.out.below HVE.out HP.out)).mono ?_
      rintro e v5 ⟨rfl, hb⟩
      have HB5 := Lib.hid (HVE.out.trans (hb.mono HVE.out.size))
      clear hb HVE
      go_wp2
      go_ret
      exact ⟨rfl, HB5.out⟩
    · skip
      have hn := hnone hf
      injection hn with hn1 hn2
      subst hn1 hn2
      clear hback hnone
      have hq : (f != 0) = true := by simpa using hf
      have q7 : ∀ W, (Op.equalIn 10000 30 (.agg #[.int .i64 0, .string ⟨#[]⟩]) (.agg #[.int .i64 0, .string ⟨#[]⟩])).run Tryd.prog W = .ok true W := fun W => by rw [eqUb]; simp
      have BV0 := Box.new v4 30 #[.int .i64 0, .string ⟨#[]⟩]
      have HABV : Hid (Below w.heap.size w (v4.alloc (.cells #[.int .i64 0, .string ⟨#[]⟩] 30 (0, 0)))) := HB4.out.alloc HB4.out.size _
      go_wp2_with fail
      generalize World.alloc _ _ = xBV at *
      generalize v4.heap.size = gBV at *
      have BV_n := Lib.hid BV0
      clear BV0 HB4
      refine (live_any _ (HK.out.below HABV.out HP.out)).mono ?_
      rintro e v5 ⟨rfl, hb⟩
      have HB5 := Lib.hid (HABV.out.trans (hb.mono HABV.out.size))
      have BV_5 := Lib.hid (BV_n.out.keep hb BV_n.out.lt)
      clear hb HABV BV_n
      go_wp2
      go_ret
      exact ⟨rfl, HB5.out⟩
end Go.Proofs.YtkapbkkbkfmidaaDoor.uberBack
