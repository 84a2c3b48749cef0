/-
  The walk of NodeBack.
-/
import Derived.Test.YtlkkgboaicjaiaaNodeWk
import Derived.Test.YtlkkgboaicjaiaaNodeDecodesWalk
import Derived.Test.YtlkkgboaicjaiaaFrame
import Derived.Test.YtlkkgboaicjaiaaOpenNode
namespace Go.Proofs.Ytlkkgboaicjaiaa.nodeBack
open Go.RowKit Go.Proofs.Ytlkkgboaicjaiaa.nodeDecodes Go.ChangeShapes Go.WideShapes Go.ChangeAt

theorem raw_sizes (s : ByteArray) : ∀ t ∈ (rawD s).keys ++ (rawD s).vals, t.size ≤ maxLen := fun t ht => by
  have := ents_size s _ _ t ht; unfold maxLen; omega
theorem enc_sz {d : NodeD} (h : chkN d = 0) : (encR d).size = sizeD d ∧ sizeD d ≤ 960 := by
  have hm := (enc_small h).2
  have hs := (enc_small h).1
  obtain ⟨E, e, hE, hl⟩ := may_of hm
  have h1 := enc_len d.leaf E hE hl
  rw [← e] at h1
  have e2 : d.keys = E.map (·.1) := by rw [e]; rfl
  have e3 : d.vals = E.map (·.2) := by rw [e]; rfl
  rw [← e2, ← e3] at h1
  have h2 : sizeD d = 2 + szL d.keys d.vals := by unfold sizeD; rw [if_pos hm]
  have h3 : encR d = encD d := by unfold encR; rw [if_pos h]
  rw [h3, h1, h2]
  exact ⟨rfl, by omega⟩
set_option maxRecDepth 100000 in
set_option maxHeartbeats 4000000 in
theorem walk (w : World) (ka0 : Option Addr) (kc0 : Nat) (va0 : Option Addr) (vc0 : Nat) (n0 : NodeD) (g0 : ArgN w ka0 kc0 va0 vc0 n0) (a1 : ByteArray) (w1 : a1.size ≤ 140737488351232) :
    Calls Try.prog 6 #[nodeV ka0 kc0 va0 vc0 n0, .string a1] w fun e w' => e = .returned (.bool true) ∧ Below w.heap.size w w' := by
  have HG := Lib.hid g0
  have HZ := Lib.hid g0.sizes
  have HB0 : Hid (∀ o, Below w.heap.size w (w.alloc o)) := fun o => (Below.refl _ _).alloc (Nat.le_refl _) o
  clear g0
  have HV : Hid (Value.agg #[.bool n0.leaf, .slice ka0 n0.keys.length kc0, .slice va0 n0.vals.length vc0] = nodeV ka0 kc0 va0 vc0 n0) := rfl
  have HX := Lib.hid (Box.new w 24 #[.bool n0.leaf, .slice ka0 n0.keys.length kc0, .slice va0 n0.vals.length vc0])
  have HB := Lib.hid (HB0.out (.cells #[.bool n0.leaf, .slice ka0 n0.keys.length kc0, .slice va0 n0.vals.length vc0] 24 (0, 0)))
  unfold nodeV
  go_enter Try.func6, Try.ntmps6
  go_wp2_with fail
  rw [HV.out]
  refine (small_any ka0 kc0 va0 vc0 n0 _ (HG.out.keep HB.out)).mono ?_
  rintro e ws ⟨rfl, hb⟩
  have HX := Lib.hid (HX.out.keep hb HX.out.lt)
  have HB := Lib.hid (HB.out.trans (hb.mono HB.out.size))
  clear hb
  have a0 := HX.out.cell 0 _ rfl
  have a1'' := HX.out.cell 1 _ rfl
  have a2 := HX.out.cell 2 _ rfl
  cases hsm : smallD n0
  · clear hsm
    go_wp2_with fail
    refine (live_any _).mono ?_
    rintro e w1 ⟨rfl, hb⟩
    have HX := Lib.hid (HX.out.keep hb HX.out.lt)
    have HB := Lib.hid (HB.out.trans (hb.mono HB.out.size))
    clear hb
    have a0 := HX.out.cell 0 _ rfl
    have a1'' := HX.out.cell 1 _ rfl
    have a2 := HX.out.cell 2 _ rfl
    go_wp2
    go_ret
    exact ⟨rfl, HB.out⟩
  · have HIN := Lib.hid (HG.out.inn hsm)
    clear hsm
    by_cases hk : a1.size ≤ 1100
    rotate_left
    · have hk2 : ((1100 : Int) < (a1.size : Int)) = True := eq_true (by omega)
      clear hk
      go_wp2_with fail
      refine (live_any _).mono ?_
      rintro e w2 ⟨rfl, hb⟩
      have HX := Lib.hid (HX.out.keep hb HX.out.lt)
      have HB := Lib.hid (HB.out.trans (hb.mono HB.out.size))
      clear hb
      have a0 := HX.out.cell 0 _ rfl
      have a1'' := HX.out.cell 1 _ rfl
      have a2 := HX.out.cell 2 _ rfl
      go_wp2
      go_ret
      exact ⟨rfl, HB.out⟩
    have hk2 : ((1100 : Int) < (a1.size : Int)) = False := eq_false (by omega)
    have HSZ : Hid (a1.size ≤ 100000) := by show _ ≤ _; omega
    clear hk
    go_wp2_with fail
    try rw [HV.out]
    refine (lown_node ka0 kc0 va0 vc0 n0 _).mono ?_
    rintro e w3 ⟨rfl, hb⟩
    have HX := Lib.hid (HX.out.keep hb HX.out.lt)
    have HB := Lib.hid (HB.out.trans (hb.mono HB.out.size))
    clear hb
    have a0 := HX.out.cell 0 _ rfl
    have a1'' := HX.out.cell 1 _ rfl
    have a2 := HX.out.cell 2 _ rfl
    go_wp2_with fail
    try rw [HV.out]
    refine (encode_any ka0 kc0 va0 vc0 n0 _ (HIN.out.keep HB.out) HZ.out).mono ?_
    rintro e w4 ⟨rfl, hb⟩
    have HX := Lib.hid (HX.out.keep hb HX.out.lt)
    have HB := Lib.hid (HB.out.trans (hb.mono HB.out.size))
    clear hb
    have a0 := HX.out.cell 0 _ rfl
    have a1'' := HX.out.cell 1 _ rfl
    have a2 := HX.out.cell 2 _ rfl
    by_cases hc0 : chkN n0 = 0
    rotate_left
    · have hce : (chkN n0 == 0) = false := by rw [beq_eq_false_iff_ne]; exact hc0
      generalize chkN n0 = C at *
      generalize encR n0 = E at *
      clear hc0 a0 a1'' a2
      go_wp2_with fail
      refine (decode_any a1 _ HSZ.out).mono ?_
      rintro e wd ⟨nv, rfl, ho, hb⟩
      have hl := dec_len a1
      have hok := @dec_ok a1
      have hbad := @dec_bad a1
      obtain ⟨q, hq⟩ : ∃ q, q = decP a1 := ⟨_, rfl⟩
      rw [← hq] at ho hl hok hbad ⊢
      clear hq
      obtain ⟨D, c⟩ := q
      obtain ⟨kd, kdc, vd, vdc, rfl, hi, _, _⟩ := ho.view (by simp only at hl ⊢; omega) (by simp only at hl ⊢; omega)
      have HBd := Lib.hid (HB.out.trans (hb.mono HB.out.size))
      have HXd := Lib.hid (Box.new wd 30 #[.bool D.leaf, .slice kd D.keys.length kdc, .slice vd D.vals.length vdc])
      have HId := Lib.hid hi
      have HAd : Hid (∀ o, Below wd.heap.size wd (wd.alloc o)) := fun o => (Below.refl _ _).alloc (Nat.le_refl _) o
      have HOK := Lib.hid hok
      clear ho hi hb hl hok HX
      unfold nodeV
      simp only
      have a0' := HXd.out.cell 0 _ rfl
      have a1' := HXd.out.cell 1 _ rfl
      have a2' := HXd.out.cell 2 _ rfl
      by_cases hc : c = 0
      · subst hc
        obtain ⟨hD1, hD2, hD3⟩ := HOK.out rfl
        simp only at hD1
        rw [← hD1] at hD2 hD3
        have HZD : Hid (∀ t ∈ D.keys ++ D.vals, t.size ≤ maxLen) := by rw [hD1]; exact raw_sizes a1
        have HED : Hid (encR D = a1) := by show _ = _; unfold encR; rw [if_pos hD2, hD3]
        have HCD := Lib.hid hD2
        have HVd : Hid (Value.agg #[.bool D.leaf, .slice kd D.keys.length kdc, .slice vd D.vals.length vdc] = nodeV kd kdc vd vdc D) := rfl
        clear hD1 hD2 hD3 hbad HOK
        go_wp2_with fail
        rw [HVd.out]
        refine (encode_any kd kdc vd vdc D _ (HId.out.keep (HAd.out _)) HZD.out).mono ?_
        rintro e we ⟨rfl, hb⟩
        rw [HED.out, HCD.out]
        have HBe := Lib.hid (HBd.out.trans (((HAd.out _).trans (hb.mono (HAd.out _).size)).mono HBd.out.size))
        clear hb a0' a1' a2'
        go_wp2_with fail
        refine (live_any _).mono ?_
        rintro e wf ⟨rfl, hb⟩
        have HBf := Lib.hid (HBe.out.trans (hb.mono HBe.out.size))
        clear hb
        go_wp2
        go_ret
        exact ⟨rfl, HBf.out⟩
      · have hD : D = nilD := hbad hc
        have hc2 : (c == 0) = false := by rw [beq_eq_false_iff_ne]; exact hc
        have hkl : D.keys.length = 0 := by rw [hD]; rfl
        clear hbad HOK hD hc
        go_wp2_with fail
        refine (live_any _).mono ?_
        rintro e wf ⟨rfl, hb⟩
        have HBf := Lib.hid (HBd.out.trans (((HAd.out _).trans (hb.mono (HAd.out _).size)).mono HBd.out.size))
        clear hb
        go_wp2
        go_ret
        exact ⟨rfl, HBf.out⟩
    have hes := enc_sz hc0
    have HDE : Hid (decP (encR n0) = (n0, 0)) := by
      have h1 := dec_enc n0 hc0
      have h2 : encR n0 = encD n0 := if_pos hc0
      show _ = _
      rw [h2]; exact h1
    rw [hc0]
    clear hc0
    obtain ⟨E, hE⟩ : ∃ E, E = encR n0 := ⟨_, rfl⟩
    rw [← hE] at hes HDE ⊢
    clear hE
    have HES := Lib.hid hes
    have HEZ : Hid (E.size ≤ 100000) := by show _ ≤ _; omega
    clear hes a0 a1'' a2
    go_wp2_with fail
    refine (decode_any E _ HEZ.out).mono ?_
    rintro e wg ⟨nv, rfl, ho, hb⟩
    rw [HDE.out] at ho ⊢
    obtain ⟨ka, kc, va, vc, rfl, hi, _, _⟩ := ho.view HIN.out.kl HIN.out.vl
    have HX := Lib.hid (HX.out.keep hb HX.out.lt)
    have HB := Lib.hid (HB.out.trans (hb.mono HB.out.size))
    have HYg := Lib.hid (Box.new wg 30 #[.bool n0.leaf, .slice ka n0.keys.length kc, .slice va n0.vals.length vc])
    have HIg := Lib.hid hi
    have HAg : Hid (∀ o, Below wg.heap.size wg (wg.alloc o)) := fun o => (Below.refl _ _).alloc (Nat.le_refl _) o
    clear ho hi hb
    unfold nodeV
    simp only
    go_wp2_with fail
    generalize hwh : wg.alloc (.cells #[.bool n0.leaf, .slice ka n0.keys.length kc, .slice va n0.vals.length vc] 30 (0, 0)) = wh
    have hbh := HAg.out (.cells #[.bool n0.leaf, .slice ka n0.keys.length kc, .slice va n0.vals.length vc] 30 (0, 0))
    rw [hwh] at HYg hbh
    obtain ⟨b7, hb7⟩ : ∃ b7, b7 = wg.heap.size := ⟨_, rfl⟩
    rw [← hb7] at HYg ⊢
    have HY : Hid (Box wh.drew b7 30 #[.bool n0.leaf, .slice ka n0.keys.length kc, .slice va n0.vals.length vc]) := HYg.out
    have HX : Hid (Box wh.drew w.heap.size 24 #[.bool n0.leaf, .slice ka0 n0.keys.length kc0, .slice va0 n0.vals.length vc0]) := HX.out.keep hbh.drew HX.out.lt
    have HI : Hid (NodeIn wh.drew ka va n0) := HIg.out.keep hbh.drew
    have HB : Hid (Below w.heap.size w wh.drew) := (HB.out.trans (hbh.mono HB.out.size)).drew
    clear hwh hbh hb7 HYg HIg HAg
    have hsm : sameD n0 n0 = true := (same_iff _ _).2 rfl
    have f1 : (E.size : Int) = (sizeD n0 : Int) := by have := HES.out; omega
    have f2 : ((960 : Int) < (sizeD n0 : Int)) = False := eq_false (by have := HES.out; omega)
    refine wp_region_tree (fun W => W.cell? ⟨b7, 0, none⟩ = some (.bool n0.leaf) ∧ W.cell? ⟨b7, 1, none⟩ = some (.slice ka n0.keys.length kc) ∧ W.cell? ⟨b7, 2, none⟩ = some (.slice va n0.vals.length vc) ∧ W.cell? ⟨w.heap.size, 0, none⟩ = some (.bool n0.leaf) ∧ W.cell? ⟨w.heap.size, 1, none⟩ = some (.slice ka0 n0.keys.length kc0) ∧ W.cell? ⟨w.heap.size, 2, none⟩ = some (.slice va0 n0.vals.length vc0)) 15 (.quiet 0 (.quiet 2 (.make 1 (.make 3 (.quiet 4 (.quiet 5 (.quiet 6 (.quiet 7 (.quiet 8 (.quiet 9 (.quiet 10 (.quiet 11 (.quiet 12 (.make 13 (.make 14 .nil))))))))))))))) (by kernel_rfl) (by kernel_rfl) ⟨HY.out.cell 0 _ rfl, HY.out.cell 1 _ rfl, HY.out.cell 2 _ rfl, HX.out.cell 0 _ rfl, HX.out.cell 1 _ rfl, HX.out.cell 2 _ rfl⟩ ?_
    simp only [List.drop_succ_cons, List.drop_zero]
    iterate 2 (apply wpTr_step rfl; (intro W hS K hK; obtain ⟨q0, q1, q2, q3, q4, q5⟩ := hS; go_simp; exact hK _ rfl))
    refine wpTr_make rfl (fun K' hK => ?_)
    go_simp
    refine (told_node ka kc va vc n0 wh.drew).mono ?_
    rintro e w_ ⟨rfl, hb⟩
    have HY := Lib.hid (HY.out.keep hb HY.out.lt)
    have HX := Lib.hid (HX.out.keep hb HX.out.lt)
    have HI := Lib.hid (HI.out.keep hb)
    have HB := Lib.hid (HB.out.trans (hb.mono HB.out.size))
    clear hb
    refine hK _ _ _ (fun _ h => h) ⟨HY.out.cell 0 _ rfl, HY.out.cell 1 _ rfl, HY.out.cell 2 _ rfl, HX.out.cell 0 _ rfl, HX.out.cell 1 _ rfl, HX.out.cell 2 _ rfl⟩ ?_
    clear hK K'
    refine wpTr_make rfl (fun K' hK => ?_)
    go_simp
    refine (rsame_any ka kc va vc n0 ka0 kc0 va0 vc0 n0 _ HI.out (HIN.out.keep HB.out)).mono ?_
    rintro e w_ ⟨rfl, hb⟩
    rw [hsm]
    have HY := Lib.hid (HY.out.keep hb HY.out.lt)
    have HX := Lib.hid (HX.out.keep hb HX.out.lt)
    have HI := Lib.hid (HI.out.keep hb)
    have HB := Lib.hid (HB.out.trans (hb.mono HB.out.size))
    clear hb
    refine hK _ _ _ (fun _ h => h) ⟨HY.out.cell 0 _ rfl, HY.out.cell 1 _ rfl, HY.out.cell 2 _ rfl, HX.out.cell 0 _ rfl, HX.out.cell 1 _ rfl, HX.out.cell 2 _ rfl⟩ ?_
    clear hK K'
    iterate 9 (apply wpTr_step rfl; (intro W hS K hK; obtain ⟨q0, q1, q2, q3, q4, q5⟩ := hS; go_simp; exact hK _ rfl))
    refine wpTr_make rfl (fun K' hK => ?_)
    go_simp
    refine (lown_node ka0 kc0 va0 vc0 n0 _).mono ?_
    rintro e w_ ⟨rfl, hb⟩
    have HY := Lib.hid (HY.out.keep hb HY.out.lt)
    have HX := Lib.hid (HX.out.keep hb HX.out.lt)
    have HI := Lib.hid (HI.out.keep hb)
    have HB := Lib.hid (HB.out.trans (hb.mono HB.out.size))
    clear hb
    refine hK _ _ _ (fun _ h => h) ⟨HY.out.cell 0 _ rfl, HY.out.cell 1 _ rfl, HY.out.cell 2 _ rfl, HX.out.cell 0 _ rfl, HX.out.cell 1 _ rfl, HX.out.cell 2 _ rfl⟩ ?_
    clear hK K'
    refine wpTr_make rfl (fun K' hK => ?_)
    go_simp
    refine (size_any ka0 kc0 va0 vc0 n0 _ (HIN.out.keep HB.out) HZ.out).mono ?_
    rintro e w_ ⟨rfl, hb⟩
    have HY := Lib.hid (HY.out.keep hb HY.out.lt)
    have HX := Lib.hid (HX.out.keep hb HX.out.lt)
    have HI := Lib.hid (HI.out.keep hb)
    have HB := Lib.hid (HB.out.trans (hb.mono HB.out.size))
    clear hb
    refine hK _ _ _ (fun _ h => h) ⟨HY.out.cell 0 _ rfl, HY.out.cell 1 _ rfl, HY.out.cell 2 _ rfl, HX.out.cell 0 _ rfl, HX.out.cell 1 _ rfl, HX.out.cell 2 _ rfl⟩ ?_
    clear hK K'
    refine wpTr_nil ?_
    go_wp2_with fail
    refine (decode_any a1 _ HSZ.out).mono ?_
    rintro e wd ⟨nv, rfl, ho, hb⟩
    have hl := dec_len a1
    have hok := @dec_ok a1
    have hbad := @dec_bad a1
    obtain ⟨q, hq⟩ : ∃ q, q = decP a1 := ⟨_, rfl⟩
    rw [← hq] at ho hl hok hbad ⊢
    clear hq
    obtain ⟨D, c⟩ := q
    obtain ⟨kd, kdc, vd, vdc, rfl, hi, _, _⟩ := ho.view (by simp only at hl ⊢; omega) (by simp only at hl ⊢; omega)
    have HBd := Lib.hid (HB.out.trans (hb.mono HB.out.size))
    have HXd := Lib.hid (Box.new wd 30 #[.bool D.leaf, .slice kd D.keys.length kdc, .slice vd D.vals.length vdc])
    have HId := Lib.hid hi
    have HAd : Hid (∀ o, Below wd.heap.size wd (wd.alloc o)) := fun o => (Below.refl _ _).alloc (Nat.le_refl _) o
    have HOK := Lib.hid hok
    clear ho hi hb hl hok HX
    unfold nodeV
    simp only
    have a0' := HXd.out.cell 0 _ rfl
    have a1' := HXd.out.cell 1 _ rfl
    have a2' := HXd.out.cell 2 _ rfl
    by_cases hc : c = 0
    · subst hc
      obtain ⟨hD1, hD2, hD3⟩ := HOK.out rfl
      simp only at hD1
      rw [← hD1] at hD2 hD3
      have HZD : Hid (∀ t ∈ D.keys ++ D.vals, t.size ≤ maxLen) := by rw [hD1]; exact raw_sizes a1
      have HED : Hid (encR D = a1) := by show _ = _; unfold encR; rw [if_pos hD2, hD3]
      have HCD := Lib.hid hD2
      have HVd : Hid (Value.agg #[.bool D.leaf, .slice kd D.keys.length kdc, .slice vd D.vals.length vdc] = nodeV kd kdc vd vdc D) := rfl
      clear hD1 hD2 hD3 hbad HOK
      go_wp2_with fail
      rw [HVd.out]
      refine (encode_any kd kdc vd vdc D _ (HId.out.keep (HAd.out _)) HZD.out).mono ?_
      rintro e we ⟨rfl, hb⟩
      rw [HED.out, HCD.out]
      have HBe := Lib.hid (HBd.out.trans (((HAd.out _).trans (hb.mono (HAd.out _).size)).mono HBd.out.size))
      clear hb a0' a1' a2'
      go_wp2_with fail
      refine (live_any _).mono ?_
      rintro e wf ⟨rfl, hb⟩
      have HBf := Lib.hid (HBe.out.trans (hb.mono HBe.out.size))
      clear hb
      go_wp2
      go_ret
      exact ⟨rfl, HBf.out⟩
    · have hD : D = nilD := hbad hc
      have hc2 : (c == 0) = false := by rw [beq_eq_false_iff_ne]; exact hc
      have hkl : D.keys.length = 0 := by rw [hD]; rfl
      clear hbad HOK hD hc
      go_wp2_with fail
      refine (live_any _).mono ?_
      rintro e wf ⟨rfl, hb⟩
      have HBf := Lib.hid (HBd.out.trans (((HAd.out _).trans (hb.mono (HAd.out _).size)).mono HBd.out.size))
      clear hb
      go_wp2
      go_ret
      exact ⟨rfl, HBf.out⟩
end Go.Proofs.Ytlkkgboaicjaiaa.nodeBack
