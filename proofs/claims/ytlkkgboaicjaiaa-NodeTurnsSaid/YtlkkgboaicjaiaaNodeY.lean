/-
  The reference's With.
-/
import Derived.Test.YtlkkgboaicjaiaaNodeX
import Derived.Test.YtlkkgboaicjaiaaNodeS
namespace Go.Proofs.Ytlkkgboaicjaiaa
open Go.RowKit Go.ChangeShapes Go.WideShapes Go.ChangeAt

theorem rows_in {w : World} {v : Value} {d : NodeD} (h : NodeSl w v d) : ∃ ka kc va vc, v = nodeV ka kc va vc d ∧ NodeIn w ka va d := h
/-- What is still to be laid. -/
def restE (key val : ByteArray) (laid : Bool) (E : List Ent) : List Ent := if laid = true then E else insE key val E
theorem rest_laid (key val : ByteArray) (E : List Ent) : restE key val true E = E := rfl
theorem rest_step1 (key val : ByteArray) (E : List Ent) (k : Nat) (h : k < E.length) : restE key val true (E.drop k) = E[k] :: restE key val true (E.drop (k + 1)) := by
  rw [List.drop_eq_getElem_cons h]; rfl
theorem rest_step2 (key val : ByteArray) (E : List Ent) (k : Nat) (h : k < E.length) (hg : ltK key E[k].1 = true) : restE key val false (E.drop k) = (key, val) :: E[k] :: restE key val true (E.drop (k + 1)) := by
  rw [List.drop_eq_getElem_cons h]
  show insE key val (E[k] :: E.drop (k + 1)) = _
  rw [insE, if_pos hg]; rfl
theorem rest_step3 (key val : ByteArray) (E : List Ent) (k : Nat) (h : k < E.length) (hg : ltK key E[k].1 = false) : restE key val false (E.drop k) = E[k] :: restE key val false (E.drop (k + 1)) := by
  rw [List.drop_eq_getElem_cons h]
  show insE key val (E[k] :: E.drop (k + 1)) = _
  rw [insE, if_neg (by rw [hg]; simp)]; rfl
theorem cat2 {α : Type} (a : List α) (x : α) (r : List α) : a ++ x :: r = (a ++ [x]) ++ r := by simp
set_option maxRecDepth 100000 in
set_option maxHeartbeats 8000000 in
theorem rwith_any (ka : Option Addr) (kc : Nat) (va : Option Addr) (vc : Nat) (d : NodeD) (key val : ByteArray) (w : World) (h : NodeIn w ka va d) (hz : ∀ s ∈ d.keys ++ d.vals, s.size ≤ maxLen) (hkz : key.size ≤ maxLen) (hvz : val.size ≤ maxLen) :
    Calls Try.prog 28 #[nodeV ka kc va vc d, .string key, .string val] w (SlTo (withD d key val) w) := by
  have H := Lib.hid h
  have HZ := Lib.hid hz
  have HKZ := Lib.hid hkz
  have hvz2 := hvz
  unfold maxLen at hvz2
  have hkl := h.kl
  have HB0 : Hid (∀ o, Below w.heap.size w (w.alloc o)) := fun o => (Below.refl _ _).alloc (Nat.le_refl _) o
  clear h hz hkz hvz
  have HV : Hid (Value.agg #[.bool d.leaf, .slice ka d.keys.length kc, .slice va d.vals.length vc] = nodeV ka kc va vc d) := rfl
  obtain ⟨PS, hPS⟩ : ∃ PS, PS = SlTo (withD d key val) w := ⟨_, rfl⟩
  rw [← hPS]
  have HPS := Lib.hid hPS
  clear hPS
  have hokk : okE key val = (keyB key && decide (val.size ≤ 120)) := by unfold okE keyB; rw [← Bool.decide_and]; exact decide_eq_decide.2 (by omega)
  unfold nodeV
  go_enter Try.func28, Try.ntmps28
  go_wp2_with fail
  rw [HV.out]
  generalize hwx : World.alloc (World.alloc w _) _ = wx
  have HX : Hid (Box wx w.heap.size 24 #[.bool d.leaf, .slice ka d.keys.length kc, .slice va d.vals.length vc]) := by show Box _ _ _ _; rw [← hwx]; exact (Box.new w _ _).alloc _
  have HR : Hid (Box wx (w.heap.size + 1) 24 #[.bool false, .slice none 0 0, .slice none 0 0]) := by show Box _ _ _ _; rw [← hwx]; exact box_second _ _ _ _
  have HBX : Hid (Below w.heap.size w wx) := by show Below _ _ _; rw [← hwx]; exact (HB0.out _).trans (((Below.refl _ _).alloc (Nat.le_refl _) _).mono (by rw [size_alloc]; omega))
  clear hwx
  refine (rmay_any ka kc va vc d _ (H.out.keep HBX.out) HZ.out).mono ?_
  rintro e w1 ⟨rfl, hb⟩
  have HX1 := Lib.hid (HX.out.keep hb HX.out.lt)
  have HR1 := Lib.hid (HR.out.keep hb HR.out.lt)
  have HB1 := Lib.hid (HBX.out.trans (hb.mono HBX.out.size))
  clear hb HX HR HBX
  have c0 := HX1.out.cell 0 _ rfl
  have c1 := HX1.out.cell 1 _ rfl
  have c2 := HX1.out.cell 2 _ rfl
  have r0 := HR1.out.cell 0 _ rfl
  have r1 := HR1.out.cell 1 _ rfl
  have r2 := HR1.out.cell 2 _ rfl
  have f0 := HR1.out.free 0
  have f1 := HR1.out.free 1
  have f2 := HR1.out.free 2
  cases hm : mayD d
  · have HQ : Hid (withD d key val = d) := by show _ = _; unfold withD; rw [hm]; rfl
    clear hm
    have HBE := Lib.hid (HB1.out.trans ((chg_set3 w1 (w.heap.size + 1) (.bool d.leaf) (.slice ka d.keys.length kc) (.slice va d.vals.length vc)).below HB1.out.size (fun j hj => by simp at hj; omega)))
    have HRE := Lib.hid (box_set3 HR1.out (.bool d.leaf) (.slice ka d.keys.length kc) (.slice va d.vals.length vc))
    go_wp2
    refine bodyPost_ret (results_cell_row rfl _ _ (w.heap.size + 1) 24 _ (0, 0) _ rfl HRE.out Try.underlying24 rfl sizeRNode2) rfl ?_
    rw [HPS.out, HQ.out]
    exact ⟨_, rfl, ⟨ka, kc, va, vc, rfl, H.out.keep HBE.out⟩, HBE.out⟩
  · go_wp2_with fail
    refine (rkey_any key _ HKZ.out).mono ?_
    rintro e w9 ⟨rfl, rfl⟩
    cases hkk : keyB key
    · have HQ : Hid (withD d key val = d) := by show _ = _; unfold withD; rw [hokk, hkk]; simp
      clear hm hkk hokk
      have HBE := Lib.hid (HB1.out.trans ((chg_set3 w1 (w.heap.size + 1) (.bool d.leaf) (.slice ka d.keys.length kc) (.slice va d.vals.length vc)).below HB1.out.size (fun j hj => by simp at hj; omega)))
      have HRE := Lib.hid (box_set3 HR1.out (.bool d.leaf) (.slice ka d.keys.length kc) (.slice va d.vals.length vc))
      go_wp2
      refine bodyPost_ret (results_cell_row rfl _ _ (w.heap.size + 1) 24 _ (0, 0) _ rfl HRE.out Try.underlying24 rfl sizeRNode2) rfl ?_
      rw [HPS.out, HQ.out]
      exact ⟨_, rfl, ⟨ka, kc, va, vc, rfl, H.out.keep HBE.out⟩, HBE.out⟩
    · by_cases hv : val.size ≤ 120
      rotate_left
      · have HQ : Hid (withD d key val = d) := by show _ = _; unfold withD; rw [hokk, decide_eq_false hv]; simp
        have hvi : (120 : Int) < (val.size : Int) := by omega
        clear hm hkk hokk
        have HBE := Lib.hid (HB1.out.trans ((chg_set3 w1 (w.heap.size + 1) (.bool d.leaf) (.slice ka d.keys.length kc) (.slice va d.vals.length vc)).below HB1.out.size (fun j hj => by simp at hj; omega)))
        have HRE := Lib.hid (box_set3 HR1.out (.bool d.leaf) (.slice ka d.keys.length kc) (.slice va d.vals.length vc))
        go_wp2
        refine bodyPost_ret (results_cell_row rfl _ _ (w.heap.size + 1) 24 _ (0, 0) _ rfl HRE.out Try.underlying24 rfl sizeRNode2) rfl ?_
        rw [HPS.out, HQ.out]
        exact ⟨_, rfl, ⟨ka, kc, va, vc, rfl, H.out.keep HBE.out⟩, HBE.out⟩
      have hvi : ¬ (120 : Int) < (val.size : Int) := by omega
      have hok : okE key val = true := by rw [hokk, hkk, decide_eq_true hv]; rfl
      obtain ⟨E, hE, hoE, hl⟩ := may_of hm
      have HQ : Hid (withD d key val = ofE d.leaf (insE key val (dropE key E))) := by
        have := with_eq (b := d.leaf) hoE hl key val hok
        rw [← hE] at this
        exact this
      have HD0 : Hid (withoutD d key = ofE d.leaf (dropE key E)) := by
        have := without_eq (b := d.leaf) hoE hl key
        rw [← hE] at this
        exact this
      have HLE : Hid ((dropE key E).length ≤ 255) := Nat.le_trans (List.length_filter_le _ _) hl
      have HMT := Lib.hid hm
      clear hE hoE hl hm hkk hokk hv
      go_wp2_with fail
      rw [HV.out]
      refine (rwithout_any ka kc va vc d key _ (H.out.keep HB1.out) HZ.out).mono ?_
      rintro e w2 ⟨nv, rfl, _, hb, hown⟩
      have hsl := hown HMT.out
      rw [HD0.out] at hsl
      obtain ⟨D, hD⟩ : ∃ D, D = ofE d.leaf (dropE key E) := ⟨_, rfl⟩
      rw [← hD] at hsl
      obtain ⟨kv0, vv0, rfl, hk0, hv0⟩ := hsl
      obtain ⟨kd0, kd, rfl, _⟩ := ks_form2 hk0
      obtain ⟨vd0, vd, rfl, _⟩ := ks_form2 hv0
      obtain ⟨F, hF⟩ : ∃ F, F = dropE key E := ⟨_, rfl⟩
      rw [← hF] at HQ HLE hD
      have HDL : Hid (D.leaf = d.leaf) := by rw [hD]; rfl
      have HDK : Hid (D.keys = F.map (·.1)) := by show _ = _; rw [hD]; rfl
      have HDV : Hid (D.vals = F.map (·.2)) := by show _ = _; rw [hD]; rfl
      have HX2 := Lib.hid (HX1.out.keep hb HX1.out.lt)
      have HR2 := Lib.hid (HR1.out.keep hb HR1.out.lt)
      have HB2 := Lib.hid (HB1.out.trans (hb.mono HB1.out.size))
      have hwl : w.heap.size + 1 < w1.heap.size := HR1.out.lt
      clear hb hown hD hF HD0 HX1 HR1 HB1 c0 c1 c2 r0 r1 r2 f0 f1 f2 hkl hvi
      have c0 := HX2.out.cell 0 _ rfl
      have c1 := HX2.out.cell 1 _ rfl
      have c2 := HX2.out.cell 2 _ rfl
      have f0 := HX2.out.free 0
      have f1 := HX2.out.free 1
      have f2 := HX2.out.free 2
      obtain ⟨w3, hw3⟩ : ∃ w3, w3 = ((w2.setCell ⟨w.heap.size, 0, none⟩ (.bool D.leaf)).setCell ⟨w.heap.size, 1, none⟩ (.slice kd0 D.keys.length kd)).setCell ⟨w.heap.size, 2, none⟩ (.slice vd0 D.vals.length vd) := ⟨_, rfl⟩
      have hC3 : Chg [w.heap.size] w2 w3 := by rw [hw3]; exact chg_set3 _ _ _ _ _
      have HX3 : Hid (Box w3 w.heap.size 24 #[.bool D.leaf, .slice kd0 D.keys.length kd, .slice vd0 D.vals.length vd]) := by show Box _ _ _ _; rw [hw3]; exact box_set3 HX2.out _ _ _
      have HR3 : Hid (Box w3 (w.heap.size + 1) 24 #[.bool false, .slice none 0 0, .slice none 0 0]) := HR2.out.of (hC3.block _ HR2.out.lt (by simp))
      have HB3 := Lib.hid (HB2.out.trans (hC3.below HB2.out.size (fun j hj => by simp at hj; omega)))
      have HIN : Hid (NodeIn w3 kd0 vd0 D) := by
        have k3 := hk0.chg hC3 (fun j h1 h2 => by simp at h2; have := hk0.own_block j h1; omega)
        have v3 := hv0.chg hC3 (fun j h1 h2 => by simp at h2; have := hv0.own_block j h1; omega)
        obtain ⟨a1, c1, e1, s1⟩ := ks_form2 k3
        obtain ⟨a2, c2, e2, s2⟩ := ks_form2 v3
        injection e1 with e1 _ _
        injection e2 with e2 _ _
        refine ⟨by rw [e1]; exact s1, by rw [e2]; exact s2, ?_, ?_⟩
        · rw [HDK.out, List.length_map]; have := HLE.out; omega
        · rw [HDV.out, List.length_map]; have := HLE.out; omega
      have hw3s := hw3.symm
      have hz3 : w3.heap.size = w2.heap.size := by rw [hw3]; simp
      have HZ3 := Lib.hid hz3
      have HMM := Lib.hid (MNode.mk' (leaf := D.leaf) HR3.out (Ks.nil w3 w3.heap.size) (Ks.nil w3 w3.heap.size) (fun k hk => by cases hk) HR3.out.lt)
      have HBA : Hid (∀ o, Below w3.heap.size w3 (w3.alloc o)) := fun o => (Below.refl _ _).alloc (Nat.le_refl _) o
      have d0 := HX3.out.cell 0 _ rfl
      clear hw3 hC3 hk0 hv0 hz3 hwl HR2 HX2 HB2
      go_wp2_with fail
      generalize hwy : w3.alloc (.cells #[.bool D.leaf, .slice none 0 0, .slice none 0 0] 24 (0, 0)) = wy
      have HM0 := HMM
      obtain ⟨bm, hbm⟩ : ∃ bm, bm = w3.heap.size := ⟨_, rfl⟩
      have HB00 : Hid (Below bm w3 wy) := by show Below _ _ _; rw [← hwy, hbm]; exact HBA.out _
      rw [hwy] at HM0
      rw [← hbm]
      rw [← hbm] at HM0
      have HLB : Hid (bm = w3.heap.size) := hbm
      have HLX : Hid (w.heap.size < bm) := by have := HR3.out.lt; show _ < _; omega
      have HLR : Hid (w.heap.size + 1 < bm) := by have := HR3.out.lt; show _ < _; omega
      clear hwy hbm HMM HBA c0 c1 c2 f0 f1 f2 d0 hw3s
      have HFL : Hid (F.length = D.keys.length ∧ F.length = D.vals.length) := by rw [HDK.out, HDV.out, List.length_map, List.length_map]; exact ⟨rfl, rfl⟩
      have hdl : D.keys.length ≤ 255 := by have := HLE.out; have := HFL.out.1; omega
      go_loopw [8, 9] (fun t i wr => ∃ (k : Nat) (laid : Bool) (kv vv : Value) (ks vs : List ByteArray), k ≤ D.keys.length ∧ t = .bool laid ∧ i = .int .i64 k ∧ Hid (MNode 24 wr bm (w.heap.size + 1) bm D.leaf kv vv ks vs) ∧ Hid ((insE key val F).map (·.1) = ks ++ (restE key val laid (F.drop k)).map (·.1) ∧ (insE key val F).map (·.2) = vs ++ (restE key val laid (F.drop k)).map (·.2)) ∧ Hid (ks.length ≤ k + laid.toNat ∧ vs.length ≤ k + laid.toNat) ∧ Hid (Below bm w3 wr)) (fun _ i _ => D.keys.length - (intOf i).toNat)
      case atStart => exact ⟨0, false, _, _, [], [], Nat.zero_le _, rfl, rfl, HM0, ⟨rfl, rfl⟩, ⟨Nat.zero_le _, Nat.zero_le _⟩, HB00⟩
      case round =>
      clear HM0 HB00
      obtain ⟨k, laid, kv, vv, ks, vs, hk, rfl, rfl, HM, HE, HKL0, HB⟩ := hrel
      have HKL : Hid (ks.length ≤ 1000 ∧ vs.length ≤ 1000) := by have := HKL0.out; have := Bool.toNat_le laid; exact ⟨by omega, by omega⟩
      have n1 := HM.out.box.cell 1 _ rfl
      have c1 := (HX3.out.keep HB.out HLX.out).cell 1 _ rfl
      have c2 := (HX3.out.keep HB.out HLX.out).cell 2 _ rfl
      by_cases hlt : k < D.keys.length
      · have h2v : k < D.vals.length := by have := HFL.out; omega
        have HN := HIN.out.keep (HB.out.mono (Nat.le_of_eq HLB.out.symm))
        obtain ⟨b, off, hka, _, hc⟩ := HN.ks.get k hlt
        obtain ⟨b2, off2, hva, _, hc2⟩ := HN.vs.get k h2v
        subst hka hva
        have h0i : (0 : Int) ≤ (k : Int) := by omega
        have h1i : (k : Int) < (D.keys.length : Int) := by omega
        have h2i : (k : Int) < (D.vals.length : Int) := by omega
        have hFk : k < F.length := by have := HFL.out; omega
        have hx1 : F[k].1 = D.keys[k] := by simp [HDK.out]
        have hy1 : F[k].2 = D.vals[k] := by simp [HDV.out]
        obtain ⟨x, hx⟩ : ∃ x, D.keys[k] = x := ⟨_, rfl⟩
        obtain ⟨y, hy⟩ : ∃ y, D.vals[k] = y := ⟨_, rfl⟩
        rw [hx] at hc hx1
        rw [hy] at hc2 hy1
        have HXV := Lib.hid hx
        have HY := Lib.hid hy
        have HX1 := HX3
        have hgt := fun W => str_gtr x key W
        cases hla : laid
        · rw [hla] at HE HKL0
          cases hg : ltK key x
          · have HE2 : Hid ((insE key val F).map (·.1) = (ks ++ [x]) ++ (restE key val false (F.drop (k + 1))).map (·.1) ∧ (insE key val F).map (·.2) = (vs ++ [y]) ++ (restE key val false (F.drop (k + 1))).map (·.2)) := by
              have h1 := HE.out
              rw [rest_step3 key val F k hFk (by rw [hx1]; exact hg)] at h1
              refine ⟨by rw [h1.1, ← hx1, List.map_cons]; exact cat2 _ _ _, by rw [h1.2, ← hy1, List.map_cons]; exact cat2 _ _ _⟩
            have HKL2 : Hid ((ks ++ [x]).length ≤ k + 1 + false.toNat ∧ (vs ++ [y]).length ≤ k + 1 + false.toNat) := by have := HKL0.out; simp only [Bool.toNat_false] at *; exact ⟨by simp; omega, by simp; omega⟩
            have hq : ∀ W, (binOp .gtr 9 (.string x) (.string key)).run Try.prog W = .ok (.bool false) W := fun W => by rw [hgt W, hg]
            clear hgt hg hx hy hx1 hy1 HN
            go_wp2_with fail
            refine wp_region_tree (fun W => W.cell? ⟨bm, 1, none⟩ = some kv ∧ W.cell? ⟨w.heap.size, 1, none⟩ = some (.slice (some ⟨b, off, none⟩) D.keys.length kd) ∧ W.cell? ⟨b, off + k, none⟩ = some (.string x)) 8 (.quiet 0 (.quiet 1 (.quiet 2 (.quiet 3 (.quiet 4 (.quiet 5 (.quiet 6 (.make 7 .nil)))))))) (by kernel_rfl) (by kernel_rfl) ⟨n1, c1, hc⟩ ?_
            simp only [List.drop_succ_cons, List.drop_zero]
            iterate 7 (apply wpTr_step rfl; (intro W hS K hK; obtain ⟨q0, q1, q2⟩ := hS; go_simp; exact hK _ rfl))
            refine wpTr_make rfl (fun K' hK => ?_)
            go_simp
            have HA : Hid (Below wr.heap.size wr (wr.alloc (.cells #[.string x] 9 (0, 0))).drew) := ((Below.refl _ _).alloc (Nat.le_refl _) _).drew
            have HMa := Lib.hid (HM.out.keep HA.out)
            have HBa := Lib.hid (HB.out.trans (HA.out.mono (by have := HM.out.box.lt; omega)))
            have HBX : Hid (Box (wr.alloc (.cells #[.string x] 9 (0, 0))).drew wr.heap.size 9 #[.string x]) := (Box.new wr _ _).drew
            have g1 := HMa.out.box.cell 1 _ rfl
            have g2 := (HA.out.cell (p := ⟨w.heap.size, 1, none⟩) (lt_of_cell c1)).trans c1
            have g3 := (HA.out.cell (p := ⟨b, off + k, none⟩) (lt_of_cell hc)).trans hc
            refine hK _ _ _ (fun _ h => h) ⟨g1, g2, g3⟩ ?_
            clear hK K' g1 g2 g3
            refine wpTr_nil ?_
            generalize hwa : (wr.alloc (.cells #[.string x] 9 (0, 0))).drew = wa at *
            have hza : wa.heap.size = wr.heap.size + 1 := by rw [← hwa]; show (World.alloc _ _).heap.size = _; rw [size_alloc]
            clear hwa HA HM HB
            go_wp2_with (at_builtin; refine wp_keys_push _ rfl _ _ rfl bm kv ks rfl HMa.out.kr ⟨wr.heap.size, 0, none⟩ 1 1 [x] rfl rfl (by intro j u hj; cases j with | zero => simp at hj; subst hj; exact HBX.out.cell 0 _ rfl | succ j => simp at hj) (by have := HKL.out; (try simp only [List.length_append, List.length_singleton] at *); omega) (by have := HMa.out.box.lt; omega) ?_)
            intro kv2 w6 hk6 hg6 ho6
            obtain ⟨aA, cA, rfl, _⟩ := ks_form2 hk6
            have hS : Chg kv.ownBlock.toList wa w6 := Chg.grown hg6 (fun j hj => by simp [hj])
            have hSo : ∀ j ∈ kv.ownBlock.toList, kv.ownBlock = some j := fun j hj => by simpa using hj
            have HX6 := Lib.hid (HMa.out.boxK _ hS hSo)
            have HMA := Lib.hid (HMa.out.newK hk6 _ hS hSo (fun j hj => by rcases ho6 with h | h; exact .inl (h ▸ hj); rw [h] at hj; injection hj with hj; exact .inr (by omega)))
            have HBA := Lib.hid ((HBa.out.trans (HMa.out.belowK2 _ hS hSo (Nat.le_refl _) (by have := HMa.out.box.lt; omega))).setCell (p := ⟨bm, 1, none⟩) (Nat.le_refl _) (.slice aA (ks ++ [x]).length cA))
            clear hk6 hg6 ho6 hS hSo HMa HBa HBX
            have HKNA : Hid ((ks ++ [x]).length = ks.length + 1) := by show _ = _; simp
            generalize hksx : ks ++ [x] = ksA at *
            have HKXA := Lib.hid hksx
            clear hksx
            have x1 := HX6.out.cell 1 _ rfl
            have y1 := HX6.out.free 1
            clear hza
            have hBn := HBA.out
            obtain ⟨w7A, hw7⟩ : ∃ w7, w7 = w6.setCell ⟨bm, 1, none⟩ (.slice aA ksA.length cA) := ⟨_, rfl⟩
            rw [← hw7] at HMA HBA hBn
            have hw8 := hw7.symm
            have c2b : w7A.cell? ⟨w.heap.size, 2, none⟩ = some (.slice (some ⟨b2, off2, none⟩) D.vals.length vd) := (HX1.out.keep hBn HLX.out).cell 2 _ rfl
            have hc2b : w7A.cell? ⟨b2, off2 + k, none⟩ = some (.string y) := by
              obtain ⟨b3, off3, e3, _, hc3⟩ := (HIN.out.keep (hBn.mono (Nat.le_of_eq HLB.out.symm))).vs.get k h2v
              injection e3 with e3; injection e3 with e4 e5
              subst e4 e5
              rw [hc3, HY.out]
            have n2 := HMA.out.box.cell 2 _ rfl
            clear hw7 hBn 
            go_wp2_with fail
            try rw [hw8]
            clear hw8 x1 y1 HX6
            refine wp_region_tree (fun W => W.cell? ⟨bm, 2, none⟩ = some vv ∧ W.cell? ⟨w.heap.size, 2, none⟩ = some (.slice (some ⟨b2, off2, none⟩) D.vals.length vd) ∧ W.cell? ⟨b2, off2 + k, none⟩ = some (.string y)) 8 (.quiet 0 (.quiet 1 (.quiet 2 (.quiet 3 (.quiet 4 (.quiet 5 (.quiet 6 (.make 7 .nil)))))))) (by kernel_rfl) (by kernel_rfl) ⟨n2, c2b, hc2b⟩ ?_
            simp only [List.drop_succ_cons, List.drop_zero]
            iterate 7 (apply wpTr_step rfl; (intro W hS K hK; obtain ⟨q0, q1, q2⟩ := hS; go_simp; exact hK _ rfl))
            refine wpTr_make rfl (fun K' hK => ?_)
            go_simp
            have HA : Hid (Below w7A.heap.size w7A (w7A.alloc (.cells #[.string y] 9 (0, 0))).drew) := ((Below.refl _ _).alloc (Nat.le_refl _) _).drew
            have HMa := Lib.hid (HMA.out.keep HA.out)
            have HBa := Lib.hid (HBA.out.trans (HA.out.mono (by have := HMA.out.box.lt; omega)))
            have HBX : Hid (Box (w7A.alloc (.cells #[.string y] 9 (0, 0))).drew w7A.heap.size 9 #[.string y]) := (Box.new w7A _ _).drew
            have g1 := HMa.out.box.cell 2 _ rfl
            have g2 := (HA.out.cell (p := ⟨w.heap.size, 2, none⟩) (lt_of_cell c2b)).trans c2b
            have g3 := (HA.out.cell (p := ⟨b2, off2 + k, none⟩) (lt_of_cell hc2b)).trans hc2b
            refine hK _ _ _ (fun _ h => h) ⟨g1, g2, g3⟩ ?_
            clear hK K' g1 g2 g3
            refine wpTr_nil ?_
            generalize hwa : (w7A.alloc (.cells #[.string y] 9 (0, 0))).drew = wa at *
            have hza : wa.heap.size = w7A.heap.size + 1 := by rw [← hwa]; show (World.alloc _ _).heap.size = _; rw [size_alloc]
            clear hwa HA HMA HBA
            go_wp2_with (at_builtin; refine wp_keys_push _ rfl _ _ rfl bm vv vs rfl HMa.out.vr ⟨w7A.heap.size, 0, none⟩ 1 1 [y] rfl rfl (by intro j u hj; cases j with | zero => simp at hj; subst hj; exact HBX.out.cell 0 _ rfl | succ j => simp at hj) (by have := HKL.out; (try simp only [List.length_append, List.length_singleton] at *); omega) (by have := HMa.out.box.lt; omega) ?_)
            intro kv2 w6 hk6 hg6 ho6
            obtain ⟨aB, cB, rfl, _⟩ := ks_form2 hk6
            have hS : Chg vv.ownBlock.toList wa w6 := Chg.grown hg6 (fun j hj => by simp [hj])
            have hSo : ∀ j ∈ vv.ownBlock.toList, vv.ownBlock = some j := fun j hj => by simpa using hj
            have HX6 := Lib.hid (HMa.out.boxV _ hS hSo)
            have HMB := Lib.hid (HMa.out.newV hk6 _ hS hSo (fun j hj => by rcases ho6 with h | h; exact .inl (h ▸ hj); rw [h] at hj; injection hj with hj; exact .inr (by omega)))
            have HBB := Lib.hid ((HBa.out.trans (HMa.out.belowV2 _ hS hSo (Nat.le_refl _) (by have := HMa.out.box.lt; omega))).setCell (p := ⟨bm, 2, none⟩) (Nat.le_refl _) (.slice aB (vs ++ [y]).length cB))
            clear hk6 hg6 ho6 hS hSo HMa HBa HBX
            have HKNB : Hid ((vs ++ [y]).length = vs.length + 1) := by show _ = _; simp
            generalize hksx : vs ++ [y] = ksB at *
            have HKXB := Lib.hid hksx
            clear hksx
            have x1 := HX6.out.cell 2 _ rfl
            have y1 := HX6.out.free 2
            clear hza
            go_wp2
            go_roundw
            case rel => exact ⟨k + 1, false, _, _, _, _, by omega, rfl, by go_num, HMB, HE2, HKL2, HBB⟩
            case measure => simp [intOf]; omega
          · have HE2 : Hid ((insE key val F).map (·.1) = ((ks ++ [key]) ++ [x]) ++ (restE key val true (F.drop (k + 1))).map (·.1) ∧ (insE key val F).map (·.2) = ((vs ++ [val]) ++ [y]) ++ (restE key val true (F.drop (k + 1))).map (·.2)) := by
              have h1 := HE.out
              rw [rest_step2 key val F k hFk (by rw [hx1]; exact hg)] at h1
              refine ⟨by rw [h1.1, ← hx1, List.map_cons, List.map_cons]; simp, by rw [h1.2, ← hy1, List.map_cons, List.map_cons]; simp⟩
            have HKL2 : Hid (((ks ++ [key]) ++ [x]).length ≤ k + 1 + true.toNat ∧ ((vs ++ [val]) ++ [y]).length ≤ k + 1 + true.toNat) := by have := HKL0.out; simp only [Bool.toNat_true, Bool.toNat_false] at *; exact ⟨by simp; omega, by simp; omega⟩
            have hq : ∀ W, (binOp .gtr 9 (.string x) (.string key)).run Try.prog W = .ok (.bool true) W := fun W => by rw [hgt W, hg]
            clear hgt hg hx hy hx1 hy1 HN
            have HA : Hid (Below wr.heap.size wr (wr.alloc (.cells #[.string key] 9 (0, 0)))) := (Below.refl _ _).alloc (Nat.le_refl _) _
            have HMa := Lib.hid (HM.out.keep HA.out)
            have HBa := Lib.hid (HB.out.trans (HA.out.mono (by have := HM.out.box.lt; omega)))
            have HBX : Hid (Box (wr.alloc (.cells #[.string key] 9 (0, 0))) wr.heap.size 9 #[.string key]) := Box.new _ _ _
            have hza : (wr.alloc (.cells #[.string key] 9 (0, 0))).heap.size = wr.heap.size + 1 := size_alloc _ _
            clear HA HM HB
            go_wp2_with (at_builtin; refine wp_keys_push _ rfl _ _ rfl bm kv ks rfl HMa.out.kr ⟨wr.heap.size, 0, none⟩ 1 1 [key] rfl rfl (by intro j u hj; cases j with | zero => simp at hj; subst hj; exact HBX.out.cell 0 _ rfl | succ j => simp at hj) (by have := HKL.out; (try simp only [List.length_append, List.length_singleton] at *); omega) (by have := HMa.out.box.lt; omega) ?_)
            intro kv2 w6 hk6 hg6 ho6
            obtain ⟨aC, cC, rfl, _⟩ := ks_form2 hk6
            have hS : Chg kv.ownBlock.toList (wr.alloc (.cells #[.string key] 9 (0, 0))) w6 := Chg.grown hg6 (fun j hj => by simp [hj])
            have hSo : ∀ j ∈ kv.ownBlock.toList, kv.ownBlock = some j := fun j hj => by simpa using hj
            have HX6 := Lib.hid (HMa.out.boxK _ hS hSo)
            have HMC := Lib.hid (HMa.out.newK hk6 _ hS hSo (fun j hj => by rcases ho6 with h | h; exact .inl (h ▸ hj); rw [h] at hj; injection hj with hj; exact .inr (by omega)))
            have HBC := Lib.hid ((HBa.out.trans (HMa.out.belowK2 _ hS hSo (Nat.le_refl _) (by have := HMa.out.box.lt; omega))).setCell (p := ⟨bm, 1, none⟩) (Nat.le_refl _) (.slice aC (ks ++ [key]).length cC))
            clear hk6 hg6 ho6 hS hSo HMa HBa HBX
            have HKNC : Hid ((ks ++ [key]).length = ks.length + 1) := by show _ = _; simp
            generalize hksx : ks ++ [key] = ksC at *
            have HKXC := Lib.hid hksx
            clear hksx
            have x1 := HX6.out.cell 1 _ rfl
            have y1 := HX6.out.free 1
            clear hza
            have hBn := HBC.out
            obtain ⟨w7C, hw7⟩ : ∃ w7, w7 = w6.setCell ⟨bm, 1, none⟩ (.slice aC ksC.length cC) := ⟨_, rfl⟩
            rw [← hw7] at HMC HBC hBn
            have hw8 := hw7.symm
            have n2 := HMC.out.box.cell 2 _ rfl
            have hz7 : w7C.heap.size = w6.heap.size := by rw [hw7]; simp
            clear hw7 hBn 
            have HA : Hid (Below w7C.heap.size w7C (w7C.alloc (.cells #[.string val] 9 (0, 0)))) := (Below.refl _ _).alloc (Nat.le_refl _) _
            have HMa := Lib.hid (HMC.out.keep HA.out)
            have HBa := Lib.hid (HBC.out.trans (HA.out.mono (by have := HMC.out.box.lt; omega)))
            have HBX : Hid (Box (w7C.alloc (.cells #[.string val] 9 (0, 0))) w6.heap.size 9 #[.string val]) := by show Box _ _ _ _; rw [← hz7]; exact Box.new _ _ _
            have hza : (w7C.alloc (.cells #[.string val] 9 (0, 0))).heap.size = w7C.heap.size + 1 := size_alloc _ _
            clear HA HMC HBC
            go_wp2_with (at_builtin; refine wp_keys_push _ rfl _ _ rfl bm vv vs rfl HMa.out.vr ⟨w6.heap.size, 0, none⟩ 1 1 [val] rfl rfl (by intro j u hj; cases j with | zero => simp at hj; subst hj; exact HBX.out.cell 0 _ rfl | succ j => simp at hj) (by have := HKL.out; (try simp only [List.length_append, List.length_singleton] at *); omega) (by have := HMa.out.box.lt; omega) ?_)
            intro kv2 w6 hk6 hg6 ho6
            obtain ⟨aD, cD, rfl, _⟩ := ks_form2 hk6
            have hS : Chg vv.ownBlock.toList (w7C.alloc (.cells #[.string val] 9 (0, 0))) w6 := Chg.grown hg6 (fun j hj => by simp [hj])
            have hSo : ∀ j ∈ vv.ownBlock.toList, vv.ownBlock = some j := fun j hj => by simpa using hj
            have HX6 := Lib.hid (HMa.out.boxV _ hS hSo)
            have HMD := Lib.hid (HMa.out.newV hk6 _ hS hSo (fun j hj => by rcases ho6 with h | h; exact .inl (h ▸ hj); rw [h] at hj; injection hj with hj; exact .inr (by omega)))
            have HBD := Lib.hid ((HBa.out.trans (HMa.out.belowV2 _ hS hSo (Nat.le_refl _) (by have := HMa.out.box.lt; omega))).setCell (p := ⟨bm, 2, none⟩) (Nat.le_refl _) (.slice aD (vs ++ [val]).length cD))
            clear hk6 hg6 ho6 hS hSo HMa HBa HBX
            have HKND : Hid ((vs ++ [val]).length = vs.length + 1) := by show _ = _; simp
            generalize hksx : vs ++ [val] = ksD at *
            have HKXD := Lib.hid hksx
            clear hksx
            have x1 := HX6.out.cell 2 _ rfl
            have y1 := HX6.out.free 2
            clear hza
            have hBn := HBD.out
            obtain ⟨w7D, hw7⟩ : ∃ w7, w7 = w6.setCell ⟨bm, 2, none⟩ (.slice aD ksD.length cD) := ⟨_, rfl⟩
            rw [← hw7] at HMD HBD hBn
            have hw8 := hw7.symm
            have c1b : w7D.cell? ⟨w.heap.size, 1, none⟩ = some (.slice (some ⟨b, off, none⟩) D.keys.length kd) := (HX1.out.keep hBn HLX.out).cell 1 _ rfl
            have hc1b : w7D.cell? ⟨b, off + k, none⟩ = some (.string x) := by
              obtain ⟨b3, off3, e3, _, hc3⟩ := (HIN.out.keep (hBn.mono (Nat.le_of_eq HLB.out.symm))).ks.get k hlt
              injection e3 with e3; injection e3 with e4 e5
              subst e4 e5
              rw [hc3, HXV.out]
            have c2x : w7D.cell? ⟨w.heap.size, 2, none⟩ = some (.slice (some ⟨b2, off2, none⟩) D.vals.length vd) := (HX1.out.keep hBn HLX.out).cell 2 _ rfl
            have hc2x : w7D.cell? ⟨b2, off2 + k, none⟩ = some (.string y) := by
              obtain ⟨b3, off3, e3, _, hc3⟩ := (HIN.out.keep (hBn.mono (Nat.le_of_eq HLB.out.symm))).vs.get k h2v
              injection e3 with e3; injection e3 with e4 e5
              subst e4 e5
              rw [hc3, HY.out]
            have n1 := HMD.out.box.cell 1 _ rfl
            clear hw7 hBn n2 hz7
            have HKL : Hid (ksC.length ≤ 1001 ∧ ksD.length ≤ 1001) := by have := HKL.out; have := HKNC.out; have := HKND.out; exact ⟨by omega, by omega⟩
            go_wp2_with fail
            try rw [hw8]
            clear hw8 x1 y1 HX6
            refine wp_region_tree (fun W => W.cell? ⟨bm, 1, none⟩ = some (Value.slice aC ksC.length cC) ∧ W.cell? ⟨w.heap.size, 1, none⟩ = some (.slice (some ⟨b, off, none⟩) D.keys.length kd) ∧ W.cell? ⟨b, off + k, none⟩ = some (.string x)) 8 (.quiet 0 (.quiet 1 (.quiet 2 (.quiet 3 (.quiet 4 (.quiet 5 (.quiet 6 (.make 7 .nil)))))))) (by kernel_rfl) (by kernel_rfl) ⟨n1, c1b, hc1b⟩ ?_
            simp only [List.drop_succ_cons, List.drop_zero]
            iterate 7 (apply wpTr_step rfl; (intro W hS K hK; obtain ⟨q0, q1, q2⟩ := hS; go_simp; exact hK _ rfl))
            refine wpTr_make rfl (fun K' hK => ?_)
            go_simp
            have HA : Hid (Below w7D.heap.size w7D (w7D.alloc (.cells #[.string x] 9 (0, 0))).drew) := ((Below.refl _ _).alloc (Nat.le_refl _) _).drew
            have HMa := Lib.hid (HMD.out.keep HA.out)
            have HBa := Lib.hid (HBD.out.trans (HA.out.mono (by have := HMD.out.box.lt; omega)))
            have HBX : Hid (Box (w7D.alloc (.cells #[.string x] 9 (0, 0))).drew w7D.heap.size 9 #[.string x]) := (Box.new w7D _ _).drew
            have g1 := HMa.out.box.cell 1 _ rfl
            have g2 := (HA.out.cell (p := ⟨w.heap.size, 1, none⟩) (lt_of_cell c1b)).trans c1b
            have g3 := (HA.out.cell (p := ⟨b, off + k, none⟩) (lt_of_cell hc1b)).trans hc1b
            refine hK _ _ _ (fun _ h => h) ⟨g1, g2, g3⟩ ?_
            clear hK K' g1 g2 g3
            refine wpTr_nil ?_
            generalize hwa : (w7D.alloc (.cells #[.string x] 9 (0, 0))).drew = wa at *
            have hza : wa.heap.size = w7D.heap.size + 1 := by rw [← hwa]; show (World.alloc _ _).heap.size = _; rw [size_alloc]
            clear hwa HA HMD HBD
            go_wp2_with (at_builtin; refine wp_keys_push _ rfl _ _ rfl bm (Value.slice aC ksC.length cC) ksC rfl HMa.out.kr ⟨w7D.heap.size, 0, none⟩ 1 1 [x] rfl rfl (by intro j u hj; cases j with | zero => simp at hj; subst hj; exact HBX.out.cell 0 _ rfl | succ j => simp at hj) (by have := HKL.out; (try simp only [List.length_append, List.length_singleton] at *); omega) (by have := HMa.out.box.lt; omega) ?_)
            intro kv2 w6 hk6 hg6 ho6
            obtain ⟨aA, cA, rfl, _⟩ := ks_form2 hk6
            have hS : Chg (Value.slice aC ksC.length cC).ownBlock.toList wa w6 := Chg.grown hg6 (fun j hj => by simp [hj])
            have hSo : ∀ j ∈ (Value.slice aC ksC.length cC).ownBlock.toList, (Value.slice aC ksC.length cC).ownBlock = some j := fun j hj => by simpa using hj
            have HX6 := Lib.hid (HMa.out.boxK _ hS hSo)
            have HMA := Lib.hid (HMa.out.newK hk6 _ hS hSo (fun j hj => by rcases ho6 with h | h; exact .inl (h ▸ hj); rw [h] at hj; injection hj with hj; exact .inr (by omega)))
            have HBA := Lib.hid ((HBa.out.trans (HMa.out.belowK2 _ hS hSo (Nat.le_refl _) (by have := HMa.out.box.lt; omega))).setCell (p := ⟨bm, 1, none⟩) (Nat.le_refl _) (.slice aA (ksC ++ [x]).length cA))
            clear hk6 hg6 ho6 hS hSo HMa HBa HBX
            have HKNA : Hid ((ksC ++ [x]).length = ksC.length + 1) := by show _ = _; simp
            generalize hksx : ksC ++ [x] = ksA at *
            have HKXA := Lib.hid hksx
            clear hksx
            have x1 := HX6.out.cell 1 _ rfl
            have y1 := HX6.out.free 1
            clear hza
            have hBn := HBA.out
            obtain ⟨w7A, hw7⟩ : ∃ w7, w7 = w6.setCell ⟨bm, 1, none⟩ (.slice aA ksA.length cA) := ⟨_, rfl⟩
            rw [← hw7] at HMA HBA hBn
            have hw8 := hw7.symm
            have c2b : w7A.cell? ⟨w.heap.size, 2, none⟩ = some (.slice (some ⟨b2, off2, none⟩) D.vals.length vd) := (HX1.out.keep hBn HLX.out).cell 2 _ rfl
            have hc2b : w7A.cell? ⟨b2, off2 + k, none⟩ = some (.string y) := by
              obtain ⟨b3, off3, e3, _, hc3⟩ := (HIN.out.keep (hBn.mono (Nat.le_of_eq HLB.out.symm))).vs.get k h2v
              injection e3 with e3; injection e3 with e4 e5
              subst e4 e5
              rw [hc3, HY.out]
            have n2 := HMA.out.box.cell 2 _ rfl
            clear hw7 hBn 
            go_wp2_with fail
            try rw [hw8]
            clear hw8 x1 y1 HX6
            refine wp_region_tree (fun W => W.cell? ⟨bm, 2, none⟩ = some (Value.slice aD ksD.length cD) ∧ W.cell? ⟨w.heap.size, 2, none⟩ = some (.slice (some ⟨b2, off2, none⟩) D.vals.length vd) ∧ W.cell? ⟨b2, off2 + k, none⟩ = some (.string y)) 8 (.quiet 0 (.quiet 1 (.quiet 2 (.quiet 3 (.quiet 4 (.quiet 5 (.quiet 6 (.make 7 .nil)))))))) (by kernel_rfl) (by kernel_rfl) ⟨n2, c2b, hc2b⟩ ?_
            simp only [List.drop_succ_cons, List.drop_zero]
            iterate 7 (apply wpTr_step rfl; (intro W hS K hK; obtain ⟨q0, q1, q2⟩ := hS; go_simp; exact hK _ rfl))
            refine wpTr_make rfl (fun K' hK => ?_)
            go_simp
            have HA : Hid (Below w7A.heap.size w7A (w7A.alloc (.cells #[.string y] 9 (0, 0))).drew) := ((Below.refl _ _).alloc (Nat.le_refl _) _).drew
            have HMa := Lib.hid (HMA.out.keep HA.out)
            have HBa := Lib.hid (HBA.out.trans (HA.out.mono (by have := HMA.out.box.lt; omega)))
            have HBX : Hid (Box (w7A.alloc (.cells #[.string y] 9 (0, 0))).drew w7A.heap.size 9 #[.string y]) := (Box.new w7A _ _).drew
            have g1 := HMa.out.box.cell 2 _ rfl
            have g2 := (HA.out.cell (p := ⟨w.heap.size, 2, none⟩) (lt_of_cell c2b)).trans c2b
            have g3 := (HA.out.cell (p := ⟨b2, off2 + k, none⟩) (lt_of_cell hc2b)).trans hc2b
            refine hK _ _ _ (fun _ h => h) ⟨g1, g2, g3⟩ ?_
            clear hK K' g1 g2 g3
            refine wpTr_nil ?_
            generalize hwa : (w7A.alloc (.cells #[.string y] 9 (0, 0))).drew = wa at *
            have hza : wa.heap.size = w7A.heap.size + 1 := by rw [← hwa]; show (World.alloc _ _).heap.size = _; rw [size_alloc]
            clear hwa HA HMA HBA
            go_wp2_with (at_builtin; refine wp_keys_push _ rfl _ _ rfl bm (Value.slice aD ksD.length cD) ksD rfl HMa.out.vr ⟨w7A.heap.size, 0, none⟩ 1 1 [y] rfl rfl (by intro j u hj; cases j with | zero => simp at hj; subst hj; exact HBX.out.cell 0 _ rfl | succ j => simp at hj) (by have := HKL.out; (try simp only [List.length_append, List.length_singleton] at *); omega) (by have := HMa.out.box.lt; omega) ?_)
            intro kv2 w6 hk6 hg6 ho6
            obtain ⟨aB, cB, rfl, _⟩ := ks_form2 hk6
            have hS : Chg (Value.slice aD ksD.length cD).ownBlock.toList wa w6 := Chg.grown hg6 (fun j hj => by simp [hj])
            have hSo : ∀ j ∈ (Value.slice aD ksD.length cD).ownBlock.toList, (Value.slice aD ksD.length cD).ownBlock = some j := fun j hj => by simpa using hj
            have HX6 := Lib.hid (HMa.out.boxV _ hS hSo)
            have HMB := Lib.hid (HMa.out.newV hk6 _ hS hSo (fun j hj => by rcases ho6 with h | h; exact .inl (h ▸ hj); rw [h] at hj; injection hj with hj; exact .inr (by omega)))
            have HBB := Lib.hid ((HBa.out.trans (HMa.out.belowV2 _ hS hSo (Nat.le_refl _) (by have := HMa.out.box.lt; omega))).setCell (p := ⟨bm, 2, none⟩) (Nat.le_refl _) (.slice aB (ksD ++ [y]).length cB))
            clear hk6 hg6 ho6 hS hSo HMa HBa HBX
            have HKNB : Hid ((ksD ++ [y]).length = ksD.length + 1) := by show _ = _; simp
            generalize hksx : ksD ++ [y] = ksB at *
            have HKXB := Lib.hid hksx
            clear hksx
            have x1 := HX6.out.cell 2 _ rfl
            have y1 := HX6.out.free 2
            clear hza
            go_wp2
            go_roundw
            case rel => exact ⟨k + 1, true, _, _, _, _, by omega, rfl, by go_num, HMB, HE2, HKL2, HBB⟩
            case measure => simp [intOf]; omega
        · rw [hla] at HE HKL0
          have HE2 : Hid ((insE key val F).map (·.1) = (ks ++ [x]) ++ (restE key val true (F.drop (k + 1))).map (·.1) ∧ (insE key val F).map (·.2) = (vs ++ [y]) ++ (restE key val true (F.drop (k + 1))).map (·.2)) := by
            have h1 := HE.out
            rw [rest_step1 key val F k hFk] at h1
            refine ⟨by rw [h1.1, ← hx1, List.map_cons]; exact cat2 _ _ _, by rw [h1.2, ← hy1, List.map_cons]; exact cat2 _ _ _⟩
          have HKL2 : Hid ((ks ++ [x]).length ≤ k + 1 + true.toNat ∧ (vs ++ [y]).length ≤ k + 1 + true.toNat) := by have := HKL0.out; simp only [Bool.toNat_true] at *; exact ⟨by simp; omega, by simp; omega⟩
          clear hgt hx hy hx1 hy1 HN
          go_wp2_with fail
          refine wp_region_tree (fun W => W.cell? ⟨bm, 1, none⟩ = some kv ∧ W.cell? ⟨w.heap.size, 1, none⟩ = some (.slice (some ⟨b, off, none⟩) D.keys.length kd) ∧ W.cell? ⟨b, off + k, none⟩ = some (.string x)) 8 (.quiet 0 (.quiet 1 (.quiet 2 (.quiet 3 (.quiet 4 (.quiet 5 (.quiet 6 (.make 7 .nil)))))))) (by kernel_rfl) (by kernel_rfl) ⟨n1, c1, hc⟩ ?_
          simp only [List.drop_succ_cons, List.drop_zero]
          iterate 7 (apply wpTr_step rfl; (intro W hS K hK; obtain ⟨q0, q1, q2⟩ := hS; go_simp; exact hK _ rfl))
          refine wpTr_make rfl (fun K' hK => ?_)
          go_simp
          have HA : Hid (Below wr.heap.size wr (wr.alloc (.cells #[.string x] 9 (0, 0))).drew) := ((Below.refl _ _).alloc (Nat.le_refl _) _).drew
          have HMa := Lib.hid (HM.out.keep HA.out)
          have HBa := Lib.hid (HB.out.trans (HA.out.mono (by have := HM.out.box.lt; omega)))
          have HBX : Hid (Box (wr.alloc (.cells #[.string x] 9 (0, 0))).drew wr.heap.size 9 #[.string x]) := (Box.new wr _ _).drew
          have g1 := HMa.out.box.cell 1 _ rfl
          have g2 := (HA.out.cell (p := ⟨w.heap.size, 1, none⟩) (lt_of_cell c1)).trans c1
          have g3 := (HA.out.cell (p := ⟨b, off + k, none⟩) (lt_of_cell hc)).trans hc
          refine hK _ _ _ (fun _ h => h) ⟨g1, g2, g3⟩ ?_
          clear hK K' g1 g2 g3
          refine wpTr_nil ?_
          generalize hwa : (wr.alloc (.cells #[.string x] 9 (0, 0))).drew = wa at *
          have hza : wa.heap.size = wr.heap.size + 1 := by rw [← hwa]; show (World.alloc _ _).heap.size = _; rw [size_alloc]
          clear hwa HA HM HB
          go_wp2_with (at_builtin; refine wp_keys_push _ rfl _ _ rfl bm kv ks rfl HMa.out.kr ⟨wr.heap.size, 0, none⟩ 1 1 [x] rfl rfl (by intro j u hj; cases j with | zero => simp at hj; subst hj; exact HBX.out.cell 0 _ rfl | succ j => simp at hj) (by have := HKL.out; (try simp only [List.length_append, List.length_singleton] at *); omega) (by have := HMa.out.box.lt; omega) ?_)
          intro kv2 w6 hk6 hg6 ho6
          obtain ⟨aA, cA, rfl, _⟩ := ks_form2 hk6
          have hS : Chg kv.ownBlock.toList wa w6 := Chg.grown hg6 (fun j hj => by simp [hj])
          have hSo : ∀ j ∈ kv.ownBlock.toList, kv.ownBlock = some j := fun j hj => by simpa using hj
          have HX6 := Lib.hid (HMa.out.boxK _ hS hSo)
          have HMA := Lib.hid (HMa.out.newK hk6 _ hS hSo (fun j hj => by rcases ho6 with h | h; exact .inl (h ▸ hj); rw [h] at hj; injection hj with hj; exact .inr (by omega)))
          have HBA := Lib.hid ((HBa.out.trans (HMa.out.belowK2 _ hS hSo (Nat.le_refl _) (by have := HMa.out.box.lt; omega))).setCell (p := ⟨bm, 1, none⟩) (Nat.le_refl _) (.slice aA (ks ++ [x]).length cA))
          clear hk6 hg6 ho6 hS hSo HMa HBa HBX
          have HKNA : Hid ((ks ++ [x]).length = ks.length + 1) := by show _ = _; simp
          generalize hksx : ks ++ [x] = ksA at *
          have HKXA := Lib.hid hksx
          clear hksx
          have x1 := HX6.out.cell 1 _ rfl
          have y1 := HX6.out.free 1
          clear hza
          have hBn := HBA.out
          obtain ⟨w7A, hw7⟩ : ∃ w7, w7 = w6.setCell ⟨bm, 1, none⟩ (.slice aA ksA.length cA) := ⟨_, rfl⟩
          rw [← hw7] at HMA HBA hBn
          have hw8 := hw7.symm
          have c2b : w7A.cell? ⟨w.heap.size, 2, none⟩ = some (.slice (some ⟨b2, off2, none⟩) D.vals.length vd) := (HX1.out.keep hBn HLX.out).cell 2 _ rfl
          have hc2b : w7A.cell? ⟨b2, off2 + k, none⟩ = some (.string y) := by
            obtain ⟨b3, off3, e3, _, hc3⟩ := (HIN.out.keep (hBn.mono (Nat.le_of_eq HLB.out.symm))).vs.get k h2v
            injection e3 with e3; injection e3 with e4 e5
            subst e4 e5
            rw [hc3, HY.out]
          have n2 := HMA.out.box.cell 2 _ rfl
          clear hw7 hBn 
          go_wp2_with fail
          try rw [hw8]
          clear hw8 x1 y1 HX6
          refine wp_region_tree (fun W => W.cell? ⟨bm, 2, none⟩ = some vv ∧ W.cell? ⟨w.heap.size, 2, none⟩ = some (.slice (some ⟨b2, off2, none⟩) D.vals.length vd) ∧ W.cell? ⟨b2, off2 + k, none⟩ = some (.string y)) 8 (.quiet 0 (.quiet 1 (.quiet 2 (.quiet 3 (.quiet 4 (.quiet 5 (.quiet 6 (.make 7 .nil)))))))) (by kernel_rfl) (by kernel_rfl) ⟨n2, c2b, hc2b⟩ ?_
          simp only [List.drop_succ_cons, List.drop_zero]
          iterate 7 (apply wpTr_step rfl; (intro W hS K hK; obtain ⟨q0, q1, q2⟩ := hS; go_simp; exact hK _ rfl))
          refine wpTr_make rfl (fun K' hK => ?_)
          go_simp
          have HA : Hid (Below w7A.heap.size w7A (w7A.alloc (.cells #[.string y] 9 (0, 0))).drew) := ((Below.refl _ _).alloc (Nat.le_refl _) _).drew
          have HMa := Lib.hid (HMA.out.keep HA.out)
          have HBa := Lib.hid (HBA.out.trans (HA.out.mono (by have := HMA.out.box.lt; omega)))
          have HBX : Hid (Box (w7A.alloc (.cells #[.string y] 9 (0, 0))).drew w7A.heap.size 9 #[.string y]) := (Box.new w7A _ _).drew
          have g1 := HMa.out.box.cell 2 _ rfl
          have g2 := (HA.out.cell (p := ⟨w.heap.size, 2, none⟩) (lt_of_cell c2b)).trans c2b
          have g3 := (HA.out.cell (p := ⟨b2, off2 + k, none⟩) (lt_of_cell hc2b)).trans hc2b
          refine hK _ _ _ (fun _ h => h) ⟨g1, g2, g3⟩ ?_
          clear hK K' g1 g2 g3
          refine wpTr_nil ?_
          generalize hwa : (w7A.alloc (.cells #[.string y] 9 (0, 0))).drew = wa at *
          have hza : wa.heap.size = w7A.heap.size + 1 := by rw [← hwa]; show (World.alloc _ _).heap.size = _; rw [size_alloc]
          clear hwa HA HMA HBA
          go_wp2_with (at_builtin; refine wp_keys_push _ rfl _ _ rfl bm vv vs rfl HMa.out.vr ⟨w7A.heap.size, 0, none⟩ 1 1 [y] rfl rfl (by intro j u hj; cases j with | zero => simp at hj; subst hj; exact HBX.out.cell 0 _ rfl | succ j => simp at hj) (by have := HKL.out; (try simp only [List.length_append, List.length_singleton] at *); omega) (by have := HMa.out.box.lt; omega) ?_)
          intro kv2 w6 hk6 hg6 ho6
          obtain ⟨aB, cB, rfl, _⟩ := ks_form2 hk6
          have hS : Chg vv.ownBlock.toList wa w6 := Chg.grown hg6 (fun j hj => by simp [hj])
          have hSo : ∀ j ∈ vv.ownBlock.toList, vv.ownBlock = some j := fun j hj => by simpa using hj
          have HX6 := Lib.hid (HMa.out.boxV _ hS hSo)
          have HMB := Lib.hid (HMa.out.newV hk6 _ hS hSo (fun j hj => by rcases ho6 with h | h; exact .inl (h ▸ hj); rw [h] at hj; injection hj with hj; exact .inr (by omega)))
          have HBB := Lib.hid ((HBa.out.trans (HMa.out.belowV2 _ hS hSo (Nat.le_refl _) (by have := HMa.out.box.lt; omega))).setCell (p := ⟨bm, 2, none⟩) (Nat.le_refl _) (.slice aB (vs ++ [y]).length cB))
          clear hk6 hg6 ho6 hS hSo HMa HBa HBX
          have HKNB : Hid ((vs ++ [y]).length = vs.length + 1) := by show _ = _; simp
          generalize hksx : vs ++ [y] = ksB at *
          have HKXB := Lib.hid hksx
          clear hksx
          have x1 := HX6.out.cell 2 _ rfl
          have y1 := HX6.out.free 2
          clear hza
          go_wp2
          go_roundw
          case rel => exact ⟨k + 1, true, _, _, _, _, by omega, rfl, by go_num, HMB, HE2, HKL2, HBB⟩
          case measure => simp [intOf]; omega
      · have hkl2 : k = D.keys.length := by omega
        have hdr : F.drop k = [] := List.drop_of_length_le (by have := HFL.out; omega)
        rw [hdr] at HE
        have hc1 : ¬ (k : Int) < (D.keys.length : Int) := by omega
        clear hdr
        cases hla : laid
        · rw [hla] at HE
          have HE2 : Hid ((insE key val F).map (·.1) = ks ++ [key] ∧ (insE key val F).map (·.2) = vs ++ [val]) := HE.out
          have HX1 := HX3
          have HA : Hid (Below wr.heap.size wr (wr.alloc (.cells #[.string key] 9 (0, 0)))) := (Below.refl _ _).alloc (Nat.le_refl _) _
          have HMa := Lib.hid (HM.out.keep HA.out)
          have HBa := Lib.hid (HB.out.trans (HA.out.mono (by have := HM.out.box.lt; omega)))
          have HBX : Hid (Box (wr.alloc (.cells #[.string key] 9 (0, 0))) wr.heap.size 9 #[.string key]) := Box.new _ _ _
          have hza : (wr.alloc (.cells #[.string key] 9 (0, 0))).heap.size = wr.heap.size + 1 := size_alloc _ _
          clear HA HM HB
          go_wp2_with (at_builtin; refine wp_keys_push _ rfl _ _ rfl bm kv ks rfl HMa.out.kr ⟨wr.heap.size, 0, none⟩ 1 1 [key] rfl rfl (by intro j u hj; cases j with | zero => simp at hj; subst hj; exact HBX.out.cell 0 _ rfl | succ j => simp at hj) (by have := HKL.out; omega) (by have := HMa.out.box.lt; omega) ?_)
          intro kv2 w6 hk6 hg6 ho6
          obtain ⟨aC, cC, rfl, _⟩ := ks_form2 hk6
          have hS : Chg kv.ownBlock.toList (wr.alloc (.cells #[.string key] 9 (0, 0))) w6 := Chg.grown hg6 (fun j hj => by simp [hj])
          have hSo : ∀ j ∈ kv.ownBlock.toList, kv.ownBlock = some j := fun j hj => by simpa using hj
          have HX6 := Lib.hid (HMa.out.boxK _ hS hSo)
          have HMC := Lib.hid (HMa.out.newK hk6 _ hS hSo (fun j hj => by rcases ho6 with h | h; exact .inl (h ▸ hj); rw [h] at hj; injection hj with hj; exact .inr (by omega)))
          have HBC := Lib.hid ((HBa.out.trans (HMa.out.belowK2 _ hS hSo (Nat.le_refl _) (by have := HMa.out.box.lt; omega))).setCell (p := ⟨bm, 1, none⟩) (Nat.le_refl _) (.slice aC (ks ++ [key]).length cC))
          clear hk6 hg6 ho6 hS hSo HMa HBa HBX
          have HKNC : Hid ((ks ++ [key]).length = ks.length + 1) := by show _ = _; simp
          generalize hksx : ks ++ [key] = ksC at *
          have HKXC := Lib.hid hksx
          clear hksx
          have x1 := HX6.out.cell 1 _ rfl
          have y1 := HX6.out.free 1
          clear hza
          have hBn := HBC.out
          obtain ⟨w7C, hw7⟩ : ∃ w7, w7 = w6.setCell ⟨bm, 1, none⟩ (.slice aC ksC.length cC) := ⟨_, rfl⟩
          rw [← hw7] at HMC HBC hBn
          have hw8 := hw7.symm
          have n2 := HMC.out.box.cell 2 _ rfl
          have hz7 : w7C.heap.size = w6.heap.size := by rw [hw7]; simp
          clear hw7 hBn 
          have HA : Hid (Below w7C.heap.size w7C (w7C.alloc (.cells #[.string val] 9 (0, 0)))) := (Below.refl _ _).alloc (Nat.le_refl _) _
          have HMa := Lib.hid (HMC.out.keep HA.out)
          have HBa := Lib.hid (HBC.out.trans (HA.out.mono (by have := HMC.out.box.lt; omega)))
          have HBX : Hid (Box (w7C.alloc (.cells #[.string val] 9 (0, 0))) w6.heap.size 9 #[.string val]) := by show Box _ _ _ _; rw [← hz7]; exact Box.new _ _ _
          have hza : (w7C.alloc (.cells #[.string val] 9 (0, 0))).heap.size = w7C.heap.size + 1 := size_alloc _ _
          clear HA HMC HBC
          go_wp2_with (at_builtin; refine wp_keys_push _ rfl _ _ rfl bm vv vs rfl HMa.out.vr ⟨w6.heap.size, 0, none⟩ 1 1 [val] rfl rfl (by intro j u hj; cases j with | zero => simp at hj; subst hj; exact HBX.out.cell 0 _ rfl | succ j => simp at hj) (by have := HKL.out; (try simp only [List.length_append, List.length_singleton] at *); omega) (by have := HMa.out.box.lt; omega) ?_)
          intro kv2 w6 hk6 hg6 ho6
          obtain ⟨aD, cD, rfl, _⟩ := ks_form2 hk6
          have hS : Chg vv.ownBlock.toList (w7C.alloc (.cells #[.string val] 9 (0, 0))) w6 := Chg.grown hg6 (fun j hj => by simp [hj])
          have hSo : ∀ j ∈ vv.ownBlock.toList, vv.ownBlock = some j := fun j hj => by simpa using hj
          have HX6 := Lib.hid (HMa.out.boxV _ hS hSo)
          have HMD := Lib.hid (HMa.out.newV hk6 _ hS hSo (fun j hj => by rcases ho6 with h | h; exact .inl (h ▸ hj); rw [h] at hj; injection hj with hj; exact .inr (by omega)))
          have HBD := Lib.hid ((HBa.out.trans (HMa.out.belowV2 _ hS hSo (Nat.le_refl _) (by have := HMa.out.box.lt; omega))).setCell (p := ⟨bm, 2, none⟩) (Nat.le_refl _) (.slice aD (vs ++ [val]).length cD))
          clear hk6 hg6 ho6 hS hSo HMa HBa HBX
          have HKND : Hid ((vs ++ [val]).length = vs.length + 1) := by show _ = _; simp
          generalize hksx : vs ++ [val] = ksD at *
          have HKXD := Lib.hid hksx
          clear hksx
          have x1 := HX6.out.cell 2 _ rfl
          have y1 := HX6.out.free 2
          clear hza
          have hBn := HBD.out
          obtain ⟨w7D, hw7⟩ : ∃ w7, w7 = w6.setCell ⟨bm, 2, none⟩ (.slice aD ksD.length cD) := ⟨_, rfl⟩
          rw [← hw7] at HMD HBD hBn
          have hw8 := hw7.symm
          have HMQ := HMD
          clear hw7 hBn n2 hz7
          have HKE : Hid (ksC.length ≤ 1001 ∧ ksD.length ≤ 1001) := by have := HKL.out; have := HKNC.out; have := HKND.out; exact ⟨by omega, by omega⟩
          have m0 := HMD.out.box.cell 0 _ rfl
          have m1 := HMD.out.box.cell 1 _ rfl
          have m2 := HMD.out.box.cell 2 _ rfl
          have r0 := HMD.out.res.cell 0 _ rfl
          have r1 := HMD.out.res.cell 1 _ rfl
          have r2 := HMD.out.res.cell 2 _ rfl
          have f0 := HMD.out.res.free 0
          have f1 := HMD.out.res.free 1
          have f2 := HMD.out.res.free 2
          have HE3 := Lib.hid (HMD.out.end w.heap.size (by omega))
          have HBW := HB3.out.trans (HBD.out.mono (Nat.le_of_lt HLX.out))
          have HBE := Lib.hid (HBW.trans ((chg_set3 w7D (w.heap.size + 1) (.bool D.leaf) (.slice aC ksC.length cC) (.slice aD ksD.length cD)).below HBW.size (fun j hj => by simp at hj; omega)))
          clear HBW
          go_wp2
          refine bodyPost_ret (results_cell_row rfl _ _ (w.heap.size + 1) 24 _ (0, 0) _ rfl HE3.out.1 Try.underlying24 rfl sizeRNode2) rfl ?_
          rw [HPS.out]
          have e : withD d key val = ⟨D.leaf, ksC, ksD⟩ := by rw [HQ.out, HDL.out]; unfold ofE; rw [HE2.out.1, HE2.out.2]
          rw [e]
          exact ⟨_, rfl, HE3.out.2.sl (by have := HKE.out.1; show (ksC).length ≤ _; omega) (by have := HKE.out.2; show (ksD).length ≤ _; omega), HBE.out⟩
        · rw [hla] at HE
          have HE2 : Hid ((insE key val F).map (·.1) = ks ∧ (insE key val F).map (·.2) = vs) := by
            have h1 := HE.out
            exact ⟨by rw [h1.1]; show ks ++ [] = ks; simp, by rw [h1.2]; show vs ++ [] = vs; simp⟩
          have HKE := HKL
          obtain ⟨ak, ck, rfl, _⟩ := ks_form2 HM.out.kr
          obtain ⟨av, cv, rfl, _⟩ := ks_form2 HM.out.vr
          have m0 := HM.out.box.cell 0 _ rfl
          have m1 := HM.out.box.cell 1 _ rfl
          have m2 := HM.out.box.cell 2 _ rfl
          have r0 := HM.out.res.cell 0 _ rfl
          have r1 := HM.out.res.cell 1 _ rfl
          have r2 := HM.out.res.cell 2 _ rfl
          have f0 := HM.out.res.free 0
          have f1 := HM.out.res.free 1
          have f2 := HM.out.res.free 2
          have HE3 := Lib.hid (HM.out.end w.heap.size (by omega))
          have HBW := HB3.out.trans (HB.out.mono (Nat.le_of_lt HLX.out))
          have HBE := Lib.hid (HBW.trans ((chg_set3 wr (w.heap.size + 1) (.bool D.leaf) (.slice ak ks.length ck) (.slice av vs.length cv)).below HBW.size (fun j hj => by simp at hj; omega)))
          clear HBW
          go_wp2
          refine bodyPost_ret (results_cell_row rfl _ _ (w.heap.size + 1) 24 _ (0, 0) _ rfl HE3.out.1 Try.underlying24 rfl sizeRNode2) rfl ?_
          rw [HPS.out]
          have e : withD d key val = ⟨D.leaf, ks, vs⟩ := by rw [HQ.out, HDL.out]; unfold ofE; rw [HE2.out.1, HE2.out.2]
          rw [e]
          exact ⟨_, rfl, HE3.out.2.sl (by have := HKE.out.1; show (ks).length ≤ _; omega) (by have := HKE.out.2; show (vs).length ≤ _; omega), HBE.out⟩
end Go.Proofs.Ytlkkgboaicjaiaa
