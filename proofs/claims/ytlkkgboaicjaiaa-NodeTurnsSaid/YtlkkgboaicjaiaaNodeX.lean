/-
  The reference's Without.
-/
import Derived.Test.YtlkkgboaicjaiaaNodeQ
import Derived.Test.YtlkkgboaicjaiaaNodeT
namespace Go.Proofs.Ytlkkgboaicjaiaa
open Go.RowKit Go.ChangeShapes Go.WideShapes Go.ChangeAt

theorem sizeRNode2 : (Try.prog.info? 24).map (·.size) = some 3 := by kernel_rfl
/-- A node whose slices may be anyone's. -/
def NodeSl (w : World) (v : Value) (d : NodeD) : Prop := ∃ ka kc va vc, v = nodeV ka kc va vc d ∧ NodeIn w ka va d
/-- What the reference's Without answers. -/
def WoTo (d : NodeD) (key : ByteArray) (w : World) (e : Ending) (w' : World) : Prop := ∃ v, e = .returned v ∧ NodeSl w' v (withoutD d key) ∧ Below w.heap.size w w' ∧ (mayD d = true → NodeOwn w' w.heap.size v (withoutD d key))
def SlTo (d : NodeD) (w : World) (e : Ending) (w' : World) : Prop := ∃ v, e = .returned v ∧ NodeSl w' v d ∧ Below w.heap.size w w'
theorem NodeOwn.sl {w : World} {B : Nat} {v : Value} {d : NodeD} (h : NodeOwn w B v d) (hk : d.keys.length ≤ 100000) (hv : d.vals.length ≤ 100000) : NodeSl w v d := by
  obtain ⟨ka, kc, va, vc, e, hi, _, _⟩ := h.view hk hv
  exact ⟨ka, kc, va, vc, e, hi⟩
theorem dropE_step (key : ByteArray) (E : List Ent) (k : Nat) (h : k < E.length) : dropE key (E.drop k) = (if E[k].1 = key then [] else [E[k]]) ++ dropE key (E.drop (k + 1)) := by
  rw [List.drop_eq_getElem_cons h]
  unfold dropE
  rw [List.filter_cons]
  by_cases h1 : E[k].1 = key
  · simp [h1]
  · simp [h1]
set_option maxRecDepth 100000 in
set_option maxHeartbeats 4000000 in
theorem rwithout_any (ka : Option Addr) (kc : Nat) (va : Option Addr) (vc : Nat) (d : NodeD) (key : ByteArray) (w : World) (h : NodeIn w ka va d) (hz : ∀ s ∈ d.keys ++ d.vals, s.size ≤ maxLen) :
    Calls Try.prog 30 #[nodeV ka kc va vc d, .string key] w (WoTo d key w) := by
  have H := Lib.hid h
  have HZ := Lib.hid hz
  have hkl := h.kl
  have HB0 : Hid (∀ o, Below w.heap.size w (w.alloc o)) := fun o => (Below.refl _ _).alloc (Nat.le_refl _) o
  clear h hz
  have HV : Hid (Value.agg #[.bool d.leaf, .slice ka d.keys.length kc, .slice va d.vals.length vc] = nodeV ka kc va vc d) := rfl
  obtain ⟨PS, hPS⟩ : ∃ PS, PS = WoTo d key w := ⟨_, rfl⟩
  rw [← hPS]
  have HPS := Lib.hid hPS
  clear hPS
  unfold nodeV
  go_enter Try.func30, Try.ntmps30
  go_wp2_with fail
  rw [HV.out]
  generalize hwx : World.alloc (World.alloc w _) _ = wx
  have HX : Hid (Box wx w.heap.size 24 #[.bool d.leaf, .slice ka d.keys.length kc, .slice va d.vals.length vc]) := by show Box _ _ _ _; rw [← hwx]; exact (Box.new w _ _).alloc _
  have HR : Hid (Box wx (w.heap.size + 1) 24 #[.bool false, .slice none 0 0, .slice none 0 0]) := by show Box _ _ _ _; rw [← hwx]; exact box_second _ _ _ _
  have HBX : Hid (Below w.heap.size w wx) := by show Below _ _ _; rw [← hwx]; exact (HB0.out _).trans (((Below.refl _ _).alloc (Nat.le_refl _) _).mono (by rw [size_alloc]; omega))
  clear hwx
  refine (rmay_any ka kc va vc d _ (H.out.keep HBX.out) HZ.out).mono ?_
  rintro e w1 ⟨rfl, hb⟩
  have HX1 := Lib.hid (HX.out.keep hb HX.out.lt)
  have HR1 := Lib.hid (HR.out.keep hb HR.out.lt)
  have HB1 := Lib.hid (HBX.out.trans (hb.mono HBX.out.size))
  clear hb HX HR HBX
  have c0 := HX1.out.cell 0 _ rfl
  have c1 := HX1.out.cell 1 _ rfl
  have c2 := HX1.out.cell 2 _ rfl
  have r0 := HR1.out.cell 0 _ rfl
  have r1 := HR1.out.cell 1 _ rfl
  have r2 := HR1.out.cell 2 _ rfl
  have f0 := HR1.out.free 0
  have f1 := HR1.out.free 1
  have f2 := HR1.out.free 2
  cases hm : mayD d
  · have HQ : Hid (withoutD d key = d) := by show _ = _; unfold withoutD; rw [hm]; rfl
    have HBE := Lib.hid (HB1.out.trans ((chg_set3 w1 (w.heap.size + 1) (.bool d.leaf) (.slice ka d.keys.length kc) (.slice va d.vals.length vc)).below HB1.out.size (fun j hj => by simp at hj; omega)))
    have HRE := Lib.hid (box_set3 HR1.out (.bool d.leaf) (.slice ka d.keys.length kc) (.slice va d.vals.length vc))
    have HMF := Lib.hid hm
    clear hm
    go_wp2
    refine bodyPost_ret (results_cell_row rfl _ _ (w.heap.size + 1) 24 _ (0, 0) _ rfl HRE.out Try.underlying24 rfl sizeRNode2) rfl ?_
    rw [HPS.out]
    refine ⟨_, rfl, ?_, HBE.out, fun h => by rw [HMF.out] at h; cases h⟩
    rw [HQ.out]
    exact ⟨ka, kc, va, vc, rfl, H.out.keep HBE.out⟩
  · have HMBD := Lib.hid (may_bounds hm)
    obtain ⟨E, hE, hok, hl⟩ := may_of hm
    have HK : Hid (d.keys = E.map (·.1)) := by show _ = _; rw [hE]; rfl
    have HVE : Hid (d.vals = E.map (·.2)) := by show _ = _; rw [hE]; rfl
    have HQ : Hid (withoutD d key = ofE d.leaf (dropE key E)) := by
      have := without_eq (b := d.leaf) hok hl key
      rw [← hE] at this
      exact this
    have HEL : Hid (E.length = d.keys.length) := by show _ = _; rw [HK.out, List.length_map]
    have hMM := fun (o : Unit) => MNode.mk' (leaf := d.leaf) HR1.out (Ks.nil w1 w1.heap.size) (Ks.nil w1 w1.heap.size) (fun k hk => by cases hk) HR1.out.lt
    have HMM := Lib.hid (hMM ())
    have hle := (may_bounds hm).le
    clear hE hok hl hm hMM r0 r1 r2 f0 f1 f2
    have HBA : Hid (∀ o, Below w1.heap.size w1 (w1.alloc o)) := fun o => (Below.refl _ _).alloc (Nat.le_refl _) o
    have HLM : Hid (w.heap.size + 1 < w1.heap.size) := HR1.out.lt
    go_wp2_with fail
    generalize hwy : w1.alloc (.cells #[.bool d.leaf, .slice none 0 0, .slice none 0 0] 24 (0, 0)) = wy
    have HM0 := HMM
    have HB00 : Hid (Below (w.heap.size + 1) w1 wy) := by show Below _ _ _; rw [← hwy]; exact (HBA.out _).mono (by have := HLM.out; omega)
    rw [hwy] at HM0
    obtain ⟨bm, hbm⟩ : ∃ bm, bm = w1.heap.size := ⟨_, rfl⟩
    rw [← hbm] at HM0 HLM ⊢
    clear hwy hbm HMM HBA c0 c1 c2
    go_loopw [6] (fun i wr => ∃ (k : Nat) (kv vv : Value) (ks vs : List ByteArray), k ≤ d.keys.length ∧ i = .int .i64 k ∧ Hid (MNode 24 wr bm (w.heap.size + 1) bm d.leaf kv vv ks vs) ∧ Hid ((dropE key E).map (·.1) = ks ++ (dropE key (E.drop k)).map (·.1) ∧ (dropE key E).map (·.2) = vs ++ (dropE key (E.drop k)).map (·.2)) ∧ Hid (ks.length ≤ k ∧ vs.length ≤ k) ∧ Hid (Below (w.heap.size + 1) w1 wr)) (fun i _ => d.keys.length - (intOf i).toNat)
    case atStart => exact ⟨0, _, _, [], [], Nat.zero_le _, rfl, HM0, ⟨rfl, rfl⟩, ⟨Nat.le_refl _, Nat.le_refl _⟩, HB00⟩
    case round =>
    clear HM0 HB00
    obtain ⟨k, kv, vv, ks, vs, hk, rfl, HM, HE, HKL0, HB⟩ := hrel
    by_cases hlt : k < d.keys.length
    · have h2v : k < d.vals.length := by have := HMBD.out.eq; omega
      have HXr := HX1.out.keep HB.out (by omega)
      have HN := H.out.keep (HB1.out.trans (HB.out.mono (by omega)))
      obtain ⟨b, off, hka, _, hc⟩ := HN.ks.get k hlt
      obtain ⟨b2, off2, hva, _, hc2⟩ := HN.vs.get k h2v
      subst hka hva
      have c1 := HXr.cell 1 _ rfl
      have c2 := HXr.cell 2 _ rfl
      have n1 := HM.out.box.cell 1 _ rfl
      have h0i : (0 : Int) ≤ (k : Int) := by omega
      have h1i : (k : Int) < (d.keys.length : Int) := by omega
      have h2i : (k : Int) < (d.vals.length : Int) := by omega
      have hEk : k < E.length := by have := HEL.out; omega
      have HST := Lib.hid (dropE_step key E k hEk)
      have hx1 : E[k].1 = d.keys[k] := by simp [HK.out]
      have hy1 : E[k].2 = d.vals[k] := by simp [HVE.out]
      have HXX := Lib.hid hx1
      have HY1 := Lib.hid hy1
      have HY0 : Hid (d.vals[k] = d.vals[k]) := rfl
      obtain ⟨x, hx⟩ : ∃ x, d.keys[k] = x := ⟨_, rfl⟩
      obtain ⟨y, hy⟩ : ∃ y, d.vals[k] = y := ⟨_, rfl⟩
      rw [hx] at hc hx1
      rw [hy] at hc2 hy1
      have HY := Lib.hid hy
      have HKL : Hid (ks.length ≤ 1000 ∧ vs.length ≤ 1000) := by have := HKL0.out; exact ⟨by omega, by omega⟩
      have e1 := beq_key x key
      by_cases hxk : x = key
      · have HE2 : Hid ((dropE key E).map (·.1) = ks ++ (dropE key (E.drop (k + 1))).map (·.1) ∧ (dropE key E).map (·.2) = vs ++ (dropE key (E.drop (k + 1))).map (·.2)) := by
          have h1 := HE.out
          rw [HST.out, if_pos (hx1.trans hxk)] at h1
          exact h1
        have HKL2 : Hid (ks.length ≤ k + 1 ∧ vs.length ≤ k + 1) := by have := HKL0.out; exact ⟨by omega, by omega⟩
        rw [decide_eq_true hxk] at e1
        clear hxk hx hy hx1 hy1 HY0 HXX HY1
        go_wp2
        go_roundw
        case rel => exact ⟨k + 1, _, _, _, _, by omega, by go_num, HM, HE2, HKL2, HB⟩
        case measure => simp [intOf]; omega
      · have HE2 : Hid ((dropE key E).map (·.1) = (ks ++ [x]) ++ (dropE key (E.drop (k + 1))).map (·.1) ∧ (dropE key E).map (·.2) = (vs ++ [y]) ++ (dropE key (E.drop (k + 1))).map (·.2)) := by
          have h1 := HE.out
          rw [HST.out, if_neg (fun h => hxk (hx1.symm.trans h)), List.map_append, List.map_append] at h1
          refine ⟨by rw [h1.1, ← hx1]; simp, by rw [h1.2, ← hy1]; simp⟩
        have HKL2 : Hid ((ks ++ [x]).length ≤ k + 1 ∧ (vs ++ [y]).length ≤ k + 1) := by have := HKL0.out; exact ⟨by simp; omega, by simp; omega⟩
        rw [decide_eq_false hxk] at e1
        clear hxk hx hy hx1 hy1 HY0 HXX HY1 HXr HN
        go_wp2_with fail
        refine wp_region_tree (fun W => W.cell? ⟨bm, 1, none⟩ = some kv ∧ W.cell? ⟨w.heap.size, 1, none⟩ = some (.slice (some ⟨b, off, none⟩) d.keys.length kc) ∧ W.cell? ⟨b, off + k, none⟩ = some (.string x)) 8 (.quiet 0 (.quiet 1 (.quiet 2 (.quiet 3 (.quiet 4 (.quiet 5 (.quiet 6 (.make 7 .nil)))))))) (by kernel_rfl) (by kernel_rfl) ⟨n1, c1, hc⟩ ?_
        simp only [List.drop_succ_cons, List.drop_zero]
        iterate 7 (apply wpTr_step rfl; (intro W hS K hK; obtain ⟨q0, q1, q2⟩ := hS; go_simp; exact hK _ rfl))
        refine wpTr_make rfl (fun K' hK => ?_)
        go_simp
        have HA : Hid (Below wr.heap.size wr (wr.alloc (.cells #[.string x] 9 (0, 0))).drew) := ((Below.refl _ _).alloc (Nat.le_refl _) _).drew
        have HMa := Lib.hid (HM.out.keep HA.out)
        have HBa := Lib.hid (HB.out.trans (HA.out.mono (by have := HM.out.res.lt; omega)))
        have HBX : Hid (Box (wr.alloc (.cells #[.string x] 9 (0, 0))).drew wr.heap.size 9 #[.string x]) := (Box.new wr _ _).drew
        have g1 := HMa.out.box.cell 1 _ rfl
        have g2 := (HA.out.cell (p := ⟨w.heap.size, 1, none⟩) (lt_of_cell c1)).trans c1
        have g3 := (HA.out.cell (p := ⟨b, off + k, none⟩) (lt_of_cell hc)).trans hc
        have c2a := (HA.out.cell (p := ⟨w.heap.size, 2, none⟩) (lt_of_cell c2)).trans c2
        have hc2a := (HA.out.cell (p := ⟨b2, off2 + k, none⟩) (lt_of_cell hc2)).trans hc2
        refine hK _ _ _ (fun _ h => h) ⟨g1, g2, g3⟩ ?_
        clear hK K' g1 g2 g3
        refine wpTr_nil ?_
        generalize hwa : (wr.alloc (.cells #[.string x] 9 (0, 0))).drew = wa at *
        have hza : wa.heap.size = wr.heap.size + 1 := by rw [← hwa]; show (World.alloc _ _).heap.size = _; rw [size_alloc]
        clear hwa HA HM HB
        go_wp2_with (at_builtin; refine wp_keys_push _ rfl _ _ rfl bm kv ks rfl HMa.out.kr ⟨wr.heap.size, 0, none⟩ 1 1 [x] rfl rfl (by intro j u hj; cases j with | zero => simp at hj; subst hj; exact HBX.out.cell 0 _ rfl | succ j => simp at hj) (by have := HKL.out; simp only [List.length_append, List.length_singleton] at *; omega) (by have := HMa.out.box.lt; omega) ?_)
        intro kv2 w6 hk6 hg6 ho6
        obtain ⟨aA, cA, rfl, _⟩ := ks_form2 hk6
        have hS : Chg kv.ownBlock.toList wa w6 := Chg.grown hg6 (fun j hj => by simp [hj])
        have hSo : ∀ j ∈ kv.ownBlock.toList, kv.ownBlock = some j := fun j hj => by simpa using hj
        have HX6 := Lib.hid (HMa.out.boxK _ hS hSo)
        have HMA := Lib.hid (HMa.out.newK hk6 _ hS hSo (fun j hj => by rcases ho6 with h | h; exact .inl (h ▸ hj); rw [h] at hj; injection hj with hj; exact .inr (by omega)))
        have HBA := Lib.hid ((HBa.out.trans (HMa.out.belowK _ hS hSo (Nat.le_refl _))).setCell (p := ⟨bm, 1, none⟩) (by have := HLM.out; show w.heap.size + 1 ≤ bm; omega) (.slice aA (ks ++ [x]).length cA))
        clear hk6 hg6 ho6 hS hSo HMa HBa HBX
        generalize hksx : ks ++ [x] = ksA at *
        have HKXA := Lib.hid hksx
        clear hksx
        have x1 := HX6.out.cell 1 _ rfl
        have y1 := HX6.out.free 1
        clear hza
        have hBn := HBA.out
        obtain ⟨w7, hw7⟩ : ∃ w7, w7 = w6.setCell ⟨bm, 1, none⟩ (.slice aA ksA.length cA) := ⟨_, rfl⟩
        rw [← hw7] at HMA HBA hBn
        have hw8 := hw7.symm
        have c2b : w7.cell? ⟨w.heap.size, 2, none⟩ = some (.slice (some ⟨b2, off2, none⟩) d.vals.length vc) := (HX1.out.keep hBn (by omega)).cell 2 _ rfl
        have hc2b : w7.cell? ⟨b2, off2 + k, none⟩ = some (.string y) := by
          obtain ⟨b3, off3, e3, _, hc3⟩ := (H.out.keep (HB1.out.trans (hBn.mono (by omega)))).vs.get k h2v
          injection e3 with e3; injection e3 with e4 e5
          subst e4 e5
          rw [hc3, HY.out]
        have n2 := HMA.out.box.cell 2 _ rfl
        clear hw7 c2a hc2a hBn
        go_wp2_with fail
        try rw [hw8]
        clear hw8 x1 y1 HX6
        refine wp_region_tree (fun W => W.cell? ⟨bm, 2, none⟩ = some vv ∧ W.cell? ⟨w.heap.size, 2, none⟩ = some (.slice (some ⟨b2, off2, none⟩) d.vals.length vc) ∧ W.cell? ⟨b2, off2 + k, none⟩ = some (.string y)) 8 (.quiet 0 (.quiet 1 (.quiet 2 (.quiet 3 (.quiet 4 (.quiet 5 (.quiet 6 (.make 7 .nil)))))))) (by kernel_rfl) (by kernel_rfl) ⟨n2, c2b, hc2b⟩ ?_
        simp only [List.drop_succ_cons, List.drop_zero]
        iterate 7 (apply wpTr_step rfl; (intro W hS K hK; obtain ⟨q0, q1, q2⟩ := hS; go_simp; exact hK _ rfl))
        refine wpTr_make rfl (fun K' hK => ?_)
        go_simp
        have HA : Hid (Below w7.heap.size w7 (w7.alloc (.cells #[.string y] 9 (0, 0))).drew) := ((Below.refl _ _).alloc (Nat.le_refl _) _).drew
        have HMa := Lib.hid (HMA.out.keep HA.out)
        have HBa := Lib.hid (HBA.out.trans (HA.out.mono (by have := HMA.out.res.lt; omega)))
        have HBX : Hid (Box (w7.alloc (.cells #[.string y] 9 (0, 0))).drew w7.heap.size 9 #[.string y]) := (Box.new w7 _ _).drew
        have g1 := HMa.out.box.cell 2 _ rfl
        have g2 := (HA.out.cell (p := ⟨w.heap.size, 2, none⟩) (lt_of_cell c2b)).trans c2b
        have g3 := (HA.out.cell (p := ⟨b2, off2 + k, none⟩) (lt_of_cell hc2b)).trans hc2b
        refine hK _ _ _ (fun _ h => h) ⟨g1, g2, g3⟩ ?_
        clear hK K' g1 g2 g3
        refine wpTr_nil ?_
        generalize hwa : (w7.alloc (.cells #[.string y] 9 (0, 0))).drew = wa at *
        have hza : wa.heap.size = w7.heap.size + 1 := by rw [← hwa]; show (World.alloc _ _).heap.size = _; rw [size_alloc]
        clear hwa HA HMA HBA
        go_wp2_with (at_builtin; refine wp_keys_push _ rfl _ _ rfl bm vv vs rfl HMa.out.vr ⟨w7.heap.size, 0, none⟩ 1 1 [y] rfl rfl (by intro j u hj; cases j with | zero => simp at hj; subst hj; exact HBX.out.cell 0 _ rfl | succ j => simp at hj) (by have := HKL.out; simp only [List.length_append, List.length_singleton] at *; omega) (by have := HMa.out.box.lt; omega) ?_)
        intro kv2 w6 hk6 hg6 ho6
        obtain ⟨aB, cB, rfl, _⟩ := ks_form2 hk6
        have hS : Chg vv.ownBlock.toList wa w6 := Chg.grown hg6 (fun j hj => by simp [hj])
        have hSo : ∀ j ∈ vv.ownBlock.toList, vv.ownBlock = some j := fun j hj => by simpa using hj
        have HX6 := Lib.hid (HMa.out.boxV _ hS hSo)
        have HMB := Lib.hid (HMa.out.newV hk6 _ hS hSo (fun j hj => by rcases ho6 with h | h; exact .inl (h ▸ hj); rw [h] at hj; injection hj with hj; exact .inr (by omega)))
        have HBB := Lib.hid ((HBa.out.trans (HMa.out.belowV _ hS hSo (Nat.le_refl _))).setCell (p := ⟨bm, 2, none⟩) (by have := HLM.out; show w.heap.size + 1 ≤ bm; omega) (.slice aB (vs ++ [y]).length cB))
        clear hk6 hg6 ho6 hS hSo HMa HBa HBX
        generalize hksx : vs ++ [y] = ksB at *
        have HKXB := Lib.hid hksx
        clear hksx
        have x1 := HX6.out.cell 2 _ rfl
        have y1 := HX6.out.free 2
        clear hza
        go_wp2
        go_roundw
        case rel => exact ⟨k + 1, _, _, _, _, by omega, by go_num, HMB, HE2, HKL2, HBB⟩
        case measure => simp [intOf]; omega
    · have hkl2 : k = d.keys.length := by omega
      have HE2 : Hid ((dropE key E).map (·.1) = ks ∧ (dropE key E).map (·.2) = vs) := by
        have h1 := HE.out
        have h2 : dropE key (E.drop k) = [] := by rw [List.drop_of_length_le (by have := HEL.out; omega)]; rfl
        rw [h2] at h1
        exact ⟨by rw [h1.1]; simp, by rw [h1.2]; simp⟩
      have c1 := (HX1.out.keep HB.out (by omega)).cell 1 _ rfl
      obtain ⟨ak, ck, rfl, _⟩ := ks_form2 HM.out.kr
      obtain ⟨av, cv, rfl, _⟩ := ks_form2 HM.out.vr
      have m0 := HM.out.box.cell 0 _ rfl
      have m1 := HM.out.box.cell 1 _ rfl
      have m2 := HM.out.box.cell 2 _ rfl
      have r0 := HM.out.res.cell 0 _ rfl
      have r1 := HM.out.res.cell 1 _ rfl
      have r2 := HM.out.res.cell 2 _ rfl
      have f0 := HM.out.res.free 0
      have f1 := HM.out.res.free 1
      have f2 := HM.out.res.free 2
      have HE3 := Lib.hid (HM.out.end w.heap.size (by omega))
      have HBE := Lib.hid ((HB1.out.trans (HB.out.mono (by omega))).trans ((chg_set3 wr (w.heap.size + 1) (.bool d.leaf) (.slice ak ks.length ck) (.slice av vs.length cv)).below (HB1.out.trans (HB.out.mono (by omega))).size (fun j hj => by simp at hj; omega)))
      subst hkl2
      go_wp2
      refine bodyPost_ret (results_cell_row rfl _ _ (w.heap.size + 1) 24 _ (0, 0) _ rfl HE3.out.1 Try.underlying24 rfl sizeRNode2) rfl ?_
      rw [HPS.out]
      have e : withoutD d key = ⟨d.leaf, ks, vs⟩ := by rw [HQ.out]; unfold ofE; rw [HE2.out.1, HE2.out.2]
      unfold WoTo
      rw [e]
      exact ⟨_, rfl, HE3.out.2.sl (by have := HKL0.out; show ks.length ≤ _; omega) (by have := HKL0.out; show vs.length ≤ _; omega), HBE.out, fun _ => HE3.out.2⟩
end Go.Proofs.Ytlkkgboaicjaiaa
