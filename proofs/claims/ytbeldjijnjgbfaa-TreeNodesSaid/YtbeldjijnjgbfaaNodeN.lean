/-
  With: the walk.
-/
import Derived.Test.YtbeldjijnjgbfaaMg19
namespace Go.Proofs.Ytbeldjijnjgbfaa
open Go.RowKit Go.ChangeShapes Go.WideShapes Go.ChangeAt

/-- What a call answers that makes a node. -/
def NodeTo (d : NodeD) (w : World) (e : Ending) (w' : World) : Prop := ∃ v, e = .returned v ∧ NodeOwn w' w.heap.size v d ∧ Below w.heap.size w w'
theorem own_rows {w1 : World} {B : Nat} {kv vv : Value} {ks vs : List ByteArray} (hk : Ks w1 B kv ks) (hv : Ks w1 B vv vs) : (∃ a c, kv = .slice a ks.length c) ∧ ∃ a c, vv = .slice a vs.length c := by
  obtain ⟨a, c, e, _⟩ := ks_form2 hk
  obtain ⟨a2, c2, e2, _⟩ := ks_form2 hv
  exact ⟨⟨a, c, e⟩, ⟨a2, c2, e2⟩⟩
set_option maxRecDepth 100000 in
set_option maxHeartbeats 2000000 in
theorem with_any (ka : Option Addr) (kc : Nat) (va : Option Addr) (vc : Nat) (d : NodeD) (key val : ByteArray) (w : World) (h : NodeIn w ka va d) (hz : ∀ s ∈ d.keys ++ d.vals, s.size ≤ maxLen) (hkz : key.size ≤ maxLen) (hvz : val.size ≤ maxLen) :
    Calls Try.prog 31 #[nodeV ka kc va vc d, .string key, .string val] w (NodeTo (withD d key val) w) := by
  have H := Lib.hid h
  have HZ := Lib.hid hz
  have HKZ := Lib.hid hkz
  have HVZ := Lib.hid hvz
  have hkl := h.kl
  have HB0 : Hid (∀ o, Below w.heap.size w (w.alloc o)) := fun o => (Below.refl _ _).alloc (Nat.le_refl _) o
  clear h hz hkz hvz
  have HV : Hid (Value.agg #[.bool d.leaf, .slice ka d.keys.length kc, .slice va d.vals.length vc] = nodeV ka kc va vc d) := rfl
  obtain ⟨PS, hPS⟩ : ∃ PS, PS = NodeTo (withD d key val) w := ⟨_, rfl⟩
  rw [← hPS]
  have HPS := Lib.hid hPS
  clear hPS
  unfold nodeV
  go_enter Try.func31, Try.ntmps31
  go_wp2_with fail
  rw [HV.out]
  generalize hwx : World.alloc (World.alloc w _) _ = wx
  have HX : Hid (Box wx w.heap.size 51 #[.bool d.leaf, .slice ka d.keys.length kc, .slice va d.vals.length vc]) := by show Box _ _ _ _; rw [← hwx]; exact (Box.new w _ _).alloc _
  have HR : Hid (Box wx (w.heap.size + 1) 51 #[.bool false, .slice none 0 0, .slice none 0 0]) := by show Box _ _ _ _; rw [← hwx]; exact box_second _ _ _ _
  have HBX : Hid (Below w.heap.size w wx) := by show Below _ _ _; rw [← hwx]; exact (HB0.out _).trans (((Below.refl _ _).alloc (Nat.le_refl _) _).mono (by rw [size_alloc]; omega))
  clear hwx
  refine (own_any ka kc va vc d _ (H.out.keep HBX.out)).mono ?_
  rintro e w1 ⟨kv, vv, rfl, hk, hv, hn, hb⟩
  have HX1 := Lib.hid (HX.out.keep hb HX.out.lt)
  have HR1 := HR.out.keep hb HR.out.lt
  have HB1 := Lib.hid (HBX.out.trans (hb.mono HBX.out.size))
  have HLT := HR.out.lt
  have HLB0 : wx.heap.size ≤ w1.heap.size := hb.size
  obtain ⟨B, hB⟩ : ∃ B, B = wx.heap.size := ⟨_, rfl⟩
  rw [← hB] at hk hv HLT HLB0
  have HLB := Lib.hid HLB0
  clear HLB0
  clear hb HX HR HBX hB
  obtain ⟨⟨a1, c1, rfl⟩, ⟨a2, c2, rfl⟩⟩ := own_rows hk hv
  have HM2 := Lib.hid (MNode.mk' (leaf := d.leaf) HR1 hk hv hn HLT)
  have HBA : Hid (∀ o, Below w1.heap.size w1 (w1.alloc o)) := fun o => (Below.refl _ _).alloc (Nat.le_refl _) o
  have n0 : ∀ o, (w1.alloc o).cell? ⟨w.heap.size, 0, none⟩ = some (.bool d.leaf) := fun o => (HX1.out.keep (HBA.out o) HX1.out.lt).cell 0 _ rfl
  have n1 : ∀ o, (w1.alloc o).cell? ⟨w.heap.size, 1, none⟩ = some (.slice ka d.keys.length kc) := fun o => (HX1.out.keep (HBA.out o) HX1.out.lt).cell 1 _ rfl
  have n2 : ∀ o, (w1.alloc o).cell? ⟨w.heap.size, 2, none⟩ = some (.slice va d.vals.length vc) := fun o => (HX1.out.keep (HBA.out o) HX1.out.lt).cell 2 _ rfl
  have HBY : Hid (Below w.heap.size w (w1.alloc (.cells #[.bool d.leaf, .slice a1 d.keys.length c1, .slice a2 d.vals.length c2] 51 (0, 0)))) := HB1.out.trans ((HBA.out _).mono HB1.out.size)
  clear hk hv hn HR1 HX1 HBA
  go_wp2_with fail
  rw [HV.out]
  generalize hwy : World.alloc w1 _ = wy
  have HM := HM2
  rw [hwy] at HM HBY
  obtain ⟨bm, hbm⟩ : ∃ bm, bm = w1.heap.size := ⟨_, rfl⟩
  rw [← hbm] at HM ⊢
  have HBM := Lib.hid hbm
  clear hwy HM2 hbm n0 n1 n2
  refine (maybe_any ka kc va vc d _ (H.out.keep HBY.out) HZ.out).mono ?_
  rintro e w3 ⟨rfl, hb⟩
  have HM3 := Lib.hid (HM.out.keep hb)
  have HB3 := Lib.hid (HBY.out.trans (hb.mono HBY.out.size))
  clear hb HM HBY
  have m0 := HM3.out.box.cell 0 _ rfl
  have m1 := HM3.out.box.cell 1 _ rfl
  have m2 := HM3.out.box.cell 2 _ rfl
  have r0 := HM3.out.res.cell 0 _ rfl
  have r1 := HM3.out.res.cell 1 _ rfl
  have r2 := HM3.out.res.cell 2 _ rfl
  have f0 := HM3.out.res.free 0
  have f1 := HM3.out.res.free 1
  have f2 := HM3.out.res.free 2
  cases hm : mayD d
  · have HQ : Hid (withD d key val = ⟨d.leaf, d.keys, d.vals⟩) := by show _ = _; unfold withD; rw [hm]; rfl
    have HE := Lib.hid (HM3.out.end w.heap.size (by omega))
    have HBE := Lib.hid (HB3.out.trans ((chg_set3 w3 (w.heap.size + 1) (.bool d.leaf) (.slice a1 d.keys.length c1) (.slice a2 d.vals.length c2)).below HB3.out.size (fun k hk => by simp at hk; omega)))
    clear hm
    go_wp2
    refine bodyPost_ret (results_cell_row rfl _ _ (w.heap.size + 1) 51 _ (0, 0) _ rfl HE.out.1 Try.underlying51 rfl sizeNode) rfl ?_
    rw [HPS.out, HQ.out]
    exact ⟨_, rfl, HE.out.2, HBE.out⟩
  · go_wp2_with fail
    refine (maystand_any key val _ HKZ.out HVZ.out).mono ?_
    rintro e w4 ⟨rfl, rfl⟩
    cases ho : okE key val
    · have HQ : Hid (withD d key val = ⟨d.leaf, d.keys, d.vals⟩) := by show _ = _; unfold withD; rw [ho]; simp
      have HE := Lib.hid (HM3.out.end w.heap.size (by omega))
      have HBE := Lib.hid (HB3.out.trans ((chg_set3 w3 (w.heap.size + 1) (.bool d.leaf) (.slice a1 d.keys.length c1) (.slice a2 d.vals.length c2)).below HB3.out.size (fun k hk => by simp at hk; omega)))
      clear hm ho
      go_wp2
      refine bodyPost_ret (results_cell_row rfl _ _ (w.heap.size + 1) 51 _ (0, 0) _ rfl HE.out.1 Try.underlying51 rfl sizeNode) rfl ?_
      rw [HPS.out, HQ.out]
      exact ⟨_, rfl, HE.out.2, HBE.out⟩
    · have HU := Lib.hid (may_up hm)
      have HMB := Lib.hid (may_bounds hm)
      have hQ : withD d key val = if isK d.keys key = true then ⟨d.leaf, d.keys, d.vals.set (cntK d.keys key) val⟩ else ⟨d.leaf, d.keys.insertIdx (cntK d.keys key) key, d.vals.insertIdx (cntK d.keys key) val⟩ := by unfold withD; rw [if_pos ⟨hm, ho⟩]
      have hcl : cntK d.keys key ≤ d.keys.length := (List.takeWhile_prefix _).length_le
      have hil : isK d.keys key = true → cntK d.keys key < d.keys.length := fun h => by
        unfold isK at h
        have := of_decide_eq_true h
        exact (List.getElem?_eq_some_iff.1 this).1
      clear hm ho
      go_wp2_with fail
      have hsl : Sl w3 Value.string a1 d.keys := by
        obtain ⟨a, c, e, s⟩ := ks_form2 HM3.out.kr
        injection e with e1 _ e2
        rw [e1]; exact s
      refine (bsearch_any a1 c1 d.keys key _ hsl hkl HU.out).mono ?_
      rintro e w4 ⟨rfl, hb⟩
      have HM4 := Lib.hid (HM3.out.keep hb)
      have HB4 := Lib.hid (HB3.out.trans (hb.mono HB3.out.size))
      have HB14 : Hid (w1.heap.size ≤ w4.heap.size) := by have := HM4.out.box.lt; have := HBM.out; show _ ≤ _; omega
      clear hb hsl HM3 HB3 m0 m1 m2 r0 r1 r2 f0 f1 f2
      generalize cntK d.keys key = c at *
      cases hi : isK d.keys key
      · rw [hi] at hQ
        have HQ : Hid (withD d key val = ⟨d.leaf, d.keys.insertIdx c key, d.vals.insertIdx c val⟩) := hQ
        clear hQ hil hi
        have m0 := HM4.out.box.cell 0 _ rfl
        have m1 := HM4.out.box.cell 1 _ rfl
        have m2 := HM4.out.box.cell 2 _ rfl
        go_wp2_with fail
        have hvl : d.vals.length ≤ 100000 := H.out.vl
        have HA : Hid (Below w4.heap.size w4 (w4.alloc (.cells #[.string key] 9 (0, 0)))) := (Below.refl _ _).alloc (Nat.le_refl _) _
        have HMa := Lib.hid (HM4.out.keep HA.out)
        have HBa := Lib.hid (HB4.out.trans (HA.out.mono HB4.out.size))
        have HBB : Hid (w.heap.size ≤ bm ∧ B ≤ w4.heap.size) := ⟨by have := HB1.out.size; have := HBM.out; omega, Nat.le_trans HLB.out HB14.out⟩
        refine (insert_any B (.slice a1 d.keys.length c1) d.keys c key w4.heap.size _ HMa.out.kr (by have := HBB.out.2; rw [size_alloc]; omega) hkl hcl (Box.new _ _ _) (fun he => by have := HM4.out.kr.lt _ he; omega)).mono ?_
        rintro e w5 ⟨kv', rfl, hk5, ⟨S, hS, hSo⟩, hob⟩
        obtain ⟨a5, c5, rfl, _⟩ := ks_form2 hk5
        have HX5 := Lib.hid (HMa.out.boxK S hS hSo)
        have HM5 := Lib.hid (HMa.out.newK hk5 S hS hSo hob)
        have HB5 := Lib.hid ((HBa.out.trans (HMa.out.belowK S hS hSo (by omega))).setCell (p := ⟨bm, 1, none⟩) HBB.out.1 (.slice a5 (d.keys.insertIdx c key).length c5))
        have HS5 : Hid (w4.heap.size ≤ w5.heap.size) := by have := hS.size; rw [size_alloc] at this; show _ ≤ _; omega
        clear hk5 hS hSo hob m0 m1 m2 HMa HBa HA HM4 HB4
        have x1 := HX5.out.cell 1 _ rfl
        have y1 := HX5.out.free 1
        have m2 := HM5.out.box.cell 2 _ rfl
        go_wp2_with fail
        obtain ⟨w6, hw6⟩ : ∃ w6, w6 = w5.setCell ⟨bm, 1, none⟩ (.slice a5 (d.keys.insertIdx c key).length c5) := ⟨_, rfl⟩
        have hz6 : w6.heap.size = w5.heap.size := by rw [hw6]; simp
        rw [← hw6] at HM5 HB5 ⊢
        have HZ6 := Lib.hid hz6
        clear hw6 x1 y1 HX5 m2
        rw [← hz6]
        clear hz6
        have HA : Hid (Below w6.heap.size w6 (w6.alloc (.cells #[.string val] 9 (0, 0)))) := (Below.refl _ _).alloc (Nat.le_refl _) _
        have HMa := Lib.hid (HM5.out.keep HA.out)
        have HBa := Lib.hid (HB5.out.trans (HA.out.mono HB5.out.size))
        refine (insert_any B (.slice a2 d.vals.length c2) d.vals c val w6.heap.size _ HMa.out.vr (by have := HBB.out.2; have := HS5.out; have := HZ6.out; rw [size_alloc]; omega) hvl (by have := HMB.out.eq; omega) (Box.new _ _ _) (fun he => by have := HM5.out.vr.lt _ he; omega)).mono ?_
        rintro e w7 ⟨vv', rfl, hk7, ⟨S, hS, hSo⟩, hob⟩
        obtain ⟨a7, c7, rfl, _⟩ := ks_form2 hk7
        have HX7 := Lib.hid (HMa.out.boxV S hS hSo)
        have HM7 := Lib.hid (HMa.out.newV hk7 S hS hSo hob)
        have HB7 := Lib.hid ((HBa.out.trans (HMa.out.belowV S hS hSo (by omega))).setCell (p := ⟨bm, 2, none⟩) HBB.out.1 (.slice a7 (d.vals.insertIdx c val).length c7))
        clear hk7 hS hSo hob HMa HBa HA HM5 HB5
        have x2 := HX7.out.cell 2 _ rfl
        have y2 := HX7.out.free 2
        have m0 := HM7.out.box.cell 0 _ rfl
        have m1 := HM7.out.box.cell 1 _ rfl
        have m2 := HM7.out.box.cell 2 _ rfl
        have r0 := HM7.out.res.cell 0 _ rfl
        have r1 := HM7.out.res.cell 1 _ rfl
        have r2 := HM7.out.res.cell 2 _ rfl
        have f0 := HM7.out.res.free 0
        have f1 := HM7.out.res.free 1
        have f2 := HM7.out.res.free 2
        have HE := Lib.hid (HM7.out.end w.heap.size (by omega))
        have HBE := Lib.hid (HB7.out.trans ((chg_set3 _ (w.heap.size + 1) (.bool d.leaf) (.slice a5 (d.keys.insertIdx c key).length c5) (.slice a7 (d.vals.insertIdx c val).length c7)).below HB7.out.size (fun k hk => by simp at hk; omega)))
        clear HX7 HM7 HB7
        go_wp2
        refine bodyPost_ret (results_cell_row rfl _ _ (w.heap.size + 1) 51 _ (0, 0) _ rfl HE.out.1 Try.underlying51 rfl sizeNode) rfl ?_
        rw [HPS.out, HQ.out]
        exact ⟨_, rfl, HE.out.2, HBE.out⟩
      · rw [hi] at hQ
        have HQ : Hid (withD d key val = ⟨d.leaf, d.keys, d.vals.set c val⟩) := hQ
        have hcv := hil hi
        clear hQ hil hi hcl
        have hcv2 : c < d.vals.length := by have := HMB.out.eq; omega
        have hvl : d.vals.length ≤ 100000 := H.out.vl
        have HBB : Hid (w.heap.size ≤ B) := by have := HM4.out.lt; show _ ≤ _; omega
        obtain ⟨g, hag⟩ : ∃ g, a2 = some ⟨g, 0, none⟩ := by
          rcases HM4.out.vr.form with ⟨h1, h2⟩ | ⟨g, cap, h1, _⟩
          · rw [h2] at hcv2; simp at hcv2
          · injection h1 with h1 _ _; exact ⟨g, h1⟩
        subst hag
        have hc0 : (0 : Int) ≤ (c : Int) := by omega
        have hc1 : (c : Int) < (d.vals.length : Int) := by omega
        have m0 := HM4.out.box.cell 0 _ rfl
        have m1 := HM4.out.box.cell 1 _ rfl
        have m2 := HM4.out.box.cell 2 _ rfl
        have q0 : w4.frozen? ⟨g, c, none⟩ = false := World.ownsRow.frozenAt HM4.out.vr c
        have q1 : w4.cell? ⟨g, c, none⟩ = some (.string d.vals[c]) := by rw [World.ownsRow.cellAt HM4.out.vr c (by omega), List.getElem?_map, List.getElem?_eq_getElem hcv2]; rfl
        have HM5 := Lib.hid (HM4.out.setV c hcv2 val)
        have hgB := HM4.out.vr.own_block g rfl
        have HB5 := Lib.hid (HB4.out.setCell (p := ⟨g, c, none⟩) (by have := HBB.out; show w.heap.size ≤ g; omega) (.string val))
        have n0 := HM5.out.box.cell 0 _ rfl
        have n1 := HM5.out.box.cell 1 _ rfl
        have n2 := HM5.out.box.cell 2 _ rfl
        have r0 := HM5.out.res.cell 0 _ rfl
        have r1 := HM5.out.res.cell 1 _ rfl
        have r2 := HM5.out.res.cell 2 _ rfl
        have f0 := HM5.out.res.free 0
        have f1 := HM5.out.res.free 1
        have f2 := HM5.out.res.free 2
        have HE := Lib.hid (HM5.out.end w.heap.size (by omega))
        have HBE := Lib.hid (HB5.out.trans ((chg_set3 _ (w.heap.size + 1) (.bool d.leaf) (.slice a1 d.keys.length c1) (.slice (some ⟨g, 0, none⟩) d.vals.length c2)).below HB5.out.size (fun k hk => by simp at hk; omega)))
        generalize d.vals[c] = yv at *
        clear HM5 HB5 HM4 HB4 hgB hcv2 hcv
        go_wp2
        refine bodyPost_ret (results_cell_row rfl _ _ (w.heap.size + 1) 51 _ (0, 0) _ rfl HE.out.1 Try.underlying51 rfl sizeNode) rfl ?_
        rw [HPS.out, HQ.out]
        exact ⟨_, rfl, HE.out.2, HBE.out⟩
end Go.Proofs.Ytbeldjijnjgbfaa
