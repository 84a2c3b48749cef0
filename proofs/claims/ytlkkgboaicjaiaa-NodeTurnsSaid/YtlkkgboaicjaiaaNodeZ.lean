/-
  The reference's Split.
-/
import Derived.Test.YtlkkgboaicjaiaaNodeHl
import Derived.Test.YtlkkgboaicjaiaaNodeT
import Derived.Test.YtlkkgboaicjaiaaNodeX
namespace Go.Proofs.Ytlkkgboaicjaiaa
open Go.RowKit Go.ChangeShapes Go.WideShapes Go.ChangeAt

def RSplitTo (d : NodeD) (w : World) (e : Ending) (w' : World) : Prop :=
  ∃ v1 v2, e = .returned (.tuple #[v1, v2, .bool (splitD d).2.2]) ∧ NodeSl w' v1 (splitD d).1 ∧ NodeSl w' v2 (splitD d).2.1 ∧ Below w.heap.size w w'
theorem RSplitTo.mk {d : NodeD} {w w' : World} {e : Ending} {v1 v2 : Value} {a b : NodeD} {x : Bool} (h : splitD d = (a, b, x)) (he : e = .returned (.tuple #[v1, v2, .bool x])) (h1 : NodeSl w' v1 a) (h2 : NodeSl w' v2 b) (hb : Below w.heap.size w w') : RSplitTo d w e w' := by
  unfold RSplitTo; rw [h]; exact ⟨v1, v2, he, h1, h2, hb⟩
theorem nil_sl (w : World) : NodeSl w (.agg #[.bool false, .slice none 0 0, .slice none 0 0]) nilD := ⟨none, 0, none, 0, rfl, ⟨Sl.nil, Sl.nil, Nat.zero_le _, Nat.zero_le _⟩⟩
theorem Sl.takeA {w : World} {a : Option Addr} {l : List ByteArray} (h : Sl w Value.string a l) (m : Nat) : Sl w Value.string a (l.take m) := fun hne => by
  obtain ⟨b, off, e, hb, hc⟩ := h (fun h0 => hne (by rw [h0]; simp))
  refine ⟨b, off, e, hb, fun j u hu => hc j u ?_⟩
  rw [List.getElem?_take] at hu
  split at hu
  · exact hu
  · cases hu
theorem mid_take {d : NodeD} {m : Nat} (h1 : 1 ≤ m) (h : m = 1 ∨ grD d m < (midS d (m - 1)).2) : midS d m = (m, grD d m) := by
  obtain ⟨j, rfl⟩ : ∃ j, m = j + 1 := ⟨m - 1, by omega⟩
  rw [Nat.add_sub_cancel] at h
  rw [midS, if_pos]
  rcases h with h | h
  · left
    have : j = 0 := by omega
    subst this; rfl
  · right; exact h
theorem mid_keep {d : NodeD} {m : Nat} (h1 : 2 ≤ m) (h : ¬ grD d m < (midS d (m - 1)).2) : midS d m = midS d (m - 1) := by
  obtain ⟨j, rfl⟩ : ∃ j, m = j + 1 := ⟨m - 1, by omega⟩
  rw [Nat.add_sub_cancel] at h ⊢
  rw [midS, if_neg]
  rintro (h2 | h2)
  · have := (mid_spec d j (by omega)).1; omega
  · exact h h2
set_option maxRecDepth 100000 in
set_option maxHeartbeats 4000000 in
theorem rsplit_any (ka : Option Addr) (kc : Nat) (va : Option Addr) (vc : Nat) (d : NodeD) (w : World) (h : NodeIn w ka va d) (hz : ∀ s ∈ d.keys ++ d.vals, s.size ≤ maxLen) (hkc : d.keys.length ≤ kc) (hvc : d.vals.length ≤ vc) :
    Calls Try.prog 26 #[nodeV ka kc va vc d] w (RSplitTo d w) := by
  have H := Lib.hid h
  have HZ := Lib.hid hz
  have hkl := h.kl
  have HKC := Lib.hid hkc
  have HVC := Lib.hid hvc
  have HB0 : Hid (∀ o, Below w.heap.size w (w.alloc o)) := fun o => (Below.refl _ _).alloc (Nat.le_refl _) o
  clear h hz hkc hvc
  have HV : Hid (Value.agg #[.bool d.leaf, .slice ka d.keys.length kc, .slice va d.vals.length vc] = nodeV ka kc va vc d) := rfl
  obtain ⟨PS, hPS⟩ : ∃ PS, PS = RSplitTo d w := ⟨_, rfl⟩
  rw [← hPS]
  have HPS := Lib.hid hPS
  clear hPS
  unfold nodeV
  go_enter Try.func26, Try.ntmps26
  go_wp2_with fail
  rw [HV.out]
  generalize hwx : World.alloc (World.alloc (World.alloc w _) _) _ = wx
  have HX : Hid (Box wx w.heap.size 24 #[.bool d.leaf, .slice ka d.keys.length kc, .slice va d.vals.length vc]) := by show Box _ _ _ _; rw [← hwx]; exact ((Box.new w _ _).alloc _).alloc _
  have HR : Hid (Box wx (w.heap.size + 1) 24 #[.bool false, .slice none 0 0, .slice none 0 0]) := by show Box _ _ _ _; rw [← hwx]; exact (box_second _ _ _ _).alloc _
  have HS : Hid (Box wx (w.heap.size + 1 + 1) 24 #[.bool false, .slice none 0 0, .slice none 0 0]) := by show Box _ _ _ _; rw [← hwx]; exact box_third _ _ _ _ _
  have HBX : Hid (Below w.heap.size w wx) := by show Below _ _ _; rw [← hwx]; exact ((HB0.out _).trans (((Below.refl _ _).alloc (Nat.le_refl _) _).mono (by rw [size_alloc]; omega))).trans (((Below.refl _ _).alloc (Nat.le_refl _) _).mono (by rw [size_alloc, size_alloc]; omega))
  clear hwx
  refine (rmay_any ka kc va vc d _ (H.out.keep HBX.out) HZ.out).mono ?_
  rintro e w1 ⟨rfl, hb⟩
  have HX := Lib.hid (HX.out.keep hb HX.out.lt)
  have HR := Lib.hid (HR.out.keep hb HR.out.lt)
  have HS := Lib.hid (HS.out.keep hb HS.out.lt)
  have HB1 := Lib.hid (HBX.out.trans (hb.mono HBX.out.size))
  clear hb HBX
  have c0 := HX.out.cell 0 _ rfl
  have c1 := HX.out.cell 1 _ rfl
  have c2 := HX.out.cell 2 _ rfl
  have r0 := HR.out.cell 0 _ rfl
  have r1 := HR.out.cell 1 _ rfl
  have r2 := HR.out.cell 2 _ rfl
  have s0 := HS.out.cell 0 _ rfl
  have s1 := HS.out.cell 1 _ rfl
  have s2 := HS.out.cell 2 _ rfl
  have f0 := HR.out.free 0
  have f1 := HR.out.free 1
  have f2 := HR.out.free 2
  have g0 := HS.out.free 0
  have g1 := HS.out.free 1
  have g2 := HS.out.free 2
  cases hm : mayD d
  · have HQ : Hid (splitD d = (nilD, nilD, false)) := by show _ = _; unfold splitD; rw [hm]; rfl
    clear hm
    have hC := (chg_set3 w1 (w.heap.size + 1) (.bool false) (.slice none 0 0) (.slice none 0 0)).mono (S' := [w.heap.size + 1, w.heap.size + 1 + 1]) (by intro k hk; simp at hk; simp [hk])
    have hC2 := hC.trans ((chg_set3 _ (w.heap.size + 1 + 1) (.bool false) (.slice none 0 0) (.slice none 0 0)).mono (S' := [w.heap.size + 1, w.heap.size + 1 + 1]) (by intro k hk; simp at hk; simp [hk]))
    have HBE := Lib.hid (HB1.out.trans (hC2.below HB1.out.size (fun k hk => by simp at hk; omega)))
    have HRE := Lib.hid (box_other3 (box_set3 HR.out (.bool false) (.slice none 0 0) (.slice none 0 0)) (c := w.heap.size + 1 + 1) (by omega) (.bool false) (.slice none 0 0) (.slice none 0 0))
    have HSE := Lib.hid (box_set3 (box_other3 HS.out (c := w.heap.size + 1) (by omega) (.bool false) (.slice none 0 0) (.slice none 0 0)) (.bool false) (.slice none 0 0) (.slice none 0 0))
    clear hC hC2
    go_wp2
    refine bodyPost_ret (results_cells2 rfl _ _ (w.heap.size + 1) (w.heap.size + 1 + 1) _ _ _ rfl rfl _ _ _ _ HRE.out HSE.out Try.underlying24 rfl sizeRNode2 sizeRNode2) rfl ?_
    rw [HPS.out]
    exact RSplitTo.mk HQ.out rfl (nil_sl _) (nil_sl _) HBE.out
  by_cases h2 : d.keys.length < 2
  · have HQ : Hid (splitD d = (nilD, nilD, false)) := by show _ = _; unfold splitD; rw [if_neg (by omega)]; rfl
    clear hm
    have hq : ((d.keys.length : Int) < 2) = True := eq_true (by omega)
    clear h2
    have hC := (chg_set3 w1 (w.heap.size + 1) (.bool false) (.slice none 0 0) (.slice none 0 0)).mono (S' := [w.heap.size + 1, w.heap.size + 1 + 1]) (by intro k hk; simp at hk; simp [hk])
    have hC2 := hC.trans ((chg_set3 _ (w.heap.size + 1 + 1) (.bool false) (.slice none 0 0) (.slice none 0 0)).mono (S' := [w.heap.size + 1, w.heap.size + 1 + 1]) (by intro k hk; simp at hk; simp [hk]))
    have HBE := Lib.hid (HB1.out.trans (hC2.below HB1.out.size (fun k hk => by simp at hk; omega)))
    have HRE := Lib.hid (box_other3 (box_set3 HR.out (.bool false) (.slice none 0 0) (.slice none 0 0)) (c := w.heap.size + 1 + 1) (by omega) (.bool false) (.slice none 0 0) (.slice none 0 0))
    have HSE := Lib.hid (box_set3 (box_other3 HS.out (c := w.heap.size + 1) (by omega) (.bool false) (.slice none 0 0) (.slice none 0 0)) (.bool false) (.slice none 0 0) (.slice none 0 0))
    clear hC hC2
    go_wp2
    refine bodyPost_ret (results_cells2 rfl _ _ (w.heap.size + 1) (w.heap.size + 1 + 1) _ _ _ rfl rfl _ _ _ _ HRE.out HSE.out Try.underlying24 rfl sizeRNode2 sizeRNode2) rfl ?_
    rw [HPS.out]
    exact RSplitTo.mk HQ.out rfl (nil_sl _) (nil_sl _) HBE.out
  have HM := Lib.hid hm
  have HMB := Lib.hid (may_bounds hm)
  have hq : ((d.keys.length : Int) < 2) = False := eq_false (by omega)
  have H5 : Hid (Box ((w1.alloc (.cells #[.bool false, .slice none 0 0, .slice none 0 0] 24 (0, 0))).alloc (.cells #[.bool false, .slice none 0 0, .slice none 0 0] 24 (0, 0))) w1.heap.size 24 #[.bool false, .slice none 0 0, .slice none 0 0]) := (Box.new _ _ _).alloc _
  have H6 : Hid (Box ((w1.alloc (.cells #[.bool false, .slice none 0 0, .slice none 0 0] 24 (0, 0))).alloc (.cells #[.bool false, .slice none 0 0, .slice none 0 0] 24 (0, 0))) (w1.heap.size + 1) 24 #[.bool false, .slice none 0 0, .slice none 0 0]) := box_second _ _ _ _
  have HA : Hid (∀ o p, Below w1.heap.size w1 ((w1.alloc o).alloc p)) := fun o p => ((Below.refl _ _).alloc (Nat.le_refl _) o).alloc (by rw [size_alloc]; omega) p
  clear hm
  go_wp2_with fail
  obtain ⟨w2, hw2⟩ : ∃ z, z = ((w1.alloc (.cells #[.bool false, .slice none 0 0, .slice none 0 0] 24 (0, 0))).alloc (.cells #[.bool false, .slice none 0 0, .slice none 0 0] 24 (0, 0))) := ⟨_, rfl⟩
  have hb := HA.out (.cells #[.bool false, .slice none 0 0, .slice none 0 0] 24 (0, 0)) (.cells #[.bool false, .slice none 0 0, .slice none 0 0] 24 (0, 0))
  rw [← hw2] at H5 H6 hb ⊢
  clear hw2 HA
  have HX := Lib.hid (HX.out.keep hb HX.out.lt)
  have HRL := HS.out.lt
  have HR := Lib.hid (HR.out.keep hb HR.out.lt)
  have HS := Lib.hid (HS.out.keep hb HS.out.lt)
  have HB := Lib.hid (HB1.out.trans (hb.mono HB1.out.size))
  obtain ⟨b6, hb6⟩ : ∃ b, b = w1.heap.size + 1 := ⟨_, rfl⟩
  obtain ⟨b5, hb5⟩ : ∃ b, b = w1.heap.size := ⟨_, rfl⟩
  rw [← hb6] at H6 ⊢
  rw [← hb5] at H5 HRL ⊢
  have HBB : Hid (w.heap.size + 1 + 1 < b5 ∧ b6 = b5 + 1) := ⟨HRL, by omega⟩
  clear hb hb5 hb6 HRL HB1 hq c0 c1 c2 r0 r1 r2 s0 s1 s2 f0 f1 f2 g0 g1 g2
  have h22 : 2 ≤ d.keys.length := by omega
  clear h2
  go_loopw [7, 8, 9, 10, 11] (fun best i _ _ _ wr => ∃ (m : Nat) (A B : NodeD) (xa : Option Addr) (xc : Nat) (ya : Option Addr) (yc : Nat) (ua : Option Addr) (uc : Nat) (za : Option Addr) (zc : Nat), 1 ≤ m ∧ m ≤ d.keys.length ∧ best = .int .i64 ((midS d (m - 1)).2 : Nat) ∧ i = .int .i64 (m : Int) ∧ Hid (Below w.heap.size w wr) ∧ Hid (Box wr w.heap.size 24 #[.bool d.leaf, .slice ka d.keys.length kc, .slice va d.vals.length vc]) ∧ Hid (Box wr (w.heap.size + 1) 24 #[.bool false, .slice none 0 0, .slice none 0 0]) ∧ Hid (Box wr (w.heap.size + 1 + 1) 24 #[.bool false, .slice none 0 0, .slice none 0 0]) ∧ Hid (Box wr b5 24 #[.bool A.leaf, .slice xa A.keys.length xc, .slice ya A.vals.length yc]) ∧ Hid (Box wr b6 24 #[.bool B.leaf, .slice ua B.keys.length uc, .slice za B.vals.length zc]) ∧ Hid (∀ W, Below w.heap.size w W → NodeIn W xa ya A) ∧ Hid (∀ W, Below w.heap.size w W → NodeIn W ua za B) ∧ Hid (m ≠ 1 → A = ⟨d.leaf, d.keys.take (midS d (m - 1)).1, d.vals.take (midS d (m - 1)).1⟩ ∧ B = ⟨d.leaf, d.keys.drop (midS d (m - 1)).1, d.vals.drop (midS d (m - 1)).1⟩)) (fun _ i _ _ _ _ => d.keys.length - (intOf i).toNat)
  case atStart => exact ⟨1, nilD, nilD, none, 0, none, 0, none, 0, none, 0, Nat.le_refl _, by omega, rfl, rfl, HB, HX, HR, HS, H5, H6, (fun _ _ => ⟨Sl.nil, Sl.nil, Nat.zero_le _, Nat.zero_le _⟩ : ∀ W, Below w.heap.size w W → NodeIn W none none nilD), (fun _ _ => ⟨Sl.nil, Sl.nil, Nat.zero_le _, Nat.zero_le _⟩ : ∀ W, Below w.heap.size w W → NodeIn W none none nilD), fun h => absurd rfl h⟩
  case round =>
    clear HB HX HR HS H5 H6
    obtain ⟨m, A, B, xa, xc, ya, yc, ua, uc, za, zc, hm1, hmL, rfl, rfl, HB, HX, HR, HS, H5, H6, HIA, HIB, HAB⟩ := hrel
    have c1 := HX.out.cell 1 _ rfl
    by_cases hlt : m < d.keys.length
    rotate_left
    · have hlt2 : ((m : Int) < (d.keys.length : Int)) = False := eq_false (by omega)
      have HML : Hid (m = d.keys.length) := by show _ = _; omega
      have f0 := HR.out.free 0
      have f1 := HR.out.free 1
      have f2 := HR.out.free 2
      have r0 := HR.out.cell 0 _ rfl
      have r1 := HR.out.cell 1 _ rfl
      have r2 := HR.out.cell 2 _ rfl
      have HQ : Hid (splitD d = (A, B, true)) := by
        obtain ⟨e1, e2⟩ := HAB.out (by have := HML.out; omega)
        show _ = _
        unfold splitD
        rw [if_pos ⟨HM.out, h22⟩, e1, e2, HML.out]
        rfl
      go_wp2_with fail
      refine wp_region_tree (fun W => W.cell? ⟨b5, 0, none⟩ = some (.bool A.leaf) ∧ W.cell? ⟨b5, 1, none⟩ = some (.slice xa A.keys.length xc) ∧ W.cell? ⟨b5, 2, none⟩ = some (.slice ya A.vals.length yc) ∧ W.cell? ⟨b6, 0, none⟩ = some (.bool B.leaf) ∧ W.cell? ⟨b6, 1, none⟩ = some (.slice ua B.keys.length uc) ∧ W.cell? ⟨b6, 2, none⟩ = some (.slice za B.vals.length zc)) 3 (.quiet 0 (.quiet 1 (.make 2 .nil))) (by kernel_rfl) (by kernel_rfl) ⟨H5.out.cell 0 _ rfl, H5.out.cell 1 _ rfl, H5.out.cell 2 _ rfl, H6.out.cell 0 _ rfl, H6.out.cell 1 _ rfl, H6.out.cell 2 _ rfl⟩ ?_
      simp only [List.drop_succ_cons, List.drop_zero]
      iterate 2 (apply wpTr_step rfl; (intro W hS K hK; obtain ⟨q0, q1, q2, q3, q4, q5⟩ := hS; go_simp; exact hK _ rfl))
      refine wpTr_make rfl (fun K' hK => ?_)
      go_simp
      obtain ⟨wt, hwt⟩ : ∃ z, z = ((((wr.setCell ⟨w.heap.size + 1, 0, none⟩ (.bool A.leaf)).setCell ⟨w.heap.size + 1, 1, none⟩ (.slice xa A.keys.length xc)).setCell ⟨w.heap.size + 1, 2, none⟩ (.slice ya A.vals.length yc)).drew) := ⟨_, rfl⟩
      have hb : Below w.heap.size wr wt := by rw [hwt]; exact ((chg_set3 wr (w.heap.size + 1) (.bool A.leaf) (.slice xa A.keys.length xc) (.slice ya A.vals.length yc)).below HB.out.size (fun k hk => by simp at hk; omega)).drew
      have HRt : Hid (Box wt (w.heap.size + 1) 24 #[.bool A.leaf, .slice xa A.keys.length xc, .slice ya A.vals.length yc]) := by show Box _ _ _ _; rw [hwt]; exact box_set3 HR.out (.bool A.leaf) (.slice xa A.keys.length xc) (.slice ya A.vals.length yc)
      have HSt : Hid (Box wt (w.heap.size + 1 + 1) 24 #[.bool false, .slice none 0 0, .slice none 0 0]) := by show Box _ _ _ _; rw [hwt]; exact box_other3 HS.out (c := w.heap.size + 1) (by omega) (.bool A.leaf) (.slice xa A.keys.length xc) (.slice ya A.vals.length yc)
      have H5t : Hid (Box wt b5 24 #[.bool A.leaf, .slice xa A.keys.length xc, .slice ya A.vals.length yc]) := by show Box _ _ _ _; rw [hwt]; exact box_other3 H5.out (c := w.heap.size + 1) (by have := HBB.out; omega) (.bool A.leaf) (.slice xa A.keys.length xc) (.slice ya A.vals.length yc)
      have H6t : Hid (Box wt b6 24 #[.bool B.leaf, .slice ua B.keys.length uc, .slice za B.vals.length zc]) := by show Box _ _ _ _; rw [hwt]; exact box_other3 H6.out (c := w.heap.size + 1) (by have := HBB.out; omega) (.bool A.leaf) (.slice xa A.keys.length xc) (.slice ya A.vals.length yc)
      rw [← hwt]
      clear hwt f0 f1 f2 r0 r1 r2
      refine hK _ _ _ (fun _ h => h) ⟨H5t.out.cell 0 _ rfl, H5t.out.cell 1 _ rfl, H5t.out.cell 2 _ rfl, H6t.out.cell 0 _ rfl, H6t.out.cell 1 _ rfl, H6t.out.cell 2 _ rfl⟩ ?_
      clear hK K'
      refine wpTr_nil ?_
      have g0 := HSt.out.free 0
      have g1 := HSt.out.free 1
      have g2 := HSt.out.free 2
      have s0 := HSt.out.cell 0 _ rfl
      have s1 := HSt.out.cell 1 _ rfl
      have s2 := HSt.out.cell 2 _ rfl
      have HBF := Lib.hid ((HB.out.trans hb).trans ((chg_set3 wt (w.heap.size + 1 + 1) (.bool B.leaf) (.slice ua B.keys.length uc) (.slice za B.vals.length zc)).below (n := w.heap.size) (Nat.le_trans HB.out.size hb.size) (fun k hk => by simp at hk; omega)))
      have HRE := Lib.hid (box_other3 HRt.out (c := w.heap.size + 1 + 1) (by omega) (.bool B.leaf) (.slice ua B.keys.length uc) (.slice za B.vals.length zc))
      have HSE := Lib.hid (box_set3 HSt.out (.bool B.leaf) (.slice ua B.keys.length uc) (.slice za B.vals.length zc))
      have HIF := Lib.hid (And.intro (HIA.out _ HBF.out) (HIB.out _ HBF.out))
      clear hb
      go_wp2
      refine bodyPost_ret (results_cells2 rfl _ _ (w.heap.size + 1) (w.heap.size + 1 + 1) _ _ _ rfl rfl _ _ _ _ HRE.out HSE.out Try.underlying24 rfl sizeRNode2 sizeRNode2) rfl ?_
      rw [HPS.out]
      exact RSplitTo.mk HQ.out rfl ⟨_, _, _, _, rfl, HIF.out.1⟩ ⟨_, _, _, _, rfl, HIF.out.2⟩ HBF.out
    have hlt2 : ((m : Int) < (d.keys.length : Int)) = True := eq_true (by omega)
    have hk1 : (m : Int) ≤ (kc : Int) := by have := HKC.out; omega
    have hk2 : (m : Int) ≤ (vc : Int) := by have := HVC.out; have := HMB.out.eq; omega
    have hv1 : m ≤ d.vals.length := by have := HMB.out.eq; omega
    go_wp2_with fail
    refine wp_region_tree (fun W => W.cell? ⟨w.heap.size, 0, none⟩ = some (.bool d.leaf) ∧ W.cell? ⟨w.heap.size, 1, none⟩ = some (.slice ka d.keys.length kc) ∧ W.cell? ⟨w.heap.size, 2, none⟩ = some (.slice va d.vals.length vc)) 12 (.quiet 0 (.quiet 1 (.quiet 2 (.quiet 3 (.quiet 4 (.quiet 5 (.quiet 6 (.quiet 7 (.quiet 8 (.quiet 9 (.quiet 10 (.make 11 .nil)))))))))))) (by kernel_rfl) (by kernel_rfl) ⟨HX.out.cell 0 _ rfl, HX.out.cell 1 _ rfl, HX.out.cell 2 _ rfl⟩ ?_
    simp only [List.drop_succ_cons, List.drop_zero]
    iterate 11 (apply wpTr_step rfl; (intro W hS K hK; obtain ⟨q0, q1, q2⟩ := hS; go_simp; exact hK _ rfl))
    have HXA : Hid (∀ o, Box (wr.alloc o).drew w.heap.size 24 #[.bool d.leaf, .slice ka d.keys.length kc, .slice va d.vals.length vc]) := fun o => HX.out.alloc o
    refine wpTr_make rfl (fun K' hK => ?_)
    go_simp
    refine hK _ _ _ (fun _ h => h) ⟨(HXA.out _).cell 0 _ rfl, (HXA.out _).cell 1 _ rfl, (HXA.out _).cell 2 _ rfl⟩ ?_
    clear hK K'
    refine wpTr_nil ?_
    go_wp2_with fail
    obtain ⟨w3, hw3⟩ : ∃ z, z = ((wr.alloc (.cells #[.bool d.leaf, .slice ka m kc, .slice va m vc] 24 (0, 0))).drew) := ⟨_, rfl⟩
    have hb : Below wr.heap.size wr w3 := by rw [hw3]; exact ((Below.refl _ _).alloc (Nat.le_refl _) _).drew
    have H9 : Hid (Box w3 wr.heap.size 24 #[.bool d.leaf, .slice ka m kc, .slice va m vc]) := by show Box _ _ _ _; rw [hw3]; exact Box.new wr _ _
    rw [← hw3]
    clear hw3 HXA
    have hl6 := H6.out.lt
    have HX := Lib.hid (HX.out.keep hb HX.out.lt)
    have HR := Lib.hid (HR.out.keep hb HR.out.lt)
    have HS := Lib.hid (HS.out.keep hb HS.out.lt)
    have H5 := Lib.hid (H5.out.keep hb H5.out.lt)
    have H6 := Lib.hid (H6.out.keep hb H6.out.lt)
    have HB := Lib.hid (HB.out.trans (hb.mono HB.out.size))
    clear hb
    obtain ⟨b9, hb9⟩ : ∃ b, b = wr.heap.size := ⟨_, rfl⟩
    rw [← hb9] at H9 hl6 ⊢
    have HL9 := Lib.hid hl6
    clear hb9 hl6
    have hk3 : (m : Int) ≤ (d.keys.length : Int) := by omega
    have hk4 : (m : Int) ≤ (d.vals.length : Int) := by omega
    refine wp_region_tree (fun W => W.cell? ⟨w.heap.size, 0, none⟩ = some (.bool d.leaf) ∧ W.cell? ⟨w.heap.size, 1, none⟩ = some (.slice ka d.keys.length kc) ∧ W.cell? ⟨w.heap.size, 2, none⟩ = some (.slice va d.vals.length vc)) 12 (.quiet 0 (.quiet 1 (.quiet 2 (.quiet 3 (.quiet 4 (.quiet 5 (.quiet 6 (.quiet 7 (.quiet 8 (.quiet 9 (.quiet 10 (.make 11 .nil)))))))))))) (by kernel_rfl) (by kernel_rfl) ⟨HX.out.cell 0 _ rfl, HX.out.cell 1 _ rfl, HX.out.cell 2 _ rfl⟩ ?_
    simp only [List.drop_succ_cons, List.drop_zero]
    iterate 6 (apply wpTr_step rfl; (intro W hS K hK; obtain ⟨q0, q1, q2⟩ := hS; go_simp; exact hK _ rfl))
    rw [partA_eq]
    iterate 4 (apply wpTr_step rfl; (intro W hS K hK; obtain ⟨q0, q1, q2⟩ := hS; go_simp; exact hK _ rfl))
    rw [partA_eq]
    iterate 1 (apply wpTr_step rfl; (intro W hS K hK; obtain ⟨q0, q1, q2⟩ := hS; go_simp; exact hK _ rfl))
    have HXA : Hid (∀ o, Box (w3.alloc o).drew w.heap.size 24 #[.bool d.leaf, .slice ka d.keys.length kc, .slice va d.vals.length vc]) := fun o => HX.out.alloc o
    refine wpTr_make rfl (fun K' hK => ?_)
    go_simp
    refine hK _ _ _ (fun _ h => h) ⟨(HXA.out _).cell 0 _ rfl, (HXA.out _).cell 1 _ rfl, (HXA.out _).cell 2 _ rfl⟩ ?_
    clear hK K'
    refine wpTr_nil ?_
    go_wp2_with fail
    obtain ⟨w4, hw4⟩ : ∃ z, z = ((w3.alloc (.cells #[.bool d.leaf, .slice (partA ka kc m) (d.keys.length - m) (kc - m), .slice (partA va vc m) (d.vals.length - m) (vc - m)] 24 (0, 0))).drew) := ⟨_, rfl⟩
    have hb : Below w3.heap.size w3 w4 := by rw [hw4]; exact ((Below.refl _ _).alloc (Nat.le_refl _) _).drew
    have H10 : Hid (Box w4 w3.heap.size 24 #[.bool d.leaf, .slice (partA ka kc m) (d.keys.length - m) (kc - m), .slice (partA va vc m) (d.vals.length - m) (vc - m)]) := by show Box _ _ _ _; rw [hw4]; exact Box.new w3 _ _
    rw [← hw4]
    clear hw4 HXA hk1 hk2 hk3 hk4
    have hl9 := H9.out.lt
    have HX := Lib.hid (HX.out.keep hb HX.out.lt)
    have HR := Lib.hid (HR.out.keep hb HR.out.lt)
    have HS := Lib.hid (HS.out.keep hb HS.out.lt)
    have H5 := Lib.hid (H5.out.keep hb H5.out.lt)
    have H6 := Lib.hid (H6.out.keep hb H6.out.lt)
    have H9 := Lib.hid (H9.out.keep hb H9.out.lt)
    have HB := Lib.hid (HB.out.trans (hb.mono HB.out.size))
    clear hb
    obtain ⟨b10, hb10⟩ : ∃ b, b = w3.heap.size := ⟨_, rfl⟩
    rw [← hb10] at H10 hl9 ⊢
    have HL10 := Lib.hid hl9
    clear hb10 hl9
    have e1 : (d.keys.take m).length = m := by rw [List.length_take]; omega
    have e2 : (d.vals.take m).length = m := by rw [List.length_take]; omega
    have e3 : (d.keys.drop m).length = d.keys.length - m := List.length_drop
    have e4 : (d.vals.drop m).length = d.vals.length - m := List.length_drop
    have HVX : Hid (Value.agg #[.bool d.leaf, .slice ka m kc, .slice va m vc] = nodeV ka kc va vc (⟨d.leaf, d.keys.take m, d.vals.take m⟩ : NodeD)) := by show _ = _; unfold nodeV; rw [show ((⟨d.leaf, d.keys.take m, d.vals.take m⟩ : NodeD)).keys.length = m from e1, show ((⟨d.leaf, d.keys.take m, d.vals.take m⟩ : NodeD)).vals.length = m from e2]
    have HVY : Hid (Value.agg #[.bool d.leaf, .slice (partA ka kc m) (d.keys.length - m) (kc - m), .slice (partA va vc m) (d.vals.length - m) (vc - m)] = nodeV (partA ka kc m) (kc - m) (partA va vc m) (vc - m) (⟨d.leaf, d.keys.drop m, d.vals.drop m⟩ : NodeD)) := by show _ = _; unfold nodeV; rw [show ((⟨d.leaf, d.keys.drop m, d.vals.drop m⟩ : NodeD)).keys.length = d.keys.length - m from e3, show ((⟨d.leaf, d.keys.drop m, d.vals.drop m⟩ : NodeD)).vals.length = d.vals.length - m from e4]
    have hsz := HB.out.size
    have HIX : Hid (∀ W, Below w.heap.size w W → NodeIn W ka va (⟨d.leaf, d.keys.take m, d.vals.take m⟩ : NodeD)) := fun W hW => ⟨(H.out.keep hW).ks.takeA m, (H.out.keep hW).vs.takeA m, by show (d.keys.take m).length ≤ _; rw [e1]; omega, by show (d.vals.take m).length ≤ _; rw [e2]; have := H.out.vl; omega⟩
    have HIY : Hid (∀ W, Below w.heap.size w W → NodeIn W (partA ka kc m) (partA va vc m) (⟨d.leaf, d.keys.drop m, d.vals.drop m⟩ : NodeD)) := fun W hW => by
      have p1 := (H.out.keep hW).ks.part kc m d.keys.length hmL (Nat.le_refl _) HKC.out
      have p2 := (H.out.keep hW).vs.part vc m d.vals.length hv1 (Nat.le_refl _) HVC.out
      rw [List.take_of_length_le (by rw [List.length_drop]; omega)] at p1 p2
      exact ⟨p1, p2, by show (d.keys.drop m).length ≤ _; rw [e3]; omega, by show (d.vals.drop m).length ≤ _; rw [e4]; have := H.out.vl; omega⟩
    have HZX : Hid (∀ s ∈ ((⟨d.leaf, d.keys.take m, d.vals.take m⟩ : NodeD)).keys ++ ((⟨d.leaf, d.keys.take m, d.vals.take m⟩ : NodeD)).vals, s.size ≤ maxLen) := fun s hs => by
      rcases List.mem_append.1 hs with h | h
      · exact HZ.out s (List.mem_append.2 (.inl (List.mem_of_mem_take h)))
      · exact HZ.out s (List.mem_append.2 (.inr (List.mem_of_mem_take h)))
    have HZY : Hid (∀ s ∈ ((⟨d.leaf, d.keys.drop m, d.vals.drop m⟩ : NodeD)).keys ++ ((⟨d.leaf, d.keys.drop m, d.vals.drop m⟩ : NodeD)).vals, s.size ≤ maxLen) := fun s hs => by
      rcases List.mem_append.1 hs with h | h
      · exact HZ.out s (List.mem_append.2 (.inl (List.mem_of_mem_drop h)))
      · exact HZ.out s (List.mem_append.2 (.inr (List.mem_of_mem_drop h)))
    have HG : Hid (grD d m = max (sizeD (⟨d.leaf, d.keys.take m, d.vals.take m⟩ : NodeD)) (sizeD (⟨d.leaf, d.keys.drop m, d.vals.drop m⟩ : NodeD))) := by
      have hp := may_part HM.out m
      show _ = _
      unfold sizeD grD
      rw [if_pos hp.1, if_pos hp.2]
    clear hsz
    refine wp_region_tree (fun W => W.cell? ⟨b9, 0, none⟩ = some (.bool d.leaf) ∧ W.cell? ⟨b9, 1, none⟩ = some (.slice ka m kc) ∧ W.cell? ⟨b9, 2, none⟩ = some (.slice va m vc) ∧ W.cell? ⟨b10, 0, none⟩ = some (.bool d.leaf) ∧ W.cell? ⟨b10, 1, none⟩ = some (.slice (partA ka kc m) (d.keys.length - m) (kc - m)) ∧ W.cell? ⟨b10, 2, none⟩ = some (.slice (partA va vc m) (d.vals.length - m) (vc - m))) 3 (.quiet 0 (.quiet 2 (.make 1 .nil))) (by kernel_rfl) (by kernel_rfl) ⟨H9.out.cell 0 _ rfl, H9.out.cell 1 _ rfl, H9.out.cell 2 _ rfl, H10.out.cell 0 _ rfl, H10.out.cell 1 _ rfl, H10.out.cell 2 _ rfl⟩ ?_
    simp only [List.drop_succ_cons, List.drop_zero]
    iterate 2 (apply wpTr_step rfl; (intro W hS K hK; obtain ⟨q0, q1, q2, q3, q4, q5⟩ := hS; go_simp; exact hK _ rfl))
    have HBd : Hid (Below w.heap.size w w4.drew) := HB.out.drew
    refine wpTr_make rfl (fun K' hK => ?_)
    go_simp
    rw [HVX.out]
    refine (rsize_any ka kc va vc (⟨d.leaf, d.keys.take m, d.vals.take m⟩ : NodeD) _ (HIX.out _ HBd.out) HZX.out).mono ?_
    rintro e w5 ⟨rfl, hb⟩
    have hb : Below w4.heap.size w4 w5 := (Below.refl _ _).drew.trans hb
    have HX := Lib.hid (HX.out.keep hb HX.out.lt)
    have HR := Lib.hid (HR.out.keep hb HR.out.lt)
    have HS := Lib.hid (HS.out.keep hb HS.out.lt)
    have H5 := Lib.hid (H5.out.keep hb H5.out.lt)
    have H6 := Lib.hid (H6.out.keep hb H6.out.lt)
    have H9 := Lib.hid (H9.out.keep hb H9.out.lt)
    have H10 := Lib.hid (H10.out.keep hb H10.out.lt)
    have HB := Lib.hid (HB.out.trans (hb.mono HB.out.size))
    clear hb
    refine hK _ _ _ (fun _ h => h) ⟨H9.out.cell 0 _ rfl, H9.out.cell 1 _ rfl, H9.out.cell 2 _ rfl, H10.out.cell 0 _ rfl, H10.out.cell 1 _ rfl, H10.out.cell 2 _ rfl⟩ ?_
    clear hK K'
    refine wpTr_nil ?_
    go_wp2_with fail
    try rw [HVY.out]
    refine (rsize_any (partA ka kc m) (kc - m) (partA va vc m) (vc - m) (⟨d.leaf, d.keys.drop m, d.vals.drop m⟩ : NodeD) _ (HIY.out _ HB.out) HZY.out).mono ?_
    rintro e w6 ⟨rfl, hb⟩
    have HX := Lib.hid (HX.out.keep hb HX.out.lt)
    have HR := Lib.hid (HR.out.keep hb HR.out.lt)
    have HS := Lib.hid (HS.out.keep hb HS.out.lt)
    have H5 := Lib.hid (H5.out.keep hb H5.out.lt)
    have H6 := Lib.hid (H6.out.keep hb H6.out.lt)
    have H9 := Lib.hid (H9.out.keep hb H9.out.lt)
    have H10 := Lib.hid (H10.out.keep hb H10.out.lt)
    have HB := Lib.hid (HB.out.trans (hb.mono HB.out.size))
    clear hb
    obtain ⟨p, hp⟩ : ∃ p, p = sizeD (⟨d.leaf, d.keys.take m, d.vals.take m⟩ : NodeD) := ⟨_, rfl⟩
    obtain ⟨q, hq⟩ : ∃ q, q = sizeD (⟨d.leaf, d.keys.drop m, d.vals.drop m⟩ : NodeD) := ⟨_, rfl⟩
    rw [← hp, ← hq] at HG
    rw [← hq]
    rw [← hp]
    clear hp hq HBd hlt2 c1
    obtain ⟨best, hbest⟩ : ∃ z, z = (midS d (m - 1)).2 := ⟨_, rfl⟩
    rw [← hbest]
    have HBE := Lib.hid hbest
    clear hbest
    obtain ⟨K, hK⟩ : ∃ K, K = max p q := ⟨_, rfl⟩
    have hmx : max (p : Int) (q : Int) = (K : Int) := by omega
    rw [← hK] at HG
    clear hK
    by_cases h1 : m = 1
    · have hme : ((m : Int) == 1) = true := by simp; omega
      have HM1 := Lib.hid h1
      clear h1
      have HMS : Hid (midS d m = (m, K)) := by
        have := mid_take (d := d) hm1 (.inl HM1.out)
        rw [HG.out] at this
        exact this
      have f50 := H5.out.free 0
      have f51 := H5.out.free 1
      have f52 := H5.out.free 2
      have f60 := H6.out.free 0
      have f61 := H6.out.free 1
      have f62 := H6.out.free 2
      have cH5_0 := H5.out.cell 0 _ rfl
      have cH5_1 := H5.out.cell 1 _ rfl
      have cH5_2 := H5.out.cell 2 _ rfl
      have cH6_0 := H6.out.cell 0 _ rfl
      have cH6_1 := H6.out.cell 1 _ rfl
      have cH6_2 := H6.out.cell 2 _ rfl
      have cH9_0 := H9.out.cell 0 _ rfl
      have cH9_1 := H9.out.cell 1 _ rfl
      have cH9_2 := H9.out.cell 2 _ rfl
      have cH10_0 := H10.out.cell 0 _ rfl
      have cH10_1 := H10.out.cell 1 _ rfl
      have cH10_2 := H10.out.cell 2 _ rfl
      have H10T := Lib.hid (box_other3 H10.out (c := b5) (by have := HBB.out; have := HL9.out; have := HL10.out; omega) (.bool d.leaf) (.slice ka m kc) (.slice va m vc))
      have t0 := H10T.out.cell 0 _ rfl
      have t1 := H10T.out.cell 1 _ rfl
      have t2 := H10T.out.cell 2 _ rfl
      have ne1 : ¬ b10 = b5 := by have := HBB.out; have := HL9.out; have := HL10.out; omega
      have ne2 : ¬ b6 = b5 := by have := HBB.out; omega
      have ne3 : ¬ b9 = b5 := by have := HBB.out; have := HL9.out; omega
      have hC := (chg_set3 w6 b5 (.bool d.leaf) (.slice ka m kc) (.slice va m vc)).mono (S' := [b5, b6]) (by intro k hk; simp at hk; simp [hk])
      have hC2 := hC.trans ((chg_set3 _ b6 (.bool d.leaf) (.slice (partA ka kc m) (d.keys.length - m) (kc - m)) (.slice (partA va vc m) (d.vals.length - m) (vc - m))).mono (S' := [b5, b6]) (by intro k hk; simp at hk; simp [hk]))
      have HB7 := Lib.hid (HB.out.trans (hC2.below HB.out.size (fun k hk => by have := HBB.out; simp at hk; omega)))
      clear hC hC2
      have HX7 := Lib.hid (box_other3 (box_other3 HX.out (c := b5) (by have := HBB.out; omega) (.bool d.leaf) (.slice ka m kc) (.slice va m vc)) (c := b6) (by have := HBB.out; omega) (.bool d.leaf) (.slice (partA ka kc m) (d.keys.length - m) (kc - m)) (.slice (partA va vc m) (d.vals.length - m) (vc - m)))
      have HR7 := Lib.hid (box_other3 (box_other3 HR.out (c := b5) (by have := HBB.out; omega) (.bool d.leaf) (.slice ka m kc) (.slice va m vc)) (c := b6) (by have := HBB.out; omega) (.bool d.leaf) (.slice (partA ka kc m) (d.keys.length - m) (kc - m)) (.slice (partA va vc m) (d.vals.length - m) (vc - m)))
      have HS7 := Lib.hid (box_other3 (box_other3 HS.out (c := b5) (by have := HBB.out; omega) (.bool d.leaf) (.slice ka m kc) (.slice va m vc)) (c := b6) (by have := HBB.out; omega) (.bool d.leaf) (.slice (partA ka kc m) (d.keys.length - m) (kc - m)) (.slice (partA va vc m) (d.vals.length - m) (vc - m)))
      have H57 : Hid (Box ((((((w6.setCell ⟨b5, 0, none⟩ (.bool d.leaf)).setCell ⟨b5, 1, none⟩ (.slice ka m kc)).setCell ⟨b5, 2, none⟩ (.slice va m vc)).setCell ⟨b6, 0, none⟩ (.bool d.leaf)).setCell ⟨b6, 1, none⟩ (.slice (partA ka kc m) (d.keys.length - m) (kc - m))).setCell ⟨b6, 2, none⟩ (.slice (partA va vc m) (d.vals.length - m) (vc - m))) b5 24 #[.bool ((⟨d.leaf, d.keys.take m, d.vals.take m⟩ : NodeD)).leaf, .slice ka ((⟨d.leaf, d.keys.take m, d.vals.take m⟩ : NodeD)).keys.length kc, .slice va ((⟨d.leaf, d.keys.take m, d.vals.take m⟩ : NodeD)).vals.length vc]) := by
        have := box_other3 (box_set3 H5.out (.bool d.leaf) (.slice ka m kc) (.slice va m vc)) (c := b6) (by omega) (.bool d.leaf) (.slice (partA ka kc m) (d.keys.length - m) (kc - m)) (.slice (partA va vc m) (d.vals.length - m) (vc - m))
        show Box _ _ _ _
        rw [show ((⟨d.leaf, d.keys.take m, d.vals.take m⟩ : NodeD)).keys.length = m from e1, show ((⟨d.leaf, d.keys.take m, d.vals.take m⟩ : NodeD)).vals.length = m from e2]
        exact this
      have H67 : Hid (Box ((((((w6.setCell ⟨b5, 0, none⟩ (.bool d.leaf)).setCell ⟨b5, 1, none⟩ (.slice ka m kc)).setCell ⟨b5, 2, none⟩ (.slice va m vc)).setCell ⟨b6, 0, none⟩ (.bool d.leaf)).setCell ⟨b6, 1, none⟩ (.slice (partA ka kc m) (d.keys.length - m) (kc - m))).setCell ⟨b6, 2, none⟩ (.slice (partA va vc m) (d.vals.length - m) (vc - m))) b6 24 #[.bool ((⟨d.leaf, d.keys.drop m, d.vals.drop m⟩ : NodeD)).leaf, .slice (partA ka kc m) ((⟨d.leaf, d.keys.drop m, d.vals.drop m⟩ : NodeD)).keys.length (kc - m), .slice (partA va vc m) ((⟨d.leaf, d.keys.drop m, d.vals.drop m⟩ : NodeD)).vals.length (vc - m)]) := by
        have := box_set3 (box_other3 H6.out (c := b5) (by omega) (.bool d.leaf) (.slice ka m kc) (.slice va m vc)) (.bool d.leaf) (.slice (partA ka kc m) (d.keys.length - m) (kc - m)) (.slice (partA va vc m) (d.vals.length - m) (vc - m))
        show Box _ _ _ _
        rw [show ((⟨d.leaf, d.keys.drop m, d.vals.drop m⟩ : NodeD)).keys.length = d.keys.length - m from e3, show ((⟨d.leaf, d.keys.drop m, d.vals.drop m⟩ : NodeD)).vals.length = d.vals.length - m from e4]
        exact this
      have HML : Hid (1 ≤ m ∧ m < d.keys.length) := ⟨hm1, hlt⟩
      go_wp2
      go_roundw
      case rel => exact ⟨m + 1, (⟨d.leaf, d.keys.take m, d.vals.take m⟩ : NodeD), (⟨d.leaf, d.keys.drop m, d.vals.drop m⟩ : NodeD), ka, kc, va, vc, partA ka kc m, kc - m, partA va vc m, vc - m, by omega, by omega, by rw [Nat.add_sub_cancel, HMS.out], by go_num, HB7, HX7, HR7, HS7, H57, H67, HIX, HIY, fun _ => by rw [Nat.add_sub_cancel, HMS.out]; exact ⟨rfl, rfl⟩⟩
      case measure => simp [intOf]; omega
    have hme : ((m : Int) == 1) = false := by rw [beq_eq_false_iff_ne]; omega
    have HM1 := Lib.hid h1
    clear h1
    by_cases h2 : K < best
    · have hkb : ((K : Int) < (best : Int)) = True := eq_true (by omega)
      have HM2 := Lib.hid h2
      clear h2
      have HMS : Hid (midS d m = (m, K)) := by
        have := mid_take (d := d) hm1 (.inr (by rw [HG.out, ← HBE.out]; exact HM2.out))
        rw [HG.out] at this
        exact this
      have f50 := H5.out.free 0
      have f51 := H5.out.free 1
      have f52 := H5.out.free 2
      have f60 := H6.out.free 0
      have f61 := H6.out.free 1
      have f62 := H6.out.free 2
      have cH5_0 := H5.out.cell 0 _ rfl
      have cH5_1 := H5.out.cell 1 _ rfl
      have cH5_2 := H5.out.cell 2 _ rfl
      have cH6_0 := H6.out.cell 0 _ rfl
      have cH6_1 := H6.out.cell 1 _ rfl
      have cH6_2 := H6.out.cell 2 _ rfl
      have cH9_0 := H9.out.cell 0 _ rfl
      have cH9_1 := H9.out.cell 1 _ rfl
      have cH9_2 := H9.out.cell 2 _ rfl
      have cH10_0 := H10.out.cell 0 _ rfl
      have cH10_1 := H10.out.cell 1 _ rfl
      have cH10_2 := H10.out.cell 2 _ rfl
      have H10T := Lib.hid (box_other3 H10.out (c := b5) (by have := HBB.out; have := HL9.out; have := HL10.out; omega) (.bool d.leaf) (.slice ka m kc) (.slice va m vc))
      have t0 := H10T.out.cell 0 _ rfl
      have t1 := H10T.out.cell 1 _ rfl
      have t2 := H10T.out.cell 2 _ rfl
      have ne1 : ¬ b10 = b5 := by have := HBB.out; have := HL9.out; have := HL10.out; omega
      have ne2 : ¬ b6 = b5 := by have := HBB.out; omega
      have ne3 : ¬ b9 = b5 := by have := HBB.out; have := HL9.out; omega
      have hC := (chg_set3 w6 b5 (.bool d.leaf) (.slice ka m kc) (.slice va m vc)).mono (S' := [b5, b6]) (by intro k hk; simp at hk; simp [hk])
      have hC2 := hC.trans ((chg_set3 _ b6 (.bool d.leaf) (.slice (partA ka kc m) (d.keys.length - m) (kc - m)) (.slice (partA va vc m) (d.vals.length - m) (vc - m))).mono (S' := [b5, b6]) (by intro k hk; simp at hk; simp [hk]))
      have HB7 := Lib.hid (HB.out.trans (hC2.below HB.out.size (fun k hk => by have := HBB.out; simp at hk; omega)))
      clear hC hC2
      have HX7 := Lib.hid (box_other3 (box_other3 HX.out (c := b5) (by have := HBB.out; omega) (.bool d.leaf) (.slice ka m kc) (.slice va m vc)) (c := b6) (by have := HBB.out; omega) (.bool d.leaf) (.slice (partA ka kc m) (d.keys.length - m) (kc - m)) (.slice (partA va vc m) (d.vals.length - m) (vc - m)))
      have HR7 := Lib.hid (box_other3 (box_other3 HR.out (c := b5) (by have := HBB.out; omega) (.bool d.leaf) (.slice ka m kc) (.slice va m vc)) (c := b6) (by have := HBB.out; omega) (.bool d.leaf) (.slice (partA ka kc m) (d.keys.length - m) (kc - m)) (.slice (partA va vc m) (d.vals.length - m) (vc - m)))
      have HS7 := Lib.hid (box_other3 (box_other3 HS.out (c := b5) (by have := HBB.out; omega) (.bool d.leaf) (.slice ka m kc) (.slice va m vc)) (c := b6) (by have := HBB.out; omega) (.bool d.leaf) (.slice (partA ka kc m) (d.keys.length - m) (kc - m)) (.slice (partA va vc m) (d.vals.length - m) (vc - m)))
      have H57 : Hid (Box ((((((w6.setCell ⟨b5, 0, none⟩ (.bool d.leaf)).setCell ⟨b5, 1, none⟩ (.slice ka m kc)).setCell ⟨b5, 2, none⟩ (.slice va m vc)).setCell ⟨b6, 0, none⟩ (.bool d.leaf)).setCell ⟨b6, 1, none⟩ (.slice (partA ka kc m) (d.keys.length - m) (kc - m))).setCell ⟨b6, 2, none⟩ (.slice (partA va vc m) (d.vals.length - m) (vc - m))) b5 24 #[.bool ((⟨d.leaf, d.keys.take m, d.vals.take m⟩ : NodeD)).leaf, .slice ka ((⟨d.leaf, d.keys.take m, d.vals.take m⟩ : NodeD)).keys.length kc, .slice va ((⟨d.leaf, d.keys.take m, d.vals.take m⟩ : NodeD)).vals.length vc]) := by
        have := box_other3 (box_set3 H5.out (.bool d.leaf) (.slice ka m kc) (.slice va m vc)) (c := b6) (by omega) (.bool d.leaf) (.slice (partA ka kc m) (d.keys.length - m) (kc - m)) (.slice (partA va vc m) (d.vals.length - m) (vc - m))
        show Box _ _ _ _
        rw [show ((⟨d.leaf, d.keys.take m, d.vals.take m⟩ : NodeD)).keys.length = m from e1, show ((⟨d.leaf, d.keys.take m, d.vals.take m⟩ : NodeD)).vals.length = m from e2]
        exact this
      have H67 : Hid (Box ((((((w6.setCell ⟨b5, 0, none⟩ (.bool d.leaf)).setCell ⟨b5, 1, none⟩ (.slice ka m kc)).setCell ⟨b5, 2, none⟩ (.slice va m vc)).setCell ⟨b6, 0, none⟩ (.bool d.leaf)).setCell ⟨b6, 1, none⟩ (.slice (partA ka kc m) (d.keys.length - m) (kc - m))).setCell ⟨b6, 2, none⟩ (.slice (partA va vc m) (d.vals.length - m) (vc - m))) b6 24 #[.bool ((⟨d.leaf, d.keys.drop m, d.vals.drop m⟩ : NodeD)).leaf, .slice (partA ka kc m) ((⟨d.leaf, d.keys.drop m, d.vals.drop m⟩ : NodeD)).keys.length (kc - m), .slice (partA va vc m) ((⟨d.leaf, d.keys.drop m, d.vals.drop m⟩ : NodeD)).vals.length (vc - m)]) := by
        have := box_set3 (box_other3 H6.out (c := b5) (by omega) (.bool d.leaf) (.slice ka m kc) (.slice va m vc)) (.bool d.leaf) (.slice (partA ka kc m) (d.keys.length - m) (kc - m)) (.slice (partA va vc m) (d.vals.length - m) (vc - m))
        show Box _ _ _ _
        rw [show ((⟨d.leaf, d.keys.drop m, d.vals.drop m⟩ : NodeD)).keys.length = d.keys.length - m from e3, show ((⟨d.leaf, d.keys.drop m, d.vals.drop m⟩ : NodeD)).vals.length = d.vals.length - m from e4]
        exact this
      have HML : Hid (1 ≤ m ∧ m < d.keys.length) := ⟨hm1, hlt⟩
      go_wp2
      go_roundw
      case rel => exact ⟨m + 1, (⟨d.leaf, d.keys.take m, d.vals.take m⟩ : NodeD), (⟨d.leaf, d.keys.drop m, d.vals.drop m⟩ : NodeD), ka, kc, va, vc, partA ka kc m, kc - m, partA va vc m, vc - m, by omega, by omega, by rw [Nat.add_sub_cancel, HMS.out], by go_num, HB7, HX7, HR7, HS7, H57, H67, HIX, HIY, fun _ => by rw [Nat.add_sub_cancel, HMS.out]; exact ⟨rfl, rfl⟩⟩
      case measure => simp [intOf]; omega
    have hkb : ((K : Int) < (best : Int)) = False := eq_false (by omega)
    have hkb2 : (best : Int) ≤ (K : Int) := by omega
    have HMS : Hid (midS d m = midS d (m - 1)) := mid_keep (by have := HM1.out; omega) (by rw [HG.out, ← HBE.out]; exact h2)
    clear h2
    go_wp2
    go_roundw
    case rel => exact ⟨m + 1, A, B, xa, xc, ya, yc, ua, uc, za, zc, by omega, by omega, by rw [Nat.add_sub_cancel, HMS.out, ← HBE.out], by go_num, HB, HX, HR, HS, H5, H6, HIA, HIB, fun _ => by rw [Nat.add_sub_cancel, HMS.out]; exact HAB.out HM1.out⟩
    case measure => simp [intOf]; omega
end Go.Proofs.Ytlkkgboaicjaiaa
