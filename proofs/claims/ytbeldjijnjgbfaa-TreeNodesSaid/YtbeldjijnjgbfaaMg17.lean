/-
  Texts put together: NodeJ, KeysRows.
-/
import Derived.Test.YtbeldjijnjgbfaaMg15
import Derived.Test.YtbeldjijnjgbfaaMg10
import Derived.Laws.AppendOwnNone
namespace Go.Proofs.Ytbeldjijnjgbfaa
open Go.RowKit Go.ChangeShapes Go.WideShapes Go.ChangeAt

theorem box_third (w : World) (o p : Obj) (t : TypeId) (cs : Array Value) : Box (((w.alloc o).alloc p).alloc (.cells cs t (0, 0))) (w.heap.size + 1 + 1) t cs := by
  have := Box.new ((w.alloc o).alloc p) t cs
  rw [size_alloc, size_alloc] at this
  exact this
theorem results_cells2 {P : Program} {fn : Func} {p q u : Tmp} {ty : TypeId} (h : fn.results = #[.cell p ty, .cell q ty, .tmp u]) (tmps : Array Value) (w : World) (g1 g2 : Nat) (cs ds : Array Value) (d : TypeDesc)
    (hp : tmps.getD p undef = .pointer (some ⟨g1, 0, none⟩)) (hq : tmps.getD q undef = .pointer (some ⟨g2, 0, none⟩)) (t1 t2 : TypeId) (f1 f2 : Nat × Nat) (hg1 : w.heap[g1]? = some (.cells cs t1 f1)) (hg2 : w.heap[g2]? = some (.cells ds t2 f2))
    (hu : P.underlying ty = some d) (hd : (match d with | .struct _ | .array _ _ => true | _ => false) = true) (hi : (P.info? ty).map (·.size) = some cs.size) (hj : (P.info? ty).map (·.size) = some ds.size) :
    (results fn tmps).run P w = .ok (.tuple #[.agg cs, .agg ds, tmps.getD u undef]) w := by
  have hp' : tmps[p]?.getD undef = .pointer (some ⟨g1, 0, none⟩) := by simpa using hp
  have hq' : tmps[q]?.getD undef = .pointer (some ⟨g2, 0, none⟩) := by simpa using hq
  simp [results, h, hp', hq', asAddr, run_loadVar_row w g1 t1 ty cs f1 d hg1 hu hd hi, run_loadVar_row w g2 t2 ty ds f2 d hg2 hu hd hj]
theorem chg_set3 (w : World) (c : Nat) (a b d : Value) : Chg [c] w (((w.setCell ⟨c, 0, none⟩ a).setCell ⟨c, 1, none⟩ b).setCell ⟨c, 2, none⟩ d) := (((Chg.refl _ _).set _ 0 _ (.inl (by simp))).set _ 1 _ (.inl (by simp))).set _ 2 _ (.inl (by simp))
theorem box_set3 {w : World} {c : Nat} {t : TypeId} {x y z : Value} (h : Box w c t #[x, y, z]) (a b d : Value) : Box (((w.setCell ⟨c, 0, none⟩ a).setCell ⟨c, 1, none⟩ b).setCell ⟨c, 2, none⟩ d) c t #[a, b, d] := ((h.set 0 a).set 1 b).set 2 d
theorem box_other3 {w : World} {k c : Nat} {t : TypeId} {cs : Array Value} (h : Box w k t cs) (hne : k ≠ c) (a b d : Value) : Box (((w.setCell ⟨c, 0, none⟩ a).setCell ⟨c, 1, none⟩ b).setCell ⟨c, 2, none⟩ d) k t cs :=
  h.of ((chg_set3 w c a b d).block k h.lt (by simpa using hne))
/-- What Split answers. -/
def SplitTo (d : NodeD) (w : World) (e : Ending) (w' : World) : Prop :=
  ∃ v1 v2, e = .returned (.tuple #[v1, v2, .bool (splitD d).2.2]) ∧ NodeOwn w' w.heap.size v1 (splitD d).1 ∧ NodeOwn w' w.heap.size v2 (splitD d).2.1 ∧ Below w.heap.size w w'
theorem SplitTo.mk {d : NodeD} {w w' : World} {e : Ending} {v1 v2 : Value} {a b : NodeD} {x : Bool} (h : splitD d = (a, b, x)) (he : e = .returned (.tuple #[v1, v2, .bool x])) (h1 : NodeOwn w' w.heap.size v1 a) (h2 : NodeOwn w' w.heap.size v2 b) (hb : Below w.heap.size w w') : SplitTo d w e w' := by
  unfold SplitTo; rw [h]; exact ⟨v1, v2, he, h1, h2, hb⟩
set_option maxRecDepth 100000 in
set_option maxHeartbeats 2000000 in
theorem split_any (ka : Option Addr) (kc : Nat) (va : Option Addr) (vc : Nat) (d : NodeD) (w : World) (h : NodeIn w ka va d) (hz : ∀ s ∈ d.keys ++ d.vals, s.size ≤ maxLen) (hkc : d.keys.length ≤ kc) (hvc : d.vals.length ≤ vc) :
    Calls Try.prog 68 #[nodeV ka kc va vc d] w (SplitTo d w) := by
  have H := Lib.hid h
  have HZ := Lib.hid hz
  have hkl := h.kl
  have HKC := Lib.hid hkc
  have HVC := Lib.hid hvc
  have HB0 : Hid (∀ o, Below w.heap.size w (w.alloc o)) := fun o => (Below.refl _ _).alloc (Nat.le_refl _) o
  clear h hz hkc hvc
  have HV : Hid (Value.agg #[.bool d.leaf, .slice ka d.keys.length kc, .slice va d.vals.length vc] = nodeV ka kc va vc d) := rfl
  obtain ⟨PS, hPS⟩ : ∃ PS, PS = SplitTo d w := ⟨_, rfl⟩
  rw [← hPS]
  have HPS := Lib.hid hPS
  clear hPS
  unfold nodeV
  go_enter Try.func68, Try.ntmps68
  go_wp2_with fail
  rw [HV.out]
  generalize hwx : World.alloc (World.alloc (World.alloc w _) _) _ = wx
  have HX : Hid (Box wx w.heap.size 51 #[.bool d.leaf, .slice ka d.keys.length kc, .slice va d.vals.length vc]) := by show Box _ _ _ _; rw [← hwx]; exact ((Box.new w _ _).alloc _).alloc _
  have HR : Hid (Box wx (w.heap.size + 1) 51 #[.bool false, .slice none 0 0, .slice none 0 0]) := by show Box _ _ _ _; rw [← hwx]; exact (box_second _ _ _ _).alloc _
  have HS : Hid (Box wx (w.heap.size + 1 + 1) 51 #[.bool false, .slice none 0 0, .slice none 0 0]) := by show Box _ _ _ _; rw [← hwx]; exact box_third _ _ _ _ _
  have HBX : Hid (Below w.heap.size w wx) := by show Below _ _ _; rw [← hwx]; exact ((HB0.out _).trans (((Below.refl _ _).alloc (Nat.le_refl _) _).mono (by rw [size_alloc]; omega))).trans (((Below.refl _ _).alloc (Nat.le_refl _) _).mono (by rw [size_alloc, size_alloc]; omega))
  clear hwx
  refine (maybe_any ka kc va vc d _ (H.out.keep HBX.out) HZ.out).mono ?_
  rintro e w1 ⟨rfl, hb⟩
  have HX1 := Lib.hid (HX.out.keep hb HX.out.lt)
  have HR1 := Lib.hid (HR.out.keep hb HR.out.lt)
  have HS1 := Lib.hid (HS.out.keep hb HS.out.lt)
  have HB1 := Lib.hid (HBX.out.trans (hb.mono HBX.out.size))
  clear hb HX HR HS HBX
  have c0 := HX1.out.cell 0 _ rfl
  have c1 := HX1.out.cell 1 _ rfl
  have c2 := HX1.out.cell 2 _ rfl
  have r0 := HR1.out.cell 0 _ rfl
  have r1 := HR1.out.cell 1 _ rfl
  have r2 := HR1.out.cell 2 _ rfl
  have s0 := HS1.out.cell 0 _ rfl
  have s1 := HS1.out.cell 1 _ rfl
  have s2 := HS1.out.cell 2 _ rfl
  have f0 := HR1.out.free 0
  have f1 := HR1.out.free 1
  have f2 := HR1.out.free 2
  have g0 := HS1.out.free 0
  have g1 := HS1.out.free 1
  have g2 := HS1.out.free 2
  cases hm : mayD d
  · have HQ : Hid (splitD d = (nilD, nilD, false)) := by show _ = _; unfold splitD; rw [hm]; rfl
    clear hm
    have hC := (chg_set3 w1 (w.heap.size + 1) (.bool false) (.slice none 0 0) (.slice none 0 0)).mono (S' := [w.heap.size + 1, w.heap.size + 1 + 1]) (by intro k hk; simp at hk; simp [hk])
    have hC2 := hC.trans ((chg_set3 _ (w.heap.size + 1 + 1) (.bool false) (.slice none 0 0) (.slice none 0 0)).mono (S' := [w.heap.size + 1, w.heap.size + 1 + 1]) (by intro k hk; simp at hk; simp [hk]))
    have HBE := Lib.hid (HB1.out.trans (hC2.below HB1.out.size (fun k hk => by simp at hk; omega)))
    have HRE := Lib.hid (box_other3 (box_set3 HR1.out (.bool false) (.slice none 0 0) (.slice none 0 0)) (c := w.heap.size + 1 + 1) (by omega) (.bool false) (.slice none 0 0) (.slice none 0 0))
    have HSE := Lib.hid (box_set3 (box_other3 HS1.out (c := w.heap.size + 1) (by omega) (.bool false) (.slice none 0 0) (.slice none 0 0)) (.bool false) (.slice none 0 0) (.slice none 0 0))
    clear hC hC2
    go_wp2
    refine bodyPost_ret (results_cells2 rfl _ _ (w.heap.size + 1) (w.heap.size + 1 + 1) _ _ _ rfl rfl _ _ _ _ HRE.out HSE.out Try.underlying51 rfl sizeNode sizeNode) rfl ?_
    rw [HPS.out]
    exact SplitTo.mk HQ.out rfl (NodeOwn.nil _ _) (NodeOwn.nil _ _) HBE.out
  · by_cases h2 : d.keys.length < 2
    · have HQ : Hid (splitD d = (nilD, nilD, false)) := by show _ = _; unfold splitD; rw [if_neg (by omega)]; rfl
      clear hm
      have hq : ((d.keys.length : Int) < 2) = True := eq_true (by omega)
      clear h2
      have hC := (chg_set3 w1 (w.heap.size + 1) (.bool false) (.slice none 0 0) (.slice none 0 0)).mono (S' := [w.heap.size + 1, w.heap.size + 1 + 1]) (by intro k hk; simp at hk; simp [hk])
      have hC2 := hC.trans ((chg_set3 _ (w.heap.size + 1 + 1) (.bool false) (.slice none 0 0) (.slice none 0 0)).mono (S' := [w.heap.size + 1, w.heap.size + 1 + 1]) (by intro k hk; simp at hk; simp [hk]))
      have HBE := Lib.hid (HB1.out.trans (hC2.below HB1.out.size (fun k hk => by simp at hk; omega)))
      have HRE := Lib.hid (box_other3 (box_set3 HR1.out (.bool false) (.slice none 0 0) (.slice none 0 0)) (c := w.heap.size + 1 + 1) (by omega) (.bool false) (.slice none 0 0) (.slice none 0 0))
      have HSE := Lib.hid (box_set3 (box_other3 HS1.out (c := w.heap.size + 1) (by omega) (.bool false) (.slice none 0 0) (.slice none 0 0)) (.bool false) (.slice none 0 0) (.slice none 0 0))
      clear hC hC2
      go_wp2
      refine bodyPost_ret (results_cells2 rfl _ _ (w.heap.size + 1) (w.heap.size + 1 + 1) _ _ _ rfl rfl _ _ _ _ HRE.out HSE.out Try.underlying51 rfl sizeNode sizeNode) rfl ?_
      rw [HPS.out]
      exact SplitTo.mk HQ.out rfl (NodeOwn.nil _ _) (NodeOwn.nil _ _) HBE.out
    · have h22 : 2 ≤ d.keys.length := by omega
      have HM := Lib.hid (may_bounds hm)
      have HCU := Lib.hid (cut_in h22)
      have HQ : Hid (splitD d = (subD d 0 (cutD d), subD d (cutD d) d.keys.length, true)) := by
        have h1 := (may_bounds hm).eq
        show _ = _
        unfold splitD subD
        rw [if_pos ⟨hm, h22⟩]
        simp only [List.drop_zero, Nat.sub_zero]
        rw [List.take_of_length_le (l := d.keys.drop (cutD d)) (by simp), List.take_of_length_le (l := d.vals.drop (cutD d)) (by simp; omega)]
      have hq : ((d.keys.length : Int) < 2) = False := eq_false (by omega)
      clear h2
      go_wp2_with fail
      rw [HV.out]
      refine (middle_any ka kc va vc d _ (H.out.keep HB1.out) hm h22).mono ?_
      rintro e w2 ⟨rfl, hb⟩
      have HX2 := Lib.hid (HX1.out.keep hb HX1.out.lt)
      have HR2 := Lib.hid (HR1.out.keep hb HR1.out.lt)
      have HS2 := Lib.hid (HS1.out.keep hb HS1.out.lt)
      have HB2 := Lib.hid (HB1.out.trans (hb.mono HB1.out.size))
      clear hb HX1 HR1 HS1 HB1 c0 c1 c2 r0 r1 r2 s0 s1 s2 f0 f1 f2 g0 g1 g2 hm
      have c0 := HX2.out.cell 0 _ rfl
      have c1 := HX2.out.cell 1 _ rfl
      have c2 := HX2.out.cell 2 _ rfl
      generalize cutD d = m at *
      clear hq
      go_wp2_with fail
      refine wp_region_tree (fun W => W.cell? ⟨w.heap.size, 0, none⟩ = some (.bool d.leaf) ∧ W.cell? ⟨w.heap.size, 1, none⟩ = some (.slice ka d.keys.length kc) ∧ W.cell? ⟨w.heap.size, 2, none⟩ = some (.slice va d.vals.length vc)) 8 (.quiet 0 (.quiet 1 (.quiet 3 (.quiet 4 (.quiet 5 (.quiet 6 (.quiet 7 (.make 2 .nil)))))))) (by kernel_rfl) (by kernel_rfl) ⟨c0, c1, c2⟩ ?_
      simp only [List.drop_succ_cons, List.drop_zero]
      clear c0 c1 c2 hkl
      iterate 7 (apply wpTr_step rfl; (intro W hS K hK; obtain ⟨q0, q1, q2⟩ := hS; go_simp; exact hK _ rfl))
      refine wpTr_make rfl (fun K' hK => ?_)
      go_simp
      rw [HV.out]
      have HBD : Hid (Below w.heap.size w w2.drew) := HB2.out.drew
      have HZ2 : Hid (w.heap.size + 1 + 1 < w2.drew.heap.size) := HS2.out.lt
      refine (between_any ka kc va vc d 0 m _ (H.out.keep HBD.out) (Nat.zero_le _) (by have := HCU.out; omega) (by have := HCU.out; have := HM.out.eq; omega) HKC.out HVC.out).mono ?_
      rintro e w3 ⟨kv, vv, rfl, hk, hv, hb⟩
      have HO3 : Hid (NodeOwn w3 w2.drew.heap.size (.agg #[.bool d.leaf, kv, vv]) (subD d 0 m)) := ⟨kv, vv, rfl, hk, hv⟩
      have HX3 : Hid (Box w3 w.heap.size 51 #[.bool d.leaf, .slice ka d.keys.length kc, .slice va d.vals.length vc]) := HX2.out.drew.keep hb HX2.out.lt
      have HR3 : Hid (Box w3 (w.heap.size + 1) 51 #[.bool false, .slice none 0 0, .slice none 0 0]) := HR2.out.drew.keep hb HR2.out.lt
      have HS3 : Hid (Box w3 (w.heap.size + 1 + 1) 51 #[.bool false, .slice none 0 0, .slice none 0 0]) := HS2.out.drew.keep hb HS2.out.lt
      have HB3 := Lib.hid (HBD.out.trans (hb.mono HBD.out.size))
      have HL3 : Hid (w2.drew.heap.size ≤ w3.heap.size) := hb.size
      have c0 := HX3.out.cell 0 _ rfl
      have c1 := HX3.out.cell 1 _ rfl
      have c2 := HX3.out.cell 2 _ rfl
      clear hb HX2 HR2 HS2 HB2
      refine hK _ _ _ (fun _ h => h) ⟨c0, c1, c2⟩ ?_
      clear hK K'
      refine wpTr_nil ?_
      obtain ⟨ak, ck, rfl, _⟩ := ks_form2 hk
      obtain ⟨av, cv, rfl, _⟩ := ks_form2 hv
      clear hk hv
      go_wp2_with fail
      refine (between_any ka kc va vc d m d.keys.length _ (H.out.keep HB3.out) (by have := HCU.out; omega) (Nat.le_refl _) (by have := HM.out.eq; omega) HKC.out HVC.out).mono ?_
      rintro e w4 ⟨kv2, vv2, rfl, hk2, hv2, hb⟩
      have HO4 : Hid (NodeOwn w4 w3.heap.size (.agg #[.bool d.leaf, kv2, vv2]) (subD d m d.keys.length)) := ⟨kv2, vv2, rfl, hk2, hv2⟩
      have HO34 := Lib.hid (HO3.out.keep hb)
      have HR4 := Lib.hid (HR3.out.keep hb HR3.out.lt)
      have HS4 := Lib.hid (HS3.out.keep hb HS3.out.lt)
      have HB4 := Lib.hid (HB3.out.trans (hb.mono HB3.out.size))
      obtain ⟨ak2, ck2, rfl, _⟩ := ks_form2 hk2
      obtain ⟨av2, cv2, rfl, _⟩ := ks_form2 hv2
      clear hb hk2 hv2 c0 c1 c2
      have r0 := HR4.out.cell 0 _ rfl
      have r1 := HR4.out.cell 1 _ rfl
      have r2 := HR4.out.cell 2 _ rfl
      have s0 := HS4.out.cell 0 _ rfl
      have s1 := HS4.out.cell 1 _ rfl
      have s2 := HS4.out.cell 2 _ rfl
      have f0 := HR4.out.free 0
      have f1 := HR4.out.free 1
      have f2 := HR4.out.free 2
      have g0 := HS4.out.free 0
      have g1 := HS4.out.free 1
      have g2 := HS4.out.free 2
      generalize (subD d 0 m).keys.length = n1 at *
      generalize (subD d 0 m).vals.length = n2 at *
      generalize (subD d m d.keys.length).keys.length = n3 at *
      generalize (subD d m d.keys.length).vals.length = n4 at *
      have hC := (chg_set3 w4 (w.heap.size + 1) (.bool d.leaf) (.slice ak n1 ck) (.slice av n2 cv)).mono (S' := [w.heap.size + 1, w.heap.size + 1 + 1]) (by intro k hk; simp at hk; simp [hk])
      have hC2 := hC.trans ((chg_set3 _ (w.heap.size + 1 + 1) (.bool d.leaf) (.slice ak2 n3 ck2) (.slice av2 n4 cv2)).mono (S' := [w.heap.size + 1, w.heap.size + 1 + 1]) (by intro k hk; simp at hk; simp [hk]))
      have HBE := Lib.hid (HB4.out.trans (hC2.below HB4.out.size (fun k hk => by simp at hk; omega)))
      have HRE := Lib.hid (box_other3 (box_set3 HR4.out (.bool d.leaf) (.slice ak n1 ck) (.slice av n2 cv)) (c := w.heap.size + 1 + 1) (by omega) (.bool d.leaf) (.slice ak2 n3 ck2) (.slice av2 n4 cv2))
      have HSE := Lib.hid (box_set3 (box_other3 HS4.out (c := w.heap.size + 1) (by omega) (.bool d.leaf) (.slice ak n1 ck) (.slice av n2 cv)) (.bool d.leaf) (.slice ak2 n3 ck2) (.slice av2 n4 cv2))
      have HO5 := Lib.hid ((HO34.out.chg hC2 (fun k hk => by have := HZ2.out; simp at hk; omega)).low (b := w.heap.size) (by have := HZ2.out; omega))
      have HO6 := Lib.hid ((HO4.out.chg hC2 (fun k hk => by have := HZ2.out; have := HL3.out; simp at hk; omega)).low (b := w.heap.size) (by have := HZ2.out; have := HL3.out; omega))
      clear hC hC2 HR4 HS4 HO34 HO4
      go_wp2
      refine bodyPost_ret (results_cells2 rfl _ _ (w.heap.size + 1) (w.heap.size + 1 + 1) _ _ _ rfl rfl _ _ _ _ HRE.out HSE.out Try.underlying51 rfl sizeNode sizeNode) rfl ?_
      rw [HPS.out]
      exact SplitTo.mk HQ.out rfl HO5.out HO6.out HBE.out
end Go.Proofs.Ytbeldjijnjgbfaa

namespace Go.Proofs.Ytbeldjijnjgbfaa
open Go.RowKit Go.ChangeShapes Go.WideShapes Go.ChangeAt

theorem wp_keys_rows {ops : Array Oper} {rest : List Oper} {o : Oper} {a : Act} {Q : Exit → Act → World → Prop} (W : World) (hgd : o.guard = none) (s x : Operand)
    (ho : o.op = .call { callee := .builtin .append, args := #[s, x], argTypes := #[26, 26] })
    (base b2 : Nat) (v xv : Value) (l cs : List ByteArray) (hs : a.eval s = v) (hb : Ks W base v l) (hx : a.eval x = xv) (hc : Ks W b2 xv cs)
    (hbytes : l.length + cs.length ≤ 2000000) (hbase : base ≤ W.heap.size)
    (h : ∀ v' w', Ks w' base v' (l ++ cs) → W.grownBy w' v.ownBlock → wpList Try.prog ops Q rest (a.put o.dst v') w') : wpList Try.prog ops Q (o :: rest) a W := by
  rcases hc.form with ⟨rfl, rfl⟩ | ⟨g, cap, rfl, _, _, _, _⟩
  · obtain ⟨i0, hi, _⟩ := info_parts infoKey
    refine wpList_append_own_none hgd s x 26 ho base 9 i0 1 Try.underlying26 hi v l.length _ hs hb hx (h v W (by rw [List.append_nil]; exact hb) ⟨rfl, rfl, rfl, Nat.le_refl _, fun _ _ _ => rfl⟩)
  · refine wp_keys_push W hgd s x ho base v l hs hb ⟨g, 0, none⟩ cs.length cap cs hx rfl (fun j u hu => ?_) hbytes hbase (fun v' w' h1 h2 _ => h v' w' h1 h2)
    have := World.ownsRow.cells hc (g := g) rfl j (.string u) (by rw [List.getElem?_map, hu]; rfl)
    exact this
end Go.Proofs.Ytbeldjijnjgbfaa
