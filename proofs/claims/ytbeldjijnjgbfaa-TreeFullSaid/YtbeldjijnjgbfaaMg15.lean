/-
  Texts put together: NodeG, NodeH.
-/
import Derived.Test.YtbeldjijnjgbfaaMg14
namespace Go.Proofs.Ytbeldjijnjgbfaa
open Go.RowKit Go.ChangeShapes Go.WideShapes Go.ChangeAt

theorem box_second (w : World) (o : Obj) (t : TypeId) (cs : Array Value) : Box ((w.alloc o).alloc (.cells cs t (0, 0))) (w.heap.size + 1) t cs := by rw [← size_alloc w o]; exact Box.new _ _ _
theorem sizeNode : (Try.prog.info? 51).map (·.size) = some 3 := by kernel_rfl
theorem Box.drew {w : World} {b : Nat} {t : TypeId} {cs : Array Value} (h : Box w b t cs) : Box w.drew b t cs := h
theorem ks_form2 {w : World} {base : Nat} {v : Value} {l : List ByteArray} (h : Ks w base v l) : ∃ a c, v = .slice a l.length c ∧ Sl w Value.string a l := by
  obtain ⟨a, c, e, s⟩ := h.view; exact ⟨a, c, e, s⟩
set_option maxRecDepth 100000 in
set_option maxHeartbeats 1000000 in
theorem own_any (ka : Option Addr) (kc : Nat) (va : Option Addr) (vc : Nat) (d : NodeD) (w : World) (h : NodeIn w ka va d) :
    Calls Try.prog 50 #[nodeV ka kc va vc d] w fun e w' => ∃ kv vv, e = .returned (.agg #[.bool d.leaf, kv, vv]) ∧ Ks w' w.heap.size kv d.keys ∧ Ks w' w.heap.size vv d.vals ∧ (∀ k, kv.ownBlock = some k → vv.ownBlock ≠ some k) ∧ Below w.heap.size w w' := by
  have H := Lib.hid h
  have HB0 : Hid (∀ o, Below w.heap.size w (w.alloc o)) := fun o => (Below.refl _ _).alloc (Nat.le_refl _) o
  clear h
  unfold nodeV
  go_enter Try.func50, Try.ntmps50
  go_wp2_with fail
  generalize hwx : World.alloc (World.alloc w _) _ = wx
  have HX : Hid (Box wx w.heap.size 51 #[.bool d.leaf, .slice ka d.keys.length kc, .slice va d.vals.length vc]) := by show Box _ _ _ _; rw [← hwx]; exact (Box.new w _ _).alloc _
  have HR : Hid (Box wx (w.heap.size + 1) 51 #[.bool false, .slice none 0 0, .slice none 0 0]) := by show Box _ _ _ _; rw [← hwx]; exact box_second _ _ _ _
  have HBX : Hid (Below w.heap.size w wx) := by show Below _ _ _; rw [← hwx]; exact (HB0.out _).trans (((Below.refl _ _).alloc (Nat.le_refl _) _).mono (by rw [size_alloc]; omega))
  have k0 := HX.out.cell 0 _ rfl
  have k1 := HX.out.cell 1 _ rfl
  have k2 := HX.out.cell 2 _ rfl
  clear hwx
  have hd : Below w.heap.size w wx.drew := HBX.out.drew
  have HD := Lib.hid hd
  have HXD : Hid (Box wx.drew w.heap.size 51 #[.bool d.leaf, .slice ka d.keys.length kc, .slice va d.vals.length vc]) := HX.out
  have HRD : Hid (Box wx.drew (w.heap.size + 1) 51 #[.bool false, .slice none 0 0, .slice none 0 0]) := HR.out
  clear hd HX HR
  refine wp_region_tree (fun W => W.cell? ⟨w.heap.size, 0, none⟩ = some (.bool d.leaf) ∧ W.cell? ⟨w.heap.size, 1, none⟩ = some (.slice ka d.keys.length kc) ∧ W.cell? ⟨w.heap.size, 2, none⟩ = some (.slice va d.vals.length vc)) 8 (.quiet 0 (.quiet 1 (.quiet 2 (.quiet 3 (.quiet 5 (.quiet 6 (.make 4 (.make 7 .nil)))))))) (by kernel_rfl) (by kernel_rfl) ⟨k0, k1, k2⟩ ?_
  simp only [List.drop_succ_cons, List.drop_zero]
  iterate 6 (apply wpTr_step rfl; (intro W hS K hK; obtain ⟨q0, q1, q2⟩ := hS; go_simp; exact hK _ rfl))
  refine wpTr_make rfl (fun K' hK => ?_)
  go_simp
  refine (clone_sl ka kc d.keys _ (H.out.keep HD.out).ks H.out.kl).mono ?_
  rintro e w1 ⟨kv, rfl, hk, hb⟩
  have HK := Lib.hid hk
  have HXD1 := Lib.hid (HXD.out.keep hb HXD.out.lt)
  have HRD1 := Lib.hid (HRD.out.keep hb HRD.out.lt)
  have HZ1 : Hid (w.heap.size + 1 < wx.drew.heap.size) := HRD.out.lt
  have HD1 := Lib.hid (HD.out.trans (hb.mono HD.out.size))
  have HLO : Hid (wx.drew.heap.size ≤ w1.heap.size) := hb.size
  have k0 := HXD1.out.cell 0 _ rfl
  have k1 := HXD1.out.cell 1 _ rfl
  have k2 := HXD1.out.cell 2 _ rfl
  clear hk hb
  refine hK _ _ _ (fun _ h => h) ⟨k0, k1, k2⟩ ?_
  clear hK K'
  refine wpTr_make rfl (fun K' hK => ?_)
  go_simp
  refine (clone_sl va vc d.vals _ (H.out.keep HD1.out).vs H.out.vl).mono ?_
  rintro e w2 ⟨vv, rfl, hv, hb⟩
  have HV := Lib.hid hv
  have HK2 := Lib.hid (HK.out.keep hb)
  have HRD2 := Lib.hid (HRD1.out.keep hb HRD1.out.lt)
  have HXD2 := Lib.hid (HXD1.out.keep hb HXD1.out.lt)
  have HD2 := Lib.hid (HD1.out.trans (hb.mono HD1.out.size))
  have HNE : Hid (∀ k, kv.ownBlock = some k → vv.ownBlock ≠ some k) := fun k h1 h2 => by
    have := HK.out.lt k h1
    have := hv.own_block k h2
    omega
  have k0 := HXD2.out.cell 0 _ rfl
  have k1 := HXD2.out.cell 1 _ rfl
  have k2 := HXD2.out.cell 2 _ rfl
  clear hv hb
  refine hK _ _ _ (fun _ h => h) ⟨k0, k1, k2⟩ ?_
  clear hK K'
  refine wpTr_nil ?_
  have f0 := HRD2.out.free 0
  have f1 := HRD2.out.free 1
  have f2 := HRD2.out.free 2
  have r0 := HRD2.out.cell 0 _ rfl
  have r1 := HRD2.out.cell 1 _ rfl
  have r2 := HRD2.out.cell 2 _ rfl
  obtain ⟨ak, ck, rfl, _⟩ := ks_form2 HK2.out
  obtain ⟨av, cv, rfl, _⟩ := ks_form2 HV.out
  have hC : Chg [w.heap.size + 1] w2 (((w2.setCell ⟨w.heap.size + 1, 0, none⟩ (.bool d.leaf)).setCell ⟨w.heap.size + 1, 1, none⟩ (.slice ak d.keys.length ck)).setCell ⟨w.heap.size + 1, 2, none⟩ (.slice av d.vals.length cv)) :=
    (((Chg.refl _ _).set _ 0 _ (.inl (by simp))).set _ 1 _ (.inl (by simp))).set _ 2 _ (.inl (by simp))
  have HK3 := Lib.hid ((HK2.out.chg hC (fun k h1 h2 => by rw [List.mem_singleton] at h2; have := HK2.out.own_block k h1; have := HZ1.out; omega)).low (b := w.heap.size) (by have := HZ1.out; omega))
  have HV3 := Lib.hid ((HV.out.chg hC (fun k h1 h2 => by rw [List.mem_singleton] at h2; have := HV.out.own_block k h1; have := HZ1.out; have := HLO.out; omega)).low (b := w.heap.size) (by have := HZ1.out; have := HLO.out; omega))
  have HD3 := Lib.hid (HD2.out.trans (hC.below HD2.out.size (fun k h => by rw [List.mem_singleton] at h; omega)))
  have HR3 := Lib.hid (((HRD2.out.set 0 (.bool d.leaf)).set 1 (.slice ak d.keys.length ck)).set 2 (.slice av d.vals.length cv))
  clear hC
  go_wp2
  refine bodyPost_ret (results_cell_row rfl _ _ (w.heap.size + 1) 51 _ (0, 0) _ rfl HR3.out Try.underlying51 rfl sizeNode) rfl ?_
  exact ⟨_, _, rfl, HK3.out, HV3.out, HNE.out, HD3.out⟩
end Go.Proofs.Ytbeldjijnjgbfaa

namespace Go.Proofs.Ytbeldjijnjgbfaa
open Go.RowKit Go.ChangeShapes Go.WideShapes Go.ChangeAt

/-- A part of a slice, as the model's slicing gives it. -/
def partA (a : Option Addr) (c i : Nat) : Option Addr := if c = i then a else a.map (fun p => p.add i)
def subD (d : NodeD) (i j : Nat) : NodeD := ⟨d.leaf, (d.keys.drop i).take (j - i), (d.vals.drop i).take (j - i)⟩
theorem Sl.part {w : World} {a : Option Addr} {l : List ByteArray} (h : Sl w Value.string a l) (c i j : Nat) (_hij : i ≤ j) (hjl : j ≤ l.length) (hlc : l.length ≤ c) : Sl w Value.string (partA a c i) ((l.drop i).take (j - i)) := by
  unfold partA
  by_cases hci : c = i
  · have : (l.drop i).take (j - i) = [] := by rw [List.drop_of_length_le (by omega)]; simp
    rw [this]; exact Sl.nil
  · rw [if_neg hci]
    intro hne
    obtain ⟨b, off, e, hb, hc⟩ := h (by rintro rfl; simp at hne)
    subst e
    refine ⟨b, off + i, by simp [Addr.add], hb, fun q x hx => ?_⟩
    have hq : q < j - i := by
      rcases Nat.lt_or_ge q (j - i) with h | h
      · exact h
      · rw [List.getElem?_eq_none (by simp; omega)] at hx; cases hx
    rw [List.getElem?_take_of_lt hq, List.getElem?_drop] at hx
    rw [Nat.add_assoc]
    exact hc _ _ hx
theorem partA_eq (a : Option Addr) (c i : Nat) : (if c = i then a else Option.map (fun x => x.add i) a) = partA a c i := rfl
theorem sub_node (ka : Option Addr) (kc : Nat) (va : Option Addr) (vc : Nat) (d : NodeD) (i j : Nat) (hij : i ≤ j) (h1 : j ≤ d.keys.length) (h2 : j ≤ d.vals.length) :
    Value.agg #[.bool d.leaf, .slice (partA ka kc i) (j - i) (kc - i), .slice (partA va vc i) (j - i) (vc - i)] = nodeV (partA ka kc i) (kc - i) (partA va vc i) (vc - i) (subD d i j) := by
  unfold nodeV subD
  simp only [List.length_take, List.length_drop]
  rw [Nat.min_eq_left (by omega), Nat.min_eq_left (by omega)]
theorem sub_len (d : NodeD) (i j : Nat) (hij : i ≤ j) (h1 : j ≤ d.keys.length) (h2 : j ≤ d.vals.length) : (subD d i j).keys.length = j - i ∧ (subD d i j).vals.length = j - i := by
  unfold subD; simp; omega
set_option maxRecDepth 100000 in
set_option maxHeartbeats 1000000 in
theorem between_any (ka : Option Addr) (kc : Nat) (va : Option Addr) (vc : Nat) (d : NodeD) (i j : Nat) (w : World) (h : NodeIn w ka va d) (hij : i ≤ j) (h1 : j ≤ d.keys.length) (h2 : j ≤ d.vals.length) (hkc : d.keys.length ≤ kc) (hvc : d.vals.length ≤ vc) :
    Calls Try.prog 73 #[nodeV ka kc va vc d, .int .i64 (i : Int), .int .i64 (j : Int)] w fun e w' => ∃ kv vv, e = .returned (.agg #[.bool d.leaf, kv, vv]) ∧ Ks w' w.heap.size kv (subD d i j).keys ∧ Ks w' w.heap.size vv (subD d i j).vals ∧ Below w.heap.size w w' := by
  have H := Lib.hid h
  have HB0 : Hid (∀ o, Below w.heap.size w (w.alloc o)) := fun o => (Below.refl _ _).alloc (Nat.le_refl _) o
  have p1 := h.ks.part kc i j hij h1 hkc
  have p2 := h.vs.part vc i j hij h2 hvc
  have hkl := h.kl
  have hvl := h.vl
  clear h
  unfold nodeV
  go_enter Try.func73, Try.ntmps73
  go_wp2_with fail
  generalize hwx : World.alloc (World.alloc w _) _ = wx
  have HX : Hid (Box wx w.heap.size 51 #[.bool d.leaf, .slice ka d.keys.length kc, .slice va d.vals.length vc]) := by show Box _ _ _ _; rw [← hwx]; exact (Box.new w _ _).alloc _
  have HR : Hid (Box wx (w.heap.size + 1) 51 #[.bool false, .slice none 0 0, .slice none 0 0]) := by show Box _ _ _ _; rw [← hwx]; exact box_second _ _ _ _
  have HBX : Hid (Below w.heap.size w wx) := by show Below _ _ _; rw [← hwx]; exact (HB0.out _).trans (((Below.refl _ _).alloc (Nat.le_refl _) _).mono (by rw [size_alloc]; omega))
  have k0 := HX.out.cell 0 _ rfl
  have k1 := HX.out.cell 1 _ rfl
  have k2 := HX.out.cell 2 _ rfl
  clear hwx
  have hd : Below w.heap.size w wx.drew := HBX.out.drew
  have HD := Lib.hid hd
  have HXD : Hid (Box wx.drew w.heap.size 51 #[.bool d.leaf, .slice ka d.keys.length kc, .slice va d.vals.length vc]) := HX.out
  have HRD : Hid (Box wx.drew (w.heap.size + 1) 51 #[.bool false, .slice none 0 0, .slice none 0 0]) := HR.out
  clear hd HX HR
  have hi1 : (i : Int) ≤ (j : Int) := by omega
  have hj1 : (j : Int) ≤ (kc : Int) := by omega
  have hj2 : (j : Int) ≤ (vc : Int) := by omega
  refine wp_region_tree (fun W => W.cell? ⟨w.heap.size, 0, none⟩ = some (.bool d.leaf) ∧ W.cell? ⟨w.heap.size, 1, none⟩ = some (.slice ka d.keys.length kc) ∧ W.cell? ⟨w.heap.size, 2, none⟩ = some (.slice va d.vals.length vc)) 12 (.quiet 0 (.quiet 1 (.quiet 2 (.quiet 3 (.quiet 4 (.quiet 5 (.quiet 6 (.quiet 7 (.quiet 8 (.quiet 9 (.quiet 10 (.quiet 11 .nil)))))))))))) (by kernel_rfl) (by kernel_rfl) ⟨k0, k1, k2⟩ ?_
  simp only [List.drop_succ_cons, List.drop_zero]
  iterate 7 (apply wpTr_step rfl; (intro W hS K hK; obtain ⟨q0, q1, q2⟩ := hS; go_simp; exact hK _ rfl))
  rw [partA_eq]
  have HN : Hid (NodeIn wx.drew (partA ka kc i) (partA va vc i) (subD d i j)) := ⟨p1.keep HD.out, p2.keep HD.out, by have := (sub_len d i j hij h1 h2).1; omega, by have := (sub_len d i j hij h1 h2).2; omega⟩
  have HE := Lib.hid (sub_node ka kc va vc d i j hij h1 h2)
  clear p1 p2
  generalize partA ka kc i = A1 at *
  iterate 5 (apply wpTr_step rfl; (intro W hS K hK; obtain ⟨q0, q1, q2⟩ := hS; go_simp; exact hK _ rfl))
  rw [partA_eq]
  generalize partA va vc i = A2 at *
  refine wpTr_nil ?_
  clear hi1 hj1 hj2 k0 k1 k2
  go_wp2_with fail
  rw [HE.out]
  refine (own_any A1 (kc - i) A2 (vc - i) (subD d i j) _ HN.out).mono ?_
  rintro e w2 ⟨kv, vv, rfl, hk, hv, _, hb⟩
  have HZ1 : Hid (w.heap.size + 1 < wx.drew.heap.size) := HRD.out.lt
  have HRD2 := Lib.hid (HRD.out.keep hb HRD.out.lt)
  have HD2 := Lib.hid (HD.out.trans (hb.mono HD.out.size))
  have HK2 := Lib.hid hk
  have HV2 := Lib.hid hv
  have f0 := HRD2.out.free 0
  have f1 := HRD2.out.free 1
  have f2 := HRD2.out.free 2
  have r0 := HRD2.out.cell 0 _ rfl
  have r1 := HRD2.out.cell 1 _ rfl
  have r2 := HRD2.out.cell 2 _ rfl
  clear hk hv hb
  have hlf : (subD d i j).leaf = d.leaf := rfl
  rw [hlf]
  clear hlf
  obtain ⟨ak, ck, rfl, _⟩ := ks_form2 HK2.out
  obtain ⟨av, cv, rfl, _⟩ := ks_form2 HV2.out
  have hC : Chg [w.heap.size + 1] w2 (((w2.setCell ⟨w.heap.size + 1, 0, none⟩ (.bool d.leaf)).setCell ⟨w.heap.size + 1, 1, none⟩ (.slice ak (subD d i j).keys.length ck)).setCell ⟨w.heap.size + 1, 2, none⟩ (.slice av (subD d i j).vals.length cv)) :=
    (((Chg.refl _ _).set _ 0 _ (.inl (by simp))).set _ 1 _ (.inl (by simp))).set _ 2 _ (.inl (by simp))
  have HK3 := Lib.hid ((HK2.out.chg hC (fun k h1 h2 => by rw [List.mem_singleton] at h2; have := HK2.out.own_block k h1; have := HZ1.out; omega)).low (b := w.heap.size) (by have := HZ1.out; omega))
  have HV3 := Lib.hid ((HV2.out.chg hC (fun k h1 h2 => by rw [List.mem_singleton] at h2; have := HV2.out.own_block k h1; have := HZ1.out; omega)).low (b := w.heap.size) (by have := HZ1.out; omega))
  have HD3 := Lib.hid (HD2.out.trans (hC.below HD2.out.size (fun k h => by rw [List.mem_singleton] at h; omega)))
  have HR3 := Lib.hid (((HRD2.out.set 0 (.bool d.leaf)).set 1 (.slice ak (subD d i j).keys.length ck)).set 2 (.slice av (subD d i j).vals.length cv))
  clear hC
  go_wp2
  refine bodyPost_ret (results_cell_row rfl _ _ (w.heap.size + 1) 51 _ (0, 0) _ rfl HR3.out Try.underlying51 rfl sizeNode) rfl ?_
  exact ⟨_, _, rfl, HK3.out, HV3.out, HD3.out⟩
end Go.Proofs.Ytbeldjijnjgbfaa
