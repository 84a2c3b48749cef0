/-
  own, between.
-/
import Derived.Test.YtlkkgboaicjaiaaNodeF
namespace Go.Proofs.Ytlkkgboaicjaiaa
open Go.RowKit Go.ChangeShapes Go.WideShapes Go.ChangeAt

theorem box_second (w : World) (o : Obj) (t : TypeId) (cs : Array Value) : Box ((w.alloc o).alloc (.cells cs t (0, 0))) (w.heap.size + 1) t cs := by rw [← size_alloc w o]; exact Box.new _ _ _
theorem sizeNode : (Try.prog.info? 30).map (·.size) = some 3 := by kernel_rfl
theorem Box.drew {w : World} {b : Nat} {t : TypeId} {cs : Array Value} (h : Box w b t cs) : Box w.drew b t cs := h
theorem ks_form2 {w : World} {base : Nat} {v : Value} {l : List ByteArray} (h : Ks w base v l) : ∃ a c, v = .slice a l.length c ∧ Sl w Value.string a l := by
  obtain ⟨a, c, e, s⟩ := h.view; exact ⟨a, c, e, s⟩
set_option maxHeartbeats 1000000 in
theorem own_any (ka : Option Addr) (kc : Nat) (va : Option Addr) (vc : Nat) (d : NodeD) (w : World) (h : NodeIn w ka va d) :
    Calls Try.prog 53 #[nodeV ka kc va vc d] w fun e w' => ∃ kv vv, e = .returned (.agg #[.bool d.leaf, kv, vv]) ∧ Ks w' w.heap.size kv d.keys ∧ Ks w' w.heap.size vv d.vals ∧ (∀ k, kv.ownBlock = some k → vv.ownBlock ≠ some k) ∧ Below w.heap.size w w' := by
  have H := Lib.hid h
  have HB0 : Hid (∀ o, Below w.heap.size w (w.alloc o)) := fun o => (Below.refl _ _).alloc (Nat.le_refl _) o
  clear h
  unfold nodeV
  go_enter Try.func53, Try.ntmps53
  go_wp2_with fail
  generalize hwx : World.alloc (World.alloc w _) _ = wx
  have HX : Hid (Box wx w.heap.size 30 #[.bool d.leaf, .slice ka d.keys.length kc, .slice va d.vals.length vc]) := by show Box _ _ _ _; rw [← hwx]; exact (Box.new w _ _).alloc _
  have HR : Hid (Box wx (w.heap.size + 1) 30 #[.bool false, .slice none 0 0, .slice none 0 0]) := by show Box _ _ _ _; rw [← hwx]; exact box_second _ _ _ _
  have HBX : Hid (Below w.heap.size w wx) := by show Below _ _ _; rw [← hwx]; exact (HB0.out _).trans (((Below.refl _ _).alloc (Nat.le_refl _) _).mono (by rw [size_alloc]; omega))
  have k0 := HX.out.cell 0 _ rfl
  have k1 := HX.out.cell 1 _ rfl
  have k2 := HX.out.cell 2 _ rfl
  clear hwx
  have hd : Below w.heap.size w wx.drew := HBX.out.drew
  have HD := Lib.hid hd
  have HXD : Hid (Box wx.drew w.heap.size 30 #[.bool d.leaf, .slice ka d.keys.length kc, .slice va d.vals.length vc]) := HX.out
  have HRD : Hid (Box wx.drew (w.heap.size + 1) 30 #[.bool false, .slice none 0 0, .slice none 0 0]) := HR.out
  clear hd HX HR
  refine wp_region_tree (fun W => W.cell? ⟨w.heap.size, 0, none⟩ = some (.bool d.leaf) ∧ W.cell? ⟨w.heap.size, 1, none⟩ = some (.slice ka d.keys.length kc) ∧ W.cell? ⟨w.heap.size, 2, none⟩ = some (.slice va d.vals.length vc)) 8 (.quiet 0 (.quiet 1 (.quiet 2 (.quiet 3 (.quiet 5 (.quiet 6 (.make 4 (.make 7 .nil)))))))) (by kernel_rfl) (by kernel_rfl) ⟨k0, k1, k2⟩ ?_
  simp only [List.drop_succ_cons, List.drop_zero]
  iterate 6 (apply wpTr_step rfl; (intro W hS K hK; obtain ⟨q0, q1, q2⟩ := hS; go_simp; exact hK _ rfl))
  refine wpTr_make rfl (fun K' hK => ?_)
  go_simp
  refine (clone_sl ka kc d.keys _ (H.out.keep HD.out).ks H.out.kl).mono ?_
  rintro e w1 ⟨kv, rfl, hk, hb⟩
  have HK := Lib.hid hk
  have HXD1 := Lib.hid (HXD.out.keep hb HXD.out.lt)
  have HRD1 := Lib.hid (HRD.out.keep hb HRD.out.lt)
  have HZ1 : Hid (w.heap.size + 1 < wx.drew.heap.size) := HRD.out.lt
  have HD1 := Lib.hid (HD.out.trans (hb.mono HD.out.size))
  have HLO : Hid (wx.drew.heap.size ≤ w1.heap.size) := hb.size
  have k0 := HXD1.out.cell 0 _ rfl
  have k1 := HXD1.out.cell 1 _ rfl
  have k2 := HXD1.out.cell 2 _ rfl
  clear hk hb
  refine hK _ _ _ (fun _ h => h) ⟨k0, k1, k2⟩ ?_
  clear hK K'
  refine wpTr_make rfl (fun K' hK => ?_)
  go_simp
  refine (clone_sl va vc d.vals _ (H.out.keep HD1.out).vs H.out.vl).mono ?_
  rintro e w2 ⟨vv, rfl, hv, hb⟩
  have HV := Lib.hid hv
  have HK2 := Lib.hid (HK.out.keep hb)
  have HRD2 := Lib.hid (HRD1.out.keep hb HRD1.out.lt)
  have HXD2 := Lib.hid (HXD1.out.keep hb HXD1.out.lt)
  have HD2 := Lib.hid (HD1.out.trans (hb.mono HD1.out.size))
  have HNE : Hid (∀ k, kv.ownBlock = some k → vv.ownBlock ≠ some k) := fun k h1 h2 => by
    have := HK.out.lt k h1
    have := hv.own_block k h2
    omega
  have k0 := HXD2.out.cell 0 _ rfl
  have k1 := HXD2.out.cell 1 _ rfl
  have k2 := HXD2.out.cell 2 _ rfl
  clear hv hb
  refine hK _ _ _ (fun _ h => h) ⟨k0, k1, k2⟩ ?_
  clear hK K'
  refine wpTr_nil ?_
  have f0 := HRD2.out.free 0
  have f1 := HRD2.out.free 1
  have f2 := HRD2.out.free 2
  have r0 := HRD2.out.cell 0 _ rfl
  have r1 := HRD2.out.cell 1 _ rfl
  have r2 := HRD2.out.cell 2 _ rfl
  obtain ⟨ak, ck, rfl, _⟩ := ks_form2 HK2.out
  obtain ⟨av, cv, rfl, _⟩ := ks_form2 HV.out
  have hC : Chg [w.heap.size + 1] w2 (((w2.setCell ⟨w.heap.size + 1, 0, none⟩ (.bool d.leaf)).setCell ⟨w.heap.size + 1, 1, none⟩ (.slice ak d.keys.length ck)).setCell ⟨w.heap.size + 1, 2, none⟩ (.slice av d.vals.length cv)) :=
    (((Chg.refl _ _).set _ 0 _ (.inl (by simp))).set _ 1 _ (.inl (by simp))).set _ 2 _ (.inl (by simp))
  have HK3 := Lib.hid ((HK2.out.chg hC (fun k h1 h2 => by rw [List.mem_singleton] at h2; have := HK2.out.own_block k h1; have := HZ1.out; omega)).low (b := w.heap.size) (by have := HZ1.out; omega))
  have HV3 := Lib.hid ((HV.out.chg hC (fun k h1 h2 => by rw [List.mem_singleton] at h2; have := HV.out.own_block k h1; have := HZ1.out; have := HLO.out; omega)).low (b := w.heap.size) (by have := HZ1.out; have := HLO.out; omega))
  have HD3 := Lib.hid (HD2.out.trans (hC.below HD2.out.size (fun k h => by rw [List.mem_singleton] at h; omega)))
  have HR3 := Lib.hid (((HRD2.out.set 0 (.bool d.leaf)).set 1 (.slice ak d.keys.length ck)).set 2 (.slice av d.vals.length cv))
  clear hC
  go_wp2
  refine bodyPost_ret (results_cell_row rfl _ _ (w.heap.size + 1) 30 _ (0, 0) _ rfl HR3.out Try.underlying30 rfl sizeNode) rfl ?_
  exact ⟨_, _, rfl, HK3.out, HV3.out, HNE.out, HD3.out⟩
end Go.Proofs.Ytlkkgboaicjaiaa
