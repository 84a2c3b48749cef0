/-
  Package model: Do.
-/
import Derived.Test.YteimpebfenpifaaGreatDoorMg25
namespace Go.Proofs.YteimpebfenpifaaGreatDoor
open Go Go.RowKit Go.ChangeShapes Go.WideShapes Go.ChangeAt

theorem OpRes.outer {x : TrD} {k : Nat} {w w4 w5 : World} {g a : Nat} {o : OpD} {q : AnsD × GD} {e : Ending} (hf : Fr w g a o w4) (hx : ∀ j ∈ x.blocks, j < w.heap.size) (h : OpRes x k w4 q e w5) :
    ∃ va vn vc, e = .returned (ansV q.1.code q.1.n q.1.data (.slice va vn vc)) ∧ Box w5 a 33 ansZ ∧ ∀ s t y z, OpRes x k w q e ((((w5.setCell ⟨a, 0, none⟩ s).setCell ⟨a, 1, none⟩ t).setCell ⟨a, 2, none⟩ y).setCell ⟨a, 3, none⟩ z) := by
  obtain ⟨v, x', h1, h2, h3, h4, h5, h6, h7, h8⟩ := h
  have hgw := hf.gw
  have hga := hf.ga
  have hal := hf.ba.lt
  have hbx := (hf.chg h6 (fun j hj => by have := hx j hj; omega)).2
  obtain ⟨va, vc, rfl, _, _⟩ := h2.shape
  refine ⟨va, _, vc, h1, hbx, fun s t y z => ?_⟩
  have hx2 : ∀ j ∈ x'.blocks, j ≠ a := by
    intro j hj
    rcases h7 j hj with q | q
    · have := hx j q; omega
    · omega
  refine ⟨_, x', h1, ?_, h3, h4.chg (Chg.only (only_pt4 w5 a s t y z)) (fun j hj hm => hx2 j hj (List.mem_singleton.1 hm)), h5, ?_, fun j hj => ?_, h8⟩
  · refine (Ks.chg h2 (Chg.only (only_pt4 w5 a s t y z)) (fun i hi hm => ?_)).low (by have := hf.toW.size; omega)
    have := h2.own_block i hi
    rw [List.mem_singleton.1 hm] at this
    omega
  · refine ((Chg.of hf.toW (Nat.le_refl _)).trans h6).then (Chg.only (only_pt4 w5 a s t y z)) (fun i hi => .inr ?_)
    rw [List.mem_singleton.1 hi]
    omega
  · rcases h7 j hj with q | q
    · exact .inl q
    · exact .inr (by have := hf.toW.size; omega)
theorem doG_no {G : GD} {o : OpD} (h : o.do_ < 0 ∨ 11 ≤ o.do_) : doG G o = (noA 1, G) := by
  unfold doG
  rw [if_neg (by omega), if_neg (by omega), if_neg (by omega), if_neg (by omega), if_neg (by omega), if_neg (by omega), if_neg (by omega), if_neg (by omega), if_neg (by omega), if_neg (by omega), if_neg (by omega)]

section
variable {x : TrD} {G : GD} {k : Nat} {w : World} (h : TrAt w x) (hr : Rel x.M G k) (hk : k ≤ 1000000)
include h hr hk
set_option maxRecDepth 100000 in
set_option maxHeartbeats 4000000 in
theorem do0_any (o : OpD) (ho : o.do_ = 0) (hp : o.path.size ≤ 100000) (hp2 : o.dst.size ≤ 100000) (hp3 : o.data.size ≤ 1000000) (hI : It w) : Calls Tryz.prog 17 #[.pointer (some ⟨x.b, 0, none⟩), opV o] w (OpRes x k w (doG G o)) := by
  have HT0 := Lib.hid h
  have HX := Lib.hid hr
  have HK := Lib.hid hk
  have HP := Lib.hid hp
  have HP2 := Lib.hid hp2
  have HP3 := Lib.hid hp3
  have HIT := Lib.hid hI
  have HBL : Hid (∀ j ∈ x.blocks, j < w.heap.size) := h.lt
  have HF1 : Hid (Fr w w.heap.size (w.heap.size + 1) o ((w.alloc (.cells #[.int .i64 o.do_, .string o.path, .string o.dst, .int .i64 o.off, .int .i64 o.len, .string o.data] 36 (0, 0))).alloc (.cells #[.int .i64 0, .int .i64 0, .string ⟨#[]⟩, .slice none 0 0] 33 (0, 0)))) := Fr.new w o
  have HT1 := Lib.hid (h.keep HF1.out.toW)
  obtain ⟨R, hR⟩ : ∃ R, R = doG G o := ⟨_, rfl⟩
  have HR := Lib.hid hR
  rw [← hR]
  obtain ⟨g, hg⟩ : ∃ g, g = w.heap.size := ⟨_, rfl⟩
  obtain ⟨a, ha⟩ : ∃ a, a = w.heap.size + 1 := ⟨_, rfl⟩
  rw [← ha, ← hg] at HF1
  have HGW := Lib.hid hg
  have HO := Lib.hid ho
  clear h hr hk hp hp2 hp3 hI hR ho
  unfold opV
  go_enter Tryz.func17, Tryz.ntmps17
  go_wp2_with fail
  rw [← ha, ← hg]
  clear ha hg
  generalize World.alloc (World.alloc w _) _ = w1 at *
  refine (doings_any _).mono ?_
  rintro e1 w2 ⟨rfl, hb⟩
  have HF2 := Lib.hid (HF1.out.keep hb)
  have HT2 := Lib.hid (HT1.out.keep hb)
  clear hb HF1 HT1
  have hal := (Below.refl w2.heap.size w2).alloc (Nat.le_refl _) (.cells #[.func (.func 44) #[] #[], .func (.func 45) #[] #[], .func (.func 46) #[] #[], .func (.func 47) #[] #[], .func (.func 48) #[] #[], .func (.func 49) #[] #[], .func (.func 50) #[] #[], .func (.func 51) #[] #[], .func (.func 52) #[] #[], .func (.func 53) #[] #[], .func (.func 54) #[] #[]] 71 (0, 0))
  have HF3 := Lib.hid (HF2.out.keep hal)
  have HT3 := Lib.hid (HT2.out.keep hal)
  have hbt : Box (w2.alloc (.cells #[.func (.func 44) #[] #[], .func (.func 45) #[] #[], .func (.func 46) #[] #[], .func (.func 47) #[] #[], .func (.func 48) #[] #[], .func (.func 49) #[] #[], .func (.func 50) #[] #[], .func (.func 51) #[] #[], .func (.func 52) #[] #[], .func (.func 53) #[] #[], .func (.func 54) #[] #[]] 71 (0, 0))) w2.heap.size 71 #[.func (.func 44) #[] #[], .func (.func 45) #[] #[], .func (.func 46) #[] #[], .func (.func 47) #[] #[], .func (.func 48) #[] #[], .func (.func 49) #[] #[], .func (.func 50) #[] #[], .func (.func 51) #[] #[], .func (.func 52) #[] #[], .func (.func 53) #[] #[], .func (.func 54) #[] #[]] := Box.new w2 _ _
  have HBT := Lib.hid hbt
  have HMD := Lib.hid (made_any HT3.out)
  obtain ⟨tb, htb⟩ : ∃ tb, tb = w2.heap.size := ⟨_, rfl⟩
  rw [← htb] at HBT
  clear hal hbt
  unfold doingsA
  go_wp2_with (first | (refine table_store rfl _ _ rfl rfl rfl ?_) | fail)
  rw [← htb]
  clear htb
  generalize World.alloc w2 _ = w3 at *
  refine HMD.out.mono ?_
  rintro e1 w3' ⟨rfl, rfl⟩
  clear HMD HT2 HF2
  have c0 : w3'.cell? ⟨g, 0, none⟩ = some (.int .i64 0) := HF3.out.bo.cell 0 _ (by show _ = _; simp [opA, HO.out])
  go_wp2_with fail
  have e0 : w3'.drew.cell? ⟨g, 0, none⟩ = some (.int .i64 0) := c0
  have e1 : w3'.drew.cell? ⟨g, 1, none⟩ = some (.string o.path) := HF3.out.bo.cell 1 _ rfl
  have e2 : w3'.drew.cell? ⟨g, 2, none⟩ = some (.string o.dst) := HF3.out.bo.cell 2 _ rfl
  have e3 : w3'.drew.cell? ⟨g, 3, none⟩ = some (.int .i64 o.off) := HF3.out.bo.cell 3 _ rfl
  have e4 : w3'.drew.cell? ⟨g, 4, none⟩ = some (.int .i64 o.len) := HF3.out.bo.cell 4 _ rfl
  have e5 : w3'.drew.cell? ⟨g, 5, none⟩ = some (.string o.data) := HF3.out.bo.cell 5 _ rfl
  have et : w3'.drew.cell? ⟨tb, 0, none⟩ = some (.func (.func 44) #[] #[]) := HBT.out.cell 0 _ rfl
  refine wp_region_tree (fun W => W.cell? ⟨g, 0, none⟩ = some (.int .i64 0) ∧ W.cell? ⟨g, 1, none⟩ = some (.string o.path) ∧ W.cell? ⟨g, 2, none⟩ = some (.string o.dst) ∧ W.cell? ⟨g, 3, none⟩ = some (.int .i64 o.off) ∧ W.cell? ⟨g, 4, none⟩ = some (.int .i64 o.len) ∧ W.cell? ⟨g, 5, none⟩ = some (.string o.data) ∧ W.cell? ⟨tb, 0, none⟩ = some (.func (.func 44) #[] #[])) 6 (.quiet 0 (.quiet 1 (.quiet 2 (.quiet 3 (.quiet 4 (.quiet 5 .nil)))))) (by kernel_rfl) (by kernel_rfl) ⟨e0, e1, e2, e3, e4, e5, et⟩ ?_
  simp only [List.drop_succ_cons, List.drop_zero]
  iterate 6 (apply wpTr_step rfl; (intro W hS K hK; obtain ⟨u0, u1, u2, u3, u4, u5, ut⟩ := hS; go_simp; exact hK _ rfl))
  refine wpTr_nil ?_
  clear e0 e1 e2 e3 e4 e5 et c0
  have HT4 : Hid (TrAt w3'.drew x) := HT3.out.of (fun _ _ => rfl)
  have HF4 := Lib.hid HF3.out.drew
  have ITW : It w3'.drew := HIT.out.of (HF3.out.toW.block _ HIT.out.lt)
  have HC := Lib.hid (create_any HT4.out HX.out HK.out o HO.out HP.out)
  rw [← HR.out] at HC
  unfold opV opA at HC
  rw [HO.out] at HC
  clear ITW HT3 HF3
  generalize w3'.drew = w4 at *
  go_wp2_with fail
  refine HC.out.mono ?_
  intro e1 w5 hres
  obtain ⟨va, vn, vc, rfl, hbx, hfin⟩ := OpRes.outer HF4.out HBL.out hres
  have HFIN := Lib.hid hfin
  have HBX := Lib.hid hbx
  clear hres hbx hfin HC
  obtain ⟨⟨s1, s2⟩, s3, s4, s5⟩ := HBX.out.st4
  unfold ansV
  go_wp2
  refine bodyPost_ret (results_cell_row rfl _ _ a 33 _ (0, 0) _ rfl (HBX.out.pt4 _ _ _ _) Tryz.underlying33 rfl sizeAns) rfl ?_
  exact HFIN.out _ _ _ _
set_option maxRecDepth 100000 in
set_option maxHeartbeats 4000000 in
theorem do1_any (o : OpD) (ho : o.do_ = 1) (hp : o.path.size ≤ 100000) (hp2 : o.dst.size ≤ 100000) (hp3 : o.data.size ≤ 1000000) (hI : It w) : Calls Tryz.prog 17 #[.pointer (some ⟨x.b, 0, none⟩), opV o] w (OpRes x k w (doG G o)) := by
  have HT0 := Lib.hid h
  have HX := Lib.hid hr
  have HK := Lib.hid hk
  have HP := Lib.hid hp
  have HP2 := Lib.hid hp2
  have HP3 := Lib.hid hp3
  have HIT := Lib.hid hI
  have HBL : Hid (∀ j ∈ x.blocks, j < w.heap.size) := h.lt
  have HF1 : Hid (Fr w w.heap.size (w.heap.size + 1) o ((w.alloc (.cells #[.int .i64 o.do_, .string o.path, .string o.dst, .int .i64 o.off, .int .i64 o.len, .string o.data] 36 (0, 0))).alloc (.cells #[.int .i64 0, .int .i64 0, .string ⟨#[]⟩, .slice none 0 0] 33 (0, 0)))) := Fr.new w o
  have HT1 := Lib.hid (h.keep HF1.out.toW)
  obtain ⟨R, hR⟩ : ∃ R, R = doG G o := ⟨_, rfl⟩
  have HR := Lib.hid hR
  rw [← hR]
  obtain ⟨g, hg⟩ : ∃ g, g = w.heap.size := ⟨_, rfl⟩
  obtain ⟨a, ha⟩ : ∃ a, a = w.heap.size + 1 := ⟨_, rfl⟩
  rw [← ha, ← hg] at HF1
  have HGW := Lib.hid hg
  have HO := Lib.hid ho
  clear h hr hk hp hp2 hp3 hI hR ho
  unfold opV
  go_enter Tryz.func17, Tryz.ntmps17
  go_wp2_with fail
  rw [← ha, ← hg]
  clear ha hg
  generalize World.alloc (World.alloc w _) _ = w1 at *
  refine (doings_any _).mono ?_
  rintro e1 w2 ⟨rfl, hb⟩
  have HF2 := Lib.hid (HF1.out.keep hb)
  have HT2 := Lib.hid (HT1.out.keep hb)
  clear hb HF1 HT1
  have hal := (Below.refl w2.heap.size w2).alloc (Nat.le_refl _) (.cells #[.func (.func 44) #[] #[], .func (.func 45) #[] #[], .func (.func 46) #[] #[], .func (.func 47) #[] #[], .func (.func 48) #[] #[], .func (.func 49) #[] #[], .func (.func 50) #[] #[], .func (.func 51) #[] #[], .func (.func 52) #[] #[], .func (.func 53) #[] #[], .func (.func 54) #[] #[]] 71 (0, 0))
  have HF3 := Lib.hid (HF2.out.keep hal)
  have HT3 := Lib.hid (HT2.out.keep hal)
  have hbt : Box (w2.alloc (.cells #[.func (.func 44) #[] #[], .func (.func 45) #[] #[], .func (.func 46) #[] #[], .func (.func 47) #[] #[], .func (.func 48) #[] #[], .func (.func 49) #[] #[], .func (.func 50) #[] #[], .func (.func 51) #[] #[], .func (.func 52) #[] #[], .func (.func 53) #[] #[], .func (.func 54) #[] #[]] 71 (0, 0))) w2.heap.size 71 #[.func (.func 44) #[] #[], .func (.func 45) #[] #[], .func (.func 46) #[] #[], .func (.func 47) #[] #[], .func (.func 48) #[] #[], .func (.func 49) #[] #[], .func (.func 50) #[] #[], .func (.func 51) #[] #[], .func (.func 52) #[] #[], .func (.func 53) #[] #[], .func (.func 54) #[] #[]] := Box.new w2 _ _
  have HBT := Lib.hid hbt
  have HMD := Lib.hid (made_any HT3.out)
  obtain ⟨tb, htb⟩ : ∃ tb, tb = w2.heap.size := ⟨_, rfl⟩
  rw [← htb] at HBT
  clear hal hbt
  unfold doingsA
  go_wp2_with (first | (refine table_store rfl _ _ rfl rfl rfl ?_) | fail)
  rw [← htb]
  clear htb
  generalize World.alloc w2 _ = w3 at *
  refine HMD.out.mono ?_
  rintro e1 w3' ⟨rfl, rfl⟩
  clear HMD HT2 HF2
  have c0 : w3'.cell? ⟨g, 0, none⟩ = some (.int .i64 1) := HF3.out.bo.cell 0 _ (by show _ = _; simp [opA, HO.out])
  go_wp2_with fail
  have e0 : w3'.drew.cell? ⟨g, 0, none⟩ = some (.int .i64 1) := c0
  have e1 : w3'.drew.cell? ⟨g, 1, none⟩ = some (.string o.path) := HF3.out.bo.cell 1 _ rfl
  have e2 : w3'.drew.cell? ⟨g, 2, none⟩ = some (.string o.dst) := HF3.out.bo.cell 2 _ rfl
  have e3 : w3'.drew.cell? ⟨g, 3, none⟩ = some (.int .i64 o.off) := HF3.out.bo.cell 3 _ rfl
  have e4 : w3'.drew.cell? ⟨g, 4, none⟩ = some (.int .i64 o.len) := HF3.out.bo.cell 4 _ rfl
  have e5 : w3'.drew.cell? ⟨g, 5, none⟩ = some (.string o.data) := HF3.out.bo.cell 5 _ rfl
  have et : w3'.drew.cell? ⟨tb, 1, none⟩ = some (.func (.func 45) #[] #[]) := HBT.out.cell 1 _ rfl
  refine wp_region_tree (fun W => W.cell? ⟨g, 0, none⟩ = some (.int .i64 1) ∧ W.cell? ⟨g, 1, none⟩ = some (.string o.path) ∧ W.cell? ⟨g, 2, none⟩ = some (.string o.dst) ∧ W.cell? ⟨g, 3, none⟩ = some (.int .i64 o.off) ∧ W.cell? ⟨g, 4, none⟩ = some (.int .i64 o.len) ∧ W.cell? ⟨g, 5, none⟩ = some (.string o.data) ∧ W.cell? ⟨tb, 1, none⟩ = some (.func (.func 45) #[] #[])) 6 (.quiet 0 (.quiet 1 (.quiet 2 (.quiet 3 (.quiet 4 (.quiet 5 .nil)))))) (by kernel_rfl) (by kernel_rfl) ⟨e0, e1, e2, e3, e4, e5, et⟩ ?_
  simp only [List.drop_succ_cons, List.drop_zero]
  iterate 6 (apply wpTr_step rfl; (intro W hS K hK; obtain ⟨u0, u1, u2, u3, u4, u5, ut⟩ := hS; go_simp; exact hK _ rfl))
  refine wpTr_nil ?_
  clear e0 e1 e2 e3 e4 e5 et c0
  have HT4 : Hid (TrAt w3'.drew x) := HT3.out.of (fun _ _ => rfl)
  have HF4 := Lib.hid HF3.out.drew
  have ITW : It w3'.drew := HIT.out.of (HF3.out.toW.block _ HIT.out.lt)
  have HC := Lib.hid (mkdir_any HT4.out HX.out HK.out o HO.out HP.out)
  rw [← HR.out] at HC
  unfold opV opA at HC
  rw [HO.out] at HC
  clear ITW HT3 HF3
  generalize w3'.drew = w4 at *
  go_wp2_with fail
  refine HC.out.mono ?_
  intro e1 w5 hres
  obtain ⟨va, vn, vc, rfl, hbx, hfin⟩ := OpRes.outer HF4.out HBL.out hres
  have HFIN := Lib.hid hfin
  have HBX := Lib.hid hbx
  clear hres hbx hfin HC
  obtain ⟨⟨s1, s2⟩, s3, s4, s5⟩ := HBX.out.st4
  unfold ansV
  go_wp2
  refine bodyPost_ret (results_cell_row rfl _ _ a 33 _ (0, 0) _ rfl (HBX.out.pt4 _ _ _ _) Tryz.underlying33 rfl sizeAns) rfl ?_
  exact HFIN.out _ _ _ _
set_option maxRecDepth 100000 in
set_option maxHeartbeats 4000000 in
theorem do2_any (o : OpD) (ho : o.do_ = 2) (hp : o.path.size ≤ 100000) (hp2 : o.dst.size ≤ 100000) (hp3 : o.data.size ≤ 1000000) (hI : It w) : Calls Tryz.prog 17 #[.pointer (some ⟨x.b, 0, none⟩), opV o] w (OpRes x k w (doG G o)) := by
  have HT0 := Lib.hid h
  have HX := Lib.hid hr
  have HK := Lib.hid hk
  have HP := Lib.hid hp
  have HP2 := Lib.hid hp2
  have HP3 := Lib.hid hp3
  have HIT := Lib.hid hI
  have HBL : Hid (∀ j ∈ x.blocks, j < w.heap.size) := h.lt
  have HF1 : Hid (Fr w w.heap.size (w.heap.size + 1) o ((w.alloc (.cells #[.int .i64 o.do_, .string o.path, .string o.dst, .int .i64 o.off, .int .i64 o.len, .string o.data] 36 (0, 0))).alloc (.cells #[.int .i64 0, .int .i64 0, .string ⟨#[]⟩, .slice none 0 0] 33 (0, 0)))) := Fr.new w o
  have HT1 := Lib.hid (h.keep HF1.out.toW)
  obtain ⟨R, hR⟩ : ∃ R, R = doG G o := ⟨_, rfl⟩
  have HR := Lib.hid hR
  rw [← hR]
  obtain ⟨g, hg⟩ : ∃ g, g = w.heap.size := ⟨_, rfl⟩
  obtain ⟨a, ha⟩ : ∃ a, a = w.heap.size + 1 := ⟨_, rfl⟩
  rw [← ha, ← hg] at HF1
  have HGW := Lib.hid hg
  have HO := Lib.hid ho
  clear h hr hk hp hp2 hp3 hI hR ho
  unfold opV
  go_enter Tryz.func17, Tryz.ntmps17
  go_wp2_with fail
  rw [← ha, ← hg]
  clear ha hg
  generalize World.alloc (World.alloc w _) _ = w1 at *
  refine (doings_any _).mono ?_
  rintro e1 w2 ⟨rfl, hb⟩
  have HF2 := Lib.hid (HF1.out.keep hb)
  have HT2 := Lib.hid (HT1.out.keep hb)
  clear hb HF1 HT1
  have hal := (Below.refl w2.heap.size w2).alloc (Nat.le_refl _) (.cells #[.func (.func 44) #[] #[], .func (.func 45) #[] #[], .func (.func 46) #[] #[], .func (.func 47) #[] #[], .func (.func 48) #[] #[], .func (.func 49) #[] #[], .func (.func 50) #[] #[], .func (.func 51) #[] #[], .func (.func 52) #[] #[], .func (.func 53) #[] #[], .func (.func 54) #[] #[]] 71 (0, 0))
  have HF3 := Lib.hid (HF2.out.keep hal)
  have HT3 := Lib.hid (HT2.out.keep hal)
  have hbt : Box (w2.alloc (.cells #[.func (.func 44) #[] #[], .func (.func 45) #[] #[], .func (.func 46) #[] #[], .func (.func 47) #[] #[], .func (.func 48) #[] #[], .func (.func 49) #[] #[], .func (.func 50) #[] #[], .func (.func 51) #[] #[], .func (.func 52) #[] #[], .func (.func 53) #[] #[], .func (.func 54) #[] #[]] 71 (0, 0))) w2.heap.size 71 #[.func (.func 44) #[] #[], .func (.func 45) #[] #[], .func (.func 46) #[] #[], .func (.func 47) #[] #[], .func (.func 48) #[] #[], .func (.func 49) #[] #[], .func (.func 50) #[] #[], .func (.func 51) #[] #[], .func (.func 52) #[] #[], .func (.func 53) #[] #[], .func (.func 54) #[] #[]] := Box.new w2 _ _
  have HBT := Lib.hid hbt
  have HMD := Lib.hid (made_any HT3.out)
  obtain ⟨tb, htb⟩ : ∃ tb, tb = w2.heap.size := ⟨_, rfl⟩
  rw [← htb] at HBT
  clear hal hbt
  unfold doingsA
  go_wp2_with (first | (refine table_store rfl _ _ rfl rfl rfl ?_) | fail)
  rw [← htb]
  clear htb
  generalize World.alloc w2 _ = w3 at *
  refine HMD.out.mono ?_
  rintro e1 w3' ⟨rfl, rfl⟩
  clear HMD HT2 HF2
  have c0 : w3'.cell? ⟨g, 0, none⟩ = some (.int .i64 2) := HF3.out.bo.cell 0 _ (by show _ = _; simp [opA, HO.out])
  go_wp2_with fail
  have e0 : w3'.drew.cell? ⟨g, 0, none⟩ = some (.int .i64 2) := c0
  have e1 : w3'.drew.cell? ⟨g, 1, none⟩ = some (.string o.path) := HF3.out.bo.cell 1 _ rfl
  have e2 : w3'.drew.cell? ⟨g, 2, none⟩ = some (.string o.dst) := HF3.out.bo.cell 2 _ rfl
  have e3 : w3'.drew.cell? ⟨g, 3, none⟩ = some (.int .i64 o.off) := HF3.out.bo.cell 3 _ rfl
  have e4 : w3'.drew.cell? ⟨g, 4, none⟩ = some (.int .i64 o.len) := HF3.out.bo.cell 4 _ rfl
  have e5 : w3'.drew.cell? ⟨g, 5, none⟩ = some (.string o.data) := HF3.out.bo.cell 5 _ rfl
  have et : w3'.drew.cell? ⟨tb, 2, none⟩ = some (.func (.func 46) #[] #[]) := HBT.out.cell 2 _ rfl
  refine wp_region_tree (fun W => W.cell? ⟨g, 0, none⟩ = some (.int .i64 2) ∧ W.cell? ⟨g, 1, none⟩ = some (.string o.path) ∧ W.cell? ⟨g, 2, none⟩ = some (.string o.dst) ∧ W.cell? ⟨g, 3, none⟩ = some (.int .i64 o.off) ∧ W.cell? ⟨g, 4, none⟩ = some (.int .i64 o.len) ∧ W.cell? ⟨g, 5, none⟩ = some (.string o.data) ∧ W.cell? ⟨tb, 2, none⟩ = some (.func (.func 46) #[] #[])) 6 (.quiet 0 (.quiet 1 (.quiet 2 (.quiet 3 (.quiet 4 (.quiet 5 .nil)))))) (by kernel_rfl) (by kernel_rfl) ⟨e0, e1, e2, e3, e4, e5, et⟩ ?_
  simp only [List.drop_succ_cons, List.drop_zero]
  iterate 6 (apply wpTr_step rfl; (intro W hS K hK; obtain ⟨u0, u1, u2, u3, u4, u5, ut⟩ := hS; go_simp; exact hK _ rfl))
  refine wpTr_nil ?_
  clear e0 e1 e2 e3 e4 e5 et c0
  have HT4 : Hid (TrAt w3'.drew x) := HT3.out.of (fun _ _ => rfl)
  have HF4 := Lib.hid HF3.out.drew
  have ITW : It w3'.drew := HIT.out.of (HF3.out.toW.block _ HIT.out.lt)
  have HC := Lib.hid (link_any HT4.out HX.out HK.out o HO.out HP.out HP2.out)
  rw [← HR.out] at HC
  unfold opV opA at HC
  rw [HO.out] at HC
  clear ITW HT3 HF3
  generalize w3'.drew = w4 at *
  go_wp2_with fail
  refine HC.out.mono ?_
  intro e1 w5 hres
  obtain ⟨va, vn, vc, rfl, hbx, hfin⟩ := OpRes.outer HF4.out HBL.out hres
  have HFIN := Lib.hid hfin
  have HBX := Lib.hid hbx
  clear hres hbx hfin HC
  obtain ⟨⟨s1, s2⟩, s3, s4, s5⟩ := HBX.out.st4
  unfold ansV
  go_wp2
  refine bodyPost_ret (results_cell_row rfl _ _ a 33 _ (0, 0) _ rfl (HBX.out.pt4 _ _ _ _) Tryz.underlying33 rfl sizeAns) rfl ?_
  exact HFIN.out _ _ _ _
set_option maxRecDepth 100000 in
set_option maxHeartbeats 4000000 in
theorem do3_any (o : OpD) (ho : o.do_ = 3) (hp : o.path.size ≤ 100000) (hp2 : o.dst.size ≤ 100000) (hp3 : o.data.size ≤ 1000000) (hI : It w) : Calls Tryz.prog 17 #[.pointer (some ⟨x.b, 0, none⟩), opV o] w (OpRes x k w (doG G o)) := by
  have HT0 := Lib.hid h
  have HX := Lib.hid hr
  have HK := Lib.hid hk
  have HP := Lib.hid hp
  have HP2 := Lib.hid hp2
  have HP3 := Lib.hid hp3
  have HIT := Lib.hid hI
  have HBL : Hid (∀ j ∈ x.blocks, j < w.heap.size) := h.lt
  have HF1 : Hid (Fr w w.heap.size (w.heap.size + 1) o ((w.alloc (.cells #[.int .i64 o.do_, .string o.path, .string o.dst, .int .i64 o.off, .int .i64 o.len, .string o.data] 36 (0, 0))).alloc (.cells #[.int .i64 0, .int .i64 0, .string ⟨#[]⟩, .slice none 0 0] 33 (0, 0)))) := Fr.new w o
  have HT1 := Lib.hid (h.keep HF1.out.toW)
  obtain ⟨R, hR⟩ : ∃ R, R = doG G o := ⟨_, rfl⟩
  have HR := Lib.hid hR
  rw [← hR]
  obtain ⟨g, hg⟩ : ∃ g, g = w.heap.size := ⟨_, rfl⟩
  obtain ⟨a, ha⟩ : ∃ a, a = w.heap.size + 1 := ⟨_, rfl⟩
  rw [← ha, ← hg] at HF1
  have HGW := Lib.hid hg
  have HO := Lib.hid ho
  clear h hr hk hp hp2 hp3 hI hR ho
  unfold opV
  go_enter Tryz.func17, Tryz.ntmps17
  go_wp2_with fail
  rw [← ha, ← hg]
  clear ha hg
  generalize World.alloc (World.alloc w _) _ = w1 at *
  refine (doings_any _).mono ?_
  rintro e1 w2 ⟨rfl, hb⟩
  have HF2 := Lib.hid (HF1.out.keep hb)
  have HT2 := Lib.hid (HT1.out.keep hb)
  clear hb HF1 HT1
  have hal := (Below.refl w2.heap.size w2).alloc (Nat.le_refl _) (.cells #[.func (.func 44) #[] #[], .func (.func 45) #[] #[], .func (.func 46) #[] #[], .func (.func 47) #[] #[], .func (.func 48) #[] #[], .func (.func 49) #[] #[], .func (.func 50) #[] #[], .func (.func 51) #[] #[], .func (.func 52) #[] #[], .func (.func 53) #[] #[], .func (.func 54) #[] #[]] 71 (0, 0))
  have HF3 := Lib.hid (HF2.out.keep hal)
  have HT3 := Lib.hid (HT2.out.keep hal)
  have hbt : Box (w2.alloc (.cells #[.func (.func 44) #[] #[], .func (.func 45) #[] #[], .func (.func 46) #[] #[], .func (.func 47) #[] #[], .func (.func 48) #[] #[], .func (.func 49) #[] #[], .func (.func 50) #[] #[], .func (.func 51) #[] #[], .func (.func 52) #[] #[], .func (.func 53) #[] #[], .func (.func 54) #[] #[]] 71 (0, 0))) w2.heap.size 71 #[.func (.func 44) #[] #[], .func (.func 45) #[] #[], .func (.func 46) #[] #[], .func (.func 47) #[] #[], .func (.func 48) #[] #[], .func (.func 49) #[] #[], .func (.func 50) #[] #[], .func (.func 51) #[] #[], .func (.func 52) #[] #[], .func (.func 53) #[] #[], .func (.func 54) #[] #[]] := Box.new w2 _ _
  have HBT := Lib.hid hbt
  have HMD := Lib.hid (made_any HT3.out)
  obtain ⟨tb, htb⟩ : ∃ tb, tb = w2.heap.size := ⟨_, rfl⟩
  rw [← htb] at HBT
  clear hal hbt
  unfold doingsA
  go_wp2_with (first | (refine table_store rfl _ _ rfl rfl rfl ?_) | fail)
  rw [← htb]
  clear htb
  generalize World.alloc w2 _ = w3 at *
  refine HMD.out.mono ?_
  rintro e1 w3' ⟨rfl, rfl⟩
  clear HMD HT2 HF2
  have c0 : w3'.cell? ⟨g, 0, none⟩ = some (.int .i64 3) := HF3.out.bo.cell 0 _ (by show _ = _; simp [opA, HO.out])
  go_wp2_with fail
  have e0 : w3'.drew.cell? ⟨g, 0, none⟩ = some (.int .i64 3) := c0
  have e1 : w3'.drew.cell? ⟨g, 1, none⟩ = some (.string o.path) := HF3.out.bo.cell 1 _ rfl
  have e2 : w3'.drew.cell? ⟨g, 2, none⟩ = some (.string o.dst) := HF3.out.bo.cell 2 _ rfl
  have e3 : w3'.drew.cell? ⟨g, 3, none⟩ = some (.int .i64 o.off) := HF3.out.bo.cell 3 _ rfl
  have e4 : w3'.drew.cell? ⟨g, 4, none⟩ = some (.int .i64 o.len) := HF3.out.bo.cell 4 _ rfl
  have e5 : w3'.drew.cell? ⟨g, 5, none⟩ = some (.string o.data) := HF3.out.bo.cell 5 _ rfl
  have et : w3'.drew.cell? ⟨tb, 3, none⟩ = some (.func (.func 47) #[] #[]) := HBT.out.cell 3 _ rfl
  refine wp_region_tree (fun W => W.cell? ⟨g, 0, none⟩ = some (.int .i64 3) ∧ W.cell? ⟨g, 1, none⟩ = some (.string o.path) ∧ W.cell? ⟨g, 2, none⟩ = some (.string o.dst) ∧ W.cell? ⟨g, 3, none⟩ = some (.int .i64 o.off) ∧ W.cell? ⟨g, 4, none⟩ = some (.int .i64 o.len) ∧ W.cell? ⟨g, 5, none⟩ = some (.string o.data) ∧ W.cell? ⟨tb, 3, none⟩ = some (.func (.func 47) #[] #[])) 6 (.quiet 0 (.quiet 1 (.quiet 2 (.quiet 3 (.quiet 4 (.quiet 5 .nil)))))) (by kernel_rfl) (by kernel_rfl) ⟨e0, e1, e2, e3, e4, e5, et⟩ ?_
  simp only [List.drop_succ_cons, List.drop_zero]
  iterate 6 (apply wpTr_step rfl; (intro W hS K hK; obtain ⟨u0, u1, u2, u3, u4, u5, ut⟩ := hS; go_simp; exact hK _ rfl))
  refine wpTr_nil ?_
  clear e0 e1 e2 e3 e4 e5 et c0
  have HT4 : Hid (TrAt w3'.drew x) := HT3.out.of (fun _ _ => rfl)
  have HF4 := Lib.hid HF3.out.drew
  have ITW : It w3'.drew := HIT.out.of (HF3.out.toW.block _ HIT.out.lt)
  have HC := Lib.hid (unlink_any HT4.out HX.out HK.out o HO.out HP.out)
  rw [← HR.out] at HC
  unfold opV opA at HC
  rw [HO.out] at HC
  clear ITW HT3 HF3
  generalize w3'.drew = w4 at *
  go_wp2_with fail
  refine HC.out.mono ?_
  intro e1 w5 hres
  obtain ⟨va, vn, vc, rfl, hbx, hfin⟩ := OpRes.outer HF4.out HBL.out hres
  have HFIN := Lib.hid hfin
  have HBX := Lib.hid hbx
  clear hres hbx hfin HC
  obtain ⟨⟨s1, s2⟩, s3, s4, s5⟩ := HBX.out.st4
  unfold ansV
  go_wp2
  refine bodyPost_ret (results_cell_row rfl _ _ a 33 _ (0, 0) _ rfl (HBX.out.pt4 _ _ _ _) Tryz.underlying33 rfl sizeAns) rfl ?_
  exact HFIN.out _ _ _ _
set_option maxRecDepth 100000 in
set_option maxHeartbeats 4000000 in
theorem do4_any (o : OpD) (ho : o.do_ = 4) (hp : o.path.size ≤ 100000) (hp2 : o.dst.size ≤ 100000) (hp3 : o.data.size ≤ 1000000) (hI : It w) : Calls Tryz.prog 17 #[.pointer (some ⟨x.b, 0, none⟩), opV o] w (OpRes x k w (doG G o)) := by
  have HT0 := Lib.hid h
  have HX := Lib.hid hr
  have HK := Lib.hid hk
  have HP := Lib.hid hp
  have HP2 := Lib.hid hp2
  have HP3 := Lib.hid hp3
  have HIT := Lib.hid hI
  have HBL : Hid (∀ j ∈ x.blocks, j < w.heap.size) := h.lt
  have HF1 : Hid (Fr w w.heap.size (w.heap.size + 1) o ((w.alloc (.cells #[.int .i64 o.do_, .string o.path, .string o.dst, .int .i64 o.off, .int .i64 o.len, .string o.data] 36 (0, 0))).alloc (.cells #[.int .i64 0, .int .i64 0, .string ⟨#[]⟩, .slice none 0 0] 33 (0, 0)))) := Fr.new w o
  have HT1 := Lib.hid (h.keep HF1.out.toW)
  obtain ⟨R, hR⟩ : ∃ R, R = doG G o := ⟨_, rfl⟩
  have HR := Lib.hid hR
  rw [← hR]
  obtain ⟨g, hg⟩ : ∃ g, g = w.heap.size := ⟨_, rfl⟩
  obtain ⟨a, ha⟩ : ∃ a, a = w.heap.size + 1 := ⟨_, rfl⟩
  rw [← ha, ← hg] at HF1
  have HGW := Lib.hid hg
  have HO := Lib.hid ho
  clear h hr hk hp hp2 hp3 hI hR ho
  unfold opV
  go_enter Tryz.func17, Tryz.ntmps17
  go_wp2_with fail
  rw [← ha, ← hg]
  clear ha hg
  generalize World.alloc (World.alloc w _) _ = w1 at *
  refine (doings_any _).mono ?_
  rintro e1 w2 ⟨rfl, hb⟩
  have HF2 := Lib.hid (HF1.out.keep hb)
  have HT2 := Lib.hid (HT1.out.keep hb)
  clear hb HF1 HT1
  have hal := (Below.refl w2.heap.size w2).alloc (Nat.le_refl _) (.cells #[.func (.func 44) #[] #[], .func (.func 45) #[] #[], .func (.func 46) #[] #[], .func (.func 47) #[] #[], .func (.func 48) #[] #[], .func (.func 49) #[] #[], .func (.func 50) #[] #[], .func (.func 51) #[] #[], .func (.func 52) #[] #[], .func (.func 53) #[] #[], .func (.func 54) #[] #[]] 71 (0, 0))
  have HF3 := Lib.hid (HF2.out.keep hal)
  have HT3 := Lib.hid (HT2.out.keep hal)
  have hbt : Box (w2.alloc (.cells #[.func (.func 44) #[] #[], .func (.func 45) #[] #[], .func (.func 46) #[] #[], .func (.func 47) #[] #[], .func (.func 48) #[] #[], .func (.func 49) #[] #[], .func (.func 50) #[] #[], .func (.func 51) #[] #[], .func (.func 52) #[] #[], .func (.func 53) #[] #[], .func (.func 54) #[] #[]] 71 (0, 0))) w2.heap.size 71 #[.func (.func 44) #[] #[], .func (.func 45) #[] #[], .func (.func 46) #[] #[], .func (.func 47) #[] #[], .func (.func 48) #[] #[], .func (.func 49) #[] #[], .func (.func 50) #[] #[], .func (.func 51) #[] #[], .func (.func 52) #[] #[], .func (.func 53) #[] #[], .func (.func 54) #[] #[]] := Box.new w2 _ _
  have HBT := Lib.hid hbt
  have HMD := Lib.hid (made_any HT3.out)
  obtain ⟨tb, htb⟩ : ∃ tb, tb = w2.heap.size := ⟨_, rfl⟩
  rw [← htb] at HBT
  clear hal hbt
  unfold doingsA
  go_wp2_with (first | (refine table_store rfl _ _ rfl rfl rfl ?_) | fail)
  rw [← htb]
  clear htb
  generalize World.alloc w2 _ = w3 at *
  refine HMD.out.mono ?_
  rintro e1 w3' ⟨rfl, rfl⟩
  clear HMD HT2 HF2
  have c0 : w3'.cell? ⟨g, 0, none⟩ = some (.int .i64 4) := HF3.out.bo.cell 0 _ (by show _ = _; simp [opA, HO.out])
  go_wp2_with fail
  have e0 : w3'.drew.cell? ⟨g, 0, none⟩ = some (.int .i64 4) := c0
  have e1 : w3'.drew.cell? ⟨g, 1, none⟩ = some (.string o.path) := HF3.out.bo.cell 1 _ rfl
  have e2 : w3'.drew.cell? ⟨g, 2, none⟩ = some (.string o.dst) := HF3.out.bo.cell 2 _ rfl
  have e3 : w3'.drew.cell? ⟨g, 3, none⟩ = some (.int .i64 o.off) := HF3.out.bo.cell 3 _ rfl
  have e4 : w3'.drew.cell? ⟨g, 4, none⟩ = some (.int .i64 o.len) := HF3.out.bo.cell 4 _ rfl
  have e5 : w3'.drew.cell? ⟨g, 5, none⟩ = some (.string o.data) := HF3.out.bo.cell 5 _ rfl
  have et : w3'.drew.cell? ⟨tb, 4, none⟩ = some (.func (.func 48) #[] #[]) := HBT.out.cell 4 _ rfl
  refine wp_region_tree (fun W => W.cell? ⟨g, 0, none⟩ = some (.int .i64 4) ∧ W.cell? ⟨g, 1, none⟩ = some (.string o.path) ∧ W.cell? ⟨g, 2, none⟩ = some (.string o.dst) ∧ W.cell? ⟨g, 3, none⟩ = some (.int .i64 o.off) ∧ W.cell? ⟨g, 4, none⟩ = some (.int .i64 o.len) ∧ W.cell? ⟨g, 5, none⟩ = some (.string o.data) ∧ W.cell? ⟨tb, 4, none⟩ = some (.func (.func 48) #[] #[])) 6 (.quiet 0 (.quiet 1 (.quiet 2 (.quiet 3 (.quiet 4 (.quiet 5 .nil)))))) (by kernel_rfl) (by kernel_rfl) ⟨e0, e1, e2, e3, e4, e5, et⟩ ?_
  simp only [List.drop_succ_cons, List.drop_zero]
  iterate 6 (apply wpTr_step rfl; (intro W hS K hK; obtain ⟨u0, u1, u2, u3, u4, u5, ut⟩ := hS; go_simp; exact hK _ rfl))
  refine wpTr_nil ?_
  clear e0 e1 e2 e3 e4 e5 et c0
  have HT4 : Hid (TrAt w3'.drew x) := HT3.out.of (fun _ _ => rfl)
  have HF4 := Lib.hid HF3.out.drew
  have ITW : It w3'.drew := HIT.out.of (HF3.out.toW.block _ HIT.out.lt)
  have HC := Lib.hid (rmdir_any HT4.out HX.out HK.out o HO.out HP.out)
  rw [← HR.out] at HC
  unfold opV opA at HC
  rw [HO.out] at HC
  clear ITW HT3 HF3
  generalize w3'.drew = w4 at *
  go_wp2_with fail
  refine HC.out.mono ?_
  intro e1 w5 hres
  obtain ⟨va, vn, vc, rfl, hbx, hfin⟩ := OpRes.outer HF4.out HBL.out hres
  have HFIN := Lib.hid hfin
  have HBX := Lib.hid hbx
  clear hres hbx hfin HC
  obtain ⟨⟨s1, s2⟩, s3, s4, s5⟩ := HBX.out.st4
  unfold ansV
  go_wp2
  refine bodyPost_ret (results_cell_row rfl _ _ a 33 _ (0, 0) _ rfl (HBX.out.pt4 _ _ _ _) Tryz.underlying33 rfl sizeAns) rfl ?_
  exact HFIN.out _ _ _ _
set_option maxRecDepth 100000 in
set_option maxHeartbeats 4000000 in
theorem do5_any (o : OpD) (ho : o.do_ = 5) (hp : o.path.size ≤ 100000) (hp2 : o.dst.size ≤ 100000) (hp3 : o.data.size ≤ 1000000) (hI : It w) : Calls Tryz.prog 17 #[.pointer (some ⟨x.b, 0, none⟩), opV o] w (OpRes x k w (doG G o)) := by
  have HT0 := Lib.hid h
  have HX := Lib.hid hr
  have HK := Lib.hid hk
  have HP := Lib.hid hp
  have HP2 := Lib.hid hp2
  have HP3 := Lib.hid hp3
  have HIT := Lib.hid hI
  have HBL : Hid (∀ j ∈ x.blocks, j < w.heap.size) := h.lt
  have HF1 : Hid (Fr w w.heap.size (w.heap.size + 1) o ((w.alloc (.cells #[.int .i64 o.do_, .string o.path, .string o.dst, .int .i64 o.off, .int .i64 o.len, .string o.data] 36 (0, 0))).alloc (.cells #[.int .i64 0, .int .i64 0, .string ⟨#[]⟩, .slice none 0 0] 33 (0, 0)))) := Fr.new w o
  have HT1 := Lib.hid (h.keep HF1.out.toW)
  obtain ⟨R, hR⟩ : ∃ R, R = doG G o := ⟨_, rfl⟩
  have HR := Lib.hid hR
  rw [← hR]
  obtain ⟨g, hg⟩ : ∃ g, g = w.heap.size := ⟨_, rfl⟩
  obtain ⟨a, ha⟩ : ∃ a, a = w.heap.size + 1 := ⟨_, rfl⟩
  rw [← ha, ← hg] at HF1
  have HGW := Lib.hid hg
  have HO := Lib.hid ho
  clear h hr hk hp hp2 hp3 hI hR ho
  unfold opV
  go_enter Tryz.func17, Tryz.ntmps17
  go_wp2_with fail
  rw [← ha, ← hg]
  clear ha hg
  generalize World.alloc (World.alloc w _) _ = w1 at *
  refine (doings_any _).mono ?_
  rintro e1 w2 ⟨rfl, hb⟩
  have HF2 := Lib.hid (HF1.out.keep hb)
  have HT2 := Lib.hid (HT1.out.keep hb)
  clear hb HF1 HT1
  have hal := (Below.refl w2.heap.size w2).alloc (Nat.le_refl _) (.cells #[.func (.func 44) #[] #[], .func (.func 45) #[] #[], .func (.func 46) #[] #[], .func (.func 47) #[] #[], .func (.func 48) #[] #[], .func (.func 49) #[] #[], .func (.func 50) #[] #[], .func (.func 51) #[] #[], .func (.func 52) #[] #[], .func (.func 53) #[] #[], .func (.func 54) #[] #[]] 71 (0, 0))
  have HF3 := Lib.hid (HF2.out.keep hal)
  have HT3 := Lib.hid (HT2.out.keep hal)
  have hbt : Box (w2.alloc (.cells #[.func (.func 44) #[] #[], .func (.func 45) #[] #[], .func (.func 46) #[] #[], .func (.func 47) #[] #[], .func (.func 48) #[] #[], .func (.func 49) #[] #[], .func (.func 50) #[] #[], .func (.func 51) #[] #[], .func (.func 52) #[] #[], .func (.func 53) #[] #[], .func (.func 54) #[] #[]] 71 (0, 0))) w2.heap.size 71 #[.func (.func 44) #[] #[], .func (.func 45) #[] #[], .func (.func 46) #[] #[], .func (.func 47) #[] #[], .func (.func 48) #[] #[], .func (.func 49) #[] #[], .func (.func 50) #[] #[], .func (.func 51) #[] #[], .func (.func 52) #[] #[], .func (.func 53) #[] #[], .func (.func 54) #[] #[]] := Box.new w2 _ _
  have HBT := Lib.hid hbt
  have HMD := Lib.hid (made_any HT3.out)
  obtain ⟨tb, htb⟩ : ∃ tb, tb = w2.heap.size := ⟨_, rfl⟩
  rw [← htb] at HBT
  clear hal hbt
  unfold doingsA
  go_wp2_with (first | (refine table_store rfl _ _ rfl rfl rfl ?_) | fail)
  rw [← htb]
  clear htb
  generalize World.alloc w2 _ = w3 at *
  refine HMD.out.mono ?_
  rintro e1 w3' ⟨rfl, rfl⟩
  clear HMD HT2 HF2
  have c0 : w3'.cell? ⟨g, 0, none⟩ = some (.int .i64 5) := HF3.out.bo.cell 0 _ (by show _ = _; simp [opA, HO.out])
  go_wp2_with fail
  have e0 : w3'.drew.cell? ⟨g, 0, none⟩ = some (.int .i64 5) := c0
  have e1 : w3'.drew.cell? ⟨g, 1, none⟩ = some (.string o.path) := HF3.out.bo.cell 1 _ rfl
  have e2 : w3'.drew.cell? ⟨g, 2, none⟩ = some (.string o.dst) := HF3.out.bo.cell 2 _ rfl
  have e3 : w3'.drew.cell? ⟨g, 3, none⟩ = some (.int .i64 o.off) := HF3.out.bo.cell 3 _ rfl
  have e4 : w3'.drew.cell? ⟨g, 4, none⟩ = some (.int .i64 o.len) := HF3.out.bo.cell 4 _ rfl
  have e5 : w3'.drew.cell? ⟨g, 5, none⟩ = some (.string o.data) := HF3.out.bo.cell 5 _ rfl
  have et : w3'.drew.cell? ⟨tb, 5, none⟩ = some (.func (.func 49) #[] #[]) := HBT.out.cell 5 _ rfl
  refine wp_region_tree (fun W => W.cell? ⟨g, 0, none⟩ = some (.int .i64 5) ∧ W.cell? ⟨g, 1, none⟩ = some (.string o.path) ∧ W.cell? ⟨g, 2, none⟩ = some (.string o.dst) ∧ W.cell? ⟨g, 3, none⟩ = some (.int .i64 o.off) ∧ W.cell? ⟨g, 4, none⟩ = some (.int .i64 o.len) ∧ W.cell? ⟨g, 5, none⟩ = some (.string o.data) ∧ W.cell? ⟨tb, 5, none⟩ = some (.func (.func 49) #[] #[])) 6 (.quiet 0 (.quiet 1 (.quiet 2 (.quiet 3 (.quiet 4 (.quiet 5 .nil)))))) (by kernel_rfl) (by kernel_rfl) ⟨e0, e1, e2, e3, e4, e5, et⟩ ?_
  simp only [List.drop_succ_cons, List.drop_zero]
  iterate 6 (apply wpTr_step rfl; (intro W hS K hK; obtain ⟨u0, u1, u2, u3, u4, u5, ut⟩ := hS; go_simp; exact hK _ rfl))
  refine wpTr_nil ?_
  clear e0 e1 e2 e3 e4 e5 et c0
  have HT4 : Hid (TrAt w3'.drew x) := HT3.out.of (fun _ _ => rfl)
  have HF4 := Lib.hid HF3.out.drew
  have ITW : It w3'.drew := HIT.out.of (HF3.out.toW.block _ HIT.out.lt)
  have HC := Lib.hid (rename_any HT4.out HX.out HK.out o HO.out HP.out HP2.out)
  rw [← HR.out] at HC
  unfold opV opA at HC
  rw [HO.out] at HC
  clear ITW HT3 HF3
  generalize w3'.drew = w4 at *
  go_wp2_with fail
  refine HC.out.mono ?_
  intro e1 w5 hres
  obtain ⟨va, vn, vc, rfl, hbx, hfin⟩ := OpRes.outer HF4.out HBL.out hres
  have HFIN := Lib.hid hfin
  have HBX := Lib.hid hbx
  clear hres hbx hfin HC
  obtain ⟨⟨s1, s2⟩, s3, s4, s5⟩ := HBX.out.st4
  unfold ansV
  go_wp2
  refine bodyPost_ret (results_cell_row rfl _ _ a 33 _ (0, 0) _ rfl (HBX.out.pt4 _ _ _ _) Tryz.underlying33 rfl sizeAns) rfl ?_
  exact HFIN.out _ _ _ _
set_option maxRecDepth 100000 in
set_option maxHeartbeats 4000000 in
theorem do6_any (o : OpD) (ho : o.do_ = 6) (hp : o.path.size ≤ 100000) (hp2 : o.dst.size ≤ 100000) (hp3 : o.data.size ≤ 1000000) (hI : It w) : Calls Tryz.prog 17 #[.pointer (some ⟨x.b, 0, none⟩), opV o] w (OpRes x k w (doG G o)) := by
  have HT0 := Lib.hid h
  have HX := Lib.hid hr
  have HK := Lib.hid hk
  have HP := Lib.hid hp
  have HP2 := Lib.hid hp2
  have HP3 := Lib.hid hp3
  have HIT := Lib.hid hI
  have HBL : Hid (∀ j ∈ x.blocks, j < w.heap.size) := h.lt
  have HF1 : Hid (Fr w w.heap.size (w.heap.size + 1) o ((w.alloc (.cells #[.int .i64 o.do_, .string o.path, .string o.dst, .int .i64 o.off, .int .i64 o.len, .string o.data] 36 (0, 0))).alloc (.cells #[.int .i64 0, .int .i64 0, .string ⟨#[]⟩, .slice none 0 0] 33 (0, 0)))) := Fr.new w o
  have HT1 := Lib.hid (h.keep HF1.out.toW)
  obtain ⟨R, hR⟩ : ∃ R, R = doG G o := ⟨_, rfl⟩
  have HR := Lib.hid hR
  rw [← hR]
  obtain ⟨g, hg⟩ : ∃ g, g = w.heap.size := ⟨_, rfl⟩
  obtain ⟨a, ha⟩ : ∃ a, a = w.heap.size + 1 := ⟨_, rfl⟩
  rw [← ha, ← hg] at HF1
  have HGW := Lib.hid hg
  have HO := Lib.hid ho
  clear h hr hk hp hp2 hp3 hI hR ho
  unfold opV
  go_enter Tryz.func17, Tryz.ntmps17
  go_wp2_with fail
  rw [← ha, ← hg]
  clear ha hg
  generalize World.alloc (World.alloc w _) _ = w1 at *
  refine (doings_any _).mono ?_
  rintro e1 w2 ⟨rfl, hb⟩
  have HF2 := Lib.hid (HF1.out.keep hb)
  have HT2 := Lib.hid (HT1.out.keep hb)
  clear hb HF1 HT1
  have hal := (Below.refl w2.heap.size w2).alloc (Nat.le_refl _) (.cells #[.func (.func 44) #[] #[], .func (.func 45) #[] #[], .func (.func 46) #[] #[], .func (.func 47) #[] #[], .func (.func 48) #[] #[], .func (.func 49) #[] #[], .func (.func 50) #[] #[], .func (.func 51) #[] #[], .func (.func 52) #[] #[], .func (.func 53) #[] #[], .func (.func 54) #[] #[]] 71 (0, 0))
  have HF3 := Lib.hid (HF2.out.keep hal)
  have HT3 := Lib.hid (HT2.out.keep hal)
  have hbt : Box (w2.alloc (.cells #[.func (.func 44) #[] #[], .func (.func 45) #[] #[], .func (.func 46) #[] #[], .func (.func 47) #[] #[], .func (.func 48) #[] #[], .func (.func 49) #[] #[], .func (.func 50) #[] #[], .func (.func 51) #[] #[], .func (.func 52) #[] #[], .func (.func 53) #[] #[], .func (.func 54) #[] #[]] 71 (0, 0))) w2.heap.size 71 #[.func (.func 44) #[] #[], .func (.func 45) #[] #[], .func (.func 46) #[] #[], .func (.func 47) #[] #[], .func (.func 48) #[] #[], .func (.func 49) #[] #[], .func (.func 50) #[] #[], .func (.func 51) #[] #[], .func (.func 52) #[] #[], .func (.func 53) #[] #[], .func (.func 54) #[] #[]] := Box.new w2 _ _
  have HBT := Lib.hid hbt
  have HMD := Lib.hid (made_any HT3.out)
  obtain ⟨tb, htb⟩ : ∃ tb, tb = w2.heap.size := ⟨_, rfl⟩
  rw [← htb] at HBT
  clear hal hbt
  unfold doingsA
  go_wp2_with (first | (refine table_store rfl _ _ rfl rfl rfl ?_) | fail)
  rw [← htb]
  clear htb
  generalize World.alloc w2 _ = w3 at *
  refine HMD.out.mono ?_
  rintro e1 w3' ⟨rfl, rfl⟩
  clear HMD HT2 HF2
  have c0 : w3'.cell? ⟨g, 0, none⟩ = some (.int .i64 6) := HF3.out.bo.cell 0 _ (by show _ = _; simp [opA, HO.out])
  go_wp2_with fail
  have e0 : w3'.drew.cell? ⟨g, 0, none⟩ = some (.int .i64 6) := c0
  have e1 : w3'.drew.cell? ⟨g, 1, none⟩ = some (.string o.path) := HF3.out.bo.cell 1 _ rfl
  have e2 : w3'.drew.cell? ⟨g, 2, none⟩ = some (.string o.dst) := HF3.out.bo.cell 2 _ rfl
  have e3 : w3'.drew.cell? ⟨g, 3, none⟩ = some (.int .i64 o.off) := HF3.out.bo.cell 3 _ rfl
  have e4 : w3'.drew.cell? ⟨g, 4, none⟩ = some (.int .i64 o.len) := HF3.out.bo.cell 4 _ rfl
  have e5 : w3'.drew.cell? ⟨g, 5, none⟩ = some (.string o.data) := HF3.out.bo.cell 5 _ rfl
  have et : w3'.drew.cell? ⟨tb, 6, none⟩ = some (.func (.func 50) #[] #[]) := HBT.out.cell 6 _ rfl
  refine wp_region_tree (fun W => W.cell? ⟨g, 0, none⟩ = some (.int .i64 6) ∧ W.cell? ⟨g, 1, none⟩ = some (.string o.path) ∧ W.cell? ⟨g, 2, none⟩ = some (.string o.dst) ∧ W.cell? ⟨g, 3, none⟩ = some (.int .i64 o.off) ∧ W.cell? ⟨g, 4, none⟩ = some (.int .i64 o.len) ∧ W.cell? ⟨g, 5, none⟩ = some (.string o.data) ∧ W.cell? ⟨tb, 6, none⟩ = some (.func (.func 50) #[] #[])) 6 (.quiet 0 (.quiet 1 (.quiet 2 (.quiet 3 (.quiet 4 (.quiet 5 .nil)))))) (by kernel_rfl) (by kernel_rfl) ⟨e0, e1, e2, e3, e4, e5, et⟩ ?_
  simp only [List.drop_succ_cons, List.drop_zero]
  iterate 6 (apply wpTr_step rfl; (intro W hS K hK; obtain ⟨u0, u1, u2, u3, u4, u5, ut⟩ := hS; go_simp; exact hK _ rfl))
  refine wpTr_nil ?_
  clear e0 e1 e2 e3 e4 e5 et c0
  have HT4 : Hid (TrAt w3'.drew x) := HT3.out.of (fun _ _ => rfl)
  have HF4 := Lib.hid HF3.out.drew
  have ITW : It w3'.drew := HIT.out.of (HF3.out.toW.block _ HIT.out.lt)
  have HC := Lib.hid (read_any HT4.out HX.out HK.out o HO.out HP.out)
  rw [← HR.out] at HC
  unfold opV opA at HC
  rw [HO.out] at HC
  clear ITW HT3 HF3
  generalize w3'.drew = w4 at *
  go_wp2_with fail
  refine HC.out.mono ?_
  intro e1 w5 hres
  obtain ⟨va, vn, vc, rfl, hbx, hfin⟩ := OpRes.outer HF4.out HBL.out hres
  have HFIN := Lib.hid hfin
  have HBX := Lib.hid hbx
  clear hres hbx hfin HC
  obtain ⟨⟨s1, s2⟩, s3, s4, s5⟩ := HBX.out.st4
  unfold ansV
  go_wp2
  refine bodyPost_ret (results_cell_row rfl _ _ a 33 _ (0, 0) _ rfl (HBX.out.pt4 _ _ _ _) Tryz.underlying33 rfl sizeAns) rfl ?_
  exact HFIN.out _ _ _ _
set_option maxRecDepth 100000 in
set_option maxHeartbeats 4000000 in
theorem do7_any (o : OpD) (ho : o.do_ = 7) (hp : o.path.size ≤ 100000) (hp2 : o.dst.size ≤ 100000) (hp3 : o.data.size ≤ 1000000) (hI : It w) : Calls Tryz.prog 17 #[.pointer (some ⟨x.b, 0, none⟩), opV o] w (OpRes x k w (doG G o)) := by
  have HT0 := Lib.hid h
  have HX := Lib.hid hr
  have HK := Lib.hid hk
  have HP := Lib.hid hp
  have HP2 := Lib.hid hp2
  have HP3 := Lib.hid hp3
  have HIT := Lib.hid hI
  have HBL : Hid (∀ j ∈ x.blocks, j < w.heap.size) := h.lt
  have HF1 : Hid (Fr w w.heap.size (w.heap.size + 1) o ((w.alloc (.cells #[.int .i64 o.do_, .string o.path, .string o.dst, .int .i64 o.off, .int .i64 o.len, .string o.data] 36 (0, 0))).alloc (.cells #[.int .i64 0, .int .i64 0, .string ⟨#[]⟩, .slice none 0 0] 33 (0, 0)))) := Fr.new w o
  have HT1 := Lib.hid (h.keep HF1.out.toW)
  obtain ⟨R, hR⟩ : ∃ R, R = doG G o := ⟨_, rfl⟩
  have HR := Lib.hid hR
  rw [← hR]
  obtain ⟨g, hg⟩ : ∃ g, g = w.heap.size := ⟨_, rfl⟩
  obtain ⟨a, ha⟩ : ∃ a, a = w.heap.size + 1 := ⟨_, rfl⟩
  rw [← ha, ← hg] at HF1
  have HGW := Lib.hid hg
  have HO := Lib.hid ho
  clear h hr hk hp hp2 hp3 hI hR ho
  unfold opV
  go_enter Tryz.func17, Tryz.ntmps17
  go_wp2_with fail
  rw [← ha, ← hg]
  clear ha hg
  generalize World.alloc (World.alloc w _) _ = w1 at *
  refine (doings_any _).mono ?_
  rintro e1 w2 ⟨rfl, hb⟩
  have HF2 := Lib.hid (HF1.out.keep hb)
  have HT2 := Lib.hid (HT1.out.keep hb)
  clear hb HF1 HT1
  have hal := (Below.refl w2.heap.size w2).alloc (Nat.le_refl _) (.cells #[.func (.func 44) #[] #[], .func (.func 45) #[] #[], .func (.func 46) #[] #[], .func (.func 47) #[] #[], .func (.func 48) #[] #[], .func (.func 49) #[] #[], .func (.func 50) #[] #[], .func (.func 51) #[] #[], .func (.func 52) #[] #[], .func (.func 53) #[] #[], .func (.func 54) #[] #[]] 71 (0, 0))
  have HF3 := Lib.hid (HF2.out.keep hal)
  have HT3 := Lib.hid (HT2.out.keep hal)
  have hbt : Box (w2.alloc (.cells #[.func (.func 44) #[] #[], .func (.func 45) #[] #[], .func (.func 46) #[] #[], .func (.func 47) #[] #[], .func (.func 48) #[] #[], .func (.func 49) #[] #[], .func (.func 50) #[] #[], .func (.func 51) #[] #[], .func (.func 52) #[] #[], .func (.func 53) #[] #[], .func (.func 54) #[] #[]] 71 (0, 0))) w2.heap.size 71 #[.func (.func 44) #[] #[], .func (.func 45) #[] #[], .func (.func 46) #[] #[], .func (.func 47) #[] #[], .func (.func 48) #[] #[], .func (.func 49) #[] #[], .func (.func 50) #[] #[], .func (.func 51) #[] #[], .func (.func 52) #[] #[], .func (.func 53) #[] #[], .func (.func 54) #[] #[]] := Box.new w2 _ _
  have HBT := Lib.hid hbt
  have HMD := Lib.hid (made_any HT3.out)
  obtain ⟨tb, htb⟩ : ∃ tb, tb = w2.heap.size := ⟨_, rfl⟩
  rw [← htb] at HBT
  clear hal hbt
  unfold doingsA
  go_wp2_with (first | (refine table_store rfl _ _ rfl rfl rfl ?_) | fail)
  rw [← htb]
  clear htb
  generalize World.alloc w2 _ = w3 at *
  refine HMD.out.mono ?_
  rintro e1 w3' ⟨rfl, rfl⟩
  clear HMD HT2 HF2
  have c0 : w3'.cell? ⟨g, 0, none⟩ = some (.int .i64 7) := HF3.out.bo.cell 0 _ (by show _ = _; simp [opA, HO.out])
  go_wp2_with fail
  have e0 : w3'.drew.cell? ⟨g, 0, none⟩ = some (.int .i64 7) := c0
  have e1 : w3'.drew.cell? ⟨g, 1, none⟩ = some (.string o.path) := HF3.out.bo.cell 1 _ rfl
  have e2 : w3'.drew.cell? ⟨g, 2, none⟩ = some (.string o.dst) := HF3.out.bo.cell 2 _ rfl
  have e3 : w3'.drew.cell? ⟨g, 3, none⟩ = some (.int .i64 o.off) := HF3.out.bo.cell 3 _ rfl
  have e4 : w3'.drew.cell? ⟨g, 4, none⟩ = some (.int .i64 o.len) := HF3.out.bo.cell 4 _ rfl
  have e5 : w3'.drew.cell? ⟨g, 5, none⟩ = some (.string o.data) := HF3.out.bo.cell 5 _ rfl
  have et : w3'.drew.cell? ⟨tb, 7, none⟩ = some (.func (.func 51) #[] #[]) := HBT.out.cell 7 _ rfl
  refine wp_region_tree (fun W => W.cell? ⟨g, 0, none⟩ = some (.int .i64 7) ∧ W.cell? ⟨g, 1, none⟩ = some (.string o.path) ∧ W.cell? ⟨g, 2, none⟩ = some (.string o.dst) ∧ W.cell? ⟨g, 3, none⟩ = some (.int .i64 o.off) ∧ W.cell? ⟨g, 4, none⟩ = some (.int .i64 o.len) ∧ W.cell? ⟨g, 5, none⟩ = some (.string o.data) ∧ W.cell? ⟨tb, 7, none⟩ = some (.func (.func 51) #[] #[])) 6 (.quiet 0 (.quiet 1 (.quiet 2 (.quiet 3 (.quiet 4 (.quiet 5 .nil)))))) (by kernel_rfl) (by kernel_rfl) ⟨e0, e1, e2, e3, e4, e5, et⟩ ?_
  simp only [List.drop_succ_cons, List.drop_zero]
  iterate 6 (apply wpTr_step rfl; (intro W hS K hK; obtain ⟨u0, u1, u2, u3, u4, u5, ut⟩ := hS; go_simp; exact hK _ rfl))
  refine wpTr_nil ?_
  clear e0 e1 e2 e3 e4 e5 et c0
  have HT4 : Hid (TrAt w3'.drew x) := HT3.out.of (fun _ _ => rfl)
  have HF4 := Lib.hid HF3.out.drew
  have ITW : It w3'.drew := HIT.out.of (HF3.out.toW.block _ HIT.out.lt)
  have HC := Lib.hid (write_any HT4.out HX.out HK.out o HO.out HP.out HP3.out)
  rw [← HR.out] at HC
  unfold opV opA at HC
  rw [HO.out] at HC
  clear ITW HT3 HF3
  generalize w3'.drew = w4 at *
  go_wp2_with fail
  refine HC.out.mono ?_
  intro e1 w5 hres
  obtain ⟨va, vn, vc, rfl, hbx, hfin⟩ := OpRes.outer HF4.out HBL.out hres
  have HFIN := Lib.hid hfin
  have HBX := Lib.hid hbx
  clear hres hbx hfin HC
  obtain ⟨⟨s1, s2⟩, s3, s4, s5⟩ := HBX.out.st4
  unfold ansV
  go_wp2
  refine bodyPost_ret (results_cell_row rfl _ _ a 33 _ (0, 0) _ rfl (HBX.out.pt4 _ _ _ _) Tryz.underlying33 rfl sizeAns) rfl ?_
  exact HFIN.out _ _ _ _
set_option maxRecDepth 100000 in
set_option maxHeartbeats 4000000 in
theorem do8_any (o : OpD) (ho : o.do_ = 8) (hp : o.path.size ≤ 100000) (hp2 : o.dst.size ≤ 100000) (hp3 : o.data.size ≤ 1000000) (hI : It w) : Calls Tryz.prog 17 #[.pointer (some ⟨x.b, 0, none⟩), opV o] w (OpRes x k w (doG G o)) := by
  have HT0 := Lib.hid h
  have HX := Lib.hid hr
  have HK := Lib.hid hk
  have HP := Lib.hid hp
  have HP2 := Lib.hid hp2
  have HP3 := Lib.hid hp3
  have HIT := Lib.hid hI
  have HBL : Hid (∀ j ∈ x.blocks, j < w.heap.size) := h.lt
  have HF1 : Hid (Fr w w.heap.size (w.heap.size + 1) o ((w.alloc (.cells #[.int .i64 o.do_, .string o.path, .string o.dst, .int .i64 o.off, .int .i64 o.len, .string o.data] 36 (0, 0))).alloc (.cells #[.int .i64 0, .int .i64 0, .string ⟨#[]⟩, .slice none 0 0] 33 (0, 0)))) := Fr.new w o
  have HT1 := Lib.hid (h.keep HF1.out.toW)
  obtain ⟨R, hR⟩ : ∃ R, R = doG G o := ⟨_, rfl⟩
  have HR := Lib.hid hR
  rw [← hR]
  obtain ⟨g, hg⟩ : ∃ g, g = w.heap.size := ⟨_, rfl⟩
  obtain ⟨a, ha⟩ : ∃ a, a = w.heap.size + 1 := ⟨_, rfl⟩
  rw [← ha, ← hg] at HF1
  have HGW := Lib.hid hg
  have HO := Lib.hid ho
  clear h hr hk hp hp2 hp3 hI hR ho
  unfold opV
  go_enter Tryz.func17, Tryz.ntmps17
  go_wp2_with fail
  rw [← ha, ← hg]
  clear ha hg
  generalize World.alloc (World.alloc w _) _ = w1 at *
  refine (doings_any _).mono ?_
  rintro e1 w2 ⟨rfl, hb⟩
  have HF2 := Lib.hid (HF1.out.keep hb)
  have HT2 := Lib.hid (HT1.out.keep hb)
  clear hb HF1 HT1
  have hal := (Below.refl w2.heap.size w2).alloc (Nat.le_refl _) (.cells #[.func (.func 44) #[] #[], .func (.func 45) #[] #[], .func (.func 46) #[] #[], .func (.func 47) #[] #[], .func (.func 48) #[] #[], .func (.func 49) #[] #[], .func (.func 50) #[] #[], .func (.func 51) #[] #[], .func (.func 52) #[] #[], .func (.func 53) #[] #[], .func (.func 54) #[] #[]] 71 (0, 0))
  have HF3 := Lib.hid (HF2.out.keep hal)
  have HT3 := Lib.hid (HT2.out.keep hal)
  have hbt : Box (w2.alloc (.cells #[.func (.func 44) #[] #[], .func (.func 45) #[] #[], .func (.func 46) #[] #[], .func (.func 47) #[] #[], .func (.func 48) #[] #[], .func (.func 49) #[] #[], .func (.func 50) #[] #[], .func (.func 51) #[] #[], .func (.func 52) #[] #[], .func (.func 53) #[] #[], .func (.func 54) #[] #[]] 71 (0, 0))) w2.heap.size 71 #[.func (.func 44) #[] #[], .func (.func 45) #[] #[], .func (.func 46) #[] #[], .func (.func 47) #[] #[], .func (.func 48) #[] #[], .func (.func 49) #[] #[], .func (.func 50) #[] #[], .func (.func 51) #[] #[], .func (.func 52) #[] #[], .func (.func 53) #[] #[], .func (.func 54) #[] #[]] := Box.new w2 _ _
  have HBT := Lib.hid hbt
  have HMD := Lib.hid (made_any HT3.out)
  obtain ⟨tb, htb⟩ : ∃ tb, tb = w2.heap.size := ⟨_, rfl⟩
  rw [← htb] at HBT
  clear hal hbt
  unfold doingsA
  go_wp2_with (first | (refine table_store rfl _ _ rfl rfl rfl ?_) | fail)
  rw [← htb]
  clear htb
  generalize World.alloc w2 _ = w3 at *
  refine HMD.out.mono ?_
  rintro e1 w3' ⟨rfl, rfl⟩
  clear HMD HT2 HF2
  have c0 : w3'.cell? ⟨g, 0, none⟩ = some (.int .i64 8) := HF3.out.bo.cell 0 _ (by show _ = _; simp [opA, HO.out])
  go_wp2_with fail
  have e0 : w3'.drew.cell? ⟨g, 0, none⟩ = some (.int .i64 8) := c0
  have e1 : w3'.drew.cell? ⟨g, 1, none⟩ = some (.string o.path) := HF3.out.bo.cell 1 _ rfl
  have e2 : w3'.drew.cell? ⟨g, 2, none⟩ = some (.string o.dst) := HF3.out.bo.cell 2 _ rfl
  have e3 : w3'.drew.cell? ⟨g, 3, none⟩ = some (.int .i64 o.off) := HF3.out.bo.cell 3 _ rfl
  have e4 : w3'.drew.cell? ⟨g, 4, none⟩ = some (.int .i64 o.len) := HF3.out.bo.cell 4 _ rfl
  have e5 : w3'.drew.cell? ⟨g, 5, none⟩ = some (.string o.data) := HF3.out.bo.cell 5 _ rfl
  have et : w3'.drew.cell? ⟨tb, 8, none⟩ = some (.func (.func 52) #[] #[]) := HBT.out.cell 8 _ rfl
  refine wp_region_tree (fun W => W.cell? ⟨g, 0, none⟩ = some (.int .i64 8) ∧ W.cell? ⟨g, 1, none⟩ = some (.string o.path) ∧ W.cell? ⟨g, 2, none⟩ = some (.string o.dst) ∧ W.cell? ⟨g, 3, none⟩ = some (.int .i64 o.off) ∧ W.cell? ⟨g, 4, none⟩ = some (.int .i64 o.len) ∧ W.cell? ⟨g, 5, none⟩ = some (.string o.data) ∧ W.cell? ⟨tb, 8, none⟩ = some (.func (.func 52) #[] #[])) 6 (.quiet 0 (.quiet 1 (.quiet 2 (.quiet 3 (.quiet 4 (.quiet 5 .nil)))))) (by kernel_rfl) (by kernel_rfl) ⟨e0, e1, e2, e3, e4, e5, et⟩ ?_
  simp only [List.drop_succ_cons, List.drop_zero]
  iterate 6 (apply wpTr_step rfl; (intro W hS K hK; obtain ⟨u0, u1, u2, u3, u4, u5, ut⟩ := hS; go_simp; exact hK _ rfl))
  refine wpTr_nil ?_
  clear e0 e1 e2 e3 e4 e5 et c0
  have HT4 : Hid (TrAt w3'.drew x) := HT3.out.of (fun _ _ => rfl)
  have HF4 := Lib.hid HF3.out.drew
  have ITW : It w3'.drew := HIT.out.of (HF3.out.toW.block _ HIT.out.lt)
  have HC := Lib.hid (truncate_any HT4.out HX.out HK.out o HO.out HP.out)
  rw [← HR.out] at HC
  unfold opV opA at HC
  rw [HO.out] at HC
  clear ITW HT3 HF3
  generalize w3'.drew = w4 at *
  go_wp2_with fail
  refine HC.out.mono ?_
  intro e1 w5 hres
  obtain ⟨va, vn, vc, rfl, hbx, hfin⟩ := OpRes.outer HF4.out HBL.out hres
  have HFIN := Lib.hid hfin
  have HBX := Lib.hid hbx
  clear hres hbx hfin HC
  obtain ⟨⟨s1, s2⟩, s3, s4, s5⟩ := HBX.out.st4
  unfold ansV
  go_wp2
  refine bodyPost_ret (results_cell_row rfl _ _ a 33 _ (0, 0) _ rfl (HBX.out.pt4 _ _ _ _) Tryz.underlying33 rfl sizeAns) rfl ?_
  exact HFIN.out _ _ _ _
set_option maxRecDepth 100000 in
set_option maxHeartbeats 4000000 in
theorem do9_any (o : OpD) (ho : o.do_ = 9) (hp : o.path.size ≤ 100000) (hp2 : o.dst.size ≤ 100000) (hp3 : o.data.size ≤ 1000000) (hI : It w) : Calls Tryz.prog 17 #[.pointer (some ⟨x.b, 0, none⟩), opV o] w (OpRes x k w (doG G o)) := by
  have HT0 := Lib.hid h
  have HX := Lib.hid hr
  have HK := Lib.hid hk
  have HP := Lib.hid hp
  have HP2 := Lib.hid hp2
  have HP3 := Lib.hid hp3
  have HIT := Lib.hid hI
  have HBL : Hid (∀ j ∈ x.blocks, j < w.heap.size) := h.lt
  have HF1 : Hid (Fr w w.heap.size (w.heap.size + 1) o ((w.alloc (.cells #[.int .i64 o.do_, .string o.path, .string o.dst, .int .i64 o.off, .int .i64 o.len, .string o.data] 36 (0, 0))).alloc (.cells #[.int .i64 0, .int .i64 0, .string ⟨#[]⟩, .slice none 0 0] 33 (0, 0)))) := Fr.new w o
  have HT1 := Lib.hid (h.keep HF1.out.toW)
  obtain ⟨R, hR⟩ : ∃ R, R = doG G o := ⟨_, rfl⟩
  have HR := Lib.hid hR
  rw [← hR]
  obtain ⟨g, hg⟩ : ∃ g, g = w.heap.size := ⟨_, rfl⟩
  obtain ⟨a, ha⟩ : ∃ a, a = w.heap.size + 1 := ⟨_, rfl⟩
  rw [← ha, ← hg] at HF1
  have HGW := Lib.hid hg
  have HO := Lib.hid ho
  clear h hr hk hp hp2 hp3 hI hR ho
  unfold opV
  go_enter Tryz.func17, Tryz.ntmps17
  go_wp2_with fail
  rw [← ha, ← hg]
  clear ha hg
  generalize World.alloc (World.alloc w _) _ = w1 at *
  refine (doings_any _).mono ?_
  rintro e1 w2 ⟨rfl, hb⟩
  have HF2 := Lib.hid (HF1.out.keep hb)
  have HT2 := Lib.hid (HT1.out.keep hb)
  clear hb HF1 HT1
  have hal := (Below.refl w2.heap.size w2).alloc (Nat.le_refl _) (.cells #[.func (.func 44) #[] #[], .func (.func 45) #[] #[], .func (.func 46) #[] #[], .func (.func 47) #[] #[], .func (.func 48) #[] #[], .func (.func 49) #[] #[], .func (.func 50) #[] #[], .func (.func 51) #[] #[], .func (.func 52) #[] #[], .func (.func 53) #[] #[], .func (.func 54) #[] #[]] 71 (0, 0))
  have HF3 := Lib.hid (HF2.out.keep hal)
  have HT3 := Lib.hid (HT2.out.keep hal)
  have hbt : Box (w2.alloc (.cells #[.func (.func 44) #[] #[], .func (.func 45) #[] #[], .func (.func 46) #[] #[], .func (.func 47) #[] #[], .func (.func 48) #[] #[], .func (.func 49) #[] #[], .func (.func 50) #[] #[], .func (.func 51) #[] #[], .func (.func 52) #[] #[], .func (.func 53) #[] #[], .func (.func 54) #[] #[]] 71 (0, 0))) w2.heap.size 71 #[.func (.func 44) #[] #[], .func (.func 45) #[] #[], .func (.func 46) #[] #[], .func (.func 47) #[] #[], .func (.func 48) #[] #[], .func (.func 49) #[] #[], .func (.func 50) #[] #[], .func (.func 51) #[] #[], .func (.func 52) #[] #[], .func (.func 53) #[] #[], .func (.func 54) #[] #[]] := Box.new w2 _ _
  have HBT := Lib.hid hbt
  have HMD := Lib.hid (made_any HT3.out)
  obtain ⟨tb, htb⟩ : ∃ tb, tb = w2.heap.size := ⟨_, rfl⟩
  rw [← htb] at HBT
  clear hal hbt
  unfold doingsA
  go_wp2_with (first | (refine table_store rfl _ _ rfl rfl rfl ?_) | fail)
  rw [← htb]
  clear htb
  generalize World.alloc w2 _ = w3 at *
  refine HMD.out.mono ?_
  rintro e1 w3' ⟨rfl, rfl⟩
  clear HMD HT2 HF2
  have c0 : w3'.cell? ⟨g, 0, none⟩ = some (.int .i64 9) := HF3.out.bo.cell 0 _ (by show _ = _; simp [opA, HO.out])
  go_wp2_with fail
  have e0 : w3'.drew.cell? ⟨g, 0, none⟩ = some (.int .i64 9) := c0
  have e1 : w3'.drew.cell? ⟨g, 1, none⟩ = some (.string o.path) := HF3.out.bo.cell 1 _ rfl
  have e2 : w3'.drew.cell? ⟨g, 2, none⟩ = some (.string o.dst) := HF3.out.bo.cell 2 _ rfl
  have e3 : w3'.drew.cell? ⟨g, 3, none⟩ = some (.int .i64 o.off) := HF3.out.bo.cell 3 _ rfl
  have e4 : w3'.drew.cell? ⟨g, 4, none⟩ = some (.int .i64 o.len) := HF3.out.bo.cell 4 _ rfl
  have e5 : w3'.drew.cell? ⟨g, 5, none⟩ = some (.string o.data) := HF3.out.bo.cell 5 _ rfl
  have et : w3'.drew.cell? ⟨tb, 9, none⟩ = some (.func (.func 53) #[] #[]) := HBT.out.cell 9 _ rfl
  refine wp_region_tree (fun W => W.cell? ⟨g, 0, none⟩ = some (.int .i64 9) ∧ W.cell? ⟨g, 1, none⟩ = some (.string o.path) ∧ W.cell? ⟨g, 2, none⟩ = some (.string o.dst) ∧ W.cell? ⟨g, 3, none⟩ = some (.int .i64 o.off) ∧ W.cell? ⟨g, 4, none⟩ = some (.int .i64 o.len) ∧ W.cell? ⟨g, 5, none⟩ = some (.string o.data) ∧ W.cell? ⟨tb, 9, none⟩ = some (.func (.func 53) #[] #[])) 6 (.quiet 0 (.quiet 1 (.quiet 2 (.quiet 3 (.quiet 4 (.quiet 5 .nil)))))) (by kernel_rfl) (by kernel_rfl) ⟨e0, e1, e2, e3, e4, e5, et⟩ ?_
  simp only [List.drop_succ_cons, List.drop_zero]
  iterate 6 (apply wpTr_step rfl; (intro W hS K hK; obtain ⟨u0, u1, u2, u3, u4, u5, ut⟩ := hS; go_simp; exact hK _ rfl))
  refine wpTr_nil ?_
  clear e0 e1 e2 e3 e4 e5 et c0
  have HT4 : Hid (TrAt w3'.drew x) := HT3.out.of (fun _ _ => rfl)
  have HF4 := Lib.hid HF3.out.drew
  have ITW : It w3'.drew := HIT.out.of (HF3.out.toW.block _ HIT.out.lt)
  have HC := Lib.hid (stat_any HT4.out HX.out HK.out o HO.out HP.out ITW)
  rw [← HR.out] at HC
  unfold opV opA at HC
  rw [HO.out] at HC
  clear ITW HT3 HF3
  generalize w3'.drew = w4 at *
  go_wp2_with fail
  refine HC.out.mono ?_
  intro e1 w5 hres
  obtain ⟨va, vn, vc, rfl, hbx, hfin⟩ := OpRes.outer HF4.out HBL.out hres
  have HFIN := Lib.hid hfin
  have HBX := Lib.hid hbx
  clear hres hbx hfin HC
  obtain ⟨⟨s1, s2⟩, s3, s4, s5⟩ := HBX.out.st4
  unfold ansV
  go_wp2
  refine bodyPost_ret (results_cell_row rfl _ _ a 33 _ (0, 0) _ rfl (HBX.out.pt4 _ _ _ _) Tryz.underlying33 rfl sizeAns) rfl ?_
  exact HFIN.out _ _ _ _
set_option maxRecDepth 100000 in
set_option maxHeartbeats 4000000 in
theorem do10_any (o : OpD) (ho : o.do_ = 10) (hp : o.path.size ≤ 100000) (hp2 : o.dst.size ≤ 100000) (hp3 : o.data.size ≤ 1000000) (hI : It w) : Calls Tryz.prog 17 #[.pointer (some ⟨x.b, 0, none⟩), opV o] w (OpRes x k w (doG G o)) := by
  have HT0 := Lib.hid h
  have HX := Lib.hid hr
  have HK := Lib.hid hk
  have HP := Lib.hid hp
  have HP2 := Lib.hid hp2
  have HP3 := Lib.hid hp3
  have HIT := Lib.hid hI
  have HBL : Hid (∀ j ∈ x.blocks, j < w.heap.size) := h.lt
  have HF1 : Hid (Fr w w.heap.size (w.heap.size + 1) o ((w.alloc (.cells #[.int .i64 o.do_, .string o.path, .string o.dst, .int .i64 o.off, .int .i64 o.len, .string o.data] 36 (0, 0))).alloc (.cells #[.int .i64 0, .int .i64 0, .string ⟨#[]⟩, .slice none 0 0] 33 (0, 0)))) := Fr.new w o
  have HT1 := Lib.hid (h.keep HF1.out.toW)
  obtain ⟨R, hR⟩ : ∃ R, R = doG G o := ⟨_, rfl⟩
  have HR := Lib.hid hR
  rw [← hR]
  obtain ⟨g, hg⟩ : ∃ g, g = w.heap.size := ⟨_, rfl⟩
  obtain ⟨a, ha⟩ : ∃ a, a = w.heap.size + 1 := ⟨_, rfl⟩
  rw [← ha, ← hg] at HF1
  have HGW := Lib.hid hg
  have HO := Lib.hid ho
  clear h hr hk hp hp2 hp3 hI hR ho
  unfold opV
  go_enter Tryz.func17, Tryz.ntmps17
  go_wp2_with fail
  rw [← ha, ← hg]
  clear ha hg
  generalize World.alloc (World.alloc w _) _ = w1 at *
  refine (doings_any _).mono ?_
  rintro e1 w2 ⟨rfl, hb⟩
  have HF2 := Lib.hid (HF1.out.keep hb)
  have HT2 := Lib.hid (HT1.out.keep hb)
  clear hb HF1 HT1
  have hal := (Below.refl w2.heap.size w2).alloc (Nat.le_refl _) (.cells #[.func (.func 44) #[] #[], .func (.func 45) #[] #[], .func (.func 46) #[] #[], .func (.func 47) #[] #[], .func (.func 48) #[] #[], .func (.func 49) #[] #[], .func (.func 50) #[] #[], .func (.func 51) #[] #[], .func (.func 52) #[] #[], .func (.func 53) #[] #[], .func (.func 54) #[] #[]] 71 (0, 0))
  have HF3 := Lib.hid (HF2.out.keep hal)
  have HT3 := Lib.hid (HT2.out.keep hal)
  have hbt : Box (w2.alloc (.cells #[.func (.func 44) #[] #[], .func (.func 45) #[] #[], .func (.func 46) #[] #[], .func (.func 47) #[] #[], .func (.func 48) #[] #[], .func (.func 49) #[] #[], .func (.func 50) #[] #[], .func (.func 51) #[] #[], .func (.func 52) #[] #[], .func (.func 53) #[] #[], .func (.func 54) #[] #[]] 71 (0, 0))) w2.heap.size 71 #[.func (.func 44) #[] #[], .func (.func 45) #[] #[], .func (.func 46) #[] #[], .func (.func 47) #[] #[], .func (.func 48) #[] #[], .func (.func 49) #[] #[], .func (.func 50) #[] #[], .func (.func 51) #[] #[], .func (.func 52) #[] #[], .func (.func 53) #[] #[], .func (.func 54) #[] #[]] := Box.new w2 _ _
  have HBT := Lib.hid hbt
  have HMD := Lib.hid (made_any HT3.out)
  obtain ⟨tb, htb⟩ : ∃ tb, tb = w2.heap.size := ⟨_, rfl⟩
  rw [← htb] at HBT
  clear hal hbt
  unfold doingsA
  go_wp2_with (first | (refine table_store rfl _ _ rfl rfl rfl ?_) | fail)
  rw [← htb]
  clear htb
  generalize World.alloc w2 _ = w3 at *
  refine HMD.out.mono ?_
  rintro e1 w3' ⟨rfl, rfl⟩
  clear HMD HT2 HF2
  have c0 : w3'.cell? ⟨g, 0, none⟩ = some (.int .i64 10) := HF3.out.bo.cell 0 _ (by show _ = _; simp [opA, HO.out])
  go_wp2_with fail
  have e0 : w3'.drew.cell? ⟨g, 0, none⟩ = some (.int .i64 10) := c0
  have e1 : w3'.drew.cell? ⟨g, 1, none⟩ = some (.string o.path) := HF3.out.bo.cell 1 _ rfl
  have e2 : w3'.drew.cell? ⟨g, 2, none⟩ = some (.string o.dst) := HF3.out.bo.cell 2 _ rfl
  have e3 : w3'.drew.cell? ⟨g, 3, none⟩ = some (.int .i64 o.off) := HF3.out.bo.cell 3 _ rfl
  have e4 : w3'.drew.cell? ⟨g, 4, none⟩ = some (.int .i64 o.len) := HF3.out.bo.cell 4 _ rfl
  have e5 : w3'.drew.cell? ⟨g, 5, none⟩ = some (.string o.data) := HF3.out.bo.cell 5 _ rfl
  have et : w3'.drew.cell? ⟨tb, 10, none⟩ = some (.func (.func 54) #[] #[]) := HBT.out.cell 10 _ rfl
  refine wp_region_tree (fun W => W.cell? ⟨g, 0, none⟩ = some (.int .i64 10) ∧ W.cell? ⟨g, 1, none⟩ = some (.string o.path) ∧ W.cell? ⟨g, 2, none⟩ = some (.string o.dst) ∧ W.cell? ⟨g, 3, none⟩ = some (.int .i64 o.off) ∧ W.cell? ⟨g, 4, none⟩ = some (.int .i64 o.len) ∧ W.cell? ⟨g, 5, none⟩ = some (.string o.data) ∧ W.cell? ⟨tb, 10, none⟩ = some (.func (.func 54) #[] #[])) 6 (.quiet 0 (.quiet 1 (.quiet 2 (.quiet 3 (.quiet 4 (.quiet 5 .nil)))))) (by kernel_rfl) (by kernel_rfl) ⟨e0, e1, e2, e3, e4, e5, et⟩ ?_
  simp only [List.drop_succ_cons, List.drop_zero]
  iterate 6 (apply wpTr_step rfl; (intro W hS K hK; obtain ⟨u0, u1, u2, u3, u4, u5, ut⟩ := hS; go_simp; exact hK _ rfl))
  refine wpTr_nil ?_
  clear e0 e1 e2 e3 e4 e5 et c0
  have HT4 : Hid (TrAt w3'.drew x) := HT3.out.of (fun _ _ => rfl)
  have HF4 := Lib.hid HF3.out.drew
  have ITW : It w3'.drew := HIT.out.of (HF3.out.toW.block _ HIT.out.lt)
  have HC := Lib.hid (list_any HT4.out HX.out HK.out o HO.out HP.out)
  rw [← HR.out] at HC
  unfold opV opA at HC
  rw [HO.out] at HC
  clear ITW HT3 HF3
  generalize w3'.drew = w4 at *
  go_wp2_with fail
  refine HC.out.mono ?_
  intro e1 w5 hres
  obtain ⟨va, vn, vc, rfl, hbx, hfin⟩ := OpRes.outer HF4.out HBL.out hres
  have HFIN := Lib.hid hfin
  have HBX := Lib.hid hbx
  clear hres hbx hfin HC
  obtain ⟨⟨s1, s2⟩, s3, s4, s5⟩ := HBX.out.st4
  unfold ansV
  go_wp2
  refine bodyPost_ret (results_cell_row rfl _ _ a 33 _ (0, 0) _ rfl (HBX.out.pt4 _ _ _ _) Tryz.underlying33 rfl sizeAns) rfl ?_
  exact HFIN.out _ _ _ _
set_option maxRecDepth 100000 in
set_option maxHeartbeats 4000000 in
theorem donot_any (o : OpD) (ho : o.do_ < 0 ∨ 11 ≤ o.do_) (hp : o.path.size ≤ 100000) (hp2 : o.dst.size ≤ 100000) (hp3 : o.data.size ≤ 1000000) (hI : It w) : Calls Tryz.prog 17 #[.pointer (some ⟨x.b, 0, none⟩), opV o] w (OpRes x k w (doG G o)) := by
  have HT0 := Lib.hid h
  have HX := Lib.hid hr
  have HK := Lib.hid hk
  have HP := Lib.hid hp
  have HP2 := Lib.hid hp2
  have HP3 := Lib.hid hp3
  have HIT := Lib.hid hI
  have HBL : Hid (∀ j ∈ x.blocks, j < w.heap.size) := h.lt
  have HF1 : Hid (Fr w w.heap.size (w.heap.size + 1) o ((w.alloc (.cells #[.int .i64 o.do_, .string o.path, .string o.dst, .int .i64 o.off, .int .i64 o.len, .string o.data] 36 (0, 0))).alloc (.cells #[.int .i64 0, .int .i64 0, .string ⟨#[]⟩, .slice none 0 0] 33 (0, 0)))) := Fr.new w o
  have HT1 := Lib.hid (h.keep HF1.out.toW)
  obtain ⟨R, hR⟩ : ∃ R, R = doG G o := ⟨_, rfl⟩
  have HR := Lib.hid hR
  rw [← hR]
  obtain ⟨g, hg⟩ : ∃ g, g = w.heap.size := ⟨_, rfl⟩
  obtain ⟨a, ha⟩ : ∃ a, a = w.heap.size + 1 := ⟨_, rfl⟩
  rw [← ha, ← hg] at HF1
  have HGW := Lib.hid hg
  have HO := Lib.hid ho
  clear h hr hk hp hp2 hp3 hI hR ho
  unfold opV
  go_enter Tryz.func17, Tryz.ntmps17
  go_wp2_with fail
  rw [← ha, ← hg]
  clear ha hg
  generalize World.alloc (World.alloc w _) _ = w1 at *
  refine (doings_any _).mono ?_
  rintro e1 w2 ⟨rfl, hb⟩
  have HF2 := Lib.hid (HF1.out.keep hb)
  have HT2 := Lib.hid (HT1.out.keep hb)
  clear hb HF1 HT1
  have hal := (Below.refl w2.heap.size w2).alloc (Nat.le_refl _) (.cells #[.func (.func 44) #[] #[], .func (.func 45) #[] #[], .func (.func 46) #[] #[], .func (.func 47) #[] #[], .func (.func 48) #[] #[], .func (.func 49) #[] #[], .func (.func 50) #[] #[], .func (.func 51) #[] #[], .func (.func 52) #[] #[], .func (.func 53) #[] #[], .func (.func 54) #[] #[]] 71 (0, 0))
  have HF3 := Lib.hid (HF2.out.keep hal)
  have HT3 := Lib.hid (HT2.out.keep hal)
  have hbt : Box (w2.alloc (.cells #[.func (.func 44) #[] #[], .func (.func 45) #[] #[], .func (.func 46) #[] #[], .func (.func 47) #[] #[], .func (.func 48) #[] #[], .func (.func 49) #[] #[], .func (.func 50) #[] #[], .func (.func 51) #[] #[], .func (.func 52) #[] #[], .func (.func 53) #[] #[], .func (.func 54) #[] #[]] 71 (0, 0))) w2.heap.size 71 #[.func (.func 44) #[] #[], .func (.func 45) #[] #[], .func (.func 46) #[] #[], .func (.func 47) #[] #[], .func (.func 48) #[] #[], .func (.func 49) #[] #[], .func (.func 50) #[] #[], .func (.func 51) #[] #[], .func (.func 52) #[] #[], .func (.func 53) #[] #[], .func (.func 54) #[] #[]] := Box.new w2 _ _
  have HBT := Lib.hid hbt
  have HMD := Lib.hid (made_any HT3.out)
  obtain ⟨tb, htb⟩ : ∃ tb, tb = w2.heap.size := ⟨_, rfl⟩
  rw [← htb] at HBT
  clear hal hbt
  unfold doingsA
  go_wp2_with (first | (refine table_store rfl _ _ rfl rfl rfl ?_) | fail)
  rw [← htb]
  clear htb
  generalize World.alloc w2 _ = w3 at *
  refine HMD.out.mono ?_
  rintro e1 w3' ⟨rfl, rfl⟩
  clear HMD HT2 HF2
  have c0 : w3'.cell? ⟨g, 0, none⟩ = some (.int .i64 o.do_) := HF3.out.bo.cell 0 _ rfl
  have HQ : Hid (R = (noA 1, G)) := HR.out.trans (doG_no HO.out)
  by_cases hneg : o.do_ < 0
  · go_wp2_with fail
    refine (refused_any 1 _).mono ?_
    rintro e1 w4 ⟨rfl, hb⟩
    have HF4 := Lib.hid (HF3.out.keep hb)
    have HT4 := Lib.hid (HT3.out.keep hb)
    clear hb
    obtain ⟨⟨s1, s2⟩, s3, s4, s5⟩ := HF4.out.ba.st4
    unfold ansV nilS
    go_wp2
    refine bodyPost_ret (results_cell_row rfl _ _ a 33 _ (0, 0) _ rfl (HF4.out.ba.pt4 _ _ _ _) Tryz.underlying33 rfl sizeAns) rfl ?_
    exact OpRes.refuse HT0.out HX.out HQ.out HF4.out _ _ _ _
  have hge : 11 ≤ o.do_ := by have := HO.out; omega
  go_wp2_with fail
  refine (refused_any 1 _).mono ?_
  rintro e1 w4 ⟨rfl, hb⟩
  have HF4 := Lib.hid (HF3.out.keep hb)
  have HT4 := Lib.hid (HT3.out.keep hb)
  clear hb
  obtain ⟨⟨s1, s2⟩, s3, s4, s5⟩ := HF4.out.ba.st4
  unfold ansV nilS
  go_wp2
  refine bodyPost_ret (results_cell_row rfl _ _ a 33 _ (0, 0) _ rfl (HF4.out.ba.pt4 _ _ _ _) Tryz.underlying33 rfl sizeAns) rfl ?_
  exact OpRes.refuse HT0.out HX.out HQ.out HF4.out _ _ _ _
theorem do_any (o : OpD) (hp : o.path.size ≤ 100000) (hp2 : o.dst.size ≤ 100000) (hp3 : o.data.size ≤ 1000000) (hI : It w) : Calls Tryz.prog 17 #[.pointer (some ⟨x.b, 0, none⟩), opV o] w (OpRes x k w (doG G o)) := by
  by_cases hn : o.do_ < 0 ∨ 11 ≤ o.do_
  · exact donot_any h hr hk o hn hp hp2 hp3 hI
  by_cases h0 : o.do_ = 0
  · exact do0_any h hr hk o h0 hp hp2 hp3 hI
  by_cases h1 : o.do_ = 1
  · exact do1_any h hr hk o h1 hp hp2 hp3 hI
  by_cases h2 : o.do_ = 2
  · exact do2_any h hr hk o h2 hp hp2 hp3 hI
  by_cases h3 : o.do_ = 3
  · exact do3_any h hr hk o h3 hp hp2 hp3 hI
  by_cases h4 : o.do_ = 4
  · exact do4_any h hr hk o h4 hp hp2 hp3 hI
  by_cases h5 : o.do_ = 5
  · exact do5_any h hr hk o h5 hp hp2 hp3 hI
  by_cases h6 : o.do_ = 6
  · exact do6_any h hr hk o h6 hp hp2 hp3 hI
  by_cases h7 : o.do_ = 7
  · exact do7_any h hr hk o h7 hp hp2 hp3 hI
  by_cases h8 : o.do_ = 8
  · exact do8_any h hr hk o h8 hp hp2 hp3 hI
  by_cases h9 : o.do_ = 9
  · exact do9_any h hr hk o h9 hp hp2 hp3 hI
  by_cases h10 : o.do_ = 10
  · exact do10_any h hr hk o h10 hp hp2 hp3 hI
  omega
end
end Go.Proofs.YteimpebfenpifaaGreatDoor
