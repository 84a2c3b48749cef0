/-
  Package model: create, mkdir.
-/
import Derived.Test.YteimpebfenpifaaGreatDoorMg24
namespace Go.Proofs.YteimpebfenpifaaGreatDoor
open Go Go.RowKit Go.ChangeShapes Go.WideShapes Go.ChangeAt

theorem Fr.after {x : TrD} {G : GD} {k : Nat} {B : List Nat} {w w1 w2 : World} {g a : Nat} {o : OpD} (hf : Fr w g a o w1) (hd : Done x G k B w1 w2) (hx : ∀ j ∈ x.blocks, j < w.heap.size) : Box w2 g 36 (opA o) ∧ Box w2 a 33 ansZ := by
  obtain ⟨x', h1, h2, h3, h4, h5⟩ := hd
  exact hf.chg h4 (fun j hj => by have := hx j hj; have := hf.gw; omega)
theorem OpRes.put {x : TrD} {k : Nat} {B : List Nat} {w w1 w2 : World} {g a : Nat} {o : OpD} {q : AnsD × GD} {c n : Int} {d : ByteArray} (hf : Fr w g a o w1) (hd : Done x q.2 (k + 1) B w1 w2) (hx : ∀ j ∈ x.blocks, j < w.heap.size) (hB : ∀ j ∈ B, w.heap.size ≤ j ∧ j ≠ a) (hq : q.1 = ⟨c, n, d, []⟩) (u v y z : Value) :
    OpRes x k w q (.returned (ansV c n d nilS)) ((((w2.setCell ⟨a, 0, none⟩ u).setCell ⟨a, 1, none⟩ v).setCell ⟨a, 2, none⟩ y).setCell ⟨a, 3, none⟩ z) := by
  obtain ⟨x', h1, h2, h3, h4, h5⟩ := hd
  have hgw := hf.gw
  have hga := hf.ga
  have hal := hf.ba.lt
  have hx2 : ∀ j ∈ x'.blocks, j ≠ a ∧ (j ∈ x.blocks ∨ w.heap.size ≤ j) := by
    intro j hj
    rcases h5 j hj with e | e | e
    · have := hx j e
      exact ⟨by omega, .inl e⟩
    · exact ⟨(hB j e).2, .inr (hB j e).1⟩
    · exact ⟨by omega, .inr (by omega)⟩
  refine OpRes.done hq ⟨x', h1, h2.chg (Chg.only (only_pt4 w2 a u v y z)) (fun j hj hm => (hx2 j hj).1 (List.mem_singleton.1 hm)), h3, ?_, fun j hj => ?_⟩
  · refine ((Chg.of hf.toW (Nat.le_refl _)).trans h4).then (Chg.only (only_pt4 w2 a u v y z)) (fun i hi => .inr ?_)
    rw [List.mem_singleton.1 hi]
    omega
  · rcases (hx2 j hj).2 with e | e
    · exact .inl e
    · exact .inr (.inr e)

section
variable {x : TrD} {G : GD} {k : Nat} {w : World} (h : TrAt w x) (hr : Rel x.M G k) (hk : k ≤ 1000000)
include h hr hk
set_option maxRecDepth 100000 in
set_option maxHeartbeats 4000000 in
theorem create_any (o : OpD) (ho : o.do_ = 0) (hp : o.path.size ≤ 100000) : Calls Tryz.prog 44 #[.pointer (some ⟨x.b, 0, none⟩), opV o] w (OpRes x k w (doG G o)) := by
  obtain ⟨R, hR⟩ : ∃ R, R = doG G o := ⟨_, rfl⟩
  rw [← hR]
  have HR : Hid (R = makeG G o.path false) := by
    show R = _
    rw [hR]
    unfold doG
    simp only [ho]
    rfl
  have HT0 := Lib.hid h
  have HX := Lib.hid hr
  have HK := Lib.hid hk
  have HP := Lib.hid hp
  have HBL : Hid (∀ j ∈ x.blocks, j < w.heap.size) := h.lt
  have HF1 : Hid (Fr w w.heap.size (w.heap.size + 1) o ((w.alloc (.cells #[.int .i64 o.do_, .string o.path, .string o.dst, .int .i64 o.off, .int .i64 o.len, .string o.data] 36 (0, 0))).alloc (.cells #[.int .i64 0, .int .i64 0, .string ⟨#[]⟩, .slice none 0 0] 33 (0, 0)))) := Fr.new w o
  have HT1 := Lib.hid (h.keep HF1.out.toW)
  have c1 : ((w.alloc (.cells #[.int .i64 o.do_, .string o.path, .string o.dst, .int .i64 o.off, .int .i64 o.len, .string o.data] 36 (0, 0))).alloc (.cells #[.int .i64 0, .int .i64 0, .string ⟨#[]⟩, .slice none 0 0] 33 (0, 0))).cell? ⟨w.heap.size, 1, none⟩ = some (.string o.path) := HF1.out.bo.cell 1 _ rfl
  obtain ⟨g, hg⟩ : ∃ g, g = w.heap.size := ⟨_, rfl⟩
  obtain ⟨a, ha⟩ : ∃ a, a = w.heap.size + 1 := ⟨_, rfl⟩
  rw [← ha, ← hg] at HF1
  have HGW := Lib.hid hg
  have HSZ : Hid (((w.alloc (.cells #[.int .i64 o.do_, .string o.path, .string o.dst, .int .i64 o.off, .int .i64 o.len, .string o.data] 36 (0, 0))).alloc (.cells #[.int .i64 0, .int .i64 0, .string ⟨#[]⟩, .slice none 0 0] 33 (0, 0))).heap.size = a + 1) := by show _ = _; rw [size_alloc, size_alloc, ha]
  clear h hr hk hp ho hR
  unfold opV
  go_enter Tryz.func44, Tryz.ntmps44
  go_wp2_with fail
  rw [← ha, ← hg]
  clear ha hg c1
  generalize World.alloc (World.alloc w _) _ = w1 at *
  have hal := (Below.refl w1.heap.size w1).alloc (Nat.le_refl _) (.cells #[.bool false, .map none, .string ⟨#[]⟩, .int .i64 1] 67 (0, 0))
  have HF2 := Lib.hid (HF1.out.keep hal)
  have HT2 := Lib.hid (HT1.out.keep hal)
  have hnb := Box.new w1 67 #[.bool false, .map none, .string ⟨#[]⟩, .int .i64 1]
  rw [HSZ.out] at hnb
  have hra : RowAt (w1.alloc (.cells #[.bool false, .map none, .string ⟨#[]⟩, .int .i64 1] 67 (0, 0))) ⟨a + 1, none, ⟨false, [], noB, 1⟩⟩ := ⟨hnb, rfl, rfl⟩
  have hga := HF1.out.ga
  have HGA := Lib.hid hga
  have hdis : ∀ j ∈ RowD.blk ⟨a + 1, none, ⟨false, [], noB, 1⟩⟩, j ∉ x.blocks := by
    intro j hj hm
    have h1 := HBL.out j hm
    have h2 := HGW.out
    simp [RowD.blk] at hj
    omega
  have HAD := Lib.hid (add_any HT2.out HX.out HK.out o.path HP.out hra hdis (fun e he => by cases he) ⟨rfl, rfl, fun _ => rfl⟩)
  clear hal hnb hra hga hdis HF1 HT1
  refine HAD.out.mono ?_
  rintro e1 w3 ⟨rfl, hd⟩
  rw [← HR.out] at hd
  have hrc : (makeG G o.path false).1 = R.1 := by rw [HR.out]
  have hb3 := HF2.out.after hd HBL.out
  obtain ⟨⟨s1, s2⟩, s3, s4, s5⟩ := hb3.2.st4
  unfold ansV nilS
  go_wp2
  refine bodyPost_ret (results_cell_row rfl _ _ a 33 _ (0, 0) _ rfl (hb3.2.pt4 _ _ _ _) Tryz.underlying33 rfl sizeAns) rfl ?_
  refine OpRes.put HF2.out hd HBL.out (fun j hj => ?_) ?_ _ _ _ _
  · have h2 := HGW.out
    have h3 := HGA.out
    simp [RowD.blk] at hj
    omega
  · rw [HR.out]
    unfold makeG
    split <;> rfl
set_option maxRecDepth 100000 in
set_option maxHeartbeats 4000000 in
theorem mkdir_any (o : OpD) (ho : o.do_ = 1) (hp : o.path.size ≤ 100000) : Calls Tryz.prog 45 #[.pointer (some ⟨x.b, 0, none⟩), opV o] w (OpRes x k w (doG G o)) := by
  obtain ⟨R, hR⟩ : ∃ R, R = doG G o := ⟨_, rfl⟩
  rw [← hR]
  have HR : Hid (R = makeG G o.path true) := by
    show R = _
    rw [hR]
    unfold doG
    simp only [ho]
    rfl
  have HT0 := Lib.hid h
  have HX := Lib.hid hr
  have HK := Lib.hid hk
  have HP := Lib.hid hp
  have HBL : Hid (∀ j ∈ x.blocks, j < w.heap.size) := h.lt
  have HF1 : Hid (Fr w w.heap.size (w.heap.size + 1) o ((w.alloc (.cells #[.int .i64 o.do_, .string o.path, .string o.dst, .int .i64 o.off, .int .i64 o.len, .string o.data] 36 (0, 0))).alloc (.cells #[.int .i64 0, .int .i64 0, .string ⟨#[]⟩, .slice none 0 0] 33 (0, 0)))) := Fr.new w o
  have HT1 := Lib.hid (h.keep HF1.out.toW)
  have c1 : ((w.alloc (.cells #[.int .i64 o.do_, .string o.path, .string o.dst, .int .i64 o.off, .int .i64 o.len, .string o.data] 36 (0, 0))).alloc (.cells #[.int .i64 0, .int .i64 0, .string ⟨#[]⟩, .slice none 0 0] 33 (0, 0))).cell? ⟨w.heap.size, 1, none⟩ = some (.string o.path) := HF1.out.bo.cell 1 _ rfl
  obtain ⟨g, hg⟩ : ∃ g, g = w.heap.size := ⟨_, rfl⟩
  obtain ⟨a, ha⟩ : ∃ a, a = w.heap.size + 1 := ⟨_, rfl⟩
  rw [← ha, ← hg] at HF1
  have HGW := Lib.hid hg
  have HSZ : Hid (((w.alloc (.cells #[.int .i64 o.do_, .string o.path, .string o.dst, .int .i64 o.off, .int .i64 o.len, .string o.data] 36 (0, 0))).alloc (.cells #[.int .i64 0, .int .i64 0, .string ⟨#[]⟩, .slice none 0 0] 33 (0, 0))).heap.size = a + 1) := by show _ = _; rw [size_alloc, size_alloc, ha]
  clear h hr hk hp ho hR
  unfold opV
  go_enter Tryz.func45, Tryz.ntmps45
  go_wp2_with fail
  rw [← ha, ← hg]
  clear ha hg c1
  generalize World.alloc (World.alloc w _) _ = w1 at *
  have hga := HF1.out.ga
  have HGA := Lib.hid hga
  clear hga
  have c1 : w1.drew.cell? ⟨g, 1, none⟩ = some (.string o.path) := HF1.out.bo.cell 1 _ rfl
  refine wp_region_tree (fun W => W.cell? ⟨g, 1, none⟩ = some (.string o.path)) 4 (.quiet 0 (.quiet 1 (.quiet 2 (.make 3 .nil)))) (by kernel_rfl) (by kernel_rfl) c1 ?_
  simp only [List.drop_succ_cons, List.drop_zero]
  iterate 3 (apply wpTr_step rfl; (intro W hS K hK; go_simp; exact hK _ rfl))
  refine wpTr_make rfl (fun K' hK => ?_)
  go_simp
  refine (newDir_any _).mono ?_
  rintro e1 w2 ⟨rfl, hb, hbx, hmx⟩
  have hb2 : Below w1.heap.size w1 w2 := (Below.refl _ w1).drew.trans hb
  rw [show w1.drew.heap.size = a + 1 from HSZ.out] at hbx hmx ⊢
  have HF2 := Lib.hid (HF1.out.keep hb2)
  have HT2 := Lib.hid (HT1.out.keep hb2)
  refine hK _ _ _ (fun _ h => h) (HF2.out.bo.cell 1 _ rfl) ?_
  clear hK K' hb
  refine wpTr_nil ?_
  have hra : RowAt w2 ⟨a + 1 + 1, some (a + 1), ⟨true, [], noB, 0⟩⟩ := ⟨hbx, hmx, rfl⟩
  have hdis : ∀ j ∈ RowD.blk ⟨a + 1 + 1, some (a + 1), ⟨true, [], noB, 0⟩⟩, j ∉ x.blocks := by
    intro j hj hm
    have h1 := HBL.out j hm
    have h2 := HGW.out
    have h3 := HGA.out
    simp [RowD.blk] at hj
    omega
  have HAD := Lib.hid (add_any HT2.out HX.out HK.out o.path HP.out hra hdis (fun e he => by have he : some (a + 1) = some e := he; have := Option.some.inj he; show e ≠ a + 1 + 1; omega) ⟨rfl, rfl, fun e => by cases e⟩)
  clear hbx hmx hra hdis HF1 HT1 c1 hb2
  go_wp2_with fail
  refine HAD.out.mono ?_
  rintro e1 w3 ⟨rfl, hd⟩
  rw [← HR.out] at hd
  have hrc : (makeG G o.path true).1 = R.1 := by rw [HR.out]
  have hb3 := HF2.out.after hd HBL.out
  obtain ⟨⟨s1, s2⟩, s3, s4, s5⟩ := hb3.2.st4
  unfold ansV nilS
  go_wp2
  refine bodyPost_ret (results_cell_row rfl _ _ a 33 _ (0, 0) _ rfl (hb3.2.pt4 _ _ _ _) Tryz.underlying33 rfl sizeAns) rfl ?_
  refine OpRes.put HF2.out hd HBL.out (fun j hj => ?_) ?_ _ _ _ _
  · have h2 := HGW.out
    have h3 := HGA.out
    simp [RowD.blk] at hj
    omega
  · rw [HR.out]
    unfold makeG
    split <;> rfl
end
end Go.Proofs.YteimpebfenpifaaGreatDoor
