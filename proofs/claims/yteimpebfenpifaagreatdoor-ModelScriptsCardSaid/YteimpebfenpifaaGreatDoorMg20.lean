/-
  Texts put together: MoL, MoM.
-/
import Derived.Test.YteimpebfenpifaaGreatDoorMg19
namespace Go.Proofs.YteimpebfenpifaaGreatDoor
open Go Go.RowKit Go.ChangeShapes Go.WideShapes Go.ChangeAt

theorem Fr.after {x : TrD} {G : GD} {k : Nat} {B : List Nat} {w w1 w2 : World} {g a : Nat} {o : OpD} (hf : Fr w g a o w1) (hd : Done x G k B w1 w2) (hx : ∀ j ∈ x.blocks, j < w.heap.size) : Box w2 g 36 (opA o) ∧ Box w2 a 33 ansZ := by
  obtain ⟨x', h1, h2, h3, h4, h5⟩ := hd
  exact hf.chg h4 (fun j hj => by have := hx j hj; have := hf.gw; omega)
theorem OpRes.put {x : TrD} {k : Nat} {B : List Nat} {w w1 w2 : World} {g a : Nat} {o : OpD} {q : AnsD × GD} {c n : Int} {d : ByteArray} (hf : Fr w g a o w1) (hd : Done x q.2 (k + 1) B w1 w2) (hx : ∀ j ∈ x.blocks, j < w.heap.size) (hB : ∀ j ∈ B, w.heap.size ≤ j ∧ j ≠ a) (hq : q.1 = ⟨c, n, d, []⟩) (u v y z : Value) :
    OpRes x k w q (.returned (ansV c n d nilS)) ((((w2.setCell ⟨a, 0, none⟩ u).setCell ⟨a, 1, none⟩ v).setCell ⟨a, 2, none⟩ y).setCell ⟨a, 3, none⟩ z) := by
  obtain ⟨x', h1, h2, h3, h4, h5⟩ := hd
  have hgw := hf.gw
  have hga := hf.ga
  have hal := hf.ba.lt
  have hx2 : ∀ j ∈ x'.blocks, j ≠ a ∧ (j ∈ x.blocks ∨ w.heap.size ≤ j) := by
    intro j hj
    rcases h5 j hj with e | e | e
    · have := hx j e
      exact ⟨by omega, .inl e⟩
    · exact ⟨(hB j e).2, .inr (hB j e).1⟩
    · exact ⟨by omega, .inr (by omega)⟩
  refine OpRes.done hq ⟨x', h1, h2.chg (Chg.only (only_pt4 w2 a u v y z)) (fun j hj hm => (hx2 j hj).1 (List.mem_singleton.1 hm)), h3, ?_, fun j hj => ?_⟩
  · refine ((Chg.of hf.toW (Nat.le_refl _)).trans h4).then (Chg.only (only_pt4 w2 a u v y z)) (fun i hi => .inr ?_)
    rw [List.mem_singleton.1 hi]
    omega
  · rcases (hx2 j hj).2 with e | e
    · exact .inl e
    · exact .inr (.inr e)

section
variable {x : TrD} {G : GD} {k : Nat} {w : World} (h : TrAt w x) (hr : Rel x.M G k) (hk : k ≤ 1000000)
include h hr hk
set_option maxRecDepth 100000 in
set_option maxHeartbeats 4000000 in
theorem create_any (o : OpD) (ho : o.do_ = 0) (hp : o.path.size ≤ 100000) : Calls Tryz.prog 44 #[.pointer (some ⟨x.b, 0, none⟩), opV o] w (OpRes x k w (doG G o)) := by
  obtain ⟨R, hR⟩ : ∃ R, R = doG G o := ⟨_, rfl⟩
  rw [← hR]
  have HR : Hid (R = makeG G o.path false) := by
    show R = _
    rw [hR]
    unfold doG
    simp only [ho]
    rfl
  have HT0 := Lib.hid h
  have HX := Lib.hid hr
  have HK := Lib.hid hk
  have HP := Lib.hid hp
  have HBL : Hid (∀ j ∈ x.blocks, j < w.heap.size) := h.lt
  have HF1 : Hid (Fr w w.heap.size (w.heap.size + 1) o ((w.alloc (.cells #[.int .i64 o.do_, .string o.path, .string o.dst, .int .i64 o.off, .int .i64 o.len, .string o.data] 36 (0, 0))).alloc (.cells #[.int .i64 0, .int .i64 0, .string ⟨#[]⟩, .slice none 0 0] 33 (0, 0)))) := Fr.new w o
  have HT1 := Lib.hid (h.keep HF1.out.toW)
  have c1 : ((w.alloc (.cells #[.int .i64 o.do_, .string o.path, .string o.dst, .int .i64 o.off, .int .i64 o.len, .string o.data] 36 (0, 0))).alloc (.cells #[.int .i64 0, .int .i64 0, .string ⟨#[]⟩, .slice none 0 0] 33 (0, 0))).cell? ⟨w.heap.size, 1, none⟩ = some (.string o.path) := HF1.out.bo.cell 1 _ rfl
  obtain ⟨g, hg⟩ : ∃ g, g = w.heap.size := ⟨_, rfl⟩
  obtain ⟨a, ha⟩ : ∃ a, a = w.heap.size + 1 := ⟨_, rfl⟩
  rw [← ha, ← hg] at HF1
  have HGW := Lib.hid hg
  have HSZ : Hid (((w.alloc (.cells #[.int .i64 o.do_, .string o.path, .string o.dst, .int .i64 o.off, .int .i64 o.len, .string o.data] 36 (0, 0))).alloc (.cells #[.int .i64 0, .int .i64 0, .string ⟨#[]⟩, .slice none 0 0] 33 (0, 0))).heap.size = a + 1) := by show _ = _; rw [size_alloc, size_alloc, ha]
  clear h hr hk hp ho hR
  unfold opV
  go_enter Tryz.func44, Tryz.ntmps44
  go_wp2_with fail
  rw [← ha, ← hg]
  clear ha hg c1
  generalize World.alloc (World.alloc w _) _ = w1 at *
  have hal := (Below.refl w1.heap.size w1).alloc (Nat.le_refl _) (.cells #[.bool false, .map none, .string ⟨#[]⟩, .int .i64 1] 67 (0, 0))
  have HF2 := Lib.hid (HF1.out.keep hal)
  have HT2 := Lib.hid (HT1.out.keep hal)
  have hnb := Box.new w1 67 #[.bool false, .map none, .string ⟨#[]⟩, .int .i64 1]
  rw [HSZ.out] at hnb
  have hra : RowAt (w1.alloc (.cells #[.bool false, .map none, .string ⟨#[]⟩, .int .i64 1] 67 (0, 0))) ⟨a + 1, none, ⟨false, [], noB, 1⟩⟩ := ⟨hnb, rfl, rfl⟩
  have hga := HF1.out.ga
  have HGA := Lib.hid hga
  have hdis : ∀ j ∈ RowD.blk ⟨a + 1, none, ⟨false, [], noB, 1⟩⟩, j ∉ x.blocks := by
    intro j hj hm
    have h1 := HBL.out j hm
    have h2 := HGW.out
    simp [RowD.blk] at hj
    omega
  have HAD := Lib.hid (add_any HT2.out HX.out HK.out o.path HP.out hra hdis (fun e he => by cases he) ⟨rfl, rfl, fun _ => rfl⟩)
  clear hal hnb hra hga hdis HF1 HT1
  refine HAD.out.mono ?_
  rintro e1 w3 ⟨rfl, hd⟩
  rw [← HR.out] at hd
  have hrc : (makeG G o.path false).1 = R.1 := by rw [HR.out]
  have hb3 := HF2.out.after hd HBL.out
  obtain ⟨⟨s1, s2⟩, s3, s4, s5⟩ := hb3.2.st4
  unfold ansV nilS
  go_wp2
  refine bodyPost_ret (results_cell_row rfl _ _ a 33 _ (0, 0) _ rfl (hb3.2.pt4 _ _ _ _) Tryz.underlying33 rfl sizeAns) rfl ?_
  refine OpRes.put HF2.out hd HBL.out (fun j hj => ?_) ?_ _ _ _ _
  · have h2 := HGW.out
    have h3 := HGA.out
    simp [RowD.blk] at hj
    omega
  · rw [HR.out]
    unfold makeG
    split <;> rfl
set_option maxRecDepth 100000 in
set_option maxHeartbeats 4000000 in
theorem mkdir_any (o : OpD) (ho : o.do_ = 1) (hp : o.path.size ≤ 100000) : Calls Tryz.prog 45 #[.pointer (some ⟨x.b, 0, none⟩), opV o] w (OpRes x k w (doG G o)) := by
  obtain ⟨R, hR⟩ : ∃ R, R = doG G o := ⟨_, rfl⟩
  rw [← hR]
  have HR : Hid (R = makeG G o.path true) := by
    show R = _
    rw [hR]
    unfold doG
    simp only [ho]
    rfl
  have HT0 := Lib.hid h
  have HX := Lib.hid hr
  have HK := Lib.hid hk
  have HP := Lib.hid hp
  have HBL : Hid (∀ j ∈ x.blocks, j < w.heap.size) := h.lt
  have HF1 : Hid (Fr w w.heap.size (w.heap.size + 1) o ((w.alloc (.cells #[.int .i64 o.do_, .string o.path, .string o.dst, .int .i64 o.off, .int .i64 o.len, .string o.data] 36 (0, 0))).alloc (.cells #[.int .i64 0, .int .i64 0, .string ⟨#[]⟩, .slice none 0 0] 33 (0, 0)))) := Fr.new w o
  have HT1 := Lib.hid (h.keep HF1.out.toW)
  have c1 : ((w.alloc (.cells #[.int .i64 o.do_, .string o.path, .string o.dst, .int .i64 o.off, .int .i64 o.len, .string o.data] 36 (0, 0))).alloc (.cells #[.int .i64 0, .int .i64 0, .string ⟨#[]⟩, .slice none 0 0] 33 (0, 0))).cell? ⟨w.heap.size, 1, none⟩ = some (.string o.path) := HF1.out.bo.cell 1 _ rfl
  obtain ⟨g, hg⟩ : ∃ g, g = w.heap.size := ⟨_, rfl⟩
  obtain ⟨a, ha⟩ : ∃ a, a = w.heap.size + 1 := ⟨_, rfl⟩
  rw [← ha, ← hg] at HF1
  have HGW := Lib.hid hg
  have HSZ : Hid (((w.alloc (.cells #[.int .i64 o.do_, .string o.path, .string o.dst, .int .i64 o.off, .int .i64 o.len, .string o.data] 36 (0, 0))).alloc (.cells #[.int .i64 0, .int .i64 0, .string ⟨#[]⟩, .slice none 0 0] 33 (0, 0))).heap.size = a + 1) := by show _ = _; rw [size_alloc, size_alloc, ha]
  clear h hr hk hp ho hR
  unfold opV
  go_enter Tryz.func45, Tryz.ntmps45
  go_wp2_with fail
  rw [← ha, ← hg]
  clear ha hg c1
  generalize World.alloc (World.alloc w _) _ = w1 at *
  have hga := HF1.out.ga
  have HGA := Lib.hid hga
  clear hga
  have c1 : w1.drew.cell? ⟨g, 1, none⟩ = some (.string o.path) := HF1.out.bo.cell 1 _ rfl
  refine wp_region_tree (fun W => W.cell? ⟨g, 1, none⟩ = some (.string o.path)) 4 (.quiet 0 (.quiet 1 (.quiet 2 (.make 3 .nil)))) (by kernel_rfl) (by kernel_rfl) c1 ?_
  simp only [List.drop_succ_cons, List.drop_zero]
  iterate 3 (apply wpTr_step rfl; (intro W hS K hK; go_simp; exact hK _ rfl))
  refine wpTr_make rfl (fun K' hK => ?_)
  go_simp
  refine (newDir_any _).mono ?_
  rintro e1 w2 ⟨rfl, hb, hbx, hmx⟩
  have hb2 : Below w1.heap.size w1 w2 := (Below.refl _ w1).drew.trans hb
  rw [show w1.drew.heap.size = a + 1 from HSZ.out] at hbx hmx ⊢
  have HF2 := Lib.hid (HF1.out.keep hb2)
  have HT2 := Lib.hid (HT1.out.keep hb2)
  refine hK _ _ _ (fun _ h => h) (HF2.out.bo.cell 1 _ rfl) ?_
  clear hK K' hb
  refine wpTr_nil ?_
  have hra : RowAt w2 ⟨a + 1 + 1, some (a + 1), ⟨true, [], noB, 0⟩⟩ := ⟨hbx, hmx, rfl⟩
  have hdis : ∀ j ∈ RowD.blk ⟨a + 1 + 1, some (a + 1), ⟨true, [], noB, 0⟩⟩, j ∉ x.blocks := by
    intro j hj hm
    have h1 := HBL.out j hm
    have h2 := HGW.out
    have h3 := HGA.out
    simp [RowD.blk] at hj
    omega
  have HAD := Lib.hid (add_any HT2.out HX.out HK.out o.path HP.out hra hdis (fun e he => by have he : some (a + 1) = some e := he; have := Option.some.inj he; show e ≠ a + 1 + 1; omega) ⟨rfl, rfl, fun e => by cases e⟩)
  clear hbx hmx hra hdis HF1 HT1 c1 hb2
  go_wp2_with fail
  refine HAD.out.mono ?_
  rintro e1 w3 ⟨rfl, hd⟩
  rw [← HR.out] at hd
  have hrc : (makeG G o.path true).1 = R.1 := by rw [HR.out]
  have hb3 := HF2.out.after hd HBL.out
  obtain ⟨⟨s1, s2⟩, s3, s4, s5⟩ := hb3.2.st4
  unfold ansV nilS
  go_wp2
  refine bodyPost_ret (results_cell_row rfl _ _ a 33 _ (0, 0) _ rfl (hb3.2.pt4 _ _ _ _) Tryz.underlying33 rfl sizeAns) rfl ?_
  refine OpRes.put HF2.out hd HBL.out (fun j hj => ?_) ?_ _ _ _ _
  · have h2 := HGW.out
    have h3 := HGA.out
    simp [RowD.blk] at hj
    omega
  · rw [HR.out]
    unfold makeG
    split <;> rfl
end
end Go.Proofs.YteimpebfenpifaaGreatDoor

namespace Go.Proofs.YteimpebfenpifaaGreatDoor
open Go Go.RowKit Go.ChangeShapes Go.WideShapes Go.ChangeAt

theorem setR_row (x : TrD) (n : Int) (t : ThD) (j : Int) : findL (setR x n t).rows j = (findL x.rows j).map (fun r => if j = n then { r with t := t } else r) := by
  unfold setR
  dsimp only
  exact findL_map (fun (i : Int) (r : RowD) => if i = n then { r with t := t } else r) j x.rows
theorem setR_other {x : TrD} {n j : Int} {t : ThD} {r : RowD} (h : findL x.rows j = some r) (hne : j ≠ n) : findL (setR x n t).rows j = some r := by
  rw [setR_row, h]
  simp [hne]
theorem setR_this {x : TrD} {n : Int} {t : ThD} {r : RowD} (h : findL x.rows n = some r) : findL (setR x n t).rows n = some { r with t := t } := by
  rw [setR_row, h]
  simp
theorem setR_nd {x : TrD} (h : NoDupL x.rows) (n : Int) (t : ThD) : NoDupL (setR x n t).rows := by
  unfold setR
  exact nodup_map (fun (k : Int) (r : RowD) => if k = n then { r with t := t } else r) h
theorem TrAt.setLinks {w : World} {x : TrD} {n : Int} {r : RowD} (h : TrAt w x) (hr : findL x.rows n = some r) (v : Int) : TrAt (w.setCell ⟨r.p, 3, none⟩ (.int .i64 v)) (setR x n { r.t with links := v }) := by
  have hra := h.at_ hr
  have hs := h.self _ (findL_mem hr)
  refine h.setAt hr ((Chg.only (Only.set r.p 3 w _)).mono (fun i hi => by rw [List.mem_singleton.1 hi]; simp [RowD.blk])) ⟨hra.1.set 3 _, ?_, hra.2.2⟩
  have h2 := hra.2.1
  show EmAt _ r.em r.t.ents
  revert h2
  have hne := hs.2.2
  revert hne
  cases r.em with
  | none => exact fun _ h => h
  | some me => exact fun hne h => MapAt.of h (heap_setCell_other w _ me _ (fun e => hne me rfl e))
theorem TrAt.setText {w : World} {x : TrD} {n : Int} {r : RowD} (h : TrAt w x) (hr : findL x.rows n = some r) (v : ByteArray) : TrAt (w.setCell ⟨r.p, 2, none⟩ (.string v)) (setR x n { r.t with text := v }) := by
  have hra := h.at_ hr
  have hs := h.self _ (findL_mem hr)
  refine h.setAt hr ((Chg.only (Only.set r.p 2 w _)).mono (fun i hi => by rw [List.mem_singleton.1 hi]; simp [RowD.blk])) ⟨hra.1.set 2 _, ?_, hra.2.2⟩
  have h2 := hra.2.1
  show EmAt _ r.em r.t.ents
  revert h2
  have hne := hs.2.2
  revert hne
  cases r.em with
  | none => exact fun _ h => h
  | some me => exact fun hne h => MapAt.of h (heap_setCell_other w _ me _ (fun e => hne me rfl e))
theorem find_of_row {x : TrD} {n : Int} {r : RowD} (h : findL x.rows n = some r) : findL x.M.l n = some r.t := by rw [x.find, h]; rfl
theorem setR2_M {x : TrD} {d n : Int} {td tn : ThD} {r rn : RowD} (hd : findL x.rows d = some r) (hn : findL x.rows n = some rn) (hne : n ≠ d) (j : Int) :
    findL (setR (setR x d td) n tn).M.l j = if j = d then some td else if j = n then some tn else findL x.M.l j := by
  rw [setR_M, setR_M, setR_M, find_of_row hd, find_of_row hn, if_neg hne]
  by_cases e : j = d
  · subst e; rw [if_neg (Ne.symm hne), if_pos rfl, if_pos rfl]; rfl
  · rw [if_neg e, if_neg e]
    by_cases e2 : j = n
    · rw [if_pos e2, if_pos e2]; rfl
    · rw [if_neg e2, if_neg e2]
theorem neg_of {M : MoD} {M0 : MoD} {G : GD} {k : Nat} (h : Rel M0 G k) (hl : M.last = M0.last) (hM : ∀ j, (findL M.l j).isSome = true → (findL M0.l j).isSome = true) : ∀ j t, findL M.l j = some t → 0 ≤ j ∧ j ≤ M.last := by
  intro j t ht
  obtain ⟨u, hu⟩ := Option.isSome_iff_exists.1 (hM j (by rw [ht]; rfl))
  rw [hl]
  exact h.num j u hu
theorem links_le {x : TrD} {G : GD} {k : Nat} (h : Rel x.M G k) {n : Nat} {t : ThD} (ht : findL x.M.l (n : Int) = some t) (hf : t.dir = false) : 1 ≤ t.links ∧ t.links ≤ k := by
  have h1 := (h.file n t ht hf).2
  have h2 := h.bE
  have h3 : linksG G n ≤ G.E.length := List.countP_le_length
  obtain ⟨l, hl⟩ := (h.dom n).1 (by rw [ht]; rfl)
  have h0 : l ≠ [] := by
    intro e
    rw [e, atE_nil] at hl
    have := Option.some.inj hl
    rw [← this] at ht
    have h4 := h.dirs ht
    rw [h.wf.root, hf] at h4
    cases h4
  rw [atE_ne h0] at hl
  have h5 : linksG G n ≠ 0 := by
    intro e
    unfold linksG at e
    rw [List.countP_eq_zero] at e
    exact e _ (findL_mem hl) (by simp)
  omega
theorem file_kids {M : MoD} {G : GD} {k : Nat} (h : Rel M G k) {l : PathD} {n : Nat} {t : ThD} (hl : atE G l = some n) (ht : findL M.l (n : Int) = some t) (hf : t.dir = false) : ∀ y, atE G (l ++ [y]) = none := by
  intro y
  cases e : atE G (l ++ [y]) with
  | none => rfl
  | some m =>
    obtain ⟨n2, h1, h2⟩ := h.wf.par l y (by rw [e]; rfl)
    rw [hl] at h1
    rw [← Option.some.inj h1, h.dirs ht, hf] at h2
    cases h2
/-- One link more. -/
theorem rel_link {x : TrD} {G : GD} {k : Nat} (hr : Rel x.M G k) {p : ByteArray} {l la : PathD} {c : ByteArray} {d n : Nat} {r rn : RowD} (hs : splitD p = (l ++ [c], 0)) (hl : atE G l = some d) (hd : dirG G d = true) (hfree : atE G (l ++ [c]) = none) (hc : nameD c)
    (hrr : findL x.rows (d : Int) = some r) (hrn : findL x.rows (n : Int) = some rn) (hla : atE G la = some n) (hf : rn.t.dir = false) (hnd : NoDupL x.rows) :
    n ≠ d ∧ Rel (setR (setR x (d : Int) { r.t with ents := putL r.t.ents c n }) (n : Int) { rn.t with links := rn.t.links + 1 }).M (linkG G n p) (k + 1) := by
  have hft := find_of_row hrr
  have hfn := find_of_row hrn
  have hdn : r.t.dir = true := by rw [← hr.dirs hft]; exact hd
  have hne : n ≠ d := by
    rintro rfl
    rw [hrr] at hrn
    rw [Option.some.inj hrn, hf] at hdn
    cases hdn
  have hne' : (n : Int) ≠ (d : Int) := by omega
  have hM := fun j => setR2_M (td := { r.t with ents := putL r.t.ents c n }) (tn := { rn.t with links := rn.t.links + 1 }) hrr hrn hne' j
  have hfl := hr.file n _ hfn hf
  refine ⟨hne, rel_attach hr (d := d) (n := n) (td := r.t) (t' := { rn.t with links := rn.t.links + 1 }) hl hft hdn hfree hc ?_ (fun _ _ => rfl) (by have := hr.th n _ hfn; exact this) ?_ (Nat.le_refl _) hr.last ?_ ?_ ?_ hne ?_ hfl.1 ?_ ?_ ?_ ?_⟩
  · unfold linkG; rw [hs]
  · exact Nat.le_succ_of_le hr.bT
  · intro j
    rw [hM]
    by_cases e : j = d
    · rw [if_pos (by rw [e]), if_pos e]
    · rw [if_neg (by omega), if_neg e]
      by_cases e2 : j = n
      · rw [if_pos (by rw [e2]), if_pos e2]
      · rw [if_neg (by omega), if_neg e2]
  · refine neg_of hr rfl (fun j hj => ?_)
    rw [hM] at hj
    by_cases e : j = (d : Int)
    · rw [e, hft]; rfl
    · rw [if_neg e] at hj
      by_cases e2 : j = (n : Int)
      · rw [e2, hfn]; rfl
      · rw [if_neg e2] at hj; exact hj
  · refine setR_nodup ?_ _ _
    exact setR_nd hnd _ _
  · rintro rfl
    have := hr.dirs (n := 0) hfn
    rw [hr.wf.root, hf] at this
    cases this
  · have := hr.wf.small n
    unfold textG at this
    rw [hr.th n _ hfn] at this
    exact this
  · intro _
    show rn.t.links + 1 = _
    rw [hfl.2]
  · intro e
    have e : rn.t.dir = true := e
    rw [hf] at e; cases e
  · intro y z hy
    exact file_kids hr hy hfn hf z
/-- An entry of a file less. -/
theorem rel_unlink {x : TrD} {G : GD} {k : Nat} (hr : Rel x.M G k) {p : ByteArray} {l : PathD} {c : ByteArray} {d n : Nat} {r rn : RowD} (hs : splitD p = (l ++ [c], 0)) (hl : atE G l = some d) (hd : dirG G d = true) (hq : atE G (l ++ [c]) = some n)
    (hrr : findL x.rows (d : Int) = some r) (hrn : findL x.rows (n : Int) = some rn) (hf : rn.t.dir = false) (hnd : NoDupL x.rows) :
    n ≠ d ∧ (rn.t.links ≠ 1 → Rel (setR (setR x (d : Int) { r.t with ents := dropL r.t.ents c }) (n : Int) { rn.t with links := rn.t.links - 1 }).M (dropG G p) (k + 1)) ∧
    (rn.t.links = 1 → Rel (delR (setR (setR x (d : Int) { r.t with ents := dropL r.t.ents c }) (n : Int) { rn.t with links := rn.t.links - 1 }) (n : Int)).M (dropG G p) (k + 1)) := by
  have hft := find_of_row hrr
  have hfn := find_of_row hrn
  have hdn : r.t.dir = true := by rw [← hr.dirs hft]; exact hd
  have hne : n ≠ d := by
    rintro rfl
    rw [hrr] at hrn
    rw [Option.some.inj hrn, hf] at hdn
    cases hdn
  have hne' : (n : Int) ≠ (d : Int) := by omega
  have hM := fun j => setR2_M (td := { r.t with ents := dropL r.t.ents c }) (tn := { rn.t with links := rn.t.links - 1 }) hrr hrn hne' j
  have hnd2 : NoDupL (setR (setR x (d : Int) { r.t with ents := dropL r.t.ents c }) (n : Int) { rn.t with links := rn.t.links - 1 }).rows := by
    exact setR_nd (setR_nd hnd _ _) _ _
  have hE : (dropG G p).E = dropL G.E (l ++ [c]) := by unfold dropG dropL; rw [hs]
  refine ⟨hne, fun hk1 => ?_, fun hk1 => ?_⟩
  · refine rel_drop hr (r := some { rn.t with links := rn.t.links - 1 }) hl hft hdn hq (file_kids hr hq hfn hf) hE rfl rfl ?_ ?_ ?_ ?_
    · intro j
      rw [hM]
      by_cases e : j = d
      · rw [if_pos (by rw [e]), if_pos e]
      · rw [if_neg (by omega), if_neg e]
        by_cases e2 : j = n
        · rw [if_pos (by rw [e2]), if_pos e2]
        · rw [if_neg (by omega), if_neg e2]
    · refine neg_of hr rfl (fun j hj => ?_)
      rw [hM] at hj
      by_cases e : j = (d : Int)
      · rw [e, hft]; rfl
      · rw [if_neg e] at hj
        by_cases e2 : j = (n : Int)
        · rw [e2, hfn]; rfl
        · rw [if_neg e2] at hj; exact hj
    · unfold TrD.M
      exact nodup_map (fun _ (r : RowD) => r.t) hnd2
    · intro t ht
      rw [hfn] at ht
      cases ht
      exact ⟨fun e => absurd (hf.symm.trans e) (by decide), fun _ => ⟨fun e => absurd e hk1, fun _ => rfl⟩⟩
  · have hM2 : ∀ j : Int, findL (delR (setR (setR x (d : Int) { r.t with ents := dropL r.t.ents c }) (n : Int) { rn.t with links := rn.t.links - 1 }) (n : Int)).M.l j = if j = d then some { r.t with ents := dropL r.t.ents c } else if j = n then none else findL x.M.l j := by
      intro j
      rw [delR_M, hM]
      by_cases e2 : j = (n : Int)
      · rw [if_pos e2, if_neg (by omega), if_pos e2]
      · rw [if_neg e2]
        by_cases e : j = (d : Int)
        · rw [if_pos e, if_pos e]
        · rw [if_neg e, if_neg e, if_neg e2, if_neg e2]
    refine rel_drop hr (r := none) hl hft hdn hq (file_kids hr hq hfn hf) hE rfl rfl ?_ ?_ ?_ ?_
    · intro j
      rw [hM2]
      by_cases e : j = d
      · rw [if_pos (by rw [e]), if_pos e]
      · rw [if_neg (by omega), if_neg e]
        by_cases e2 : j = n
        · rw [if_pos (by rw [e2]), if_pos e2]
        · rw [if_neg (by omega), if_neg e2]
    · refine neg_of hr rfl (fun j hj => ?_)
      rw [hM2] at hj
      by_cases e : j = (d : Int)
      · rw [e, hft]; rfl
      · rw [if_neg e] at hj
        by_cases e2 : j = (n : Int)
        · rw [if_pos e2] at hj; cases hj
        · rw [if_neg e2] at hj; exact hj
    · unfold TrD.M delR
      exact nodup_map (fun _ (r : RowD) => r.t) (hnd2.drop _)
    · intro t ht
      rw [hfn] at ht
      cases ht
      exact ⟨fun e => absurd (hf.symm.trans e) (by decide), fun _ => ⟨fun _ => rfl, fun e => absurd hk1 e⟩⟩
/-- A directory less. -/
theorem rel_rmdir {x : TrD} {G : GD} {k : Nat} (hr : Rel x.M G k) {p : ByteArray} {l : PathD} {c : ByteArray} {d n : Nat} {r rn : RowD} (hs : splitD p = (l ++ [c], 0)) (hl : atE G l = some d) (hd : dirG G d = true) (hq : atE G (l ++ [c]) = some n)
    (hrr : findL x.rows (d : Int) = some r) (hrn : findL x.rows (n : Int) = some rn) (hf : rn.t.dir = true) (hkid : ∀ y, atE G (l ++ [c] ++ [y]) = none) (hnd : NoDupL x.rows) :
    n ≠ d ∧ Rel (delR (setR x (d : Int) { r.t with ents := dropL r.t.ents c }) (n : Int)).M (dropG G p) (k + 1) := by
  have hft := find_of_row hrr
  have hfn := find_of_row hrn
  have hdn : r.t.dir = true := by rw [← hr.dirs hft]; exact hd
  have hne : n ≠ d := by
    intro e; subst e
    have := congrArg List.length (hr.wf.uniq _ _ _ hl hq hd)
    simp at this
  have hnd2 : NoDupL (setR x (d : Int) { r.t with ents := dropL r.t.ents c }).rows := by
    exact setR_nd hnd _ _
  have hE : (dropG G p).E = dropL G.E (l ++ [c]) := by unfold dropG dropL; rw [hs]
  have hM2 : ∀ j : Int, findL (delR (setR x (d : Int) { r.t with ents := dropL r.t.ents c }) (n : Int)).M.l j = if j = d then some { r.t with ents := dropL r.t.ents c } else if j = n then none else findL x.M.l j := by
    intro j
    rw [delR_M, setR_M, hft]
    by_cases e2 : j = (n : Int)
    · rw [if_pos e2, if_neg (by omega), if_pos e2]
    · rw [if_neg e2]
      by_cases e : j = (d : Int)
      · rw [if_pos e, if_pos e]; rfl
      · rw [if_neg e, if_neg e, if_neg e2]
  refine ⟨hne, rel_drop hr (r := none) hl hft hdn hq hkid hE rfl rfl ?_ ?_ ?_ ?_⟩
  · intro j
    rw [hM2]
    by_cases e : j = d
    · rw [if_pos (by rw [e]), if_pos e]
    · rw [if_neg (by omega), if_neg e]
      by_cases e2 : j = n
      · rw [if_pos (by rw [e2]), if_pos e2]
      · rw [if_neg (by omega), if_neg e2]
  · refine neg_of hr rfl (fun j hj => ?_)
    rw [hM2] at hj
    by_cases e : j = (d : Int)
    · rw [e, hft]; rfl
    · rw [if_neg e] at hj
      by_cases e2 : j = (n : Int)
      · rw [if_pos e2] at hj; cases hj
      · rw [if_neg e2] at hj; exact hj
  · unfold TrD.M delR
    exact nodup_map (fun _ (r : RowD) => r.t) (hnd2.drop _)
  · intro t ht
    rw [hfn] at ht
    cases ht
    exact ⟨fun _ => rfl, fun e => by rw [hf] at e; cases e⟩
end Go.Proofs.YteimpebfenpifaaGreatDoor
