/-
  Package model: a thing's cells; what link, unlink, rmdir, rename make of the tree.
-/
import Derived.Test.YteimpebfenpifaaGreatDoorMoL
namespace Go.Proofs.YteimpebfenpifaaGreatDoor
open Go Go.RowKit Go.ChangeShapes Go.WideShapes Go.ChangeAt

theorem setR_row (x : TrD) (n : Int) (t : ThD) (j : Int) : findL (setR x n t).rows j = (findL x.rows j).map (fun r => if j = n then { r with t := t } else r) := by
  unfold setR
  dsimp only
  exact findL_map (fun (i : Int) (r : RowD) => if i = n then { r with t := t } else r) j x.rows
theorem setR_other {x : TrD} {n j : Int} {t : ThD} {r : RowD} (h : findL x.rows j = some r) (hne : j ≠ n) : findL (setR x n t).rows j = some r := by
  rw [setR_row, h]
  simp [hne]
theorem setR_this {x : TrD} {n : Int} {t : ThD} {r : RowD} (h : findL x.rows n = some r) : findL (setR x n t).rows n = some { r with t := t } := by
  rw [setR_row, h]
  simp
theorem setR_nd {x : TrD} (h : NoDupL x.rows) (n : Int) (t : ThD) : NoDupL (setR x n t).rows := by
  unfold setR
  exact nodup_map (fun (k : Int) (r : RowD) => if k = n then { r with t := t } else r) h
theorem TrAt.setLinks {w : World} {x : TrD} {n : Int} {r : RowD} (h : TrAt w x) (hr : findL x.rows n = some r) (v : Int) : TrAt (w.setCell ⟨r.p, 3, none⟩ (.int .i64 v)) (setR x n { r.t with links := v }) := by
  have hra := h.at_ hr
  have hs := h.self _ (findL_mem hr)
  refine h.setAt hr ((Chg.only (Only.set r.p 3 w _)).mono (fun i hi => by rw [List.mem_singleton.1 hi]; simp [RowD.blk])) ⟨hra.1.set 3 _, ?_, hra.2.2⟩
  have h2 := hra.2.1
  show EmAt _ r.em r.t.ents
  revert h2
  have hne := hs.2.2
  revert hne
  cases r.em with
  | none => exact fun _ h => h
  | some me => exact fun hne h => MapAt.of h (heap_setCell_other w _ me _ (fun e => hne me rfl e))
theorem TrAt.setText {w : World} {x : TrD} {n : Int} {r : RowD} (h : TrAt w x) (hr : findL x.rows n = some r) (v : ByteArray) : TrAt (w.setCell ⟨r.p, 2, none⟩ (.string v)) (setR x n { r.t with text := v }) := by
  have hra := h.at_ hr
  have hs := h.self _ (findL_mem hr)
  refine h.setAt hr ((Chg.only (Only.set r.p 2 w _)).mono (fun i hi => by rw [List.mem_singleton.1 hi]; simp [RowD.blk])) ⟨hra.1.set 2 _, ?_, hra.2.2⟩
  have h2 := hra.2.1
  show EmAt _ r.em r.t.ents
  revert h2
  have hne := hs.2.2
  revert hne
  cases r.em with
  | none => exact fun _ h => h
  | some me => exact fun hne h => MapAt.of h (heap_setCell_other w _ me _ (fun e => hne me rfl e))
theorem find_of_row {x : TrD} {n : Int} {r : RowD} (h : findL x.rows n = some r) : findL x.M.l n = some r.t := by rw [x.find, h]; rfl
theorem setR2_M {x : TrD} {d n : Int} {td tn : ThD} {r rn : RowD} (hd : findL x.rows d = some r) (hn : findL x.rows n = some rn) (hne : n ≠ d) (j : Int) :
    findL (setR (setR x d td) n tn).M.l j = if j = d then some td else if j = n then some tn else findL x.M.l j := by
  rw [setR_M, setR_M, setR_M, find_of_row hd, find_of_row hn, if_neg hne]
  by_cases e : j = d
  · subst e; rw [if_neg (Ne.symm hne), if_pos rfl, if_pos rfl]; rfl
  · rw [if_neg e, if_neg e]
    by_cases e2 : j = n
    · rw [if_pos e2, if_pos e2]; rfl
    · rw [if_neg e2, if_neg e2]
theorem neg_of {M : MoD} {M0 : MoD} {G : GD} {k : Nat} (h : Rel M0 G k) (hl : M.last = M0.last) (hM : ∀ j, (findL M.l j).isSome = true → (findL M0.l j).isSome = true) : ∀ j t, findL M.l j = some t → 0 ≤ j ∧ j ≤ M.last := by
  intro j t ht
  obtain ⟨u, hu⟩ := Option.isSome_iff_exists.1 (hM j (by rw [ht]; rfl))
  rw [hl]
  exact h.num j u hu
theorem links_le {x : TrD} {G : GD} {k : Nat} (h : Rel x.M G k) {n : Nat} {t : ThD} (ht : findL x.M.l (n : Int) = some t) (hf : t.dir = false) : 1 ≤ t.links ∧ t.links ≤ k := by
  have h1 := (h.file n t ht hf).2
  have h2 := h.bE
  have h3 : linksG G n ≤ G.E.length := List.countP_le_length
  obtain ⟨l, hl⟩ := (h.dom n).1 (by rw [ht]; rfl)
  have h0 : l ≠ [] := by
    intro e
    rw [e, atE_nil] at hl
    have := Option.some.inj hl
    rw [← this] at ht
    have h4 := h.dirs ht
    rw [h.wf.root, hf] at h4
    cases h4
  rw [atE_ne h0] at hl
  have h5 : linksG G n ≠ 0 := by
    intro e
    unfold linksG at e
    rw [List.countP_eq_zero] at e
    exact e _ (findL_mem hl) (by simp)
  omega
theorem file_kids {M : MoD} {G : GD} {k : Nat} (h : Rel M G k) {l : PathD} {n : Nat} {t : ThD} (hl : atE G l = some n) (ht : findL M.l (n : Int) = some t) (hf : t.dir = false) : ∀ y, atE G (l ++ [y]) = none := by
  intro y
  cases e : atE G (l ++ [y]) with
  | none => rfl
  | some m =>
    obtain ⟨n2, h1, h2⟩ := h.wf.par l y (by rw [e]; rfl)
    rw [hl] at h1
    rw [← Option.some.inj h1, h.dirs ht, hf] at h2
    cases h2
/-- One link more. -/
theorem rel_link {x : TrD} {G : GD} {k : Nat} (hr : Rel x.M G k) {p : ByteArray} {l la : PathD} {c : ByteArray} {d n : Nat} {r rn : RowD} (hs : splitD p = (l ++ [c], 0)) (hl : atE G l = some d) (hd : dirG G d = true) (hfree : atE G (l ++ [c]) = none) (hc : nameD c)
    (hrr : findL x.rows (d : Int) = some r) (hrn : findL x.rows (n : Int) = some rn) (hla : atE G la = some n) (hf : rn.t.dir = false) (hnd : NoDupL x.rows) :
    n ≠ d ∧ Rel (setR (setR x (d : Int) { r.t with ents := putL r.t.ents c n }) (n : Int) { rn.t with links := rn.t.links + 1 }).M (linkG G n p) (k + 1) := by
  have hft := find_of_row hrr
  have hfn := find_of_row hrn
  have hdn : r.t.dir = true := by rw [← hr.dirs hft]; exact hd
  have hne : n ≠ d := by
    rintro rfl
    rw [hrr] at hrn
    rw [Option.some.inj hrn, hf] at hdn
    cases hdn
  have hne' : (n : Int) ≠ (d : Int) := by omega
  have hM := fun j => setR2_M (td := { r.t with ents := putL r.t.ents c n }) (tn := { rn.t with links := rn.t.links + 1 }) hrr hrn hne' j
  have hfl := hr.file n _ hfn hf
  refine ⟨hne, rel_attach hr (d := d) (n := n) (td := r.t) (t' := { rn.t with links := rn.t.links + 1 }) hl hft hdn hfree hc ?_ (fun _ _ => rfl) (by have := hr.th n _ hfn; exact this) ?_ (Nat.le_refl _) hr.last ?_ ?_ ?_ hne ?_ hfl.1 ?_ ?_ ?_ ?_⟩
  · unfold linkG; rw [hs]
  · exact Nat.le_succ_of_le hr.bT
  · intro j
    rw [hM]
    by_cases e : j = d
    · rw [if_pos (by rw [e]), if_pos e]
    · rw [if_neg (by omega), if_neg e]
      by_cases e2 : j = n
      · rw [if_pos (by rw [e2]), if_pos e2]
      · rw [if_neg (by omega), if_neg e2]
  · refine neg_of hr rfl (fun j hj => ?_)
    rw [hM] at hj
    by_cases e : j = (d : Int)
    · rw [e, hft]; rfl
    · rw [if_neg e] at hj
      by_cases e2 : j = (n : Int)
      · rw [e2, hfn]; rfl
      · rw [if_neg e2] at hj; exact hj
  · refine setR_nodup ?_ _ _
    exact setR_nd hnd _ _
  · rintro rfl
    have := hr.dirs (n := 0) hfn
    rw [hr.wf.root, hf] at this
    cases this
  · have := hr.wf.small n
    unfold textG at this
    rw [hr.th n _ hfn] at this
    exact this
  · intro _
    show rn.t.links + 1 = _
    rw [hfl.2]
  · intro e
    have e : rn.t.dir = true := e
    rw [hf] at e; cases e
  · intro y z hy
    exact file_kids hr hy hfn hf z
/-- An entry of a file less. -/
theorem rel_unlink {x : TrD} {G : GD} {k : Nat} (hr : Rel x.M G k) {p : ByteArray} {l : PathD} {c : ByteArray} {d n : Nat} {r rn : RowD} (hs : splitD p = (l ++ [c], 0)) (hl : atE G l = some d) (hd : dirG G d = true) (hq : atE G (l ++ [c]) = some n)
    (hrr : findL x.rows (d : Int) = some r) (hrn : findL x.rows (n : Int) = some rn) (hf : rn.t.dir = false) (hnd : NoDupL x.rows) :
    n ≠ d ∧ (rn.t.links ≠ 1 → Rel (setR (setR x (d : Int) { r.t with ents := dropL r.t.ents c }) (n : Int) { rn.t with links := rn.t.links - 1 }).M (dropG G p) (k + 1)) ∧
    (rn.t.links = 1 → Rel (delR (setR (setR x (d : Int) { r.t with ents := dropL r.t.ents c }) (n : Int) { rn.t with links := rn.t.links - 1 }) (n : Int)).M (dropG G p) (k + 1)) := by
  have hft := find_of_row hrr
  have hfn := find_of_row hrn
  have hdn : r.t.dir = true := by rw [← hr.dirs hft]; exact hd
  have hne : n ≠ d := by
    rintro rfl
    rw [hrr] at hrn
    rw [Option.some.inj hrn, hf] at hdn
    cases hdn
  have hne' : (n : Int) ≠ (d : Int) := by omega
  have hM := fun j => setR2_M (td := { r.t with ents := dropL r.t.ents c }) (tn := { rn.t with links := rn.t.links - 1 }) hrr hrn hne' j
  have hnd2 : NoDupL (setR (setR x (d : Int) { r.t with ents := dropL r.t.ents c }) (n : Int) { rn.t with links := rn.t.links - 1 }).rows := by
    exact setR_nd (setR_nd hnd _ _) _ _
  have hE : (dropG G p).E = dropL G.E (l ++ [c]) := by unfold dropG dropL; rw [hs]
  refine ⟨hne, fun hk1 => ?_, fun hk1 => ?_⟩
  · refine rel_drop hr (r := some { rn.t with links := rn.t.links - 1 }) hl hft hdn hq (file_kids hr hq hfn hf) hE rfl rfl ?_ ?_ ?_ ?_
    · intro j
      rw [hM]
      by_cases e : j = d
      · rw [if_pos (by rw [e]), if_pos e]
      · rw [if_neg (by omega), if_neg e]
        by_cases e2 : j = n
        · rw [if_pos (by rw [e2]), if_pos e2]
        · rw [if_neg (by omega), if_neg e2]
    · refine neg_of hr rfl (fun j hj => ?_)
      rw [hM] at hj
      by_cases e : j = (d : Int)
      · rw [e, hft]; rfl
      · rw [if_neg e] at hj
        by_cases e2 : j = (n : Int)
        · rw [e2, hfn]; rfl
        · rw [if_neg e2] at hj; exact hj
    · unfold TrD.M
      exact nodup_map (fun _ (r : RowD) => r.t) hnd2
    · intro t ht
      rw [hfn] at ht
      cases ht
      exact ⟨fun e => absurd (hf.symm.trans e) (by decide), fun _ => ⟨fun e => absurd e hk1, fun _ => rfl⟩⟩
  · have hM2 : ∀ j : Int, findL (delR (setR (setR x (d : Int) { r.t with ents := dropL r.t.ents c }) (n : Int) { rn.t with links := rn.t.links - 1 }) (n : Int)).M.l j = if j = d then some { r.t with ents := dropL r.t.ents c } else if j = n then none else findL x.M.l j := by
      intro j
      rw [delR_M, hM]
      by_cases e2 : j = (n : Int)
      · rw [if_pos e2, if_neg (by omega), if_pos e2]
      · rw [if_neg e2]
        by_cases e : j = (d : Int)
        · rw [if_pos e, if_pos e]
        · rw [if_neg e, if_neg e, if_neg e2, if_neg e2]
    refine rel_drop hr (r := none) hl hft hdn hq (file_kids hr hq hfn hf) hE rfl rfl ?_ ?_ ?_ ?_
    · intro j
      rw [hM2]
      by_cases e : j = d
      · rw [if_pos (by rw [e]), if_pos e]
      · rw [if_neg (by omega), if_neg e]
        by_cases e2 : j = n
        · rw [if_pos (by rw [e2]), if_pos e2]
        · rw [if_neg (by omega), if_neg e2]
    · refine neg_of hr rfl (fun j hj => ?_)
      rw [hM2] at hj
      by_cases e : j = (d : Int)
      · rw [e, hft]; rfl
      · rw [if_neg e] at hj
        by_cases e2 : j = (n : Int)
        · rw [if_pos e2] at hj; cases hj
        · rw [if_neg e2] at hj; exact hj
    · unfold TrD.M delR
      exact nodup_map (fun _ (r : RowD) => r.t) (hnd2.drop _)
    · intro t ht
      rw [hfn] at ht
      cases ht
      exact ⟨fun e => absurd (hf.symm.trans e) (by decide), fun _ => ⟨fun _ => rfl, fun e => absurd hk1 e⟩⟩
/-- A directory less. -/
theorem rel_rmdir {x : TrD} {G : GD} {k : Nat} (hr : Rel x.M G k) {p : ByteArray} {l : PathD} {c : ByteArray} {d n : Nat} {r rn : RowD} (hs : splitD p = (l ++ [c], 0)) (hl : atE G l = some d) (hd : dirG G d = true) (hq : atE G (l ++ [c]) = some n)
    (hrr : findL x.rows (d : Int) = some r) (hrn : findL x.rows (n : Int) = some rn) (hf : rn.t.dir = true) (hkid : ∀ y, atE G (l ++ [c] ++ [y]) = none) (hnd : NoDupL x.rows) :
    n ≠ d ∧ Rel (delR (setR x (d : Int) { r.t with ents := dropL r.t.ents c }) (n : Int)).M (dropG G p) (k + 1) := by
  have hft := find_of_row hrr
  have hfn := find_of_row hrn
  have hdn : r.t.dir = true := by rw [← hr.dirs hft]; exact hd
  have hne : n ≠ d := by
    intro e; subst e
    have := congrArg List.length (hr.wf.uniq _ _ _ hl hq hd)
    simp at this
  have hnd2 : NoDupL (setR x (d : Int) { r.t with ents := dropL r.t.ents c }).rows := by
    exact setR_nd hnd _ _
  have hE : (dropG G p).E = dropL G.E (l ++ [c]) := by unfold dropG dropL; rw [hs]
  have hM2 : ∀ j : Int, findL (delR (setR x (d : Int) { r.t with ents := dropL r.t.ents c }) (n : Int)).M.l j = if j = d then some { r.t with ents := dropL r.t.ents c } else if j = n then none else findL x.M.l j := by
    intro j
    rw [delR_M, setR_M, hft]
    by_cases e2 : j = (n : Int)
    · rw [if_pos e2, if_neg (by omega), if_pos e2]
    · rw [if_neg e2]
      by_cases e : j = (d : Int)
      · rw [if_pos e, if_pos e]; rfl
      · rw [if_neg e, if_neg e, if_neg e2]
  refine ⟨hne, rel_drop hr (r := none) hl hft hdn hq hkid hE rfl rfl ?_ ?_ ?_ ?_⟩
  · intro j
    rw [hM2]
    by_cases e : j = d
    · rw [if_pos (by rw [e]), if_pos e]
    · rw [if_neg (by omega), if_neg e]
      by_cases e2 : j = n
      · rw [if_pos (by rw [e2]), if_pos e2]
      · rw [if_neg (by omega), if_neg e2]
  · refine neg_of hr rfl (fun j hj => ?_)
    rw [hM2] at hj
    by_cases e : j = (d : Int)
    · rw [e, hft]; rfl
    · rw [if_neg e] at hj
      by_cases e2 : j = (n : Int)
      · rw [if_pos e2] at hj; cases hj
      · rw [if_neg e2] at hj; exact hj
  · unfold TrD.M delR
    exact nodup_map (fun _ (r : RowD) => r.t) (hnd2.drop _)
  · intro t ht
    rw [hfn] at ht
    cases ht
    exact ⟨fun _ => rfl, fun e => by rw [hf] at e; cases e⟩
end Go.Proofs.YteimpebfenpifaaGreatDoor
