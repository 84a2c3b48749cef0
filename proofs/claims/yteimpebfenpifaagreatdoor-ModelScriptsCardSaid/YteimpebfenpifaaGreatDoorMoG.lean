/-
  Trees of files: things by numbers and entries by paths tell the same tree. No program here.
-/
import Derived.Test.YteimpebfenpifaaGreatDoorMg12
namespace Go.Proofs.YteimpebfenpifaaGreatDoor
open Go.RowKit

theorem atE_nil (G : GD) : atE G [] = some 0 := if_pos rfl
theorem atE_ne {G : GD} {l : PathD} (h : l ≠ []) : atE G l = findL G.E l := if_neg h
theorem snoc_ne (l : PathD) (c : ByteArray) : l ++ [c] ≠ [] := by simp
theorem atE_snoc (G : GD) (l : PathD) (c : ByteArray) : atE G (l ++ [c]) = findL G.E (l ++ [c]) := atE_ne (snoc_ne l c)

structure WfG (G : GD) : Prop where
  nd : NoDupL G.E
  ne : ∀ x ∈ G.E, x.1 ≠ []
  names : ∀ x ∈ G.E, ∀ c ∈ x.1, nameD c
  par : ∀ l c, (atE G (l ++ [c])).isSome = true → ∃ n, atE G l = some n ∧ dirG G n = true
  root : dirG G 0 = true
  uniq : ∀ l l' n, atE G l = some n → atE G l' = some n → dirG G n = true → l = l'
  num : ∀ x ∈ G.E, x.2 < G.T.length
  small : ∀ n, (textG G n).size ≤ 16384

structure Rel (M : MoD) (G : GD) (k : Nat) : Prop where
  wf : WfG G
  mnd : NoDupL M.l
  last : M.last + 1 = (G.T.length : Int)
  num : ∀ j t, findL M.l j = some t → 0 ≤ j ∧ j ≤ M.last
  dom : ∀ n : Nat, (findL M.l (n : Int)).isSome = true ↔ ∃ l, atE G l = some n
  th : ∀ (n : Nat) t, findL M.l (n : Int) = some t → G.T[n]? = some ⟨t.dir, t.text⟩
  nds : ∀ (n : Nat) t, findL M.l (n : Int) = some t → NoDupL t.ents ∧ t.ents.length ≤ k
  ent : ∀ l (n : Nat) t, atE G l = some n → findL M.l (n : Int) = some t → ∀ c, findL t.ents c = (atE G (l ++ [c])).map (fun j => (j : Int))
  file : ∀ (n : Nat) t, findL M.l (n : Int) = some t → t.dir = false → t.ents = [] ∧ t.links = (linksG G n : Int)
  bE : G.E.length ≤ k
  bT : G.T.length ≤ k + 1

theorem Rel.dirs {M : MoD} {G : GD} {k : Nat} (h : Rel M G k) {n : Nat} {t : ThD} (ht : findL M.l (n : Int) = some t) : dirG G n = t.dir := by
  unfold dirG; rw [h.th n t ht]
theorem Rel.dirO {M : MoD} {G : GD} {k : Nat} (h : Rel M G k) {n : Nat} {l : PathD} (hl : atE G l = some n) : ∃ t, findL M.l (n : Int) = some t ∧ dirOf M n = t.dir ∧ entsOf M n = t.ents ∧ dirG G n = t.dir := by
  have h1 := (h.dom n).2 ⟨l, hl⟩
  obtain ⟨t, ht⟩ := Option.isSome_iff_exists.1 h1
  exact ⟨t, ht, by unfold dirOf; rw [ht], by unfold entsOf; rw [ht], h.dirs ht⟩
theorem step_rel {M : MoD} {G : GD} {k : Nat} (h : Rel M G k) : ∀ (r pre : PathD) (n : Nat), atE G pre = some n → stepM M n r = (((stepG G pre r).1 : Int), (stepG G pre r).2)
  | [], pre, n, hn => by simp [stepM, stepG, hn]
  | x :: r, pre, n, hn => by
    obtain ⟨t, ht, h1, h2, h3⟩ := h.dirO hn
    unfold stepM stepG
    rw [hn, Option.getD_some, h1, h3, h2]
    by_cases hd : t.dir = false
    · rw [if_pos hd, if_pos hd]; rfl
    · rw [if_neg hd, if_neg hd, h.ent pre n t hn ht x]
      cases e : atE G (pre ++ [x]) with
      | none => rfl
      | some m => exact step_rel h r (pre ++ [x]) m e
theorem WfG.pre {G : GD} (h : WfG G) (l : PathD) : ∀ (r : PathD), (atE G (l ++ r)).isSome = true → (atE G l).isSome = true := by
  intro r
  induction hr : r.length generalizing r with
  | zero => have : r = [] := List.eq_nil_of_length_eq_zero hr; subst this; intro e; simpa using e
  | succ m ih =>
    rcases List.eq_nil_or_concat r with e | ⟨r', c, e⟩
    · subst e; simp at hr
    · rw [List.concat_eq_append] at e
      subst e
      intro hs
      rw [← List.append_assoc] at hs
      obtain ⟨n, hn, _⟩ := h.par _ _ hs
      exact ih r' (by simpa using hr) (by rw [hn]; rfl)
theorem stepG_some {G : GD} (h : WfG G) : ∀ (r pre : PathD) (m : Nat), atE G (pre ++ r) = some m → stepG G pre r = (m, 0)
  | [], pre, m, hm => by rw [List.append_nil] at hm; simp [stepG, hm]
  | x :: r, pre, m, hm => by
    have e : pre ++ x :: r = (pre ++ [x]) ++ r := by simp
    rw [e] at hm
    have h1 := h.pre (pre ++ [x]) r (by rw [hm]; rfl)
    obtain ⟨n, hn, hd⟩ := h.par _ _ h1
    obtain ⟨n2, hn2⟩ := Option.isSome_iff_exists.1 h1
    unfold stepG
    rw [hn, Option.getD_some, if_neg (by rw [hd]; simp), hn2]
    exact stepG_some h r (pre ++ [x]) m hm
theorem stepG_zero {G : GD} : ∀ (r pre : PathD), (atE G pre).isSome = true → (stepG G pre r).2 = 0 → atE G (pre ++ r) = some (stepG G pre r).1
  | [], pre, hs, _ => by
    obtain ⟨n, hn⟩ := Option.isSome_iff_exists.1 hs
    simp [stepG, hn]
  | x :: r, pre, hs, hz => by
    unfold stepG at hz ⊢
    by_cases hd : dirG G ((atE G pre).getD 0) = false
    · rw [if_pos hd] at hz; cases hz
    · rw [if_neg hd] at hz ⊢
      cases e : atE G (pre ++ [x]) with
      | none => rw [e] at hz; cases hz
      | some m =>
        rw [e] at hz
        have := stepG_zero r (pre ++ [x]) (by rw [e]; rfl) hz
        rw [List.append_assoc] at this
        exact this
theorem lead_rel {M : MoD} {G : GD} {k : Nat} (h : Rel M G k) (p : ByteArray) : leadM M p = (((leadG G p).1 : Int), (leadG G p).2) := by
  unfold leadM leadG
  by_cases hs : (splitD p).2 = 0
  · rw [if_pos hs, if_pos hs]
    exact step_rel h _ [] 0 (atE_nil G)
  · rw [if_neg hs, if_neg hs]; rfl
theorem leadG_at {G : GD} {p : ByteArray} (h : (leadG G p).2 = 0) : (splitD p).2 = 0 ∧ atE G (splitD p).1 = some (leadG G p).1 := by
  unfold leadG at h ⊢
  by_cases hs : (splitD p).2 = 0
  · rw [if_pos hs] at h ⊢
    exact ⟨hs, stepG_zero _ [] (by rw [atE_nil]; rfl) h⟩
  · rw [if_neg hs] at h; exact absurd h hs
theorem leadG_of {G : GD} (hw : WfG G) {p : ByteArray} {n : Nat} (hs : (splitD p).2 = 0) (h : atE G (splitD p).1 = some n) : leadG G p = (n, 0) := by
  unfold leadG
  rw [if_pos hs]
  exact stepG_some hw _ [] n h
theorem split_rootB : splitD rootB = ([], 0) := by decide +kernel
theorem root_of {p : ByteArray} (h : (splitD p).2 = 0) (h2 : (splitD p).1 = []) : p = rootB := by
  have := join_split h
  rw [h2] at this
  rw [← this]
  decide +kernel
theorem front_names {p : ByteArray} (h : (splitD p).2 = 0) : splitD (joinD (splitD p).1.dropLast) = ((splitD p).1.dropLast, 0) :=
  split_join (fun x hx => names_ok h x (List.dropLast_subset _ hx))
theorem dir_rel {M : MoD} {G : GD} {k : Nat} (h : Rel M G k) (p : ByteArray) : dirM M p = if (leadG G p).2 = 0 ∧ dirG G (leadG G p).1 = false then (0, 11) else (((leadG G p).1 : Int), (leadG G p).2) := by
  unfold dirM
  rw [lead_rel h]
  dsimp only
  by_cases h0 : (leadG G p).2 = 0
  · obtain ⟨t, ht, h1, h2, h3⟩ := h.dirO (leadG_at h0).2
    rw [h1, h3]
  · rw [if_neg (fun e => h0 e.1), if_neg (fun e => h0 e.1)]
theorem file_rel {M : MoD} {G : GD} {k : Nat} (h : Rel M G k) (p : ByteArray) : fileM M p = if (leadG G p).2 = 0 ∧ dirG G (leadG G p).1 = true then (0, 10) else (((leadG G p).1 : Int), (leadG G p).2) := by
  unfold fileM
  rw [lead_rel h]
  dsimp only
  by_cases h0 : (leadG G p).2 = 0
  · obtain ⟨t, ht, h1, h2, h3⟩ := h.dirO (leadG_at h0).2
    rw [h1, h3]
  · rw [if_neg (fun e => h0 e.1), if_neg (fun e => h0 e.1)]
/-- A free path: where it stands. -/
theorem free_rel {M : MoD} {G : GD} {k : Nat} (h : Rel M G k) (p : ByteArray) :
    (freeG G p ≠ 0 → freeM M p = (0, noB, freeG G p)) ∧
    (freeG G p = 0 → ∃ (l : PathD) (c : ByteArray) (d : Nat), (splitD p).2 = 0 ∧ (splitD p).1 = l ++ [c] ∧ atE G l = some d ∧ dirG G d = true ∧ atE G (l ++ [c]) = none ∧ nameD c ∧ freeM M p = ((d : Int), c, 0)) := by
  by_cases hs : (splitD p).2 = 0
  · by_cases hr : (splitD p).1 = []
    · have e := root_of hs hr
      have hf : freeG G p = 9 := by unfold freeG; rw [if_neg (fun x => x hs), if_pos hr]
      rw [hf]
      refine ⟨fun _ => ?_, fun e => by cases e⟩
      unfold freeM; rw [if_pos e]
    · have hnr : p ≠ rootB := by intro e; rw [e, split_rootB] at hr; exact hr rfl
      have hp := parD_ok hs hr
      obtain ⟨l, c, hlc⟩ : ∃ l c, (splitD p).1 = l ++ [c] := by
        rcases List.eq_nil_or_concat (splitD p).1 with e | ⟨l, c, e⟩
        · exact absurd e hr
        · exact ⟨l, c, by rw [e, List.concat_eq_append]⟩
      have hdl : (splitD p).1.dropLast = l := by rw [hlc]; simp
      have hgl : (splitD p).1.getLastD noB = c := by rw [hlc]; simp
      have hfn := front_names hs
      rw [hdl] at hfn
      have hle : leadG G (joinD l) = stepG G [] l := by unfold leadG; rw [hfn, if_pos rfl]
      have hfg : freeG G p = if (stepG G [] l).2 ≠ 0 then (stepG G [] l).2 else if dirG G (stepG G [] l).1 = false then 11 else if (atE G (l ++ [c])).isSome = true then 9 else 0 := by
        unfold freeG; rw [if_neg (fun x => x hs), if_neg hr, hdl, hlc]
      have hfm : freeM M p = if (dirM M (joinD l)).2 ≠ 0 then (0, noB, (dirM M (joinD l)).2) else if (findL (entsOf M (dirM M (joinD l)).1) c).isSome = true then (0, noB, 9) else ((dirM M (joinD l)).1, c, 0) := by
        unfold freeM
        rw [if_neg hnr, hp]
        dsimp only
        rw [if_neg (fun x => x rfl), hdl, hgl]
      rw [dir_rel h, hle] at hfm
      by_cases h1 : (stepG G [] l).2 = 0
      · have hat := stepG_zero l [] (by rw [atE_nil]; rfl) h1
        rw [List.nil_append] at hat
        obtain ⟨t, ht, q1, q2, q3⟩ := h.dirO hat
        rw [if_neg (show ¬ (stepG G [] l).2 ≠ 0 from fun x => x h1)] at hfg
        by_cases h2 : dirG G (stepG G [] l).1 = false
        · rw [if_pos h2] at hfg
          rw [if_pos (show (stepG G [] l).2 = 0 ∧ dirG G (stepG G [] l).1 = false from ⟨h1, h2⟩)] at hfm
          rw [hfg, hfm]
          exact ⟨fun _ => rfl, fun e => by cases e⟩
        · rw [if_neg h2] at hfg
          rw [if_neg (show ¬ ((stepG G [] l).2 = 0 ∧ dirG G (stepG G [] l).1 = false) from fun x => h2 x.2)] at hfm
          dsimp only at hfm
          rw [if_neg (show ¬ (stepG G [] l).2 ≠ 0 from fun x => x h1), q2, h.ent l _ t hat ht c] at hfm
          rw [hfg, hfm]
          cases e : atE G (l ++ [c]) with
          | some m => simp
          | none =>
            simp only [Option.isSome_none, Bool.false_eq_true, if_false, ne_eq, not_true_eq_false, false_imp_iff, true_and, true_imp_iff]
            refine ⟨l, c, (stepG G [] l).1, hs, hlc, hat, by simpa using h2, e, ?_, rfl⟩
            exact names_ok hs c (by rw [hlc]; simp)
      · rw [if_pos (show (stepG G [] l).2 ≠ 0 from h1)] at hfg
        rw [if_neg (show ¬ ((stepG G [] l).2 = 0 ∧ dirG G (stepG G [] l).1 = false) from fun x => h1 x.1)] at hfm
        dsimp only at hfm
        rw [if_pos (show (stepG G [] l).2 ≠ 0 from h1)] at hfm
        rw [hfg, hfm]
        exact ⟨fun _ => rfl, fun e => absurd e h1⟩
  · have hnr : p ≠ rootB := by intro e; rw [e, split_rootB] at hs; exact hs rfl
    have hf : freeG G p = (splitD p).2 := by unfold freeG; rw [if_pos hs]
    rw [hf]
    refine ⟨fun _ => ?_, fun e => absurd e hs⟩
    unfold freeM
    rw [if_neg hnr, parD_err hs]
    dsimp only
    rw [if_pos hs]

/-! ### what an op does -/
theorem snoc_inj {l l' : PathD} {c c' : ByteArray} (h : l ++ [c] = l' ++ [c']) : l = l' ∧ c = c' := by
  have := List.append_inj' h rfl
  exact ⟨this.1, by simpa using this.2⟩
theorem wf_text {G : GD} (h : WfG G) {n : Nat} {s : ByteArray} (hs : s.size ≤ 16384) : WfG (textSet G n s) := by
  have hd : ∀ j, dirG (textSet G n s) j = dirG G j := by
    intro j
    unfold dirG textSet
    dsimp only
    rw [List.getElem?_set]
    by_cases e : n = j
    · subst e
      rw [if_pos rfl]
      by_cases hl : n < G.T.length
      · rw [if_pos hl, List.getElem?_eq_getElem hl]; rfl
      · rw [if_neg hl, List.getElem?_eq_none (by omega)]
    · rw [if_neg e]
  have ha : ∀ l, atE (textSet G n s) l = atE G l := fun _ => rfl
  refine ⟨h.nd, h.ne, h.names, ?_, by rw [hd]; exact h.root, ?_, ?_, ?_⟩
  · intro l c hs
    obtain ⟨m, h1, h2⟩ := h.par l c hs
    exact ⟨m, h1, by rw [hd]; exact h2⟩
  · intro l l' m h1 h2 h3
    exact h.uniq l l' m h1 h2 (by rw [hd] at h3; exact h3)
  · intro x hx
    show x.2 < (G.T.set _ _).length
    rw [List.length_set]
    exact h.num x hx
  · intro j
    have h1 := h.small j
    unfold textG textSet at *
    dsimp only
    rw [List.getElem?_set]
    by_cases e : n = j
    · subst e
      rw [if_pos rfl]
      by_cases hl : n < G.T.length
      · rw [if_pos hl]; exact hs
      · rw [if_neg hl]; exact Nat.zero_le _
    · rw [if_neg e]; exact h1
def mapT (M : MoD) (f : Int → ThD → ThD) : MoD := { M with l := M.l.map (fun x => (x.1, f x.1 x.2)) }
theorem find_mapT (M : MoD) (f : Int → ThD → ThD) (j : Int) : findL (mapT M f).l j = (findL M.l j).map (f j) := findL_map f j M.l

/-- One entry more. -/
theorem rel_attach {M M' : MoD} {G G' : GD} {k : Nat} (h : Rel M G k) {l : PathD} {c : ByteArray} {d n : Nat} {td t' : ThD}
    (hl : atE G l = some d) (hd : findL M.l (d : Int) = some td) (hdir : td.dir = true) (hfree : atE G (l ++ [c]) = none) (hc : nameD c)
    (hE : G'.E = G.E ++ [(l ++ [c], n)]) (hT : ∀ j, j ≠ n → G'.T[j]? = G.T[j]?) (hTn : G'.T[n]? = some ⟨t'.dir, t'.text⟩) (hTl : G'.T.length ≤ k + 2) (hTg : G.T.length ≤ G'.T.length)
    (hlast : M'.last + 1 = (G'.T.length : Int)) (hM : ∀ j : Nat, findL M'.l (j : Int) = if j = d then some { td with ents := putL td.ents c n } else if j = n then some t' else findL M.l (j : Int))
    (hneg : ∀ j t, findL M'.l j = some t → 0 ≤ j ∧ j ≤ M'.last) (hnd : NoDupL M'.l) (hne : n ≠ d) (hn0 : n ≠ 0) (he : t'.ents = []) (hs : t'.text.size ≤ 16384)
    (h2 : t'.dir = false → t'.links = (linksG G n : Int) + 1) (h3 : t'.dir = true → ∀ x, atE G x ≠ some n) (h4 : ∀ x y, atE G x = some n → atE G (x ++ [y]) = none) : Rel M' G' (k + 1) := by
  have hw := h.wf
  have hat : ∀ x, atE G' x = if x = l ++ [c] then some n else atE G x := by
    intro x
    by_cases hx : x = []
    · subst hx; rw [if_neg (Ne.symm (snoc_ne l c)), atE_nil, atE_nil]
    · rw [atE_ne hx, atE_ne hx, hE, findL_app, findL_cons]
      by_cases e : x = l ++ [c]
      · subst e
        rw [atE_snoc] at hfree
        rw [hfree]; simp
      · rw [if_neg (Ne.symm e), if_neg e, findL_nil]; simp
  have hdg : ∀ j, j ≠ n → dirG G' j = dirG G j := fun j hj => by unfold dirG; rw [hT j hj]
  have hdn : dirG G' n = t'.dir := by unfold dirG; rw [hTn]
  have hdd : dirG G d = true := by rw [h.dirs hd, hdir]
  have hch : ∀ x, atE G (l ++ [c] ++ [x]) = none := by
    intro x
    cases e : atE G (l ++ [c] ++ [x]) with
    | none => rfl
    | some m =>
      obtain ⟨m2, h1, _⟩ := hw.par _ _ (by rw [e]; rfl)
      rw [hfree] at h1; cases h1
  have hself : ∀ x : ByteArray, l ++ [c] ++ [x] ≠ l ++ [c] := fun x e => by have := congrArg List.length e; simp at this
  have hnl : n < G'.T.length := by
    rcases Nat.lt_or_ge n G'.T.length with h | h
    · exact h
    · rw [List.getElem?_eq_none h] at hTn; cases hTn
  refine ⟨⟨?_, ?_, ?_, ?_, ?_, ?_, ?_, ?_⟩, hnd, hlast, hneg, ?_, ?_, ?_, ?_, ?_, ?_, ?_⟩
  · rw [hE]
    unfold NoDupL
    rw [List.pairwise_append]
    refine ⟨hw.nd, by simp, ?_⟩
    intro x hx y hy
    rw [List.mem_singleton] at hy
    subst hy
    rw [atE_snoc, findL_none] at hfree
    exact hfree x hx
  · intro x hx
    rw [hE] at hx
    rcases List.mem_append.1 hx with e | e
    · exact hw.ne x e
    · rw [List.mem_singleton.1 e]; exact snoc_ne _ _
  · intro x hx
    rw [hE] at hx
    rcases List.mem_append.1 hx with e | e
    · exact hw.names x e
    · rw [List.mem_singleton.1 e]
      intro y hy
      rcases List.mem_append.1 hy with e2 | e2
      · by_cases h0 : l = []
        · subst h0; cases e2
        · rw [atE_ne h0] at hl
          exact hw.names _ (findL_mem hl) y e2
      · rw [List.mem_singleton.1 e2]; exact hc
  · intro x y hs
    rw [hat] at hs
    by_cases e : x ++ [y] = l ++ [c]
    · obtain ⟨rfl, rfl⟩ := snoc_inj e
      refine ⟨d, ?_, by rw [hdg d (Ne.symm hne)]; exact hdd⟩
      rw [hat, if_neg (fun e2 => by have := congrArg List.length e2; simp at this)]
      exact hl
    · rw [if_neg e] at hs
      obtain ⟨m, q1, q2⟩ := hw.par _ _ hs
      by_cases hx : x = l ++ [c]
      · subst hx; rw [hch] at hs; cases hs
      · have hmn : m ≠ n := by
          intro e2; subst e2
          rw [h4 x y q1] at hs; cases hs
        exact ⟨m, by rw [hat, if_neg hx]; exact q1, by rw [hdg m hmn]; exact q2⟩
  · rw [hdg 0 (Ne.symm hn0)]; exact hw.root
  · intro x y m q1 q2 q3
    rw [hat] at q1 q2
    by_cases hmn : m = n
    · subst hmn
      rw [hdn] at q3
      have := h3 q3
      by_cases e1 : x = l ++ [c]
      · by_cases e2 : y = l ++ [c]
        · rw [e1, e2]
        · rw [if_neg e2] at q2; exact absurd q2 (this y)
      · rw [if_neg e1] at q1; exact absurd q1 (this x)
    · rw [if_neg (by intro e; rw [if_pos e] at q1; exact hmn (Option.some.inj q1).symm)] at q1
      rw [if_neg (by intro e; rw [if_pos e] at q2; exact hmn (Option.some.inj q2).symm)] at q2
      exact hw.uniq x y m q1 q2 (by rw [hdg m hmn] at q3; exact q3)
  · intro x hx
    rw [hE] at hx
    rcases List.mem_append.1 hx with e | e
    · exact Nat.lt_of_lt_of_le (hw.num x e) hTg
    · rw [List.mem_singleton.1 e]; exact hnl
  · intro j
    by_cases e : j = n
    · subst e; unfold textG; rw [hTn]; exact hs
    · have := hw.small j; unfold textG at *; rw [hT j e]; exact this
  · intro j
    rw [hM]
    by_cases e1 : j = d
    · subst e1
      rw [if_pos rfl]
      refine ⟨fun _ => ⟨l, ?_⟩, fun _ => rfl⟩
      rw [hat, if_neg (fun e2 => by have := congrArg List.length e2; simp at this)]
      exact hl
    · rw [if_neg e1]
      by_cases e2 : j = n
      · subst e2
        rw [if_pos rfl]
        exact ⟨fun _ => ⟨l ++ [c], by rw [hat, if_pos rfl]⟩, fun _ => rfl⟩
      · rw [if_neg e2, h.dom]
        constructor
        · rintro ⟨x, hx⟩
          refine ⟨x, ?_⟩
          rw [hat, if_neg]
          · exact hx
          · intro e; subst e; rw [hfree] at hx; cases hx
        · rintro ⟨x, hx⟩
          rw [hat] at hx
          by_cases e : x = l ++ [c]
          · rw [if_pos e] at hx; exact absurd (Option.some.inj hx).symm e2
          · rw [if_neg e] at hx; exact ⟨x, hx⟩
  · intro j t ht
    rw [hM] at ht
    by_cases e1 : j = d
    · subst e1
      rw [if_pos rfl] at ht
      cases ht
      rw [hT j (Ne.symm hne)]
      exact h.th j td hd
    · rw [if_neg e1] at ht
      by_cases e2 : j = n
      · subst e2
        rw [if_pos rfl] at ht
        cases ht
        exact hTn
      · rw [if_neg e2] at ht
        rw [hT j e2]
        exact h.th j t ht
  · intro j t ht
    rw [hM] at ht
    by_cases e1 : j = d
    · rw [if_pos e1] at ht
      cases ht
      have q := h.nds d td hd
      exact ⟨q.1.put c _, Nat.le_trans (putL_len _ _ _) (Nat.succ_le_succ q.2)⟩
    · rw [if_neg e1] at ht
      by_cases e2 : j = n
      · rw [if_pos e2] at ht
        cases ht
        rw [he]
        exact ⟨List.Pairwise.nil, Nat.zero_le _⟩
      · rw [if_neg e2] at ht
        have q := h.nds j t ht
        exact ⟨q.1, Nat.le_succ_of_le q.2⟩
  · intro x j t hx ht y
    rw [hat] at hx
    rw [hM] at ht
    by_cases e : x = l ++ [c]
    · rw [if_pos e] at hx
      obtain rfl := (Option.some.inj hx)
      rw [if_neg hne, if_pos rfl] at ht
      cases ht
      rw [he, findL_nil, hat, e, if_neg (hself y), hch]
      rfl
    · rw [if_neg e] at hx
      by_cases e1 : j = d
      · subst e1
        have hxl := hw.uniq x l j hx hl hdd
        subst hxl
        rw [if_pos rfl] at ht
        cases ht
        dsimp only
        rw [hat]
        by_cases e3 : y = c
        · subst e3; rw [if_pos rfl, putL_same]; rfl
        · rw [if_neg (fun e4 => e3 (snoc_inj e4).2), putL_other _ e3]
          exact h.ent x j td hl hd y
      · rw [if_neg e1] at ht
        have hxy : x ++ [y] ≠ l ++ [c] := by
          intro e4
          obtain ⟨rfl, rfl⟩ := snoc_inj e4
          rw [hl] at hx
          exact e1 (Option.some.inj hx).symm
        rw [hat, if_neg hxy]
        by_cases e2 : j = n
        · subst e2
          rw [if_pos rfl] at ht
          cases ht
          rw [he, findL_nil, h4 x y hx]
          rfl
        · rw [if_neg e2] at ht
          exact h.ent x j t hx ht y
  · intro j t ht hf
    have hlk : linksG G' j = linksG G j + (if n == j then 1 else 0) := by
      unfold linksG; rw [hE, List.countP_append, List.countP_singleton]
    rw [hlk]
    rw [hM] at ht
    by_cases e1 : j = d
    · rw [if_pos e1] at ht
      cases ht
      rw [hdir] at hf; cases hf
    · rw [if_neg e1] at ht
      by_cases e2 : j = n
      · subst e2
        rw [if_pos rfl] at ht
        cases ht
        refine ⟨he, ?_⟩
        rw [h2 hf]
        simp
      · rw [if_neg e2] at ht
        have q := h.file j t ht hf
        refine ⟨q.1, ?_⟩
        rw [q.2]
        have : (n == j) = false := by simpa using Ne.symm e2
        rw [this]; simp
  · rw [hE, List.length_append, List.length_singleton]
    exact Nat.succ_le_succ h.bE
  · exact hTl
end Go.Proofs.YteimpebfenpifaaGreatDoor
