/-
  Trees of files: an entry less, a text changed, an entry moved. No program here.
-/
import Derived.Test.YteimpebfenpifaaGreatDoorMoG
namespace Go.Proofs.YteimpebfenpifaaGreatDoor
open Go.RowKit

theorem count_drop {K V : Type} [DecidableEq K] (f : K × V → Bool) (q : K) : ∀ {l : List (K × V)}, NoDupL l → l.countP f = (dropL l q).countP f + (match findL l q with | none => 0 | some v => if f (q, v) = true then 1 else 0)
  | [], _ => rfl
  | x :: l, hd => by
    have ih := count_drop f q (List.pairwise_cons.1 hd).2
    rw [findL_cons]
    unfold dropL at *
    rw [List.filter_cons, List.countP_cons]
    by_cases h : x.1 = q
    · have hn : findL l q = none := findL_none.2 (fun y hy => by rw [← h]; exact Ne.symm ((List.pairwise_cons.1 hd).1 y hy))
      rw [hn] at ih
      obtain ⟨a, b⟩ := x
      dsimp only at h
      subst h
      simp only [decide_true, Bool.not_true, Bool.false_eq_true, if_false, if_true]
      rw [ih]
      simp
    · simp only [h, decide_false, Bool.not_false, if_true, if_false]
      rw [List.countP_cons, ih]
      omega
/-- One entry less. -/
theorem rel_drop {M M' : MoD} {G G' : GD} {k : Nat} (h : Rel M G k) {l : PathD} {c : ByteArray} {d n : Nat} {td : ThD} {r : Option ThD}
    (hl : atE G l = some d) (hd : findL M.l (d : Int) = some td) (hdir : td.dir = true) (hq : atE G (l ++ [c]) = some n) (hkid : ∀ x, atE G (l ++ [c] ++ [x]) = none)
    (hE : G'.E = dropL G.E (l ++ [c])) (hT : G'.T = G.T) (hlast : M'.last = M.last)
    (hM : ∀ j : Nat, findL M'.l (j : Int) = if j = d then some { td with ents := dropL td.ents c } else if j = n then r else findL M.l (j : Int))
    (hneg : ∀ j t, findL M'.l j = some t → 0 ≤ j ∧ j ≤ M'.last) (hnd : NoDupL M'.l)
    (hr : ∀ t, findL M.l (n : Int) = some t → (t.dir = true → r = none) ∧ (t.dir = false → (t.links = 1 → r = none) ∧ (t.links ≠ 1 → r = some { t with links := t.links - 1 }))) : Rel M' G' (k + 1) := by
  have hw := h.wf
  have hdd : dirG G d = true := by rw [h.dirs hd, hdir]
  have hne : n ≠ d := by
    intro e; subst e
    have := congrArg List.length (hw.uniq _ _ _ hl hq hdd)
    simp at this
  have hat : ∀ x, atE G' x = if x = l ++ [c] then none else atE G x := by
    intro x
    by_cases hx : x = []
    · subst hx; rw [if_neg (Ne.symm (snoc_ne l c)), atE_nil, atE_nil]
    · rw [atE_ne hx, atE_ne hx, hE]
      by_cases e : x = l ++ [c]
      · subst e; rw [if_pos rfl, dropL_same]
      · rw [if_neg e, dropL_other e]
  have hdg : ∀ j, dirG G' j = dirG G j := fun j => by unfold dirG; rw [hT]
  have hfq : findL G.E (l ++ [c]) = some n := by rw [atE_snoc] at hq; exact hq
  have hlk : ∀ j, linksG G j = linksG G' j + (if j = n then 1 else 0) := by
    intro j
    unfold linksG
    rw [hE, count_drop (fun x => x.2 == j) (l ++ [c]) hw.nd, hfq]
    by_cases e : j = n
    · subst e; simp
    · have : (n == j) = false := by simpa using Ne.symm e
      simp [this, e]
  obtain ⟨tn, htn⟩ := Option.isSome_iff_exists.1 ((h.dom n).2 ⟨_, hq⟩)
  have hrn := hr tn htn
  have hsub : ∀ x ∈ G'.E, x ∈ G.E := fun x hx => by rw [hE] at hx; exact (List.mem_filter.1 hx).1
  refine ⟨⟨?_, fun x hx => hw.ne x (hsub x hx), fun x hx => hw.names x (hsub x hx), ?_, by rw [hdg]; exact hw.root, ?_, fun x hx => by rw [hT]; exact hw.num x (hsub x hx), fun j => ?_⟩, hnd, by rw [hlast, hT]; exact h.last, hneg, ?_, ?_, ?_, ?_, ?_, ?_, by rw [hT]; exact Nat.le_succ_of_le h.bT⟩
  · rw [hE]; exact hw.nd.drop _
  · intro x y hs
    rw [hat] at hs
    by_cases e : x ++ [y] = l ++ [c]
    · rw [if_pos e] at hs; cases hs
    · rw [if_neg e] at hs
      obtain ⟨m, q1, q2⟩ := hw.par _ _ hs
      refine ⟨m, ?_, by rw [hdg]; exact q2⟩
      rw [hat, if_neg]
      · exact q1
      · intro e2; subst e2; rw [hkid] at hs; cases hs
  · intro x y m q1 q2 q3
    rw [hat] at q1 q2
    rw [hdg] at q3
    by_cases e1 : x = l ++ [c]
    · rw [if_pos e1] at q1; cases q1
    · by_cases e2 : y = l ++ [c]
      · rw [if_pos e2] at q2; cases q2
      · rw [if_neg e1] at q1; rw [if_neg e2] at q2
        exact hw.uniq x y m q1 q2 q3
  · have := hw.small j
    unfold textG at *
    rw [hT]; exact this
  · intro j
    rw [hM]
    by_cases e1 : j = d
    · subst e1
      rw [if_pos rfl]
      refine ⟨fun _ => ⟨l, ?_⟩, fun _ => rfl⟩
      rw [hat, if_neg (fun e2 => by have := congrArg List.length e2; simp at this)]
      exact hl
    · rw [if_neg e1]
      by_cases e2 : j = n
      · subst e2
        rw [if_pos rfl]
        cases hdn : tn.dir with
        | true =>
          rw [hrn.1 hdn]
          refine ⟨fun e => (by cases e), ?_⟩
          rintro ⟨x, hx⟩
          rw [hat] at hx
          by_cases e : x = l ++ [c]
          · rw [if_pos e] at hx; cases hx
          · rw [if_neg e] at hx
            exact absurd (hw.uniq _ _ _ hx hq (by rw [h.dirs htn, hdn])) e
        | false =>
          have hf := (h.file j tn htn hdn).2
          have hk := hlk j
          rw [if_pos rfl] at hk
          by_cases e : tn.links = 1
          · rw [(hrn.2 hdn).1 e]
            refine ⟨fun e => (by cases e), ?_⟩
            rintro ⟨x, hx⟩
            exfalso
            have h0 : linksG G' j = 0 := by omega
            unfold linksG at h0
            rw [List.countP_eq_zero] at h0
            by_cases hx0 : x = []
            · rw [hx0, atE_nil] at hx
              have h00 := Option.some.inj hx
              rw [← h00] at htn
              have := h.dirs htn
              rw [hw.root, hdn] at this
              cases this
            · rw [atE_ne hx0] at hx
              have := h0 _ (findL_mem hx)
              simp at this
          · rw [(hrn.2 hdn).2 e]
            refine ⟨fun _ => ?_, fun _ => rfl⟩
            have h0 : linksG G' j ≠ 0 := by omega
            unfold linksG at h0
            have : ∃ x ∈ G'.E, (x.2 == j) = true := by
              apply Classical.byContradiction
              intro hx
              exact h0 (List.countP_eq_zero.2 (fun x hx2 hx3 => hx ⟨x, hx2, hx3⟩))
            obtain ⟨x, hx1, hx2⟩ := this
            have hx2 : x.2 = j := by simpa using hx2
            refine ⟨x.1, ?_⟩
            rw [atE_ne (hw.ne x (hsub x hx1)), ← hx2]
            refine findL_of_mem ?_ hx1
            rw [hE]; exact hw.nd.drop _
      · rw [if_neg e2, h.dom]
        constructor
        · rintro ⟨x, hx⟩
          refine ⟨x, ?_⟩
          rw [hat, if_neg]
          · exact hx
          · intro e; subst e; rw [hq] at hx; exact e2 (Option.some.inj hx).symm
        · rintro ⟨x, hx⟩
          rw [hat] at hx
          by_cases e : x = l ++ [c]
          · rw [if_pos e] at hx; cases hx
          · rw [if_neg e] at hx; exact ⟨x, hx⟩
  · intro j t ht
    rw [hM] at ht
    rw [hT]
    by_cases e1 : j = d
    · subst e1; rw [if_pos rfl] at ht; cases ht; exact h.th j td hd
    · rw [if_neg e1] at ht
      by_cases e2 : j = n
      · subst e2
        rw [if_pos rfl] at ht
        cases hdn : tn.dir with
        | true => rw [hrn.1 hdn] at ht; cases ht
        | false =>
          by_cases e : tn.links = 1
          · rw [(hrn.2 hdn).1 e] at ht; cases ht
          · rw [(hrn.2 hdn).2 e] at ht; cases ht
            exact h.th j tn htn
      · rw [if_neg e2] at ht; exact h.th j t ht
  · intro j t ht
    rw [hM] at ht
    by_cases e1 : j = d
    · rw [if_pos e1] at ht; cases ht
      have q := h.nds d td hd
      exact ⟨q.1.drop c, Nat.le_succ_of_le (Nat.le_trans (dropL_le _ _) q.2)⟩
    · rw [if_neg e1] at ht
      by_cases e2 : j = n
      · subst e2
        rw [if_pos rfl] at ht
        have q := h.nds j tn htn
        cases hdn : tn.dir with
        | true => rw [hrn.1 hdn] at ht; cases ht
        | false =>
          by_cases e : tn.links = 1
          · rw [(hrn.2 hdn).1 e] at ht; cases ht
          · rw [(hrn.2 hdn).2 e] at ht; cases ht
            exact ⟨q.1, Nat.le_succ_of_le q.2⟩
      · rw [if_neg e2] at ht
        have q := h.nds j t ht
        exact ⟨q.1, Nat.le_succ_of_le q.2⟩
  · intro x j t hx ht y
    rw [hat] at hx
    rw [hM] at ht
    by_cases e : x = l ++ [c]
    · rw [if_pos e] at hx; cases hx
    · rw [if_neg e] at hx
      by_cases e1 : j = d
      · subst e1
        have hxl := hw.uniq x l j hx hl hdd
        subst hxl
        rw [if_pos rfl] at ht
        cases ht
        dsimp only
        rw [hat]
        by_cases e3 : y = c
        · subst e3; rw [if_pos rfl, dropL_same]; rfl
        · rw [if_neg (fun e4 => e3 (snoc_inj e4).2), dropL_other e3]
          exact h.ent x j td hl hd y
      · rw [if_neg e1] at ht
        have hxy : x ++ [y] ≠ l ++ [c] := by
          intro e4
          obtain ⟨rfl, rfl⟩ := snoc_inj e4
          rw [hl] at hx
          exact e1 (Option.some.inj hx).symm
        rw [hat, if_neg hxy]
        by_cases e2 : j = n
        · subst e2
          rw [if_pos rfl] at ht
          cases hdn : tn.dir with
          | true => rw [hrn.1 hdn] at ht; cases ht
          | false =>
            by_cases e : tn.links = 1
            · rw [(hrn.2 hdn).1 e] at ht; cases ht
            · rw [(hrn.2 hdn).2 e] at ht; cases ht
              exact h.ent x j tn hx htn y
        · rw [if_neg e2] at ht
          exact h.ent x j t hx ht y
  · intro j t ht hf
    have hk := hlk j
    rw [hM] at ht
    by_cases e1 : j = d
    · rw [if_pos e1] at ht; cases ht; rw [hdir] at hf; cases hf
    · rw [if_neg e1] at ht
      by_cases e2 : j = n
      · subst e2
        rw [if_pos rfl] at ht hk
        cases hdn : tn.dir with
        | true => rw [hrn.1 hdn] at ht; cases ht
        | false =>
          have q := h.file j tn htn hdn
          by_cases e : tn.links = 1
          · rw [(hrn.2 hdn).1 e] at ht; cases ht
          · rw [(hrn.2 hdn).2 e] at ht; cases ht
            refine ⟨q.1, ?_⟩
            dsimp only
            omega
      · rw [if_neg e2] at ht hk
        have q := h.file j t ht hf
        exact ⟨q.1, by omega⟩
  · rw [hE]
    exact Nat.le_succ_of_le (Nat.le_trans (dropL_le _ _) h.bE)

/-- A text changed. -/
theorem rel_text {M M' : MoD} {G : GD} {k : Nat} (h : Rel M G k) {n : Nat} {t : ThD} {s : ByteArray} (ht : findL M.l (n : Int) = some t) (hf : t.dir = false) (hs : s.size ≤ 16384)
    (hM : ∀ j : Nat, findL M'.l (j : Int) = if j = n then some { t with text := s } else findL M.l (j : Int)) (hlast : M'.last = M.last)
    (hneg : ∀ j t, findL M'.l j = some t → 0 ≤ j ∧ j ≤ M'.last) (hnd : NoDupL M'.l) : Rel M' (textSet G n s) (k + 1) := by
  have hTn : ∀ j, (textSet G n s).T[j]? = if j = n then some ⟨t.dir, s⟩ else G.T[j]? := by
    intro j
    have hn := h.th n t ht
    have hl : n < G.T.length := by
      rcases Nat.lt_or_ge n G.T.length with q | q
      · exact q
      · rw [List.getElem?_eq_none q] at hn; cases hn
    unfold textSet
    dsimp only
    rw [List.getElem?_set]
    by_cases e : n = j
    · subst e
      rw [if_pos rfl, if_pos rfl, if_pos hl, hn]; rfl
    · rw [if_neg e, if_neg (Ne.symm e)]
  refine ⟨wf_text h.wf hs, hnd, ?_, hneg, ?_, ?_, ?_, ?_, ?_, Nat.le_succ_of_le h.bE, ?_⟩
  · rw [hlast, h.last]; unfold textSet; dsimp only; rw [List.length_set]
  · intro j
    rw [hM]
    by_cases e : j = n
    · subst e; rw [if_pos rfl]
      exact ⟨fun _ => (h.dom j).1 (by rw [ht]; rfl), fun _ => rfl⟩
    · rw [if_neg e]; exact h.dom j
  · intro j u hu
    rw [hM] at hu
    rw [hTn]
    by_cases e : j = n
    · rw [if_pos e] at hu ⊢; cases hu; rfl
    · rw [if_neg e] at hu ⊢; exact h.th j u hu
  · intro j u hu
    rw [hM] at hu
    by_cases e : j = n
    · rw [if_pos e] at hu; cases hu
      have q := h.nds n t ht
      exact ⟨q.1, Nat.le_succ_of_le q.2⟩
    · rw [if_neg e] at hu
      have q := h.nds j u hu
      exact ⟨q.1, Nat.le_succ_of_le q.2⟩
  · intro l j u hl hu c
    rw [hM] at hu
    by_cases e : j = n
    · subst e; rw [if_pos rfl] at hu; cases hu
      exact h.ent l j t hl ht c
    · rw [if_neg e] at hu; exact h.ent l j u hl hu c
  · intro j u hu hfu
    rw [hM] at hu
    by_cases e : j = n
    · subst e; rw [if_pos rfl] at hu; cases hu
      exact h.file j t ht hf
    · rw [if_neg e] at hu; exact h.file j u hu hfu
  · unfold textSet; dsimp only; rw [List.length_set]; exact Nat.le_succ_of_le h.bT

/-! ### an entry moved -/
theorem mv_pre (a b r : PathD) : mvP a b (a ++ r) = b ++ r := by
  unfold mvP
  rw [if_pos (List.prefix_append a r), List.drop_left]
theorem mv_not {a b x : PathD} (h : ¬ a <+: x) : mvP a b x = x := if_neg h
theorem findL_mapK {K V : Type} [DecidableEq K] (f : K → K) (z x : K) : ∀ l : List (K × V), f z = x → (∀ y ∈ l, f y.1 = x → y.1 = z) → findL (l.map (fun y => (f y.1, y.2))) x = findL l z
  | [], _, _ => rfl
  | y :: l, h1, h2 => by
    rw [List.map_cons, findL_cons, findL_cons, findL_mapK f z x l h1 (fun u hu => h2 u (List.mem_cons_of_mem _ hu))]
    by_cases e : y.1 = z
    · rw [if_pos e, if_pos (by dsimp only; rw [e, h1])]
    · rw [if_neg e, if_neg (fun e2 => e (h2 y List.mem_cons_self e2))]
structure Moves (G : GD) (la lb : PathD) (ca cb : ByteArray) (na nb n : Nat) : Prop where
  wf : WfG G
  hla : atE G la = some na
  lad : dirG G na = true
  ha : atE G (la ++ [ca]) = some n
  hlb : atE G lb = some nb
  lbd : dirG G nb = true
  hb : atE G (lb ++ [cb]) = none
  hcb : nameD cb
  not : ¬ (la ++ [ca]) <+: (lb ++ [cb])
theorem Moves.gone {G : GD} {la lb : PathD} {ca cb : ByteArray} {na nb n : Nat} (h : Moves G la lb ca cb na nb n) {x : PathD} (hx : (lb ++ [cb]) <+: x) : atE G x = none := by
  obtain ⟨r, rfl⟩ := hx
  cases e : atE G (lb ++ [cb] ++ r) with
  | none => rfl
  | some m =>
    have := h.wf.pre (lb ++ [cb]) r (by rw [e]; rfl)
    rw [h.hb] at this; cases this
theorem Moves.at_ {G G' : GD} {la lb : PathD} {ca cb : ByteArray} {na nb n : Nat} (h : Moves G la lb ca cb na nb n) (hE : G'.E = G.E.map (fun x => (mvP (la ++ [ca]) (lb ++ [cb]) x.1, x.2))) (x : PathD) :
    atE G' x = if (lb ++ [cb]) <+: x then atE G (la ++ [ca] ++ x.drop (lb ++ [cb]).length) else if (la ++ [ca]) <+: x then none else atE G x := by
  by_cases hx : x = []
  · subst hx
    rw [if_neg (fun e => by have := e.length_le; rw [List.length_append] at this; simp at this), if_neg (fun e => by have := e.length_le; rw [List.length_append] at this; simp at this), atE_nil, atE_nil]
  · have hE2 : ∀ y ∈ G.E, ¬ (lb ++ [cb]) <+: y.1 := by
      intro y hy hp
      have := h.gone hp
      rw [atE_ne (h.wf.ne y hy), findL_of_mem h.wf.nd hy] at this
      cases this
    rw [atE_ne hx, hE]
    by_cases h1 : (lb ++ [cb]) <+: x
    · obtain ⟨r, rfl⟩ := h1
      rw [if_pos (List.prefix_append _ r), List.drop_left, atE_ne (by simp)]
      refine findL_mapK _ _ _ _ (mv_pre _ _ r) ?_
      intro y hy e
      by_cases hp : (la ++ [ca]) <+: y.1
      · obtain ⟨s, hs⟩ := hp
        rw [← hs, mv_pre] at e
        rw [← hs, List.append_cancel_left e]
      · rw [mv_not hp] at e
        exact absurd (by rw [e]; exact List.prefix_append _ r) (hE2 y hy)
    · rw [if_neg h1]
      by_cases h2 : (la ++ [ca]) <+: x
      · rw [if_pos h2, findL_none]
        intro y hy e
        obtain ⟨u, hu, rfl⟩ := List.mem_map.1 hy
        dsimp only at e
        by_cases hp : (la ++ [ca]) <+: u.1
        · obtain ⟨s, hs⟩ := hp
          rw [← hs, mv_pre] at e
          exact h1 (by rw [← e]; exact List.prefix_append _ s)
        · rw [mv_not hp] at e
          exact hp (by rw [e]; exact h2)
      · rw [if_neg h2, atE_ne hx]
        refine findL_mapK _ _ _ _ (mv_not h2) ?_
        intro y hy e
        by_cases hp : (la ++ [ca]) <+: y.1
        · obtain ⟨s, hs⟩ := hp
          rw [← hs, mv_pre] at e
          exact absurd (by rw [← e]; exact List.prefix_append _ s) h1
        · rw [mv_not hp] at e; exact e
/-- Where what is at a path now was ahead. -/
theorem Moves.back {G G' : GD} {la lb : PathD} {ca cb : ByteArray} {na nb n : Nat} (h : Moves G la lb ca cb na nb n) (hE : G'.E = G.E.map (fun x => (mvP (la ++ [ca]) (lb ++ [cb]) x.1, x.2))) {x : PathD} {m : Nat} (hx : atE G' x = some m) :
    (∃ r, x = lb ++ [cb] ++ r ∧ atE G (la ++ [ca] ++ r) = some m) ∨ (¬ (lb ++ [cb]) <+: x ∧ ¬ (la ++ [ca]) <+: x ∧ atE G x = some m) := by
  rw [h.at_ hE] at hx
  by_cases h1 : (lb ++ [cb]) <+: x
  · obtain ⟨r, rfl⟩ := h1
    rw [if_pos (List.prefix_append _ r), List.drop_left] at hx
    exact .inl ⟨r, rfl, hx⟩
  · rw [if_neg h1] at hx
    by_cases h2 : (la ++ [ca]) <+: x
    · rw [if_pos h2] at hx; cases hx
    · rw [if_neg h2] at hx; exact .inr ⟨h1, h2, hx⟩
theorem Moves.fwd {G G' : GD} {la lb : PathD} {ca cb : ByteArray} {na nb n : Nat} (h : Moves G la lb ca cb na nb n) (hE : G'.E = G.E.map (fun x => (mvP (la ++ [ca]) (lb ++ [cb]) x.1, x.2))) (r : PathD) : atE G' (lb ++ [cb] ++ r) = atE G (la ++ [ca] ++ r) := by
  rw [h.at_ hE, if_pos (List.prefix_append _ r), List.drop_left]
theorem Moves.stay {G G' : GD} {la lb : PathD} {ca cb : ByteArray} {na nb n : Nat} (h : Moves G la lb ca cb na nb n) (hE : G'.E = G.E.map (fun x => (mvP (la ++ [ca]) (lb ++ [cb]) x.1, x.2))) {x : PathD} (h1 : ¬ (lb ++ [cb]) <+: x) (h2 : ¬ (la ++ [ca]) <+: x) : atE G' x = atE G x := by
  rw [h.at_ hE, if_neg h1, if_neg h2]
theorem pre_lb {la lb : PathD} {ca cb : ByteArray} (h : ¬ (la ++ [ca]) <+: (lb ++ [cb])) : ¬ (la ++ [ca]) <+: lb := fun e => h (e.trans (List.prefix_append _ _))
theorem Moves.lbAt {G G' : GD} {la lb : PathD} {ca cb : ByteArray} {na nb n : Nat} (h : Moves G la lb ca cb na nb n) (hE : G'.E = G.E.map (fun x => (mvP (la ++ [ca]) (lb ++ [cb]) x.1, x.2))) : atE G' lb = some nb := by
  rw [h.stay hE (fun e => by have := e.length_le; rw [List.length_append, List.length_singleton] at this; omega) (pre_lb h.not)]
  exact h.hlb
theorem Moves.wf' {G G' : GD} {la lb : PathD} {ca cb : ByteArray} {na nb n : Nat} (h : Moves G la lb ca cb na nb n) (hE : G'.E = G.E.map (fun x => (mvP (la ++ [ca]) (lb ++ [cb]) x.1, x.2))) (hT : G'.T = G.T) : WfG G' := by
  have hw := h.wf
  have hdg : ∀ j, dirG G' j = dirG G j := fun j => by unfold dirG; rw [hT]
  have hE2 : ∀ y ∈ G.E, ¬ (lb ++ [cb]) <+: y.1 := by
    intro y hy hp
    have := h.gone hp
    rw [atE_ne (h.wf.ne y hy), findL_of_mem h.wf.nd hy] at this
    cases this
  refine ⟨?_, ?_, ?_, ?_, by rw [hdg]; exact hw.root, ?_, ?_, fun j => ?_⟩
  · rw [hE]
    unfold NoDupL
    rw [List.pairwise_map]
    refine List.Pairwise.imp_of_mem ?_ hw.nd
    intro x y hx hy hne e
    dsimp only at e
    by_cases h1 : (la ++ [ca]) <+: x.1
    · obtain ⟨r, hr⟩ := h1
      rw [← hr, mv_pre] at e
      by_cases h2 : (la ++ [ca]) <+: y.1
      · obtain ⟨s, hs⟩ := h2
        rw [← hs, mv_pre] at e
        exact hne (by rw [← hr, ← hs, List.append_cancel_left e])
      · rw [mv_not h2] at e
        exact hE2 y hy (by rw [← e]; exact List.prefix_append _ r)
    · rw [mv_not h1] at e
      by_cases h2 : (la ++ [ca]) <+: y.1
      · obtain ⟨s, hs⟩ := h2
        rw [← hs, mv_pre] at e
        exact hE2 x hx (by rw [e]; exact List.prefix_append _ s)
      · rw [mv_not h2] at e
        exact hne e
  · intro x hx
    rw [hE] at hx
    obtain ⟨u, hu, rfl⟩ := List.mem_map.1 hx
    dsimp only
    unfold mvP
    split
    · simp
    · exact hw.ne u hu
  · intro x hx c hc
    rw [hE] at hx
    obtain ⟨u, hu, rfl⟩ := List.mem_map.1 hx
    dsimp only at hc
    unfold mvP at hc
    split at hc
    · rcases List.mem_append.1 hc with e | e
      · rcases List.mem_append.1 e with e | e
        · by_cases h0 : lb = []
          · rw [h0] at e; cases e
          · have := h.hlb
            rw [atE_ne h0] at this
            exact hw.names _ (findL_mem this) c e
        · rw [List.mem_singleton.1 e]; exact h.hcb
      · exact hw.names u hu c (List.mem_of_mem_drop e)
    · exact hw.names u hu c hc
  · intro x y hs
    obtain ⟨m, hm⟩ := Option.isSome_iff_exists.1 hs
    rcases h.back hE hm with ⟨r, hr, hm2⟩ | ⟨h1, h2, hm2⟩
    · rcases List.eq_nil_or_concat r with e | ⟨r', z, e⟩
      · subst e
        rw [List.append_nil] at hr
        obtain ⟨rfl, rfl⟩ := snoc_inj hr
        exact ⟨nb, h.lbAt hE, by rw [hdg]; exact h.lbd⟩
      · rw [List.concat_eq_append] at e
        subst e
        rw [← List.append_assoc] at hr hm2
        obtain ⟨rfl, rfl⟩ := snoc_inj hr
        obtain ⟨m2, q1, q2⟩ := hw.par _ _ (by rw [hm2]; rfl)
        exact ⟨m2, by rw [h.fwd hE]; exact q1, by rw [hdg]; exact q2⟩
    · obtain ⟨m2, q1, q2⟩ := hw.par _ _ (by rw [hm2]; rfl)
      exact ⟨m2, by rw [h.stay hE (fun e => h1 (e.trans (List.prefix_append _ _))) (fun e => h2 (e.trans (List.prefix_append _ _)))]; exact q1, by rw [hdg]; exact q2⟩
  · intro x y m q1 q2 q3
    rw [hdg] at q3
    rcases h.back hE q1 with ⟨r, rfl, g1⟩ | ⟨e1, e2, g1⟩
    · rcases h.back hE q2 with ⟨s, rfl, g2⟩ | ⟨e3, e4, g2⟩
      · have := hw.uniq _ _ _ g1 g2 q3
        rw [List.append_cancel_left this]
      · have := hw.uniq _ _ _ g1 g2 q3
        exact absurd (by rw [← this]; exact List.prefix_append _ r) e4
    · rcases h.back hE q2 with ⟨s, rfl, g2⟩ | ⟨e3, e4, g2⟩
      · have := hw.uniq _ _ _ g1 g2 q3
        exact absurd (by rw [this]; exact List.prefix_append _ s) e2
      · exact hw.uniq _ _ _ g1 g2 q3
  · intro x hx
    rw [hE] at hx
    obtain ⟨u, hu, rfl⟩ := List.mem_map.1 hx
    rw [hT]
    exact hw.num u hu
  · have := hw.small j
    unfold textG at *
    rw [hT]; exact this
theorem rel_move {M M' : MoD} {G G' : GD} {k : Nat} (h : Rel M G k) {la lb : PathD} {ca cb : ByteArray} {na nb n : Nat} (hm : Moves G la lb ca cb na nb n)
    (hE : G'.E = G.E.map (fun x => (mvP (la ++ [ca]) (lb ++ [cb]) x.1, x.2))) (hT : G'.T = G.T) (hlast : M'.last = M.last)
    (hM : ∀ j : Nat, findL M'.l (j : Int) = (findL M.l (j : Int)).map (fun t => { t with ents := if j = nb then putL (if j = na then dropL t.ents ca else t.ents) cb n else if j = na then dropL t.ents ca else t.ents }))
    (hneg : ∀ j t, findL M'.l j = some t → 0 ≤ j ∧ j ≤ M'.last) (hnd : NoDupL M'.l) : Rel M' G' (k + 1) := by
  have hw := h.wf
  have hdg : ∀ j, dirG G' j = dirG G j := fun j => by unfold dirG; rw [hT]
  have hfe : ∀ (j : Nat) (e : List (ByteArray × Int)) (y : ByteArray), findL (if j = nb then putL (if j = na then dropL e ca else e) cb (n : Int) else if j = na then dropL e ca else e) y = if j = nb ∧ y = cb then some (n : Int) else if j = na ∧ y = ca then none else findL e y := by
    intro j e y
    have h1 : findL (if j = na then dropL e ca else e) y = if j = na ∧ y = ca then none else findL e y := by
      by_cases q : j = na
      · rw [if_pos q]
        by_cases q2 : y = ca
        · rw [if_pos ⟨q, q2⟩, q2, dropL_same]
        · rw [if_neg (fun x => q2 x.2), dropL_other q2]
      · rw [if_neg q, if_neg (fun x => q x.1)]
    rw [← h1]
    generalize (if j = na then dropL e ca else e) = F
    by_cases q : j = nb
    · rw [if_pos q]
      by_cases q2 : y = cb
      · rw [if_pos (show j = nb ∧ y = cb from ⟨q, q2⟩), q2, putL_same]
      · rw [if_neg (show ¬ (j = nb ∧ y = cb) from fun x => q2 x.2), putL_other _ q2]
    · rw [if_neg q, if_neg (show ¬ (j = nb ∧ y = cb) from fun x => q x.1)]
  refine ⟨hm.wf' hE hT, hnd, by rw [hlast, hT]; exact h.last, hneg, ?_, ?_, ?_, ?_, ?_, ?_, by rw [hT]; exact Nat.le_succ_of_le h.bT⟩
  · intro j
    rw [hM, Option.isSome_map, h.dom]
    constructor
    · rintro ⟨z, hz⟩
      by_cases hp : (la ++ [ca]) <+: z
      · obtain ⟨r, rfl⟩ := hp
        exact ⟨_, by rw [hm.fwd hE]; exact hz⟩
      · exact ⟨z, by rw [hm.stay hE (fun e => by rw [hm.gone e] at hz; cases hz) hp]; exact hz⟩
    · rintro ⟨x, hx⟩
      rcases hm.back hE hx with ⟨r, _, g⟩ | ⟨_, _, g⟩
      · exact ⟨_, g⟩
      · exact ⟨_, g⟩
  · intro j t ht
    rw [hM] at ht
    obtain ⟨u, hu, rfl⟩ := Option.map_eq_some_iff.1 ht
    rw [hT]
    exact h.th j u hu
  · intro j t ht
    rw [hM] at ht
    obtain ⟨u, hu, rfl⟩ := Option.map_eq_some_iff.1 ht
    have q := h.nds j u hu
    dsimp only
    have q1 : NoDupL (if j = na then dropL u.ents ca else u.ents) ∧ (if j = na then dropL u.ents ca else u.ents).length ≤ k := by
      split
      · exact ⟨q.1.drop _, Nat.le_trans (dropL_le _ _) q.2⟩
      · exact q
    split
    · exact ⟨q1.1.put _ _, Nat.le_trans (putL_len _ _ _) (Nat.succ_le_succ q1.2)⟩
    · exact ⟨q1.1, Nat.le_succ_of_le q1.2⟩
  · intro x j t hx ht y
    rw [hM] at ht
    obtain ⟨u, hu, rfl⟩ := Option.map_eq_some_iff.1 ht
    dsimp only
    rw [hfe]
    rcases hm.back hE hx with ⟨r, rfl, g⟩ | ⟨e1, e2, g⟩
    · have h1 : ¬ (j = nb ∧ y = cb) := by
        rintro ⟨rfl, _⟩
        have := hw.uniq _ _ _ g hm.hlb hm.lbd
        exact pre_lb hm.not (by rw [← this]; exact List.prefix_append _ r)
      have h2 : ¬ (j = na ∧ y = ca) := by
        rintro ⟨rfl, _⟩
        have := congrArg List.length (hw.uniq _ _ _ g hm.hla hm.lad)
        simp at this
      rw [if_neg h1, if_neg h2, List.append_assoc, hm.fwd hE, ← List.append_assoc]
      exact h.ent _ j u g hu y
    · by_cases q1 : x ++ [y] = lb ++ [cb]
      · obtain ⟨rfl, rfl⟩ := snoc_inj q1
        rw [hm.hlb] at g
        obtain rfl := Option.some.inj g
        have := hm.fwd hE []
        rw [List.append_nil, List.append_nil] at this
        rw [if_pos ⟨rfl, rfl⟩, this, hm.ha]
        rfl
      · have h1 : ¬ (j = nb ∧ y = cb) := by
          rintro ⟨rfl, rfl⟩
          exact q1 (by rw [hw.uniq _ _ _ g hm.hlb hm.lbd])
        rw [if_neg h1]
        have h3 : ¬ (lb ++ [cb]) <+: x ++ [y] := by
          intro e
          rcases List.prefix_concat_iff.1 e with e | e
          · exact q1 e.symm
          · exact e1 e
        by_cases q2 : x ++ [y] = la ++ [ca]
        · obtain ⟨rfl, rfl⟩ := snoc_inj q2
          rw [hm.hla] at g
          obtain rfl := Option.some.inj g
          rw [if_pos ⟨rfl, rfl⟩, hm.at_ hE, if_neg h3, if_pos (List.prefix_refl _)]
          rfl
        · have h2 : ¬ (j = na ∧ y = ca) := by
            rintro ⟨rfl, rfl⟩
            exact q2 (by rw [hw.uniq _ _ _ g hm.hla hm.lad])
          have h4 : ¬ (la ++ [ca]) <+: x ++ [y] := by
            intro e
            rcases List.prefix_concat_iff.1 e with e | e
            · exact q2 e.symm
            · exact e2 e
          rw [if_neg h2, hm.stay hE h3 h4]
          exact h.ent _ j u g hu y
  · intro j t ht hf
    rw [hM] at ht
    obtain ⟨u, hu, rfl⟩ := Option.map_eq_some_iff.1 ht
    dsimp only at hf ⊢
    have hdj := h.dirs hu
    have h1 : j ≠ nb := by rintro rfl; rw [hm.lbd, hf] at hdj; cases hdj
    have h2 : j ≠ na := by rintro rfl; rw [hm.lad, hf] at hdj; cases hdj
    have q := h.file j u hu hf
    rw [if_neg h1, if_neg h2]
    refine ⟨q.1, ?_⟩
    rw [q.2]
    unfold linksG
    rw [hE, List.countP_map]
    rfl
  · rw [hE, List.length_map]
    exact Nat.le_succ_of_le h.bE
end Go.Proofs.YteimpebfenpifaaGreatDoor
