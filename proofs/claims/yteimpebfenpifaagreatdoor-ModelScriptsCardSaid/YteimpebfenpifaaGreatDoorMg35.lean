/-
  Texts put together: MoMv, MoLd, MoLx.
-/
import Derived.Test.YteimpebfenpifaaGreatDoorMg34
import Derived.Test.YteimpebfenpifaaGreatDoorMg30
import Derived.Sort.Walk0
namespace Go.Proofs.YteimpebfenpifaaGreatDoor
open Go Go.RowKit

theorem pieces_app : ∀ a b : List UInt8, pieces (a ++ 47 :: b) = pieces a ++ pieces b
  | [], b => by simp [pieces]
  | c :: r, b => by
    have ih := pieces_app r b
    have hne := pieces_ne r
    have e1 : ∀ s : List UInt8, pieces (c :: s) = if c = 47 then [] :: pieces s else (match pieces s with | [] => [[c]] | p :: ps => (c :: p) :: ps) := fun s => rfl
    rw [List.cons_append, e1, e1, ih]
    generalize pieces r = q at *
    cases q with
    | nil => exact absurd rfl hne
    | cons p ps =>
      by_cases hc : c = 47
      · rw [if_pos hc, if_pos hc]; rfl
      · rw [if_neg hc, if_neg hc]; rfl
/-- The names that stand behind a path. -/
def behindD (s : ByteArray) : Option PathD := if s.size = 0 then some [] else if ∀ x ∈ piecesB (restP s), okN x then some (piecesB (restP s)) else none
def putB (l : PathD) : Option PathD → PathD × Int
  | none => ([], 12)
  | some r => (l ++ r, 0)
theorem split_behind {p s : ByteArray} (hp : (splitD p).2 = 0) (hn : (splitD p).1 ≠ []) (hs : s.size = 0 ∨ (pb s).head? = some 47) : splitD (p ++ s) = putB (splitD p).1 (behindD s) := by
  by_cases hz : s.size = 0
  · have h0 : pb s = [] := List.eq_nil_of_length_eq_zero (by rw [pb_size]; exact hz)
    have e : p ++ s = p := pb_ext (by rw [pb_append, h0, List.append_nil])
    unfold behindD
    rw [e, if_pos hz]
    show _ = ((splitD p).1 ++ [], (0 : Int))
    rw [List.append_nil, ← hp]
  · have h47 := hs.resolve_left hz
    have p47 : (pb p).head? = some 47 := by
      apply Classical.byContradiction
      intro h; rw [split_none h] at hp; cases hp
    have pz : (restP p).size ≠ 0 := by
      intro h; rw [split_root p47 h] at hn; exact hn rfl
    have pk : ∀ x ∈ piecesB (restP p), okN x := by
      apply Classical.byContradiction
      intro h
      have hb : ∃ x ∈ piecesB (restP p), ¬ okN x := by
        apply Classical.byContradiction
        intro e
        exact h fun x hx => Classical.byContradiction fun hk => e ⟨x, hx, hk⟩
      rw [split_bad p47 pz hb] at hp
      cases hp
    have e1 : pb (p ++ s) = 47 :: (pb (restP p) ++ 47 :: pb (restP s)) := by rw [pb_append, pb_head p47, pb_head h47]; rfl
    have q47 : (pb (p ++ s)).head? = some 47 := by rw [e1]; rfl
    have e2 : pb (restP (p ++ s)) = pb (restP p) ++ 47 :: pb (restP s) := by
      have := pb_head q47
      rw [e1] at this
      exact (List.cons.inj this).2.symm
    have e3 : piecesB (restP (p ++ s)) = piecesB (restP p) ++ piecesB (restP s) := by
      unfold piecesB
      rw [e2, pieces_app, List.map_append]
    have qz : (restP (p ++ s)).size ≠ 0 := by
      rw [← pb_size, e2, List.length_append, List.length_cons]
      omega
    unfold behindD
    rw [if_neg hz, split_ok p47 pz pk]
    by_cases hk : ∀ x ∈ piecesB (restP s), okN x
    · rw [if_pos hk, split_ok q47 qz (by
        rw [e3]
        intro x hx
        rcases List.mem_append.1 hx with h | h
        · exact pk x h
        · exact hk x h), e3]
      rfl
    · rw [if_neg hk]
      have hb : ∃ x ∈ piecesB (restP (p ++ s)), ¬ okN x := by
        apply Classical.byContradiction
        intro e
        refine hk fun x hx => Classical.byContradiction fun hn => e ⟨x, ?_, hn⟩
        rw [e3]
        exact List.mem_append_right _ hx
      rw [split_bad q47 qz hb]
      rfl

/-! ### steps -/
theorem step_pre {G : GD} (h : WfG G) (d : PathD) : ∀ (r pre : PathD), (atE G (pre ++ r)).isSome = true → stepG G pre (r ++ d) = stepG G (pre ++ r) d
  | [], pre, _ => by rw [List.append_nil, List.nil_append]
  | x :: r, pre, hm => by
    have e : pre ++ x :: r = (pre ++ [x]) ++ r := by simp
    rw [e] at hm
    have h1 := h.pre (pre ++ [x]) r hm
    obtain ⟨n, hn, hd⟩ := h.par _ _ h1
    obtain ⟨n2, hn2⟩ := Option.isSome_iff_exists.1 h1
    have ih := step_pre h d r (pre ++ [x]) hm
    rw [e, ← ih, List.cons_append]
    conv => lhs; unfold stepG
    rw [hn, Option.getD_some, if_neg (by rw [hd]; simp), hn2]
theorem step_none {G : GD} (h : WfG G) {l : PathD} {c : ByteArray} {n : Nat} (hl : atE G l = some n) (hd : dirG G n = true) (hn : atE G (l ++ [c]) = none) : stepG G [] (l ++ [c]) = (0, 8) := by
  rw [step_pre h [c] l [] (by rw [List.nil_append, hl]; rfl), List.nil_append]
  unfold stepG
  rw [hl, Option.getD_some, if_neg (by rw [hd]; simp), hn]

/-! ### moved -/
def mvE (G : GD) (a b : PathD) : GD := { G with E := G.E.map (fun x => (mvP a b x.1, x.2)) }
theorem map_same {α : Type} {f : α → α} : ∀ l : List α, (∀ x ∈ l, f x = x) → l.map f = l
  | [], _ => rfl
  | x :: r, h => by rw [List.map_cons, h x (List.mem_cons_self ..), map_same r (fun y hy => h y (List.mem_cons_of_mem _ hy))]
structure MvH (G : GD) (a b : PathD) : Prop where
  wf : WfG G
  wf1 : WfG (mvE G a b)
  ha : a ≠ []
  hb : b ≠ []
  nab : ¬ a <+: b
  free : atE G b = none
  at0 : (atE G a).isSome = true
section
variable {G : GD} {a b : PathD} (h : MvH G a b)
include h
theorem MvH.noB (x : PathD × Nat) (hx : x ∈ G.E) : ¬ b <+: x.1 := by
  rintro ⟨t, ht⟩
  have h1 : (atE G (b ++ t)).isSome = true := by
    cases e : atE G (b ++ t) with
    | some _ => rfl
    | none =>
      rw [ht, atE_ne (h.wf.ne x hx), findL_none] at e
      exact absurd rfl (e x hx)
  have := h.wf.pre b t h1
  rw [h.free] at this
  cases this
theorem MvH.noBat {l : PathD} (hl : (atE G l).isSome = true) : ¬ b <+: l := by
  rintro ⟨t, rfl⟩
  have := h.wf.pre b t hl
  rw [h.free] at this
  cases this
theorem MvH.nba : ¬ b <+: a := h.noBat h.at0
theorem MvH.at_in (t : PathD) : atE (mvE G a b) (b ++ t) = atE G (a ++ t) := by
  rw [atE_ne (by have := h.hb; simp [this]), atE_ne (by have := h.ha; simp [this])]
  show findL (G.E.map _) _ = _
  rw [findL_mapK (mvP a b) (a ++ t) (b ++ t) G.E (mv_pre a b t)]
  intro y hy e
  by_cases hp : a <+: y.1
  · obtain ⟨r, hr⟩ := hp
    rw [← hr, mv_pre] at e
    rw [← hr, List.append_cancel_left e]
  · rw [mv_not hp] at e
    exact absurd ⟨t, e.symm⟩ (h.noB y hy)
omit h in
theorem MvH.at_out {l : PathD} (h0 : l ≠ []) (h1 : ¬ a <+: l) (h2 : ¬ b <+: l) : atE (mvE G a b) l = atE G l := by
  rw [atE_ne h0, atE_ne h0]
  show findL (G.E.map _) _ = _
  rw [findL_mapK (mvP a b) l l G.E (mv_not h1)]
  intro y hy e
  by_cases hp : a <+: y.1
  · obtain ⟨r, hr⟩ := hp
    rw [← hr, mv_pre] at e
    exact absurd ⟨r, e⟩ h2
  · rw [mv_not hp] at e
    exact e
theorem MvH.gone : atE (mvE G a b) a = none := by
  rw [atE_ne h.ha, findL_none]
  intro y hy e
  obtain ⟨x, hx, rfl⟩ := List.mem_map.1 hy
  have e : mvP a b x.1 = a := e
  by_cases hp : a <+: x.1
  · obtain ⟨r, hr⟩ := hp
    rw [← hr, mv_pre] at e
    exact h.nba ⟨r, e⟩
  · rw [mv_not hp] at e
    exact hp ⟨[], by rw [List.append_nil, e]⟩
theorem MvH.step : ∀ (r t : PathD), stepG (mvE G a b) (b ++ t) r = stepG G (a ++ t) r
  | [], t => by unfold stepG; rw [h.at_in]
  | x :: r, t => by
    have ih := MvH.step r (t ++ [x])
    rw [← List.append_assoc, ← List.append_assoc] at ih
    have e : atE (mvE G a b) (b ++ t ++ [x]) = atE G (a ++ t ++ [x]) := by rw [List.append_assoc, h.at_in, List.append_assoc]
    unfold stepG
    rw [h.at_in, ih, e]
    rfl
theorem MvH.kids (d : PathD) : kidsG (mvE G a b) (b ++ d) = kidsG G (a ++ d) := by
  show List.filterMap _ (G.E.map _) = _
  rw [List.filterMap_map]
  unfold kidsG
  refine fm_congr _ fun x hx => ?_
  apply Option.ext
  intro c
  show kidG (b ++ d) (mvP a b x.1, x.2) = some c ↔ _
  rw [kid_iff, kid_iff]
  show mvP a b x.1 = _ ↔ _
  by_cases hp : a <+: x.1
  · obtain ⟨r, hr⟩ := hp
    rw [← hr, mv_pre, List.append_assoc, List.append_assoc, List.append_cancel_left_eq, List.append_cancel_left_eq]
  · rw [mv_not hp]
    constructor
    · intro e; exact absurd ⟨d ++ [c], by rw [e, List.append_assoc]⟩ (h.noB x hx)
    · intro e; exact absurd ⟨d ++ [c], by rw [e, List.append_assoc]⟩ hp
omit h in
theorem mv_links (n : Nat) : linksG (mvE G a b) n = linksG G n := by
  unfold linksG
  show List.countP _ (G.E.map _) = _
  rw [List.countP_map]
  rfl
theorem MvH.back : mvE (mvE G a b) b a = G := by
  show (⟨(G.E.map _).map _, G.T⟩ : GD) = ⟨G.E, G.T⟩
  rw [List.map_map, map_same]
  intro x hx
  show (mvP b a (mvP a b x.1), x.2) = x
  by_cases hp : a <+: x.1
  · obtain ⟨r, hr⟩ := hp
    rw [← hr, mv_pre, mv_pre, hr]
  · rw [mv_not hp, mv_not (h.noB x hx)]
end

/-! ### asked -/
def mvO (p q : ByteArray) : OpD := ⟨5, p, q, 0, 0, noB⟩
def stO (p : ByteArray) : OpD := ⟨9, p, noB, 0, 0, noB⟩
def statA (G : GD) (ld : Nat × Int) (l : PathD) : AnsD := if ld.2 ≠ 0 then noA ld.2 else if dirG G ld.1 = true then ⟨0, ((kidsG G l).length : Nat), ⟨#[100, 105, 114]⟩, []⟩ else ⟨0, ((textG G ld.1).size : Nat), ⟨#[102, 105, 108, 101]⟩, [digitsB (linksG G ld.1)]⟩
theorem stat_eq (G : GD) (p : ByteArray) : doG G (stO p) = (statA G (leadG G p) (splitD p).1, G) := by
  show (if (leadG G p).2 ≠ 0 then (noA (leadG G p).2, G) else if dirG G (leadG G p).1 = true then ((⟨0, ((kidsG G (splitD p).1).length : Nat), ⟨#[100, 105, 114]⟩, []⟩ : AnsD), G) else (⟨0, ((textG G (leadG G p).1).size : Nat), ⟨#[102, 105, 108, 101]⟩, [digitsB (linksG G (leadG G p).1)]⟩, G)) = _
  unfold statA
  by_cases h1 : (leadG G p).2 ≠ 0
  · rw [if_pos h1, if_pos h1]
  · rw [if_neg h1, if_neg h1]
    by_cases h2 : dirG G (leadG G p).1 = true
    · rw [if_pos h2, if_pos h2]
    · rw [if_neg h2, if_neg h2]
theorem mv_eq (G : GD) (p q : ByteArray) : doG G (mvO p q) = if p = rootB then (noA 1, G) else if (leadG G p).2 ≠ 0 then (noA (leadG G p).2, G) else if witD p q = true then (noA 1, G) else if freeG G q ≠ 0 then (noA (freeG G q), G) else (noA 0, mvE G (splitD p).1 (splitD q).1) := rfl
theorem free_of {G : GD} {q : ByteArray} (h : freeG G q = 0) : (splitD q).2 = 0 ∧ (splitD q).1 ≠ [] ∧ atE G (splitD q).1 = none := by
  unfold freeG at h
  by_cases h1 : (splitD q).2 ≠ 0
  · rw [if_pos h1] at h; exact absurd h h1
  rw [if_neg h1] at h
  by_cases h2 : (splitD q).1 = []
  · rw [if_pos h2] at h; cases h
  rw [if_neg h2] at h
  by_cases h3 : (stepG G [] (splitD q).1.dropLast).2 ≠ 0
  · rw [if_pos h3] at h; exact absurd h h3
  rw [if_neg h3] at h
  by_cases h4 : dirG G (stepG G [] (splitD q).1.dropLast).1 = false
  · rw [if_pos h4] at h; cases h
  rw [if_neg h4] at h
  by_cases h5 : (atE G (splitD q).1).isSome = true
  · rw [if_pos h5] at h; cases h
  · exact ⟨Decidable.not_not.1 h1, h2, by simpa using h5⟩
theorem mv_code {G : GD} {p q : ByteArray} (hc : (doG G (mvO p q)).1.code = 0) : p ≠ rootB ∧ (leadG G p).2 = 0 ∧ witD p q = false ∧ freeG G q = 0 := by
  rw [mv_eq] at hc
  by_cases h1 : p = rootB
  · rw [if_pos h1] at hc; cases hc
  rw [if_neg h1] at hc
  by_cases h2 : (leadG G p).2 ≠ 0
  · rw [if_pos h2] at hc; exact absurd hc h2
  rw [if_neg h2] at hc
  by_cases h3 : witD p q = true
  · rw [if_pos h3] at hc; cases hc
  rw [if_neg h3] at hc
  by_cases h4 : freeG G q ≠ 0
  · rw [if_pos h4] at hc; exact absurd hc h4
  exact ⟨h1, Decidable.not_not.1 h2, by simpa using h3, Decidable.not_not.1 h4⟩
theorem moved {G : GD} (hw : WfG G) {p q s : ByteArray} (hs : s.size = 0 ∨ (pb s).head? = some 47) (hc : (doG G (mvO p q)).1.code = 0) (hw1 : WfG (doG G (mvO p q)).2) :
    ∃ r : AnsD, ∃ G1 : GD, doG G (mvO p q) = (noA 0, G1) ∧ doG G (stO (p ++ s)) = (r, G) ∧ doG G1 (stO (q ++ s)) = (r, G1) ∧ doG G1 (stO p) = (noA 8, G1) ∧ doG G1 (mvO q p) = (noA 0, G) ∧ witD p q = false := by
  obtain ⟨h1, h2, h3, h4⟩ := mv_code hc
  have he : doG G (mvO p q) = (noA 0, mvE G (splitD p).1 (splitD q).1) := by
    rw [mv_eq, if_neg h1, if_neg (fun e => e h2), if_neg (by rw [h3]; decide), if_neg (fun e => e h4)]
  rw [he] at hw1
  obtain ⟨f1, f2, f3⟩ := free_of h4
  obtain ⟨l1, l2⟩ := leadG_at h2
  have l3 := root_split h1 l1
  have hna : ¬ (splitD p).1 <+: (splitD q).1 := fun e => by
    have ht : witD p q = true := decide_eq_true ⟨l1, f1, e⟩
    rw [h3] at ht
    cases ht
  have H : MvH G (splitD p).1 (splitD q).1 := ⟨hw, hw1, l3, f2, hna, f3, by rw [l2]; rfl⟩
  have hb1 : atE (mvE G (splitD p).1 (splitD q).1) (splitD q).1 = some (leadG G p).1 := by
    have := H.at_in []
    rw [List.append_nil, List.append_nil, l2] at this
    exact this
  obtain ⟨l, c, hlc⟩ : ∃ l c, (splitD p).1 = l ++ [c] := by
    rcases List.eq_nil_or_concat (splitD p).1 with e | ⟨l, c, e⟩
    · exact absurd e l3
    · exact ⟨l, c, by rw [e, List.concat_eq_append]⟩
  obtain ⟨n, k1, k2⟩ := hw.par l c (by rw [← hlc, l2]; rfl)
  have k3 : atE (mvE G (splitD p).1 (splitD q).1) l = some n := by
    by_cases h0 : l = []
    · rw [h0] at k1 ⊢; exact k1
    · rw [MvH.at_out h0 (fun e => by have := e.length_le; rw [hlc] at this; simp at this; omega) (H.noBat (by rw [k1]; rfl))]; exact k1
  have k4 : dirG (mvE G (splitD p).1 (splitD q).1) n = true := k2
  have k5 : stepG (mvE G (splitD p).1 (splitD q).1) [] (splitD p).1 = (0, 8) := by
    have hg := H.gone
    have e := step_none hw1 k3 k4 (c := c) (by rw [← hlc]; exact hg)
    rwa [← hlc] at e
  have k6 : stepG (mvE G (splitD p).1 (splitD q).1) [] (splitD p).1.dropLast = (n, 0) := by
    have hd : (splitD p).1.dropLast = l := by rw [hlc]; simp
    rw [hd]
    exact stepG_some hw1 l [] n k3
  refine ⟨statA G (leadG G (p ++ s)) (splitD (p ++ s)).1, _, he, stat_eq _ _, ?_, ?_, ?_, h3⟩
  · rw [stat_eq]
    congr 1
    have sp := split_behind l1 l3 hs
    have sq := split_behind f1 f2 hs
    unfold leadG
    rw [sp, sq]
    cases behindD s with
    | none => rfl
    | some d =>
      show statA _ (if (0 : Int) = 0 then stepG _ [] ((splitD q).1 ++ d) else _) ((splitD q).1 ++ d) = statA _ (if (0 : Int) = 0 then stepG _ [] ((splitD p).1 ++ d) else _) ((splitD p).1 ++ d)
      rw [if_pos rfl, if_pos rfl, step_pre hw1 d _ [] (by rw [List.nil_append, hb1]; rfl), step_pre hw d _ [] (by rw [List.nil_append, l2]; rfl), List.nil_append, List.nil_append]
      have := H.step d []
      rw [List.append_nil, List.append_nil] at this
      rw [this]
      unfold statA
      rw [H.kids, mv_links]
      rfl
  · rw [stat_eq]
    congr 1
    unfold statA leadG
    rw [if_pos l1, k5, if_pos (by decide)]
  · have hq : q ≠ rootB := fun e => f2 (by rw [e, split_rootB])
    have hl : leadG (mvE G (splitD p).1 (splitD q).1) q = ((leadG G p).1, 0) := leadG_of hw1 f1 hb1
    have hwt : witD q p = false := decide_eq_false (fun e => H.nba e.2.2)
    have hf : freeG (mvE G (splitD p).1 (splitD q).1) p = 0 := by
      unfold freeG
      rw [if_neg (fun e => e l1), if_neg l3, k6, if_neg (fun e => e rfl), if_neg (by rw [k4]; decide), H.gone]
      rfl
    rw [mv_eq, if_neg hq, hl, if_neg (fun e => e rfl), if_neg (by rw [hwt]; decide), if_neg (fun e => e hf), H.back]
end Go.Proofs.YteimpebfenpifaaGreatDoor

namespace Go.Proofs.YteimpebfenpifaaGreatDoor
open Go Go.RowKit

def liO (p : ByteArray) : OpD := ⟨10, p, noB, 0, 0, noB⟩
abbrev fileW : ByteArray := ⟨#[102, 105, 108, 101]⟩
abbrev dirW : ByteArray := ⟨#[100, 105, 114]⟩
theorem list_eq (G : GD) (p : ByteArray) : doG G (liO p) = if (leadG G p).2 ≠ 0 then (noA (leadG G p).2, G) else if dirG G (leadG G p).1 = false then (noA 11, G) else (⟨0, 0, noB, sortB (kidsG G (splitD p).1)⟩, G) := rfl
theorem sort_strict {l : List ByteArray} (h : l.Nodup) : (sortB l).Pairwise (fun a b => a.data.toList < b.data.toList) := by
  have h1 := sortB_sorted l
  have h2 : (sortB l).Nodup := (sortB_perm l).nodup_iff.2 h
  have h3 := h1.and h2
  refine h3.imp ?_
  rintro a b ⟨h4, h5⟩
  rcases List.le_iff_lt_or_eq.1 h4 with h | h
  · exact h
  · exact absurd (pb_ext h) h5
theorem listed {G : GD} (hw : WfG G) (p : ByteArray) :
    (∃ e, e ≠ 0 ∧ doG G (liO p) = (noA e, G) ∧ doG G (stO p) = (noA e, G)) ∨
    (∃ n : Nat, ∃ ns, doG G (liO p) = (noA 11, G) ∧ doG G (stO p) = (⟨0, n, fileW, ns⟩, G)) ∨
    ∃ ns : List ByteArray, doG G (liO p) = (⟨0, 0, noB, ns⟩, G) ∧ doG G (stO p) = (⟨0, (ns.length : Nat), dirW, []⟩, G) ∧ (splitD p).2 = 0 ∧ ns.length ≤ G.E.length ∧
      (∀ c ∈ ns, c.size ≤ 255 ∧ ∃ a : AnsD, doG G (stO (joinD ((splitD p).1 ++ [c]))) = (a, G) ∧ a.code = 0) ∧ ns.Pairwise (fun a b => a.data.toList < b.data.toList) := by
  by_cases h1 : (leadG G p).2 ≠ 0
  · refine .inl ⟨_, h1, by rw [list_eq, if_pos h1], ?_⟩
    rw [stat_eq]
    unfold statA
    rw [if_pos h1]
  · by_cases h2 : dirG G (leadG G p).1 = false
    · refine .inr (.inl ⟨(textG G (leadG G p).1).size, [digitsB (linksG G (leadG G p).1)], by rw [list_eq, if_neg h1, if_pos h2], ?_⟩)
      rw [stat_eq]
      unfold statA
      rw [if_neg h1, if_neg (by rw [h2]; decide)]
    · have h0 : (leadG G p).2 = 0 := Decidable.not_not.1 h1
      obtain ⟨l1, l2⟩ := leadG_at h0
      have hd : dirG G (leadG G p).1 = true := by simpa using h2
      refine .inr (.inr ⟨sortB (kidsG G (splitD p).1), by rw [list_eq, if_neg h1, if_neg h2], ?_, l1, ?_, ?_, sort_strict (kids_nodup hw _)⟩)
      · rw [stat_eq]
        unfold statA
        rw [if_neg h1, if_pos hd, sort_len]
      · rw [sort_len]; exact kids_len G _
      · intro c hc
        have hk : c ∈ kidsG G (splitD p).1 := (sortB_perm _).subset hc
        have hs := (kids_mem hw).1 hk
        obtain ⟨m, hm⟩ := Option.isSome_iff_exists.1 hs
        have hn : ∀ y ∈ (splitD p).1 ++ [c], nameD y := by
          rw [atE_snoc] at hm
          exact hw.names _ (findL_mem hm)
        have hj := split_join hn
        refine ⟨(hn c (by simp)).1.2.1, _, stat_eq _ _, ?_⟩
        rw [leadG_of hw (n := m) (by rw [hj]) (by rw [hj]; exact hm)]
        unfold statA
        rw [if_neg (fun e => e rfl)]
        by_cases h9 : dirG G m = true
        · rw [if_pos h9]
        · rw [if_neg h9]
end Go.Proofs.YteimpebfenpifaaGreatDoor

namespace Go.Proofs.YteimpebfenpifaaGreatDoor
open Go Go.RowKit Go.ChangeShapes Go.WideShapes Go.ChangeAt

section
variable {w0 : World} {b : Nat} {G : GD} {k : Nat} {K : Nat → Prop} {w : World}
theorem lv_pass (h : LvS w0 b G k K w) (h0 : It w0) (hk : k ≤ 1000000) (o : OpD) (hp : o.path.size ≤ 100000) (hp2 : o.dst.size ≤ 100000) (hp3 : o.data.size ≤ 1000000) {q : AnsD} {G' : GD} (hq : doG G o = (q, G')) :
    Calls Tryz.prog 17 #[.pointer (some ⟨b, 0, none⟩), opV o] w fun e w' => ∃ va vc, e = .returned (ansV q.code q.n q.data (.slice va q.names.length vc)) ∧ LvS w0 b G' (k + 1) K w' ∧ Kp K w w' := by
  have hd := tk_do h.tk hk o hp hp2 hp3 h.it
  rw [hq] at hd
  refine hd.mono ?_
  rintro e w' ⟨va, vc, rfl, hks, hkp, htk⟩
  exact ⟨va, vc, rfl, ⟨htk.mono (fun j hj => .inl hj), h.bl.trans (hkp.below h.bl.size h.low), h.it.kp h0 hkp h.low, h.low⟩, hkp⟩
theorem LvS.go (h : LvS w0 b G k K w) {w' : World} (hb : Below w.heap.size w w') : LvS w0 b G k K w' := ⟨h.tk.keep hb, h.bl.trans (hb.mono h.bl.size), h.it.keep hb, h.low⟩
theorem LvS.more (h : LvS w0 b G k K w) {w' : World} (hb : Below w.heap.size w w') (N : Nat → Prop) (hN : ∀ j, N j → w.heap.size ≤ j ∧ j < w'.heap.size) : LvS w0 b G k (fun j => K j ∨ N j) w' :=
  ⟨h.tk.more hb N hN, h.bl.trans (hb.mono h.bl.size), h.it.keep hb, fun j hj => .inl (h.low j hj)⟩
end
/-- A row of strings, all of whose block is kept. -/
structure KsAt (K : Nat → Prop) (w : World) (v : Value) (l : List ByteArray) : Prop where
  ks : ∃ B, Ks w B v l
  kn : ∀ j, v.ownBlock = some j → K j
theorem KsAt.go {K K' : Nat → Prop} {w w' : World} {v : Value} {l : List ByteArray} (h : KsAt K w v l) (hk : Kp K w w') (hm : ∀ j, K j → K' j) : KsAt K' w' v l := by
  obtain ⟨B, hB⟩ := h.ks
  exact ⟨⟨B, hk.ks hB h.kn⟩, fun j hj => hm _ (h.kn j hj)⟩
theorem str_geq (x y : ByteArray) (W : World) : (binOp .geq 9 (.string x) (.string y)).run Tryz.prog W = .ok (.bool (!Op.bytesLess x.toList y.toList)) W := by kernel_rfl
theorem ge_no {x y : ByteArray} (h : x.data.toList < y.data.toList) (W : World) : (binOp .geq 9 (.string x) (.string y)).run Tryz.prog W = .ok (.bool false) W := by
  rw [str_geq, bytesLess_eq, ByteArray.toList_eq, ByteArray.toList_eq, decide_eq_true h]
  rfl
theorem join_snoc (l : List ByteArray) (c : ByteArray) : (joinD (l ++ [c])).size ≤ (joinD l).size + c.size + 1 := by
  have e : accL (l ++ [c]) = accL l ++ (47 :: pb c) := by simp [accL]
  rw [accB_join _ (by simp)]
  have h1 : (accB (l ++ [c])).size = (accL l).length + (c.size + 1) := by
    rw [← pb_size]
    unfold accB mkB
    rw [pb_mk, e, List.length_append, List.length_cons, pb_size]
  rw [h1]
  by_cases h0 : l = []
  · subst h0
    simp [accL]
  · rw [accB_join l h0]
    have h2 : (accB l).size = (accL l).length := by
      rw [← pb_size]
      unfold accB mkB
      rw [pb_mk]
    omega
theorem Ks.cellAt {w : World} {B g cap : Nat} {l : List ByteArray} (h : Ks w B (.slice (some ⟨g, 0, none⟩) l.length cap) l) {i : Nat} {c : ByteArray} (hi : l[i]? = some c) : w.cell? ⟨g, i, none⟩ = some (.string c) := by
  have h1 := World.ownsRow.cells h (g := g) rfl i (.string c) (by rw [List.getElem?_map, hi]; rfl)
  rw [add_plain, Nat.zero_add] at h1
  exact h1
theorem ns_addr {w : World} {K : Nat → Prop} {a : Nat} {q : AnsD} {va : Option Addr} {vc : Nat} (h : AnsAt K w a q va vc) (h0 : 0 < q.names.length) : ∃ g, va = some ⟨g, 0, none⟩ := by
  obtain ⟨B, hB⟩ := h.ks
  rcases hB.form with ⟨_, h2⟩ | ⟨g, cap, h1, _⟩
  · rw [h2] at h0; cases h0
  · injection h1 with e1 _ _
    exact ⟨g, e1⟩
end Go.Proofs.YteimpebfenpifaaGreatDoor
