/-
  Texts put together: TreeQ, TreeR, TreeS, TreeT, TreeU.
-/
import Derived.Test.YtbeldjijnjgbfaaMg7
namespace Go.Proofs.Ytbeldjijnjgbfaa
open Go.RowKit
attribute [local irreducible] encD decP rawD

theorem RoomS.less {S : StD} {a b : Nat} (h : RoomS S a) (hb : b ≤ a) : RoomS S b := ⟨by have := h.1; omega, by have := h.2; omega⟩
/-- What a change comes to at the root. -/
structure RootU (S : StD) (root : ByteArray) (i : Nat) (key : ByteArray) (f : List Ent → List Ent) (E : List Ent) (W : Nat) (steps : List StepD) (E0 : List Ent) (root2 : ByteArray) (i2 : Nat) (W2 : Nat) (U : StD) : Prop where
  down : downT S root key = (steps, ofE true E0, 0)
  ok : OkL E0
  sh : E0.length ≤ 255
  look : lookT E0 key = lookT E key
  up : upN S steps (ofE true (f E0)) = ((root2, 0), U)
  rt : RootT U root2 i2 (f E) W2
  gr : GrowS S U
  ln : U.l.length ≤ S.l.length + (2 * (i + 1) + 1)
  wt : W2 ≤ W + 2
  hi : i2 ≤ i ∨ (i2 = i + 1 ∧ 2 * 2 ^ i ≤ W + 2)
theorem top_low {T : StD} (h : Nat) {L : List Ent} {n : NodeD} {U : StD} (hn : n.leaf = false → n.keys.length ≠ 1) (hk : keepN T n = ((L, 0), U)) : upR [] T n h = topN U L h := by
  unfold upR
  rw [if_neg (fun e => hn e.1 e.2), hk]
  dsimp only
  rw [if_neg (fun e => e rfl)]
theorem way_root {S : StD} {key : ByteArray} {f : List Ent → List Ent} (hf : ChgK key f) (hkey : 0 < key.size) : ∀ (i : Nat) {n : NodeD} {E : List Ent} {W : Nat} {root : ByteArray}, TrN S i n E W → (∀ h, h ≤ 20 → loadN S root h = (n, 0)) → root.size = 6 → RoomS S (2 * (i + 1) + 1) → i < 17 →
    ∃ steps E0 root2 i2 W2 U, RootU S root i key f E W steps E0 root2 i2 W2 U := by
  intro i n E W root ht hl hr hroom hi
  obtain ⟨st, leaf, E9, d1, _, ⟨d2, d3, d4, _⟩, d5⟩ := down_look (key := key) i ht 21 [] root hl (by simp; omega) (by omega)
  have hdT : downT S root key = (st, ofE true E9, 0) := by unfold downT; rw [if_neg (by omega), d1, d2]; rfl
  cases i with
  | zero =>
    obtain ⟨h1, h2, h3, rfl⟩ := ht
    have hsz := load_size (hl 20 (Nat.le_refl _)) h1
    have hdn : downT S root key = ([], ofE true E, 0) := by
      unfold downT downN
      rw [if_neg (by omega), hl _ (by simp), if_pos (.inr (by rw [h1]; rfl)), h1]
    have hq := hdn.symm.trans hdT
    have hE : E = E9 := ofE_inj (congrArg (·.2.1) hq)
    have hfo := hf.ok E h2
    have hfl := hf.len E
    have hfs := hf.sz E
    have hsl := short_len h2
    by_cases he : f E = []
    · refine ⟨[], E, noT, 0, 0, S, ⟨hdn, h2, h3, rfl, ?_, .inl ⟨rfl, he, rfl, rfl⟩, GrowS.refl S, by omega, by omega, .inl (Nat.le_refl _)⟩⟩
      rw [he]
      exact top_low 1 (fun e => by cases e) (keep_empty S true)
    · obtain ⟨D, T, hk⟩ := keep_leaf (S := S) hfo (by omega) he (by omega) (RoomS.less hroom (by omega))
      have hc := cost_of hk.wt
      obtain ⟨root2, i2, W2, U, t1, t2, t3, t4, t5, t6⟩ := top_is hk.fr hk.pr hc.1 (RoomS.grow (a := 2) (b := 1) hroom hk.gr hk.ln) (by omega) (hc.2.2 rfl)
      refine ⟨[], E, root2, i2, W2, U, ⟨hdn, h2, h3, rfl, ?_, t2, hk.gr.trans t3, by have := hk.ln; omega, by omega, t6⟩⟩
      exact (top_low 1 (fun e => by cases e) hk.eq).trans t1
  | succ i =>
    obtain ⟨C, h1, hC, rfl, rfl, hlst⟩ := ht.inC
    have hsz := load_size (hl 20 (Nat.le_refl _)) h1
    have hCl : (C.map (·.1)).length ≤ 255 := by rw [List.length_map]; exact hC.len
    have hsl := short_len hC.ok
    obtain ⟨A, c, B, hc1, hc2, hc3, hc4⟩ := find_child hC.ok hCl (by simpa using hC.ne) key
    obtain ⟨P, x, Q, rfl, rfl, rfl, rfl⟩ := child_split hc1
    obtain ⟨k1, k2, m, k3, k4⟩ := hC.ch x (by simp)
    have hB : ∀ d ∈ Q, ltK key d.1.1 = true := fun d hd => hc3 d.1 (List.mem_map.2 ⟨d, hd, rfl⟩)
    have hxk : ltK key x.1.1 = false := by
      rcases hc4 with e | e
      · have hP : P = [] := by simpa using e
        subst hP
        have h9 : lstC (x :: Q) = x :: Q := hlst
        have h8 : ((leastT, x.1.2), x.2) = x := (List.cons.inj h9).1
        rw [← h8]
        exact least_low hkey
      · exact e
    have hpw := List.pairwise_append.1 hC.pw
    have hqw := List.pairwise_cons.1 hpw.2.1
    have hfe : f (prC (P ++ x :: Q)) = prC P ++ (f x.2.1 ++ prC Q) := by
      rw [prC_app, prC_cons]
      refine hf.cut _ _ _ (fun a ha => ?_) (fun b hb => ?_)
      · obtain ⟨d, hd, had⟩ := mem_prC ha
        exact lt_via (hpw.2.2 d hd x (List.mem_cons_self ..) a had) hxk
      · obtain ⟨d, hd, hbd⟩ := mem_prC hb
        exact lt_via (hB d hd) ((hC.ch d (by simp [hd])).2.1 b hbd)
    have hv : n.vals.getD (findD n key).1 noT = x.1.2 := by
      rw [h1, hc2]
      unfold ofE
      simp
    obtain ⟨steps, E0, D, T, q1, q2, q3, hu⟩ := way_up hf hkey i k4 (RoomS.less hroom (by omega)) 20 [(n, (findD n key).1)] x.1.2 k3 (by rw [List.length_singleton]; omega) (by omega)
    have hdn : downT S root key = ((n, (findD n key).1) :: steps, ofE true E0, 0) := by
      unfold downT downN
      rw [if_neg (by omega), hl _ (by simp), if_neg (fun e => by
        rcases e with e | e
        · exact e rfl
        · rw [h1] at e; cases e)]
      show downN S key 20 [(n, (findD n key).1)] (n.vals.getD (findD n key).1 noT) = _
      rw [hv, q1]
      rfl
    have hq := hdn.symm.trans hdT
    have hE : E0 = E9 := ofE_inj (congrArg (·.2.1) hq)
    have hlow : ∀ z ∈ prC D, ltK z.1 x.1.1 = false := fun z hz => by
      rw [hu.pr] at hz
      rcases hf.mem _ _ hz with e | e
      · exact k2 z e
      · rw [e]; exact hxk
    have hupd : ∀ d ∈ Q, ∀ z ∈ prC D, ltK z.1 d.1.1 = true := fun d hd z hz => by
      rw [hu.pr] at hz
      rcases hf.mem _ _ hz with e | e
      · exact hqw.1 d hd z e
      · rw [e]; exact hB d hd
    have hlen : (P ++ x :: Q).length + 1 ≤ 255 := by rw [List.length_map] at hsl; omega
    obtain ⟨w1, w2⟩ := hC.swap hu.gr hu.fr hu.le hlow hupd hlen
    have hat : (findD n key).1 = P.length := by rw [h1, hc2, List.length_map]
    have hsw : swapN n (findD n key).1 (D.map (·.1)) = ofE false ((P ++ (reK x.1.1 D ++ Q)).map (·.1)) := by rw [hat, h1]; exact w1
    have hpr : prC (P ++ (reK x.1.1 D ++ Q)) = f (prC (P ++ x :: Q)) := by rw [prC_app, prC_app, re_pr, hu.pr, hfe]
    have hwt := wt_swap i (P := P) (Q := Q) (x := x) (k := x.1.1) hu.le hu.wt
    have hroom2 : RoomS T 3 := RoomS.grow (a := 2 * (i + 1)) (b := 3) (RoomS.less hroom (by omega)) hu.gr hu.ln
    have hup : upN S ((n, (findD n key).1) :: steps) (ofE true (f E0)) = upR [] T (ofE false ((P ++ (reK x.1.1 D ++ Q)).map (·.1))) (i + 1 + 1) := by
      unfold upN
      rw [List.reverse_cons, List.length_cons, q2, hu.up, hsw]
    by_cases he : P ++ (reK x.1.1 D ++ Q) = []
    · refine ⟨_, E0, noT, 0, 0, T, ⟨hdn, q3, by rw [hE]; exact d4, by rw [hE]; exact d5, ?_, .inl ⟨rfl, by rw [← hpr, he]; rfl, rfl, rfl⟩, hu.gr, by have := hu.ln; omega, by omega, .inl (by omega)⟩⟩
      rw [hup, he]
      exact top_low _ (fun _ e => by cases e) (keep_empty T false)
    · have hI := w2 he
      by_cases hone : (P ++ (reK x.1.1 D ++ Q)).length = 1
      · obtain ⟨c, hc⟩ := List.length_eq_one_iff.1 hone
        rw [hc] at hI hup hwt hpr
        obtain ⟨y1, _, y2, y3, y4⟩ := hI.ch c (by simp)
        have hpc : prC [c] = c.2.1 := by unfold prC; simp
        rw [hpc] at hpr
        have hwc : c.2.2 ≤ wtI i [c] := by unfold wtI wtC; simp
        refine ⟨_, E0, c.1.2, i, c.2.2, T, ⟨hdn, q3, by rw [hE]; exact d4, by rw [hE]; exact d5, ?_, .inr ⟨ref_six (y3 20 (Nat.le_refl _)), by rw [← hpr]; exact y1, y2, y3, by rw [← hpr]; exact y4⟩, hu.gr, by have := hu.ln; omega, by omega, .inl (by omega)⟩⟩
        rw [hup]
        exact if_pos ⟨rfl, rfl⟩
      · have hxs : x.1.2.size = 6 := ref_six (k3 20 (Nat.le_refl _))
        have hszn : 2 + szE ((P ++ (reK x.1.1 D ++ Q)).map (·.1)) ≤ 1383 := by
          have h9 := sz_refs hu.fr hu.le x.1.1
          rw [List.map_append, List.map_append, szE_app, szE_app]
          rw [List.map_append, List.map_cons, szE_app, szE_cons, hxs] at hsz
          omega
        obtain ⟨D2, T2, hk⟩ := keep_inner hI hszn (RoomS.less hroom2 (by omega))
        have hc := cost_of hk.wt
        obtain ⟨root2, i2, W2, U, t1, t2, t3, t4, t5, t6⟩ := top_is hk.fr hk.pr hc.1 (RoomS.grow (a := 2) (b := 1) hroom2 hk.gr hk.ln) (by omega) (hc.2.1 (by omega))
        refine ⟨_, E0, root2, i2, W2, U, ⟨hdn, q3, by rw [hE]; exact d4, by rw [hE]; exact d5, ?_, by rw [← hpr]; exact t2, (hu.gr.trans hk.gr).trans t3, by have := hu.ln; have := hk.ln; omega, by omega, ?_⟩⟩
        · rw [hup]
          exact (top_low _ (fun _ e => hone (by rw [← List.length_map (f := fun c : ChD => c.1), ← List.length_map (f := fun e : Ent => e.1)]; exact e)) hk.eq).trans t1
        · rcases t6 with t6 | ⟨t6, t7⟩
          · exact .inl t6
          · exact .inr ⟨t6, by omega⟩
end Go.Proofs.Ytbeldjijnjgbfaa

namespace Go.Proofs.Ytbeldjijnjgbfaa
open Go.RowKit
attribute [local irreducible] encD decP rawD

/-- What a call that changes a tree comes to. -/
structure DoneT (S : StD) (i : Nat) (W : Nat) (E2 : List Ent) (r : (ByteArray × Int) × StD) (i2 W2 : Nat) : Prop where
  ok : r.1.2 = 0
  rt : RootT r.2 r.1.1 i2 E2 W2
  gr : GrowS S r.2
  ln : r.2.l.length ≤ S.l.length + (2 * (i + 1) + 1)
  wt : W2 ≤ W + 2
  hi : i2 ≤ i ∨ (i2 = i + 1 ∧ 2 * 2 ^ i ≤ W + 2)
theorem one_chk {key val : ByteArray} (h : okE key val = true) : chkN ⟨true, [key], [val]⟩ = 0 := by
  have h1 := okE_iff.1 h
  have hO : OkL [(key, val)] := ⟨List.pairwise_singleton .., fun x hx => by rw [List.mem_singleton] at hx; rw [hx]; exact h⟩
  refine (chk_iff (b := true) hO (by simp)).2 ?_
  rw [szE_cons, szE_nil]
  dsimp only
  omega
theorem one_ok {key val : ByteArray} (h : okE key val = true) : OkL [(key, val)] := ⟨List.pairwise_singleton .., fun x hx => by rw [List.mem_singleton] at hx; rw [hx]; exact h⟩
theorem find_look {E : List Ent} (h : OkL E) (hl : E.length ≤ 255) (key : ByteArray) : (findD (ofE true E) key).2 = (lookT E key).isSome := by
  have e := congrArg (·.2) (leaf_get h hl key)
  by_cases hf : (findD (ofE true E) key).2 = true
  · rw [if_pos hf] at e
    rw [hf]
    cases hk : lookT E key with
    | none => rw [hk] at e; cases e
    | some v => rfl
  · rw [if_neg hf] at e
    rw [Bool.not_eq_true] at hf
    rw [hf]
    cases hk : lookT E key with
    | none => rfl
    | some v => rw [hk] at e; cases e
theorem put_is {S : StD} {root : ByteArray} {i : Nat} {E : List Ent} {W : Nat} (h : RootT S root i E W) {key val : ByteArray} (hk : okE key val = true) (hroom : RoomS S (2 * (i + 1) + 1)) (hi : i < 17) :
    ∃ i2 W2, DoneT S i W (insE key val (dropE key E)) (putT S root key val) i2 W2 := by
  have hkey : 0 < key.size := (okE_iff.1 hk).1
  have hpt : ∀ {st : List StepD} {E0 : List Ent}, downT S root key = (st, ofE true E0, 0) → OkL E0 → E0.length ≤ 255 → putT S root key val = upN S st (ofE true (insE key val (dropE key E0))) := fun hd h0 h1 => by
    unfold putT
    rw [if_neg (fun e => e (one_chk hk)), hd]
    dsimp only
    rw [if_neg (fun e => e rfl), with_eq h0 h1 key val hk]
  rcases h with ⟨rfl, rfl, rfl, rfl⟩ | ⟨h1, h2, n, h3, h4⟩
  · have e := hpt (down_empty S key) ⟨List.Pairwise.nil, fun x hx => by cases hx⟩ (by simp)
    have hO := one_ok hk
    have hsz : 2 + szE [(key, val)] ≤ 1383 := by
      have := okE_iff.1 hk
      rw [szE_cons, szE_nil]
      dsimp only
      omega
    obtain ⟨D, T, hk2⟩ := keep_leaf (S := S) hO (by simp) (by simp) hsz (RoomS.less hroom (by omega))
    have hc := cost_of hk2.wt
    obtain ⟨root2, i2, W2, U, t1, t2, t3, t4, t5, t6⟩ := top_is hk2.fr hk2.pr hc.1 (RoomS.grow (a := 2) (b := 1) hroom hk2.gr hk2.ln) (by omega) (hc.2.2 rfl)
    have e2 : putT S noT key val = ((root2, 0), U) := e.trans ((top_low 1 (fun e => by cases e) hk2.eq).trans t1)
    refine ⟨i2, W2, ?_⟩
    rw [e2]
    exact ⟨rfl, t2, hk2.gr.trans t3, by have := hk2.ln; show U.l.length ≤ _; omega, by omega, t6⟩
  · obtain ⟨st, E0, root2, i2, W2, U, hu⟩ := way_root (chg_ins hk) hkey i h4 h3 h1 hroom hi
    refine ⟨i2, W2, ?_⟩
    rw [hpt hu.down hu.ok hu.sh, hu.up]
    exact ⟨rfl, hu.rt, hu.gr, hu.ln, hu.wt, hu.hi⟩
theorem del_none {S : StD} {root : ByteArray} {i : Nat} {E : List Ent} {W : Nat} (h : RootT S root i E W) {key : ByteArray} (hi : i < 20) (hn : lookT E key = none) : delT S root key = ((noT, 8), S) := by
  have hd : ∃ st E0, downT S root key = (st, ofE true E0, 0) ∧ OkL E0 ∧ E0.length ≤ 255 ∧ lookT E0 key = none := by
    rcases h with ⟨rfl, rfl, rfl, rfl⟩ | ⟨h1, h2, n, h3, h4⟩
    · exact ⟨[], [], down_empty S key, ⟨List.Pairwise.nil, fun x hx => by cases hx⟩, by simp, rfl⟩
    · obtain ⟨st, leaf, E0, d1, _, ⟨d2, d3, d4, _⟩, d5⟩ := down_look (key := key) i h4 21 [] root h3 (by simp; omega) (by omega)
      exact ⟨st, E0, by unfold downT; rw [if_neg (by omega), d1, d2]; rfl, d3, d4, d5.trans hn⟩
  obtain ⟨st, E0, h1, h2, h3, h4⟩ := hd
  unfold delT
  rw [h1]
  dsimp only
  rw [if_neg (fun e => e rfl), if_pos (by rw [find_look h2 h3, h4]; rfl)]
theorem del_is {S : StD} {root : ByteArray} {i : Nat} {E : List Ent} {W : Nat} (h : RootT S root i E W) {key v : ByteArray} (hk : 0 < key.size) (hs : lookT E key = some v) (hroom : RoomS S (2 * (i + 1) + 1)) (hi : i < 17) :
    ∃ i2 W2, DoneT S i W (dropE key E) (delT S root key) i2 W2 := by
  rcases h with ⟨rfl, rfl, rfl, rfl⟩ | ⟨h1, h2, n, h3, h4⟩
  · cases hs
  · obtain ⟨st, E0, root2, i2, W2, U, hu⟩ := way_root (chg_drop key) hk i h4 h3 h1 hroom hi
    refine ⟨i2, W2, ?_⟩
    have e : delT S root key = ((root2, 0), U) := by
      unfold delT
      rw [hu.down]
      dsimp only
      rw [if_neg (fun e => e rfl), if_neg (by rw [find_look hu.ok hu.sh, hu.look, hs]; exact fun e => by cases e), without_eq hu.ok hu.sh, hu.up]
    rw [e]
    exact ⟨rfl, hu.rt, hu.gr, hu.ln, hu.wt, hu.hi⟩
end Go.Proofs.Ytbeldjijnjgbfaa

namespace Go.Proofs.Ytbeldjijnjgbfaa
open Go.RowKit
attribute [local irreducible] encD decP rawD

/-- A ref of a store that leads to a tree of that level, with those pairs. -/
def AtR (S : StD) (r : ByteArray) (i : Nat) (E : List Ent) : Prop := ∃ n W, (∀ h, h ≤ 20 → loadN S r h = (n, 0)) ∧ TrN S i n E W
theorem det_list {S : StD} {i : Nat} (ih : ∀ {n : NodeD} {E F : List Ent} {W V : Nat}, TrN S i n E W → TrN S i n F V → E = F) : ∀ (C D : List ChD), C.map (·.1) = D.map (·.1) →
    (∀ c ∈ C, ∃ m, (∀ h, h ≤ 20 → loadN S c.1.2 h = (m, 0)) ∧ TrN S i m c.2.1 c.2.2) → (∀ c ∈ D, ∃ m, (∀ h, h ≤ 20 → loadN S c.1.2 h = (m, 0)) ∧ TrN S i m c.2.1 c.2.2) → prC C = prC D
  | [], [], _, _, _ => rfl
  | [], _ :: _, h, _, _ => by cases h
  | _ :: _, [], h, _, _ => by cases h
  | c :: C, d :: D, h, h1, h2 => by
    rw [List.map_cons, List.map_cons] at h
    obtain ⟨e1, e2⟩ := List.cons.inj h
    obtain ⟨m, a1, a2⟩ := h1 c (List.mem_cons_self ..)
    obtain ⟨m2, b1, b2⟩ := h2 d (List.mem_cons_self ..)
    have e3 := (a1 0 (Nat.zero_le _)).symm.trans ((by rw [e1] : loadN S c.1.2 0 = loadN S d.1.2 0).trans (b1 0 (Nat.zero_le _)))
    have e4 : m = m2 := congrArg (·.1) e3
    subst e4
    rw [prC_cons, prC_cons, ih a2 b2, det_list ih C D e2 (fun x hx => h1 x (List.mem_cons_of_mem _ hx)) (fun x hx => h2 x (List.mem_cons_of_mem _ hx))]
theorem TrN.det {S : StD} : ∀ (i j : Nat) {n : NodeD} {E F : List Ent} {W V : Nat}, TrN S i n E W → TrN S j n F V → i = j ∧ E = F
  | 0, 0, n, E, F, W, V, h, g => ⟨rfl, ofE_inj (h.1.symm.trans g.1)⟩
  | 0, j + 1, n, E, F, W, V, h, g => by
    obtain ⟨C, g1, _⟩ := g
    have e := congrArg NodeD.leaf (h.1.symm.trans g1)
    cases e
  | i + 1, 0, n, E, F, W, V, h, g => by
    obtain ⟨C, g1, _⟩ := h
    have e := congrArg NodeD.leaf (g.1.symm.trans g1)
    cases e
  | i + 1, j + 1, n, E, F, W, V, h, g => by
    obtain ⟨C, h1, hC, rfl, _, _⟩ := h.inC
    obtain ⟨D, g1, hD, rfl, _, _⟩ := g.inC
    have e : C.map (·.1) = D.map (·.1) := ofE_inj (h1.symm.trans g1)
    obtain ⟨c, C2, hc⟩ := head_of hC.ne
    obtain ⟨d, D2, hd⟩ := head_of hD.ne
    obtain ⟨_, _, m, a1, a2⟩ := hC.ch c (by rw [hc]; exact List.mem_cons_self ..)
    obtain ⟨_, _, m2, b1, b2⟩ := hD.ch d (by rw [hd]; exact List.mem_cons_self ..)
    have e1 : c.1 = d.1 := by
      rw [hc, hd, List.map_cons, List.map_cons] at e
      exact (List.cons.inj e).1
    have e3 := (a1 0 (Nat.zero_le _)).symm.trans ((by rw [e1] : loadN S c.1.2 0 = loadN S d.1.2 0).trans (b1 0 (Nat.zero_le _)))
    have e4 : m = m2 := congrArg (·.1) e3
    subst e4
    have hij : i = j := (TrN.det i j a2 b2).1
    subst hij
    refine ⟨rfl, det_list (S := S) (fun p q => (TrN.det (S := S) i i p q).2) C D e (fun c hc => ?_) (fun c hc => ?_)⟩
    · exact (hC.ch c hc).2.2
    · exact (hD.ch c hc).2.2
theorem AtR.det {S : StD} {r : ByteArray} {i j : Nat} {E F : List Ent} (h : AtR S r i E) (g : AtR S r j F) : i = j ∧ E = F := by
  obtain ⟨n, W, h1, h2⟩ := h
  obtain ⟨m, V, g1, g2⟩ := g
  have e : n = m := congrArg (·.1) ((h1 0 (Nat.zero_le _)).symm.trans (g1 0 (Nat.zero_le _)))
  subst e
  exact h2.det i j g2
end Go.Proofs.Ytbeldjijnjgbfaa

namespace Go.Proofs.Ytbeldjijnjgbfaa
open Go.RowKit
attribute [local irreducible] encD decP rawD

/-- What is still to be asked: the ref and its height, with its level and pairs beside it. -/
structure GhD where
  p : ByteArray × Nat
  lv : Nat
  E : List Ent
structure WalkV (S : StD) (G : List GhD) (seen : List ByteArray) : Prop where
  is : ∀ g ∈ G, AtR S g.p.1 g.lv g.E ∧ g.E ≠ [] ∧ g.p.2 + g.lv ≤ 20
  pw : G.Pairwise (fun a b => ∀ x ∈ a.E, ∀ y ∈ b.E, ltK x.1 y.1 = true)
  sn : ∀ s ∈ seen, ∃ j F, AtR S s j F ∧ F ≠ [] ∧ ∀ g ∈ G, g.lv < j ∨ ∀ x ∈ F, ∀ y ∈ g.E, ltK x.1 y.1 = true
  nd : seen.Nodup
theorem WalkV.new {S : StD} {g : GhD} {G : List GhD} {seen : List ByteArray} (h : WalkV S (g :: G) seen) : g.p.1 ∉ seen := fun hs => by
  obtain ⟨j, F, h1, h2, h3⟩ := h.sn _ hs
  obtain ⟨a, _, _⟩ := h.is g (List.mem_cons_self ..)
  obtain ⟨e1, e2⟩ := h1.det a
  rcases h3 g (List.mem_cons_self ..) with q | q
  · omega
  · obtain ⟨x, r, hx⟩ := head_of h2
    have hm : x ∈ F := by rw [hx]; exact List.mem_cons_self ..
    exact ltK_ne (q x hm x (by rw [← e2]; exact hm)) rfl
theorem WalkV.leaf {S : StD} {g : GhD} {G : List GhD} {seen : List ByteArray} (h : WalkV S (g :: G) seen) : WalkV S G (g.p.1 :: seen) := by
  obtain ⟨a, b, _⟩ := h.is g (List.mem_cons_self ..)
  have hp := List.pairwise_cons.1 h.pw
  refine ⟨fun y hy => h.is y (List.mem_cons_of_mem _ hy), hp.2, fun s hs => ?_, List.nodup_cons.2 ⟨h.new, h.nd⟩⟩
  rcases List.mem_cons.1 hs with e | e
  · rw [e]; exact ⟨g.lv, g.E, a, b, fun y hy => .inr (hp.1 y hy)⟩
  · obtain ⟨j, F, h1, h2, h3⟩ := h.sn s e
    exact ⟨j, F, h1, h2, fun y hy => h3 y (List.mem_cons_of_mem _ hy)⟩
def kidsG (h i : Nat) (B : List ChD) : List GhD := B.map (fun c => ⟨(c.1.2, h), i, c.2.1⟩)
theorem WalkV.inner {S : StD} {g : GhD} {G : List GhD} {seen : List ByteArray} (h : WalkV S (g :: G) seen) {i : Nat} (hi : g.lv = i + 1) {A B : List ChD} (hC : InC S i (A ++ B)) (hE : g.E = prC (A ++ B)) : WalkV S (kidsG (g.p.2 + 1) i B ++ G) (g.p.1 :: seen) := by
  obtain ⟨a, b, hh⟩ := h.is g (List.mem_cons_self ..)
  have hp := List.pairwise_cons.1 h.pw
  have hsub : ∀ c ∈ B, ∀ x ∈ c.2.1, x ∈ g.E := fun c hc x hx => by
    rw [hE, prC_app]
    refine List.mem_append_right _ ?_
    unfold prC
    exact List.mem_flatMap.2 ⟨c, hc, hx⟩
  have hk : ∀ y ∈ kidsG (g.p.2 + 1) i B, ∃ c ∈ B, y = ⟨(c.1.2, g.p.2 + 1), i, c.2.1⟩ := fun y hy => by
    obtain ⟨c, hc, e⟩ := List.mem_map.1 hy
    exact ⟨c, hc, e.symm⟩
  refine ⟨fun y hy => ?_, List.pairwise_append.2 ⟨?_, hp.2, fun y hy z hz => ?_⟩, fun s hs => ?_, List.nodup_cons.2 ⟨h.new, h.nd⟩⟩
  · rcases List.mem_append.1 hy with e | e
    · obtain ⟨c, hc, rfl⟩ := hk y e
      obtain ⟨k1, _, m, k3, k4⟩ := hC.ch c (by simp [hc])
      exact ⟨⟨m, _, k3, k4⟩, k1, by show g.p.2 + 1 + i ≤ 20; omega⟩
    · exact h.is y (List.mem_cons_of_mem _ e)
  · unfold kidsG
    refine List.pairwise_map.2 ?_
    refine List.Pairwise.imp_of_mem ?_ (List.pairwise_append.1 hC.pw).2.1
    intro c d _ hd hcd x hx y hy
    exact lt_via (hcd x hx) ((hC.ch d (by simp [hd])).2.1 y hy)
  · obtain ⟨c, hc, rfl⟩ := hk y hy
    exact fun x hx => hp.1 z hz x (hsub c hc x hx)
  · rcases List.mem_cons.1 hs with e | e
    · rw [e]
      refine ⟨g.lv, g.E, a, b, fun y hy => ?_⟩
      rcases List.mem_append.1 hy with q | q
      · obtain ⟨c, hc, rfl⟩ := hk y q
        exact .inl (by show i < g.lv; omega)
      · exact .inr (hp.1 y q)
    · obtain ⟨j, F, h1, h2, h3⟩ := h.sn s e
      refine ⟨j, F, h1, h2, fun y hy => ?_⟩
      rcases List.mem_append.1 hy with q | q
      · obtain ⟨c, hc, rfl⟩ := hk y q
        rcases h3 g (List.mem_cons_self ..) with w | w
        · exact .inl (by show i < j; omega)
        · exact .inr fun x hx z hz => w x hx z (hsub c hc z hz)
      · exact h3 y (List.mem_cons_of_mem _ q)
end Go.Proofs.Ytbeldjijnjgbfaa

namespace Go.Proofs.Ytbeldjijnjgbfaa
open Go.RowKit
attribute [local irreducible] encD decP rawD

theorem numF_inj : ∀ (l m : List UInt8) (a b k : Nat), l.length = m.length → numF l a = some k → numF m b = some k → l = m ∧ a = b
  | [], [], a, b, k, _, h, g => ⟨rfl, Option.some.inj (h.trans g.symm)⟩
  | [], _ :: _, _, _, _, h, _, _ => by cases h
  | _ :: _, [], _, _, _, h, _, _ => by cases h
  | c :: l, d :: m, a, b, k, hl, h, g => by
    unfold numF at h g
    split at h
    · cases h
    · split at g
      · cases g
      · rename_i hc hd
        obtain ⟨e1, e2⟩ := numF_inj l m _ _ k (by simpa using hl) h g
        have c1 : 48 ≤ c.toNat := Nat.le_of_not_lt (fun q => hc (.inl (UInt8.lt_iff_toNat_lt.2 q)))
        have c2 : c.toNat ≤ 57 := Nat.le_of_not_lt (fun q => hc (.inr (UInt8.lt_iff_toNat_lt.2 q)))
        have d1 : 48 ≤ d.toNat := Nat.le_of_not_lt (fun q => hd (.inl (UInt8.lt_iff_toNat_lt.2 q)))
        have d2 : d.toNat ≤ 57 := Nat.le_of_not_lt (fun q => hd (.inr (UInt8.lt_iff_toNat_lt.2 q)))
        have e3 : c = d := UInt8.toNat_inj.1 (by omega)
        exact ⟨by rw [e1, e3], by omega⟩
theorem num_inj {r s : ByteArray} {k : Nat} (h : numT r = some k) (g : numT s = some k) : r = s := by
  have hx : ∀ {r : ByteArray}, numT r = some k → numF r.data.toList 0 = some k ∧ r.size = 6 := fun {r} h => by
    unfold numT at h
    split at h
    · cases h
    · rename_i n hn
      split at h
      · rename_i h6
        exact ⟨by rw [hn]; exact h, h6⟩
      · cases h
  obtain ⟨h1, h2⟩ := hx h
  obtain ⟨g1, g2⟩ := hx g
  have hl : r.data.toList.length = s.data.toList.length := by
    rw [Array.length_toList, Array.length_toList]
    exact h2.trans g2.symm
  have e := (numF_inj _ _ 0 0 k hl h1 g1).1
  exact ByteArray.ext (Array.toList_inj.1 e)
theorem below_len : ∀ (N : Nat) (l : List Nat), l.Nodup → (∀ x ∈ l, x < N) → l.length ≤ N
  | 0, [], _, _ => Nat.le_refl _
  | 0, x :: _, _, h => absurd (h x (List.mem_cons_self ..)) (Nat.not_lt_zero _)
  | N + 1, l, hn, h => by
    have h1 := below_len N (l.erase N) (hn.erase N) (fun x hx => by
      have h2 := (List.Nodup.mem_erase_iff hn).1 hx
      have := h x h2.2
      omega)
    rw [List.length_erase] at h1
    split at h1 <;> omega
theorem WalkV.len {S : StD} {G : List GhD} {seen : List ByteArray} (h : WalkV S G seen) : seen.length ≤ S.l.length := by
  have hs : ∀ s ∈ seen, ∃ n, numT s = some n ∧ n < S.l.length := fun s hs => by
    obtain ⟨j, F, ⟨m, W, h1, _⟩, _⟩ := h.sn s hs
    obtain ⟨_, t, h2, _⟩ := load_of (S := S) (ref := s) (h := 0) (by rw [h1 0 (Nat.zero_le _)])
    obtain ⟨n, h3, h4, _⟩ := get_lt h2
    exact ⟨n, h3, h4⟩
  have h1 := below_len S.l.length (seen.map (fun s => (numT s).getD 0)) (by
    refine List.pairwise_map.2 (List.Pairwise.imp_of_mem ?_ h.nd)
    intro a b ha hb hab e
    obtain ⟨n, h3, _⟩ := hs a ha
    obtain ⟨m, h4, _⟩ := hs b hb
    rw [h3, h4] at e
    have e : n = m := e
    exact hab (num_inj h3 (by rw [h4, e]))) (fun x hx => by
      obtain ⟨s, q, rfl⟩ := List.mem_map.1 hx
      obtain ⟨n, h3, h4⟩ := hs s q
      rw [h3]
      exact h4)
  rw [List.length_map] at h1
  exact h1
end Go.Proofs.Ytbeldjijnjgbfaa
