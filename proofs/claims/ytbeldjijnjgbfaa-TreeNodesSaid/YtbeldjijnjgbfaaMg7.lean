/-
  Texts put together: TreeM, TreeN, TreeO, TreeP.
-/
import Derived.Test.YtbeldjijnjgbfaaMg6
namespace Go.Proofs.Ytbeldjijnjgbfaa
open Go.RowKit
attribute [local irreducible] encD decP rawD

/-- A change of one key: it leaves what is below it, and what is above. -/
structure ChgK (key : ByteArray) (f : List Ent → List Ent) : Prop where
  cut : ∀ A M B : List Ent, (∀ x ∈ A, ltK x.1 key = true) → (∀ x ∈ B, ltK key x.1 = true) → f (A ++ (M ++ B)) = A ++ (f M ++ B)
  mem : ∀ (E : List Ent) (x : Ent), x ∈ f E → x ∈ E ∨ x.1 = key
  ok : ∀ E : List Ent, OkL E → OkL (f E)
  len : ∀ E : List Ent, (f E).length ≤ E.length + 1
  sz : ∀ E : List Ent, szE (f E) ≤ szE E + 423
theorem drop_app (key : ByteArray) (A B : List Ent) : dropE key (A ++ B) = dropE key A ++ dropE key B := by unfold dropE; rw [List.filter_append]
theorem drop_low {key : ByteArray} {A : List Ent} (h : ∀ x ∈ A, x.1 ≠ key) : dropE key A = A := by
  unfold dropE
  exact List.filter_eq_self.2 (fun x hx => by simpa using h x hx)
theorem drop_mem {key : ByteArray} {E : List Ent} {x : Ent} (h : x ∈ dropE key E) : x ∈ E := (List.mem_filter.1 h).1
theorem drop_sz (key : ByteArray) : ∀ E : List Ent, szE (dropE key E) ≤ szE E
  | [] => Nat.le_refl _
  | x :: r => by
    have ih := drop_sz key r
    have e : dropE key (x :: r) = dropE key [x] ++ dropE key r := drop_app key [x] r
    rw [e, szE_app, szE_cons]
    by_cases hx : x.1 = key
    · have : dropE key [x] = [] := by unfold dropE; simp [hx]
      rw [this, szE_nil]; omega
    · have : dropE key [x] = [x] := drop_low (fun y hy => by rw [List.mem_singleton] at hy; rw [hy]; exact hx)
      rw [this, szE_cons, szE_nil]; omega
theorem chg_drop (key : ByteArray) : ChgK key (dropE key) where
  cut A M B ha hb := by
    rw [drop_app, drop_app, drop_low (fun x hx => ltK_ne (ha x hx)), drop_low (fun x hx e => ltK_ne (hb x hx) e.symm)]
  mem E x h := .inl (drop_mem h)
  ok E h := h.part List.filter_sublist
  len E := Nat.le_succ_of_le (List.length_filter_le _ _)
  sz E := Nat.le_trans (drop_sz key E) (Nat.le_add_right _ _)
theorem ins_cons (key val : ByteArray) (x : Ent) (r : List Ent) : insE key val (x :: r) = if ltK key x.1 = true then (key, val) :: x :: r else x :: insE key val r := rfl
theorem ins_low {key val : ByteArray} : ∀ (A R : List Ent), (∀ x ∈ A, ltK x.1 key = true) → insE key val (A ++ R) = A ++ insE key val R
  | [], _, _ => rfl
  | x :: A, R, h => by
    have h1 := ltK_as (h x (List.mem_cons_self ..))
    rw [List.cons_append, ins_cons, if_neg (by rw [h1]; decide), ins_low A R (fun y hy => h y (List.mem_cons_of_mem _ hy)), List.cons_append]
theorem ins_high {key val : ByteArray} : ∀ (R B : List Ent), (∀ x ∈ B, ltK key x.1 = true) → insE key val (R ++ B) = insE key val R ++ B
  | [], B, h => by
    cases B with
    | nil => rfl
    | cons b r =>
      show insE key val (b :: r) = [(key, val)] ++ b :: r
      unfold insE
      rw [if_pos (h b (List.mem_cons_self ..))]
      rfl
  | x :: R, B, h => by
    rw [List.cons_append]
    unfold insE
    by_cases hx : ltK key x.1 = true
    · rw [if_pos hx, if_pos hx]; rfl
    · rw [if_neg hx, if_neg hx, ins_high R B h]; rfl
theorem ins_mem {key val : ByteArray} : ∀ {E : List Ent} {x : Ent}, x ∈ insE key val E → x ∈ E ∨ x = (key, val)
  | [], x, h => by
    have h : x ∈ [(key, val)] := h
    rw [List.mem_singleton] at h
    exact .inr h
  | y :: r, x, h => by
    unfold insE at h
    by_cases hy : ltK key y.1 = true
    · rw [if_pos hy] at h
      rcases List.mem_cons.1 h with e | e
      · exact .inr e
      · exact .inl e
    · rw [if_neg hy] at h
      rcases List.mem_cons.1 h with e | e
      · exact .inl (by rw [e]; exact List.mem_cons_self ..)
      · rcases ins_mem e with e | e
        · exact .inl (List.mem_cons_of_mem _ e)
        · exact .inr e
theorem ins_sz (key val : ByteArray) : ∀ E : List Ent, szE (insE key val E) = szE E + (3 + key.size + val.size)
  | [] => by show szE [(key, val)] = _; rw [szE_cons, szE_nil]; dsimp only; omega
  | y :: r => by
    unfold insE
    by_cases hy : ltK key y.1 = true
    · rw [if_pos hy, szE_cons]; dsimp only; omega
    · rw [if_neg hy, szE_cons, ins_sz key val r, szE_cons]; omega
theorem ins_len (key val : ByteArray) : ∀ E : List Ent, (insE key val E).length = E.length + 1
  | [] => rfl
  | y :: r => by
    unfold insE
    by_cases hy : ltK key y.1 = true
    · rw [if_pos hy]; rfl
    · rw [if_neg hy, List.length_cons, ins_len key val r, List.length_cons]
theorem ins_ok {key val : ByteArray} {E : List Ent} (h : OkL E) (hk : okE key val = true) : OkL (insE key val (dropE key E)) := by
  obtain ⟨A, M, B, rfl, ha, hb, hM⟩ := up_cut key E h.up
  rw [drop_cut ha hb hM, ins_cut hb A ha]
  have hAB : OkL (A ++ B) := h.part (List.Sublist.append_left (List.sublist_append_right _ _) _)
  have hu := hAB.up
  unfold Up at hu
  rw [List.map_append, List.pairwise_append] at hu
  refine ⟨?_, fun x hx => ?_⟩
  · unfold Up
    rw [List.map_append, List.map_cons, List.pairwise_append]
    refine ⟨hu.1, List.pairwise_cons.2 ⟨fun y hy => ?_, hu.2.1⟩, fun a ha2 y hy => ?_⟩
    · obtain ⟨z, hz, rfl⟩ := List.mem_map.1 hy
      exact hb z hz
    · obtain ⟨z, hz, rfl⟩ := List.mem_map.1 ha2
      rcases List.mem_cons.1 hy with e | e
      · rw [e]; exact ha z hz
      · exact hu.2.2 z.1 (List.mem_map.2 ⟨z, hz, rfl⟩) y e
  · rcases List.mem_append.1 hx with e | e
    · exact hAB.ok x (List.mem_append_left _ e)
    · rcases List.mem_cons.1 e with e | e
      · rw [e]; exact hk
      · exact hAB.ok x (List.mem_append_right _ e)
theorem chg_ins {key val : ByteArray} (hk : okE key val = true) : ChgK key (fun E => insE key val (dropE key E)) where
  cut A M B ha hb := by
    show insE key val (dropE key (A ++ (M ++ B))) = _
    rw [(chg_drop key).cut A M B ha hb, ins_low A _ ha, ins_high _ B hb]
  mem E x h := by
    rcases ins_mem h with e | e
    · exact .inl (drop_mem e)
    · exact .inr (by rw [e])
  ok E h := ins_ok h hk
  len E := by
    show (insE key val (dropE key E)).length ≤ _
    rw [ins_len]
    exact Nat.succ_le_succ (List.length_filter_le _ _)
  sz E := by
    have h1 := okE_iff.1 hk
    have h2 := drop_sz key E
    show szE (insE key val (dropE key E)) ≤ _
    rw [ins_sz]
    omega
end Go.Proofs.Ytbeldjijnjgbfaa

namespace Go.Proofs.Ytbeldjijnjgbfaa
open Go.RowKit
attribute [local irreducible] encD decP rawD

theorem ofE_inj {b c : Bool} {E F : List Ent} (h : ofE b E = ofE c F) : E = F := by
  have h1 : E.map (·.1) = F.map (·.1) := congrArg NodeD.keys h
  have h2 : E.map (·.2) = F.map (·.2) := congrArg NodeD.vals h
  rw [← zip_maps E, ← zip_maps F, h1, h2]
theorem load_size {S : StD} {ref : ByteArray} {h : Nat} {m : NodeD} (hl : loadN S ref h = (m, 0)) {b : Bool} {L : List Ent} (hm : m = ofE b L) : 2 + szE L ≤ 960 := by
  obtain ⟨_, t, _, h2, _, h4⟩ := load_of (S := S) (ref := ref) (h := h) (by rw [hl])
  rw [hl] at h4
  have h4 : m = leastF (decP t).1 := h4
  obtain ⟨k1, k2, _⟩ := dec_ok h2
  rw [k1] at h4
  have hmay : mayD (rawD t) = true := by
    cases hq : mayD (rawD t) with
    | true => rfl
    | false => unfold chkN at k2; rw [hq] at k2; cases k2
  obtain ⟨E, e1, e2, e3⟩ := may_of hmay
  rw [e1] at k2 h4
  have hs := (chk_iff e2 e3).1 k2
  cases hb : (rawD t).leaf with
  | true =>
    rw [hb] at h4
    have h5 : m = ofE true E := h4
    rw [ofE_inj (hm.symm.trans h5)]
    exact hs
  | false =>
    rw [hb] at h4
    cases E with
    | nil =>
      have h5 : m = ofE false [] := h4
      rw [ofE_inj (hm.symm.trans h5)]
      exact hs
    | cons x r =>
      have h5 : m = ofE false ((leastT, x.2) :: r) := h4
      rw [ofE_inj (hm.symm.trans h5), szE_cons]
      rw [szE_cons] at hs
      have h6 := okE_iff.1 (e2.ok x (List.mem_cons_self ..))
      have h7 : leastT.size = 1 := rfl
      dsimp only
      omega
theorem short_len {E : List Ent} (h : OkL E) : 4 * E.length ≤ szE E := by
  have h1 : ∀ x ∈ E, 4 ≤ 3 + x.1.size + x.2.size := fun x hx => by have := okE_iff.1 (h.ok x hx); omega
  clear h
  induction E with
  | nil => exact Nat.zero_le _
  | cons x r ih =>
    have h2 := ih (fun y hy => h1 y (List.mem_cons_of_mem _ hy))
    have h3 := h1 x (List.mem_cons_self ..)
    rw [szE_cons, List.length_cons]
    omega
def costD (i : Nat) (D : List ChD) : Nat := if D.length = 2 then 2 * 2 ^ i else 0
theorem keep_empty (S : StD) (b : Bool) : keepN S (ofE b []) = (([], 0), S) := by
  unfold keepN
  rw [parts_none]
  rfl
theorem up_cons (s : StepD) (r : List StepD) (S T : StD) (n : NodeD) (H : Nat) {l : List Ent} (h : keepN S n = ((l, 0), T)) : upR (s :: r) S n H = upR r T (swapN s.1 s.2 l) H := by
  conv => lhs; unfold upR
  rw [h]
  dsimp only
  rw [if_neg (fun e => e rfl)]
theorem wt_swap (i : Nat) {P Q D : List ChD} {x : ChD} {k : ByteArray} (hD : D.length ≤ 2) (h : wtC D + costD i D ≤ x.2.2 + 2) : wtI i (P ++ (reK k D ++ Q)) ≤ wtI i (P ++ x :: Q) + 2 := by
  unfold wtI
  have e1 : wtC (P ++ x :: Q) = wtC P + (x.2.2 + wtC Q) := by rw [wtC_app]; unfold wtC; simp
  rw [e1, wtC_app, wtC_app, re_wt]
  have e2 : (P ++ (reK k D ++ Q)).length = P.length + D.length + Q.length := by rw [List.length_append, List.length_append, re_len]; omega
  have e3 : (P ++ x :: Q).length = P.length + Q.length + 1 := by rw [List.length_append, List.length_cons]; omega
  rw [e2, e3]
  have hp : 2 ^ (i + 1) = 2 * 2 ^ i := by rw [Nat.pow_succ]; omega
  unfold costD at h
  by_cases h2 : D.length = 2
  · rw [if_pos h2] at h
    have h4 : (max (P.length + D.length + Q.length) 2 - 2) * 2 ^ (i + 1) ≤ (max (P.length + Q.length + 1) 2 - 2 + 1) * 2 ^ (i + 1) := Nat.mul_le_mul_right _ (by omega)
    rw [Nat.add_mul, Nat.one_mul] at h4
    omega
  · rw [if_neg h2] at h
    have h4 : (max (P.length + D.length + Q.length) 2 - 2) * 2 ^ (i + 1) ≤ (max (P.length + Q.length + 1) 2 - 2) * 2 ^ (i + 1) := Nat.mul_le_mul_right _ (by omega)
    omega
end Go.Proofs.Ytbeldjijnjgbfaa

namespace Go.Proofs.Ytbeldjijnjgbfaa
open Go.RowKit
attribute [local irreducible] encD decP rawD

/-- What a change of the tree below comes to. -/
structure WayU (S : StD) (i : Nat) (f : List Ent → List Ent) (E : List Ent) (W : Nat) (steps : List StepD) (E0 : List Ent) (D : List ChD) (T : StD) : Prop where
  up : ∀ (s : StepD) (r : List StepD) (H : Nat), upR (steps.reverse ++ s :: r) S (ofE true (f E0)) H = upR r T (swapN s.1 s.2 (D.map (·.1))) H
  gr : GrowS S T
  ln : T.l.length ≤ S.l.length + 2 * (i + 1)
  fr : Frs T i D
  pr : prC D = f E
  le : D.length ≤ 2
  wt : wtC D + costD i D ≤ W + 2
theorem cost_of {i : Nat} {D : List ChD} {W : Nat} (h : (D.length = 1 ∧ wtC D = W) ∨ (D.length = 2 ∧ wtC D + (if i = 0 then 0 else 2 * 2 ^ i) = W)) : D.length ≤ 2 ∧ (0 < i → wtC D + costD i D ≤ W) ∧ (i = 0 → wtC D + costD i D ≤ W + 2) := by
  unfold costD
  rcases h with ⟨h1, h2⟩ | ⟨h1, h2⟩
  · rw [if_neg (by omega)]
    exact ⟨by omega, fun _ => by omega, fun _ => by omega⟩
  · rw [if_pos h1]
    refine ⟨by omega, fun hi => ?_, fun hi => ?_⟩
    · rw [if_neg (by omega)] at h2; omega
    · subst hi
      rw [if_pos rfl] at h2
      have : (2 : Nat) * 2 ^ 0 = 2 := by decide
      omega
theorem RoomS.grow {S T : StD} {a b : Nat} (h : RoomS S (a + b)) (hg : GrowS S T) (hl : T.l.length ≤ S.l.length + a) : RoomS T b := by
  obtain ⟨hr, _⟩ := hg
  exact ⟨by rw [hr]; have := h.1; omega, by have := h.2; omega⟩
theorem frs_nil (T : StD) (i : Nat) : Frs T i [] := ⟨(fun c hc => by cases hc), (fun c hc => by cases hc), List.Pairwise.nil⟩
theorem sz_refs {T : StD} {i : Nat} {D : List ChD} (fr : Frs T i D) (hD : D.length ≤ 2) (k : ByteArray) : szE ((reK k D).map (·.1)) ≤ (3 + k.size + 6) + 309 := by
  have hsix : ∀ c ∈ D, c.1.2.size = 6 := fun c hc => by
    obtain ⟨_, _, m, h3, _⟩ := fr.ch c hc
    exact ref_six (h3 20 (Nat.le_refl _))
  have hsh : ∀ c ∈ D, c.1.1.size ≤ 300 := fun c hc => (okE_iff.1 (fr.ok c hc)).2.1
  match D, hD with
  | [], _ => exact Nat.zero_le _
  | [c], _ =>
    show szE [(k, c.1.2)] ≤ _
    have := hsix c (by simp)
    rw [szE_cons, szE_nil]
    dsimp only
    omega
  | [c, d], _ =>
    show szE [(k, c.1.2), d.1] ≤ _
    have h1 := hsix c (by simp)
    have h2 := hsix d (by simp)
    have h3 := hsh d (by simp)
    rw [szE_cons, szE_cons, szE_nil]
    dsimp only
    omega
  | _ :: _ :: _ :: _, h => simp at h
theorem way_up {S : StD} {key : ByteArray} {f : List Ent → List Ent} (hf : ChgK key f) (hkey : 0 < key.size) : ∀ (i : Nat) {n : NodeD} {E : List Ent} {W : Nat}, TrN S i n E W → RoomS S (2 * (i + 1)) → ∀ (g : Nat) (above : List StepD) (ref : ByteArray), (∀ h, h ≤ 20 → loadN S ref h = (n, 0)) → above.length + 1 + i ≤ 20 → i < g →
    ∃ steps E0 D T, downN S key g above ref = (above ++ steps, ofE true E0, 0) ∧ steps.length = i ∧ OkL E0 ∧ WayU S i f E W steps E0 D T
  | 0, n, E, W, ht, hroom, g, above, ref, hl, hh, hg => by
    obtain ⟨q, rfl⟩ : ∃ q, g = q + 1 := ⟨g - 1, by omega⟩
    obtain ⟨h1, h2, h3, rfl⟩ := ht
    have hsz := load_size (hl 20 (Nat.le_refl _)) h1
    have hdn : downN S key (q + 1) above ref = (above ++ [], ofE true E, 0) := by
      unfold downN
      rw [hl _ (by omega), if_pos (.inr (by rw [h1]; rfl)), List.append_nil, h1]
    have hfo := hf.ok E h2
    have hfl := hf.len E
    have hfs := hf.sz E
    have hsl := short_len h2
    by_cases he : f E = []
    · refine ⟨[], E, [], S, hdn, rfl, h2, ⟨fun s r H => ?_, GrowS.refl S, by omega, frs_nil _ _, ?_, by simp, by unfold costD wtC; simp⟩⟩
      · rw [he]; exact up_cons s r S S _ H (keep_empty S true)
      · rw [he]; rfl
    · obtain ⟨D, T, hk⟩ := keep_leaf (S := S) hfo (by omega) he (by omega) hroom
      have hc := cost_of hk.wt
      exact ⟨[], E, D, T, hdn, rfl, h2, ⟨fun s r H => up_cons s r S T _ H hk.eq, hk.gr, hk.ln, hk.fr, hk.pr, hc.1, hc.2.2 rfl⟩⟩
  | i + 1, n, E, W, ht, hroom, g, above, ref, hl, hh, hg => by
    obtain ⟨q, rfl⟩ : ∃ q, g = q + 1 := ⟨g - 1, by omega⟩
    obtain ⟨C, h1, hC, rfl, rfl, hlst⟩ := ht.inC
    have hsz := load_size (hl 20 (Nat.le_refl _)) h1
    have hCl : (C.map (·.1)).length ≤ 255 := by rw [List.length_map]; exact hC.len
    have hsl := short_len hC.ok
    obtain ⟨A, c, B, hc1, hc2, hc3, hc4⟩ := find_child hC.ok hCl (by simpa using hC.ne) key
    obtain ⟨P, x, Q, rfl, rfl, rfl, rfl⟩ := child_split hc1
    obtain ⟨k1, k2, m, k3, k4⟩ := hC.ch x (by simp)
    have hB : ∀ d ∈ Q, ltK key d.1.1 = true := fun d hd => hc3 d.1 (List.mem_map.2 ⟨d, hd, rfl⟩)
    have hxk : ltK key x.1.1 = false := by
      rcases hc4 with e | e
      · have hP : P = [] := by simpa using e
        subst hP
        have h9 : lstC (x :: Q) = x :: Q := hlst
        have h8 : ((leastT, x.1.2), x.2) = x := (List.cons.inj h9).1
        rw [← h8]
        exact least_low hkey
      · exact e
    have hpw := List.pairwise_append.1 hC.pw
    have hqw := List.pairwise_cons.1 hpw.2.1
    have hfe : f (prC (P ++ x :: Q)) = prC P ++ (f x.2.1 ++ prC Q) := by
      rw [prC_app, prC_cons]
      refine hf.cut _ _ _ (fun a ha => ?_) (fun b hb => ?_)
      · obtain ⟨d, hd, had⟩ := mem_prC ha
        exact lt_via (hpw.2.2 d hd x (List.mem_cons_self ..) a had) hxk
      · obtain ⟨d, hd, hbd⟩ := mem_prC hb
        exact lt_via (hB d hd) ((hC.ch d (by simp [hd])).2.1 b hbd)
    have hv : n.vals.getD (findD n key).1 noT = x.1.2 := by
      rw [h1, hc2]
      unfold ofE
      simp
    have hroom1 : RoomS S (2 * (i + 1)) := ⟨by have := hroom.1; omega, by have := hroom.2; omega⟩
    obtain ⟨steps, E0, D, T, q1, q2, q3, hu⟩ := way_up hf hkey i k4 hroom1 q (above ++ [(n, (findD n key).1)]) x.1.2 k3 (by rw [List.length_append, List.length_singleton]; omega) (by omega)
    have hdn : downN S key (q + 1) above ref = (above ++ ((n, (findD n key).1) :: steps), ofE true E0, 0) := by
      unfold downN
      rw [hl _ (by omega), if_neg (fun e => by
        rcases e with e | e
        · exact e rfl
        · rw [h1] at e; cases e)]
      show downN S key q (above ++ [(n, (findD n key).1)]) (n.vals.getD (findD n key).1 noT) = _
      rw [hv, q1, List.append_assoc]
      rfl
    have hlow : ∀ z ∈ prC D, ltK z.1 x.1.1 = false := fun z hz => by
      rw [hu.pr] at hz
      rcases hf.mem _ _ hz with e | e
      · exact k2 z e
      · rw [e]; exact hxk
    have hupd : ∀ d ∈ Q, ∀ z ∈ prC D, ltK z.1 d.1.1 = true := fun d hd z hz => by
      rw [hu.pr] at hz
      rcases hf.mem _ _ hz with e | e
      · exact hqw.1 d hd z e
      · rw [e]; exact hB d hd
    have hlen : (P ++ x :: Q).length + 1 ≤ 255 := by rw [List.length_map] at hsl; omega
    obtain ⟨w1, w2⟩ := hC.swap hu.gr hu.fr hu.le hlow hupd hlen
    have hat : (findD n key).1 = P.length := by rw [h1, hc2, List.length_map]
    have hsw : swapN n (findD n key).1 (D.map (·.1)) = ofE false ((P ++ (reK x.1.1 D ++ Q)).map (·.1)) := by rw [hat, h1]; exact w1
    have hpr : prC (P ++ (reK x.1.1 D ++ Q)) = f (prC (P ++ x :: Q)) := by rw [prC_app, prC_app, re_pr, hu.pr, hfe]
    have hwt := wt_swap i (P := P) (Q := Q) (x := x) (k := x.1.1) hu.le hu.wt
    have hroom2 : RoomS T 2 := RoomS.grow (a := 2 * (i + 1)) (b := 2) (by rw [show 2 * (i + 1) + 2 = 2 * (i + 1 + 1) from by omega]; exact hroom) hu.gr hu.ln
    have hrev : ∀ (s : StepD) (r : List StepD), ((n, (findD n key).1) :: steps).reverse ++ s :: r = steps.reverse ++ (n, (findD n key).1) :: (s :: r) := fun s r => by simp
    by_cases he : P ++ (reK x.1.1 D ++ Q) = []
    · refine ⟨_, E0, [], T, hdn, by rw [List.length_cons, q2], q3, ⟨fun s r H => ?_, hu.gr, by have := hu.ln; omega, frs_nil _ _, ?_, by simp, by unfold costD wtC; simp⟩⟩
      · rw [hrev, hu.up]
        show upR (s :: r) T (swapN n (findD n key).1 (D.map (·.1))) H = _
        rw [hsw, he]
        exact up_cons s r T T _ H (keep_empty T false)
      · rw [← hpr, he]
    · have hI := w2 he
      have hxs : x.1.2.size = 6 := ref_six (k3 20 (Nat.le_refl _))
      have hszn : 2 + szE ((P ++ (reK x.1.1 D ++ Q)).map (·.1)) ≤ 1383 := by
        have h9 := sz_refs hu.fr hu.le x.1.1
        rw [List.map_append, List.map_append, szE_app, szE_app]
        rw [List.map_append, List.map_cons, szE_app, szE_cons, hxs] at hsz
        omega
      obtain ⟨D2, T2, hk⟩ := keep_inner hI hszn hroom2
      have hc := cost_of hk.wt
      refine ⟨_, E0, D2, T2, hdn, by rw [List.length_cons, q2], q3, ⟨fun s r H => ?_, hu.gr.trans hk.gr, by have := hu.ln; have := hk.ln; omega, hk.fr, hk.pr.trans hpr, hc.1, by have := hc.2.1 (by omega); omega⟩⟩
      rw [hrev, hu.up]
      show upR (s :: r) T (swapN n (findD n key).1 (D.map (·.1))) H = _
      rw [hsw]
      exact up_cons s r T T2 _ H hk.eq
end Go.Proofs.Ytbeldjijnjgbfaa

namespace Go.Proofs.Ytbeldjijnjgbfaa
open Go.RowKit
attribute [local irreducible] encD decP rawD

/-- A root of that level (leaves: 0), its tree's pairs and weight; the empty root has none. -/
def RootT (S : StD) (root : ByteArray) (i : Nat) (E : List Ent) (W : Nat) : Prop :=
  (root = noT ∧ E = [] ∧ i = 0 ∧ W = 0) ∨ (root.size = 6 ∧ E ≠ [] ∧ ∃ n, (∀ h, h ≤ 20 → loadN S root h = (n, 0)) ∧ TrN S i n E W)
theorem RootT.grow {S T : StD} (hg : GrowS S T) {root : ByteArray} {i : Nat} {E : List Ent} {W : Nat} (h : RootT S root i E W) : RootT T root i E W := by
  rcases h with h | ⟨h1, h2, n, h3, h4⟩
  · exact .inl h
  · exact .inr ⟨h1, h2, n, fun j hj => load_grow hg (h3 20 (Nat.le_refl _)) hj, h4.grow hg i⟩
/-- What a root comes to: of what was kept. -/
theorem top_is {T : StD} {i : Nat} {D : List ChD} {E : List Ent} (fr : Frs T i D) (hpr : prC D = E) (hD : D.length ≤ 2) (hroom : RoomS T 1) (hi : i < 18) {W : Nat} (hw : wtC D + costD i D ≤ W) :
    ∃ root i2 W2 U, topN T (D.map (·.1)) (i + 1) = ((root, 0), U) ∧ RootT U root i2 E W2 ∧ GrowS T U ∧ U.l.length ≤ T.l.length + 1 ∧ W2 ≤ W ∧ (i2 ≤ i ∨ (i2 = i + 1 ∧ 2 * 2 ^ i ≤ W)) := by
  match D, hD with
  | [], _ => exact ⟨noT, 0, 0, T, rfl, .inl ⟨rfl, hpr.symm, rfl, rfl⟩, GrowS.refl T, by omega, by omega, .inl (Nat.zero_le _)⟩
  | [c], _ =>
    obtain ⟨k1, _, m, k3, k4⟩ := fr.ch c (by simp)
    have e : c.2.1 = E := by rw [← hpr]; unfold prC; simp
    have hwc : c.2.2 ≤ W := by
      unfold costD wtC at hw
      simp at hw
      exact hw
    rw [e] at k1 k4
    exact ⟨c.1.2, i, c.2.2, T, rfl, .inr ⟨ref_six (k3 20 (Nat.le_refl _)), k1, m, k3, k4⟩, GrowS.refl T, by omega, hwc, .inl (Nat.le_refl _)⟩
  | [c, d], _ =>
    obtain ⟨k1, _, m, k3, k4⟩ := fr.ch c (by simp)
    obtain ⟨l1, l2, m2, l3, l4⟩ := fr.ch d (by simp)
    have hokc := okE_iff.1 (fr.ok c (by simp))
    have hokd := okE_iff.1 (fr.ok d (by simp))
    have hcd : ∀ z ∈ c.2.1, ltK z.1 d.1.1 = true := (List.pairwise_cons.1 fr.pw).1 d (by simp)
    have hpos : ∀ z ∈ c.2.1, 0 < z.1.size := fun z hz => (okE_iff.1 ((k4.up i).ok z hz)).1
    have hld : ltK leastT d.1.1 = true := by
      obtain ⟨z, t, hz⟩ := head_of k1
      have hzm : z ∈ c.2.1 := by rw [hz]; exact List.mem_cons_self ..
      exact le_lt (least_low (hpos z hzm)) (hcd z hzm)
    have hC : InC T i [((leastT, c.1.2), c.2), d] := by
      refine ⟨⟨?_, fun y hy => ?_⟩, by simp, by simp, fun y hy => ?_, ?_⟩
      · show List.Pairwise _ [leastT, d.1.1]
        exact List.pairwise_cons.2 ⟨fun y hy => by rw [List.mem_singleton] at hy; rw [hy]; exact hld, List.pairwise_singleton ..⟩
      · have hy : y ∈ [(leastT, c.1.2), d.1] := hy
        rcases List.mem_cons.1 hy with e | e
        · rw [e]; exact okE_iff.2 ⟨by show 0 < leastT.size; decide, by show leastT.size ≤ 300; decide, hokc.2.2⟩
        · rw [List.mem_singleton.1 e]; exact fr.ok d (by simp)
      · rcases List.mem_cons.1 hy with e | e
        · rw [e]; exact ⟨k1, fun z hz => least_low (hpos z hz), m, k3, k4⟩
        · rw [List.mem_singleton.1 e]; exact ⟨l1, l2, m2, l3, l4⟩
      · exact List.pairwise_cons.2 ⟨fun y hy => by rw [List.mem_singleton] at hy; rw [hy]; exact hcd, List.pairwise_singleton ..⟩
    have hs1 := ref_six (k3 20 (Nat.le_refl _))
    have hs2 := ref_six (l3 20 (Nat.le_refl _))
    have hnode : (⟨false, [leastT, d.1.1], [c.1.2, d.1.2]⟩ : NodeD) = ofE false ([((leastT, c.1.2), c.2), d].map (·.1)) := rfl
    have hchk : chkN (ofE false ([((leastT, c.1.2), c.2), d].map (·.1))) = 0 := by
      refine (chk_iff hC.ok (by simp)).2 ?_
      show 2 + szE [(leastT, c.1.2), d.1] ≤ 960
      rw [szE_cons, szE_cons, szE_nil]
      have h7 : leastT.size = 1 := rfl
      dsimp only
      omega
    have hput := put_ok (S := T) hchk (by have := hroom.1; omega)
    have hgr : GrowS T { T with l := T.l ++ [encD (ofE false ([((leastT, c.1.2), c.2), d].map (·.1)))] } := ⟨rfl, _, rfl⟩
    have hload := fun j (hj : j ≤ 20) => put_load (S := T) hchk (by have := hroom.2; omega) (.inr (keys_ne hC.ne)) hj
    have htop : topN T ([c, d].map (·.1)) (i + 1) = ((dig6 T.l.length, 0), { T with l := T.l ++ [encD (ofE false ([((leastT, c.1.2), c.2), d].map (·.1)))] }) := by
      show (if i + 1 = 20 then ((noT, (3 : Int)), T) else putN T ⟨false, [leastT, d.1.1], [c.1.2, d.1.2]⟩) = _
      rw [if_neg (by omega), hnode, hput]
    obtain ⟨mm, t1, t2⟩ := inner_load (C := [((leastT, c.1.2), c.2), d]) hload (hC.grow hgr)
    have he : prC [((leastT, c.1.2), c.2), d] = E := by rw [← hpr]; unfold prC; simp
    have hne : E ≠ [] := by rw [← he, prC_cons]; simp [k1]
    rw [he] at t2
    have hwt : wtI i [((leastT, c.1.2), c.2), d] = wtC [c, d] := by
      unfold wtI
      show wtC [((leastT, c.1.2), c.2), d] + (max 2 2 - 2) * 2 ^ (i + 1) = _
      rw [show max 2 2 - 2 = 0 from rfl, Nat.zero_mul]
      rfl
    have hcost : costD i [c, d] = 2 * 2 ^ i := if_pos rfl
    rw [hcost] at hw
    exact ⟨_, i + 1, _, _, htop, .inr ⟨dig_size _, hne, mm, t1, t2⟩, hgr, by show (T.l ++ [_]).length ≤ _; simp, by rw [hwt]; omega, .inr ⟨rfl, by omega⟩⟩
  | _ :: _ :: _ :: _, h => simp at h
end Go.Proofs.Ytbeldjijnjgbfaa
