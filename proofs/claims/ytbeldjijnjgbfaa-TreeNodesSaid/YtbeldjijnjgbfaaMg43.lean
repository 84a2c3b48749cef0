/-
  Texts put together: Tdm, Tdn.
-/
import Derived.Test.YtbeldjijnjgbfaaMg42
namespace Go.Proofs.Ytbeldjijnjgbfaa
open Go Go.RowKit Go.ChangeShapes Go.WideShapes Go.ChangeAt

/-- The pairs behind a put. -/
def putO (E : List Ent) (o : OpT) : List Ent := if okE o.2.1 o.2.2 = true then insE o.2.1 o.2.2 (dropE o.2.1 E) else E
def runP (l : List OpT) : List Ent := l.foldl putO []
theorem runP_snoc (l : List OpT) (o : OpT) : runP (l ++ [o]) = putO (runP l) o := by unfold runP; rw [List.foldl_append]; rfl
theorem mem_insE {key val : ByteArray} {E : List Ent} {x : Ent} : x ∈ insE key val E ↔ x = (key, val) ∨ x ∈ E := by
  constructor
  · exact insE_mem
  · induction E with
    | nil => intro h; rcases h with h | h
             · rw [h, insE]; exact List.mem_cons_self ..
             · cases h
    | cons y r ih =>
      intro h
      rw [insE]
      split
      · rcases h with h | h
        · rw [h]; exact List.mem_cons_self ..
        · exact List.mem_cons_of_mem _ h
      · rcases h with h | h
        · exact List.mem_cons_of_mem _ (ih (.inl h))
        · rcases List.mem_cons.1 h with h | h
          · rw [h]; exact List.mem_cons_self ..
          · exact List.mem_cons_of_mem _ (ih (.inr h))
theorem mem_drop {key : ByteArray} {E : List Ent} {x : Ent} : x ∈ dropE key E ↔ x ∈ E ∧ x.1 ≠ key := by
  unfold dropE
  rw [List.mem_filter]
  simp
def keysT (l : List OpT) : List ByteArray := l.map (fun o => o.2.1)
/-- With no key twice the pairs are those of the script that may be. -/
theorem runP_memR (r : List OpT) : (keysT r.reverse).Nodup → ∀ x, x ∈ runP r.reverse ↔ ∃ o ∈ r.reverse, okE o.2.1 o.2.2 = true ∧ x = (o.2.1, o.2.2) := by
  induction r with
  | nil => intro _ x; constructor
           · intro h; cases h
           · rintro ⟨o, h, _⟩; cases h
  | cons o r ih =>
    intro hn x
    rw [List.reverse_cons] at hn ⊢
    generalize r.reverse = l at *
    have hk : keysT (l ++ [o]) = keysT l ++ [o.2.1] := by unfold keysT; rw [List.map_append]; rfl
    rw [hk, List.nodup_append] at hn
    obtain ⟨h1, _, h3⟩ := hn
    have ih := ih h1
    have hout : ∀ p ∈ l, p.2.1 ≠ o.2.1 := fun p hp => h3 _ (List.mem_map_of_mem hp) _ (by simp)
    rw [runP_snoc]
    unfold putO
    cases hok : okE o.2.1 o.2.2
    · rw [if_neg (by decide), ih x]
      constructor
      · rintro ⟨p, hp, h⟩; exact ⟨p, List.mem_append_left _ hp, h⟩
      · rintro ⟨p, hp, h4, h5⟩
        rcases List.mem_append.1 hp with hp | hp
        · exact ⟨p, hp, h4, h5⟩
        · rw [List.mem_singleton.1 hp, hok] at h4; cases h4
    · rw [if_pos rfl, mem_insE, mem_drop, ih x]
      constructor
      · rintro (h | ⟨⟨p, hp, h⟩, _⟩)
        · exact ⟨o, by simp, hok, h⟩
        · exact ⟨p, List.mem_append_left _ hp, h⟩
      · rintro ⟨p, hp, h4, h5⟩
        rcases List.mem_append.1 hp with hp | hp
        · exact .inr ⟨⟨p, hp, h4, h5⟩, by rw [h5]; exact hout p hp⟩
        · rw [List.mem_singleton.1 hp] at h5; exact .inl h5
theorem runP_mem (l : List OpT) (h : (keysT l).Nodup) : ∀ x, x ∈ runP l ↔ ∃ o ∈ l, okE o.2.1 o.2.2 = true ∧ x = (o.2.1, o.2.2) := by
  have := runP_memR l.reverse
  rw [List.reverse_reverse] at this
  exact this h
theorem up_eq : ∀ {A B : List Ent}, Up (A.map (·.1)) → Up (B.map (·.1)) → (∀ x, x ∈ A ↔ x ∈ B) → A = B
  | [], [], _, _, _ => rfl
  | [], b :: B, _, _, h => by have := (h b).2 (List.mem_cons_self ..); cases this
  | a :: A, [], _, _, h => by have := (h a).1 (List.mem_cons_self ..); cases this
  | a :: A, b :: B, ha, hb, h => by
    have ha' := List.pairwise_cons.1 (show List.Pairwise (fun x y => ltK x y = true) (a.1 :: A.map (·.1)) from ha)
    have hb' := List.pairwise_cons.1 (show List.Pairwise (fun x y => ltK x y = true) (b.1 :: B.map (·.1)) from hb)
    have e : a = b := by
      rcases List.mem_cons.1 ((h a).1 (List.mem_cons_self ..)) with h1 | h1
      · exact h1
      · rcases List.mem_cons.1 ((h b).2 (List.mem_cons_self ..)) with h2 | h2
        · exact h2.symm
        · have h3 := ha'.1 b.1 (List.mem_map_of_mem h2)
          have h4 := hb'.1 a.1 (List.mem_map_of_mem h1)
          rw [ltK_as h3] at h4; cases h4
    subst e
    congr 1
    refine up_eq ha'.2 hb'.2 (fun x => ?_)
    have hx := h x
    rw [List.mem_cons, List.mem_cons] at hx
    constructor
    · intro hm
      rcases hx.1 (.inr hm) with h1 | h1
      · have := ha'.1 x.1 (List.mem_map_of_mem hm); rw [h1, ltK_irr] at this; cases this
      · exact h1
    · intro hm
      rcases hx.2 (.inr hm) with h1 | h1
      · have := hb'.1 x.1 (List.mem_map_of_mem hm); rw [h1, ltK_irr] at this; cases this
      · exact h1
theorem runP_perm {l m : List OpT} (hp : l.Perm m) (hn : (keysT l).Nodup) (hl : OkL (runP l)) (hm : OkL (runP m)) : runP l = runP m := by
  have hn2 : (keysT m).Nodup := (hp.map _).nodup_iff.1 hn
  refine up_eq hl.up hm.up (fun x => ?_)
  rw [runP_mem l hn, runP_mem m hn2]
  constructor
  · rintro ⟨o, ho, h⟩; exact ⟨o, hp.mem_iff.1 ho, h⟩
  · rintro ⟨o, ho, h⟩; exact ⟨o, hp.mem_iff.2 ho, h⟩
theorem rotT_get (l : List OpT) (c j i : Nat) (hc : c < l.length) (hj : j < l.length) (hi : i = (j + c) % l.length) (h : i < l.length) : (l.drop c ++ l.take c)[j]? = some l[i] := by
  rcases Nat.lt_or_ge (c + j) l.length with h1 | h1
  · have e : i = c + j := by rw [hi, Nat.mod_eq_of_lt (by omega)]; omega
    rw [List.getElem?_append_left (by rw [List.length_drop]; omega), List.getElem?_drop, ← e, List.getElem?_eq_getElem h]
  · have e : i = c + j - l.length := by
      rw [hi, show j + c = (c + j - l.length) + l.length from by omega, Nat.add_mod_right, Nat.mod_eq_of_lt (by omega)]
    rw [List.getElem?_append_right (by rw [List.length_drop]; omega), List.length_drop, List.getElem?_take_of_lt (by omega), show j - (l.length - c) = i from by omega, List.getElem?_eq_getElem h]
theorem rotT_perm (l : List OpT) (c : Nat) : l.Perm (l.drop c ++ l.take c) := by
  have h := List.perm_append_comm (l₁ := l.take c) (l₂ := l.drop c)
  rw [List.take_append_drop] at h
  exact h
theorem rotT_take (l : List OpT) (c j i : Nat) (hc : c < l.length) (hj : j < l.length) (hi : i = (j + c) % l.length) (h : i < l.length) : (l.drop c ++ l.take c).take (j + 1) = (l.drop c ++ l.take c).take j ++ [l[i]] := by
  have hg := rotT_get l c j i hc hj hi h
  have hlen : j < (l.drop c ++ l.take c).length := by rw [← (rotT_perm l c).length_eq]; exact hj
  rw [List.take_succ_eq_append_getElem hlen]
  rw [List.getElem?_eq_getElem hlen] at hg
  rw [Option.some.inj hg]
theorem putO_bad {E : List Ent} {o : OpT} (h : okE o.2.1 o.2.2 = false) : putO E o = E := by unfold putO; rw [h]; exact if_neg (by decide)
theorem putO_ok {E : List Ent} {o : OpT} (h : okE o.2.1 o.2.2 = true) : putO E o = insE o.2.1 o.2.2 (dropE o.2.1 E) := by unfold putO; exact if_pos h
theorem InvR.six {S : StD} {root : ByteArray} {E : List Ent} {n : Nat} (h : InvR S root E n) (he : E ≠ []) : root.size = 6 := by
  obtain ⟨⟨i, W, h1, _, _⟩, _⟩ := h
  rcases h1 with ⟨_, h, _⟩ | ⟨h, _⟩
  · exact absurd h he
  · exact h
theorem ins_ne {key val : ByteArray} {E : List Ent} : insE key val E ≠ [] := fun h => by
  have := mem_insE.2 (.inl rfl : (key, val) = (key, val) ∨ (key, val) ∈ E)
  rw [h] at this; cases this
theorem six_ne {r : ByteArray} (h : r.size = 6) : r.toList.isEmpty = false := by
  rw [ByteArray.toList_eq]
  cases h5 : r.data.toList with
  | nil => have h6 : r.data.toList.length = 6 := by simpa using h
           rw [h5] at h6; cases h6
  | cons a b => rfl
theorem nil_size {r : ByteArray} (h : r.size = 0) : r = noT := by
  obtain ⟨d⟩ := r
  have h1 : d.size = 0 := h
  rw [Array.size_eq_zero_iff.1 h1]
theorem scan_all {S : StD} {root : ByteArray} {E : List Ent} {n : Nat} (h : InvR S root E n) (hn : n ≤ 1000) : scanT S root noT 1000 = (E, 0) := by
  obtain ⟨⟨i, W, h1, h2, _⟩, h4⟩ := h
  rw [scan_is h1 (by omega)]
  have e : E.filter (fun x => !ltK x.1 noT) = E := List.filter_eq_self.2 (fun x _ => by
    cases h5 : ltK x.1 noT
    · rfl
    · have := ltK_as h5
      rw [ltK_nil] at this
      rcases Nat.eq_zero_or_pos x.1.size with h6 | h6
      · have : x.1 = noT := nil_size h6
        rw [this, ltK_irr] at h5; cases h5
      · rw [decide_eq_true h6] at this; cases this)
  rw [e, List.take_of_length_le (by show E.length ≤ 1000; omega)]
end Go.Proofs.Ytbeldjijnjgbfaa

namespace Go.Proofs.Ytbeldjijnjgbfaa
open Go Go.RowKit Go.ChangeShapes Go.WideShapes Go.ChangeAt

abbrev LnT := List (ByteArray × NodeD × Int)
theorem no_less (s : ByteArray) : ltK s noT = false := by
  cases h5 : ltK s noT
  · rfl
  · have := ltK_as h5
    rw [ltK_nil] at this
    rcases Nat.eq_zero_or_pos s.size with h6 | h6
    · rw [nil_size h6, ltK_irr] at h5; cases h5
    · rw [decide_eq_true h6] at this; cases this
theorem flt_all (E : List Ent) : E.filter (fun x => !ltK x.1 noT) = E := List.filter_eq_self.2 (fun x _ => by rw [no_less]; rfl)
theorem scan_many {S : StD} {root : ByteArray} {E : List Ent} {n : Nat} (h : InvR S root E n) (hn : n ≤ 1000) : scanT S root noT 100000 = (E, 0) := by
  obtain ⟨⟨i, W, h1, h2, _⟩, h4⟩ := h
  rw [scan_is h1 (by omega), flt_all, List.take_of_length_le (by show E.length ≤ 100000; omega)]
theorem nodes_head {S : StD} {root fr : ByteArray} (h : root.size ≠ 0) : ∃ r, (nodesT S root fr).map (·.1) = root :: r := by
  unfold nodesT
  rw [if_neg h]
  unfold nodesF
  split
  · exact ⟨_, rfl⟩
  · split
    · exact ⟨_, rfl⟩
    · exact ⟨_, rfl⟩
/-- How many pairs stand in the first i nodes. -/
def cntN (L : LnT) (i : Nat) : Nat := ((L.take i).flatMap (fun x => pairsN x.2.1 noT)).length
structure NodF (S : StD) (E : List Ent) (L : LnT) (i : Nat) (ref t : ByteArray) (d : NodeD) : Prop where
  got : getS S ref = (t, 0)
  dec : decP t = (d, 0)
  ne : d.keys ≠ []
  chk : chkN d = 0
  len : d.keys.length = d.vals.length
  nx : cntN L (i + 1) = cntN L i + (if d.leaf = true then d.keys.length else 0)
  pr : d.leaf = true → ∀ j, j < d.keys.length → E[cntN L i + j]? = some (d.keys.getD j noT, d.vals.getD j noT)
theorem chk_len {d : NodeD} (h : chkN d = 0) : d.keys.length = d.vals.length := by
  unfold chkN at h
  cases hm : mayD d
  · rw [hm, if_neg (by decide)] at h; cases h
  · unfold mayD at hm
    rw [Bool.and_eq_true] at hm
    exact of_decide_eq_true hm.1
theorem nodes_at {S : StD} {root : ByteArray} {E : List Ent} {n : Nat} (h : InvR S root E n) : ∃ L : LnT, L = nodesT S root noT ∧ refsT S root = (L.map (·.1), 0) ∧ (L.map (·.1)).Nodup ∧ cntN L L.length = E.length ∧
    ∀ i (hi : i < L.length), ∃ t d, NodF S E L i L[i].1 t d := by
  obtain ⟨⟨k, W, h1, h2, _⟩, _⟩ := h
  obtain ⟨G, hG, hE⟩ := walk_root h1 (by omega) noT
  have hpr := hG.pr
  rw [hE, flt_all] at hpr
  refine ⟨nodesT S root noT, rfl, ?_, hG.nd, ?_, fun i hi => ?_⟩
  · unfold refsT
    rw [refsL_is _ _ (fun x hx => (hG.ok x hx).1), List.nil_append]
  · unfold cntN
    rw [List.take_length, hpr]
  · obtain ⟨h3, _, lv, F, ⟨V, h4⟩, h5, h6⟩ := hG.ok _ (List.getElem_mem hi)
    have hz : (loadN S (nodesT S root noT)[i].1 0).2 = 0 := by rw [h5 0 (Nat.zero_le _)]
    obtain ⟨_, t, g1, g2, g3, g4⟩ := load_of hz
    rw [h5 0 (Nat.zero_le _)] at g4
    have g4 : (nodesT S root noT)[i].2.1 = leastF (decP t).1 := g4
    obtain ⟨k1, k2, _⟩ := dec_ok g2
    obtain ⟨d, hd⟩ : ∃ d, d = (decP t).1 := ⟨_, rfl⟩
    rw [← hd] at g3 g4 k1
    have hc : chkN d = 0 := by rw [k1]; exact k2
    have hlen := chk_len hc
    have hp : pairsN (nodesT S root noT)[i].2.1 noT = if d.leaf = true then d.keys.zip d.vals else [] := by
      rw [g4]
      unfold pairsN leastF
      by_cases hl : d.leaf = true
      · rw [if_pos hl, if_pos hl, if_pos hl]; exact flt_all _
      · rw [if_neg hl, if_neg hl]; rfl
    have hne : d.keys ≠ [] := by
      rcases g3 with hl | hl
      · have e : leastF d = d := by unfold leastF; rw [if_pos hl]
        rw [e] at g4
        have h0 := (h4.leaf).1 (by rw [g4]; exact hl)
        subst h0
        obtain ⟨e4, _, _, _⟩ := h4
        intro hk
        rw [g4] at e4
        have : d.keys.length = F.length := by rw [e4]; show (F.map _).length = _; rw [List.length_map]
        rw [hk] at this
        exact h6 (List.eq_nil_of_length_eq_zero this.symm)
      · exact hl
    have htk : (nodesT S root noT).take (i + 1) = (nodesT S root noT).take i ++ [(nodesT S root noT)[i]] := List.take_succ_eq_append_getElem hi
    have hcn : cntN (nodesT S root noT) (i + 1) = cntN (nodesT S root noT) i + (if d.leaf = true then d.keys.length else 0) := by
      unfold cntN
      rw [htk, List.flatMap_append, List.length_append, List.flatMap_cons, List.flatMap_nil, List.append_nil, hp]
      congr 1
      split
      · rw [List.length_zip]; omega
      · rfl
    refine ⟨t, d, g1, Prod.ext hd.symm g2, hne, hc, hlen, hcn, fun hl j hj => ?_⟩
    have hsp : E = (((nodesT S root noT).take i).flatMap (fun x => pairsN x.2.1 noT)) ++ (d.keys.zip d.vals ++ ((nodesT S root noT).drop (i + 1)).flatMap (fun x => pairsN x.2.1 noT)) := by
      rw [← hpr]
      conv => lhs; rw [← List.take_append_drop (i + 1) (nodesT S root noT)]
      rw [List.flatMap_append, htk, List.flatMap_append, List.flatMap_cons, List.flatMap_nil, List.append_nil, hp, if_pos hl, List.append_assoc]
    rw [hsp]
    unfold cntN
    rw [List.getElem?_append_right (by omega), Nat.add_sub_cancel_left, List.getElem?_append_left (by rw [List.length_zip]; omega), List.getElem?_zip_eq_some.2]
    constructor
    · show d.keys[j]? = some (d.keys.getD j noT)
      rw [List.getD_eq_getElem?_getD, List.getElem?_eq_getElem hj]; rfl
    · show d.vals[j]? = some (d.vals.getD j noT)
      rw [List.getD_eq_getElem?_getD, List.getElem?_eq_getElem (by omega)]; rfl
theorem get_txt {S : StD} (h : StOk S) {r t : ByteArray} (hg : getS S r = (t, 0)) : t.size ≤ 100000 := by
  unfold getS at hg
  split at hg
  · cases hg
  · split at hg
    · cases hg
    · rename_i h5
      injection hg with h6 _
      subst h6
      exact h.txt _ (List.mem_of_getElem? h5)
end Go.Proofs.Ytbeldjijnjgbfaa
