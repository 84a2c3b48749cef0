/-
  A heap of the library's on a list: up, down, and what they keep. No program here.
-/
import Derived.Test.YtgdlnifncmiebaaPlain
namespace Go.Proofs.Ytgdlnifncmiebaa

section
variable {α : Type} [Inhabited α] (lt : α → α → Bool)

def gt (l : List α) (i : Nat) : α := l.getD i default
def swapL (l : List α) (i j : Nat) : List α := (l.set i (gt l j)).set j (gt l i)
theorem swap_len (l : List α) (i j : Nat) : (swapL l i j).length = l.length := by simp [swapL]
theorem gt_swap (l : List α) {i j k : Nat} (hi : i < l.length) (hj : j < l.length) : gt (swapL l i j) k = if k = j then gt l i else if k = i then gt l j else gt l k := by
  unfold swapL
  generalize gt l j = b
  generalize gt l i = a
  unfold gt
  rw [List.getD_eq_getElem?_getD, List.getD_eq_getElem?_getD]
  rw [List.getElem?_set, List.getElem?_set]
  simp only [List.length_set]
  by_cases h1 : k = j
  · subst h1; simp [hj]
  · by_cases h2 : k = i
    · subst h2; simp [h1, hi, Ne.symm h1]
    · simp [h1, h2, Ne.symm h1, Ne.symm h2]
theorem swap_perm (l : List α) {i j : Nat} (hi : i < l.length) (hj : j < l.length) : (swapL l i j).Perm l := by
  have h := Array.swap_perm (xs := l.toArray) (i := i) (j := j) (by simpa using hi) (by simpa using hj)
  rw [Array.perm_iff_toList_perm] at h
  have e : (l.toArray.swap i j (by simpa using hi) (by simpa using hj)).toList = swapL l i j := by
    unfold swapL gt
    rw [Array.toList_swap]
    simp [List.getD_eq_getElem?_getD, hi, hj]
  rw [e] at h
  simpa using h

/-- The library's up. -/
def upL (l : List α) (j : Nat) : List α :=
  if _h : j = 0 then l
  else if lt (gt l j) (gt l ((j - 1) / 2)) = true then upL (swapL l ((j - 1) / 2) j) ((j - 1) / 2) else l
termination_by j
decreasing_by omega
/-- Which child is the less. -/
def kid (l : List α) (i n : Nat) : Nat := if 2 * i + 2 < n ∧ lt (gt l (2 * i + 2)) (gt l (2 * i + 1)) = true then 2 * i + 2 else 2 * i + 1
theorem kid_cases (l : List α) (i n : Nat) : (kid lt l i n = 2 * i + 1) ∨ (kid lt l i n = 2 * i + 2 ∧ 2 * i + 2 < n) := by
  unfold kid
  split
  · next h => exact .inr ⟨rfl, h.1⟩
  · exact .inl rfl
/-- The library's down. -/
def downL (l : List α) (i n : Nat) : List α :=
  if _h : 2 * i + 1 < n then
    if lt (gt l (kid lt l i n)) (gt l i) = true then downL (swapL l i (kid lt l i n)) (kid lt l i n) n else l
  else l
termination_by n - i
decreasing_by
  have := kid_cases lt l i n
  omega

/-- A strict order in which unlike things are not on a par. -/
structure Strict : Prop where
  irr : ∀ a, lt a a = false
  tr : ∀ a b c, lt a b = true → lt b c = true → lt a c = true
  tot : ∀ a b, lt a b = false → lt b a = false → a = b
variable {lt}
omit [Inhabited α] in
theorem Strict.asym (h : Strict lt) {a b : α} (k : lt a b = true) : lt b a = false := by
  cases e : lt b a
  · rfl
  · have := h.tr a b a k e
    rw [h.irr] at this
    cases this
omit [Inhabited α] in
/-- Not less, twice. -/
theorem Strict.ge (h : Strict lt) {a b c : α} (k1 : lt a b = false) (k2 : lt b c = false) : lt a c = false := by
  cases e : lt a c
  · rfl
  · cases e2 : lt c b
    · have := h.tot b c k2 e2
      subst this
      rw [k1] at e
      cases e
    · have := h.tr a c b e e2
      rw [k1] at this
      cases this

/-- The first n are a heap. -/
def HeapP (lt : α → α → Bool) (l : List α) (n : Nat) : Prop := ∀ k, 0 < k → k < n → lt (gt l k) (gt l ((k - 1) / 2)) = false
theorem upL_len : ∀ (j : Nat) (l : List α), (upL lt l j).length = l.length := by
  intro j
  induction j using Nat.strongRecOn with
  | _ j ih =>
    intro l
    rw [upL]
    split
    · rfl
    · split
      · rw [ih ((j - 1) / 2) (by omega), swap_len]
      · rfl
theorem upL_perm : ∀ (j : Nat) (l : List α), j < l.length → (upL lt l j).Perm l := by
  intro j
  induction j using Nat.strongRecOn with
  | _ j ih =>
    intro l hj
    rw [upL]
    split
    · exact List.Perm.refl _
    · split
      · exact (ih ((j - 1) / 2) (by omega) _ (by rw [swap_len]; omega)).trans (swap_perm l (by omega) hj)
      · exact List.Perm.refl _
theorem upL_heap (hs : Strict lt) : ∀ (j : Nat) (l : List α) (n : Nat), n ≤ l.length → j < n → (∀ k, 0 < k → k < n → k ≠ j → lt (gt l k) (gt l ((k - 1) / 2)) = false) →
    (0 < j → ∀ k, 0 < k → k < n → (k - 1) / 2 = j → lt (gt l k) (gt l ((j - 1) / 2)) = false) → HeapP lt (upL lt l j) n := by
  intro j
  induction j using Nat.strongRecOn with
  | _ j ih =>
    intro l n hn hj h1 h2
    rw [upL]
    split
    · next h0 =>
      intro k hk hkn
      exact h1 k hk hkn (by omega)
    · next h0 =>
      split
      · next hl =>
        have hp : (j - 1) / 2 < j := by omega
        have hi : (j - 1) / 2 < l.length := by omega
        have hjl : j < l.length := by omega
        refine ih ((j - 1) / 2) hp _ n (by rw [swap_len]; exact hn) (by omega) (fun k hk hkn hne => ?_) (fun hp0 k hk hkn hpar => ?_)
        · rw [gt_swap l hi hjl, gt_swap l hi hjl]
          by_cases e : k = j
          · subst e
            rw [if_pos rfl, if_neg (by omega), if_pos rfl]
            exact hs.asym hl
          · rw [if_neg e, if_neg hne]
            by_cases e2 : (k - 1) / 2 = j
            · rw [if_pos e2]
              exact h2 (by omega) k hk hkn e2
            · rw [if_neg e2]
              by_cases e3 : (k - 1) / 2 = (j - 1) / 2
              · rw [if_pos e3]
                have h3 := h1 k hk hkn e
                rw [e3] at h3
                cases e4 : lt (gt l k) (gt l j)
                · rfl
                · have := hs.tr _ _ _ e4 hl
                  rw [h3] at this
                  cases this
              · rw [if_neg e3]
                exact h1 k hk hkn e
        · rw [gt_swap l hi hjl, gt_swap l hi hjl]
          rw [if_neg (show ¬ ((j - 1) / 2 - 1) / 2 = j by omega), if_neg (show ¬ ((j - 1) / 2 - 1) / 2 = (j - 1) / 2 by omega)]
          have h3 := h1 ((j - 1) / 2) hp0 (by omega) (by omega)
          by_cases e : k = j
          · rw [if_pos e]
            exact h3
          · rw [if_neg e, if_neg (by omega)]
            have h4 := h1 k hk hkn e
            rw [hpar] at h4
            exact hs.ge h4 h3
      · next hl =>
        intro k hk hkn
        by_cases e : k = j
        · subst e
          simpa using hl
        · exact h1 k hk hkn e

theorem downL_len : ∀ (m : Nat) (l : List α) (i n : Nat), n - i = m → (downL lt l i n).length = l.length := by
  intro m
  induction m using Nat.strongRecOn with
  | _ m ih =>
    intro l i n hm
    rw [downL]
    split
    · next h0 =>
      split
      · have := kid_cases lt l i n
        rw [ih (n - kid lt l i n) (by omega) _ _ _ rfl, swap_len]
      · rfl
    · rfl
theorem downL_perm : ∀ (m : Nat) (l : List α) (i n : Nat), n - i = m → n ≤ l.length → (downL lt l i n).Perm l := by
  intro m
  induction m using Nat.strongRecOn with
  | _ m ih =>
    intro l i n hm hn
    rw [downL]
    split
    · next h0 =>
      split
      · have := kid_cases lt l i n
        exact (ih (n - kid lt l i n) (by omega) _ _ _ rfl (by rw [swap_len]; exact hn)).trans (swap_perm l (by omega) (by omega))
      · exact List.Perm.refl _
    · exact List.Perm.refl _
/-- What stands from n on is left alone. -/
theorem downL_out : ∀ (m : Nat) (l : List α) (i n : Nat), n - i = m → n ≤ l.length → ∀ k, n ≤ k → gt (downL lt l i n) k = gt l k := by
  intro m
  induction m using Nat.strongRecOn with
  | _ m ih =>
    intro l i n hm hn k hk
    rw [downL]
    split
    · next h0 =>
      split
      · have := kid_cases lt l i n
        rw [ih (n - kid lt l i n) (by omega) _ _ _ rfl (by rw [swap_len]; exact hn) k hk, gt_swap l (by omega) (by omega), if_neg (by omega), if_neg (by omega)]
      · rfl
    · rfl
theorem kid_least (hs : Strict lt) (l : List α) (i n k : Nat) (h0 : 0 < k) (hk : k < n) (hp : (k - 1) / 2 = i) : lt (gt l k) (gt l (kid lt l i n)) = false := by
  have hk2 : k = 2 * i + 1 ∨ k = 2 * i + 2 := by omega
  unfold kid
  by_cases h : 2 * i + 2 < n ∧ lt (gt l (2 * i + 2)) (gt l (2 * i + 1)) = true
  · rw [if_pos h]
    rcases hk2 with rfl | rfl
    · exact hs.asym h.2
    · exact hs.irr _
  · rw [if_neg h]
    rcases hk2 with rfl | rfl
    · exact hs.irr _
    · cases e : lt (gt l (2 * i + 2)) (gt l (2 * i + 1))
      · rfl
      · exact absurd ⟨hk, e⟩ h
theorem downL_heap (hs : Strict lt) : ∀ (m : Nat) (l : List α) (i n : Nat), n - i = m → n ≤ l.length → (∀ k, 0 < k → k < n → (k - 1) / 2 ≠ i → lt (gt l k) (gt l ((k - 1) / 2)) = false) →
    (0 < i → ∀ k, 0 < k → k < n → (k - 1) / 2 = i → lt (gt l k) (gt l ((i - 1) / 2)) = false) → HeapP lt (downL lt l i n) n := by
  intro m
  induction m using Nat.strongRecOn with
  | _ m ih =>
    intro l i n hm hn h1 h2
    rw [downL]
    split
    · next h0 =>
      have hc := kid_cases lt l i n
      have hle := kid_least hs l i n
      generalize kid lt l i n = c at *
      have hcn : c < n := by omega
      have hcp : (c - 1) / 2 = i := by omega
      have hil : i < l.length := by omega
      have hcl : c < l.length := by omega
      split
      · next hl =>
        refine ih (n - c) (by omega) _ c n rfl (by rw [swap_len]; exact hn) (fun k hk hkn hne => ?_) (fun _ k hk hkn hpar => ?_)
        · rw [gt_swap l hil hcl, gt_swap l hil hcl, if_neg hne]
          by_cases e : k = c
          · subst e
            rw [if_pos rfl, if_pos hcp]
            exact hs.asym hl
          · rw [if_neg e]
            by_cases e2 : k = i
            · subst e2
              rw [if_pos rfl, if_neg (by omega)]
              exact h2 hk c (by omega) hcn hcp
            · rw [if_neg e2]
              by_cases e3 : (k - 1) / 2 = i
              · rw [if_pos e3]
                exact hle k hk hkn e3
              · rw [if_neg e3]
                exact h1 k hk hkn e3
        · rw [gt_swap l hil hcl, gt_swap l hil hcl, hcp, if_neg (by omega), if_neg (by omega), if_neg (show ¬ i = c by omega), if_pos rfl]
          have := h1 k hk hkn (by omega)
          rw [hpar] at this
          exact this
      · next hl =>
        intro k hk hkn
        by_cases e : (k - 1) / 2 = i
        · rw [e]
          exact hs.ge (hle k hk hkn e) (by simpa using hl)
        · exact h1 k hk hkn e
    · next h0 =>
      intro k hk hkn
      exact h1 k hk hkn (by omega)
/-- The first one is the least. -/
theorem heap_first (hs : Strict lt) {l : List α} {n : Nat} (h : HeapP lt l n) : ∀ k, k < n → lt (gt l k) (gt l 0) = false := by
  intro k
  induction k using Nat.strongRecOn with
  | _ k ih =>
    intro hk
    rcases Nat.eq_zero_or_pos k with rfl | h0
    · exact hs.irr _
    · exact hs.ge (h k h0 hk) (ih ((k - 1) / 2) (by omega) (by omega))

def pushL (lt : α → α → Bool) (l : List α) (x : α) : List α := upL lt (l ++ [x]) l.length
theorem gt_app (l : List α) (x : α) {k : Nat} (h : k < l.length) : gt (l ++ [x]) k = gt l k := by
  unfold gt
  rw [List.getD_eq_getElem?_getD, List.getD_eq_getElem?_getD, List.getElem?_append_left h]
theorem push_len (l : List α) (x : α) : (pushL lt l x).length = l.length + 1 := by unfold pushL; rw [upL_len]; simp
theorem push_perm (l : List α) (x : α) : (pushL lt l x).Perm (l ++ [x]) := upL_perm _ _ (by simp)
theorem push_heap (hs : Strict lt) {l : List α} (x : α) (h : HeapP lt l l.length) : HeapP lt (pushL lt l x) (pushL lt l x).length := by
  rw [push_len]
  refine upL_heap hs _ _ _ (by simp) (by omega) (fun k hk hkn hne => ?_) (fun _ k _ hkn hp => by omega)
  rw [gt_app l x (by omega), gt_app l x (by omega)]
  exact h k hk (by omega)

/-- The library's Pop: what is left, and what is taken. -/
def popL (lt : α → α → Bool) (l : List α) : List α × α := ((downL lt (swapL l 0 (l.length - 1)) 0 (l.length - 1)).take (l.length - 1), gt (downL lt (swapL l 0 (l.length - 1)) 0 (l.length - 1)) (l.length - 1))
theorem pop_top {l : List α} (h : 0 < l.length) : (popL lt l).2 = gt l 0 := by
  unfold popL
  show gt (downL lt (swapL l 0 (l.length - 1)) 0 (l.length - 1)) (l.length - 1) = _
  rw [downL_out _ _ _ _ rfl (by rw [swap_len]; omega) _ (Nat.le_refl _), gt_swap l h (by omega), if_pos rfl]
theorem pop_len {l : List α} (h : 0 < l.length) : (popL lt l).1.length + 1 = l.length := by
  unfold popL
  show ((downL lt (swapL l 0 (l.length - 1)) 0 (l.length - 1)).take (l.length - 1)).length + 1 = _
  rw [List.length_take, downL_len _ _ _ _ rfl, swap_len]
  omega
theorem pop_perm {l : List α} (h : 0 < l.length) : ((popL lt l).1 ++ [(popL lt l).2]).Perm l := by
  have e : (popL lt l).1 ++ [(popL lt l).2] = downL lt (swapL l 0 (l.length - 1)) 0 (l.length - 1) := by
    have hl : (downL lt (swapL l 0 (l.length - 1)) 0 (l.length - 1)).length = l.length := by rw [downL_len _ _ _ _ rfl, swap_len]
    show (downL lt (swapL l 0 (l.length - 1)) 0 (l.length - 1)).take (l.length - 1) ++ [gt (downL lt (swapL l 0 (l.length - 1)) 0 (l.length - 1)) (l.length - 1)] = _
    generalize downL lt (swapL l 0 (l.length - 1)) 0 (l.length - 1) = m at *
    have h2 : l.length - 1 < m.length := by omega
    have h3 : gt m (l.length - 1) = m[l.length - 1] := by unfold gt; rw [List.getD_eq_getElem?_getD, List.getElem?_eq_getElem h2]; rfl
    rw [h3, ← List.take_succ_eq_append_getElem h2, List.take_of_length_le (by omega)]
  rw [e]
  exact (downL_perm _ _ _ _ rfl (by rw [swap_len]; omega)).trans (swap_perm l h (by omega))
theorem gt_take (l : List α) (n : Nat) {k : Nat} (h : k < n) : gt (l.take n) k = gt l k := by
  unfold gt
  rw [List.getD_eq_getElem?_getD, List.getD_eq_getElem?_getD, List.getElem?_take_of_lt h]
theorem pop_heap (hs : Strict lt) {l : List α} (h : 0 < l.length) (hh : HeapP lt l l.length) : HeapP lt (popL lt l).1 (popL lt l).1.length := by
  have hl := pop_len (lt := lt) h
  have hd : HeapP lt (downL lt (swapL l 0 (l.length - 1)) 0 (l.length - 1)) (l.length - 1) := by
    refine downL_heap hs _ _ _ _ rfl (by rw [swap_len]; omega) (fun k hk hkn hne => ?_) (fun h0 => by omega)
    rw [gt_swap l h (by omega), gt_swap l h (by omega), if_neg (by omega), if_neg (by omega), if_neg (by omega), if_neg hne]
    exact hh k hk (by omega)
  intro k hk hkn
  have e : (popL lt l).1.length = l.length - 1 := by omega
  rw [e] at hkn
  show lt (gt ((downL lt (swapL l 0 (l.length - 1)) 0 (l.length - 1)).take (l.length - 1)) k) (gt ((downL lt (swapL l 0 (l.length - 1)) 0 (l.length - 1)).take (l.length - 1)) ((k - 1) / 2)) = false
  rw [gt_take _ _ hkn, gt_take _ _ (by omega)]
  exact hd k hk hkn
theorem pop_least (hs : Strict lt) {l : List α} (h : 0 < l.length) (hh : HeapP lt l l.length) : ∀ x ∈ (popL lt l).1, lt x (popL lt l).2 = false := by
  intro x hx
  rw [pop_top h]
  have hm : x ∈ l := (pop_perm (lt := lt) h).mem_iff.1 (List.mem_append_left _ hx)
  obtain ⟨k, hk, rfl⟩ := List.getElem_of_mem hm
  have e : gt l k = l[k] := by unfold gt; rw [List.getD_eq_getElem?_getD, List.getElem?_eq_getElem hk]; rfl
  rw [← e]
  exact heap_first hs hh k hk

/-- n times Pop. -/
def drainL (lt : α → α → Bool) : Nat → List α → List α
  | 0, _ => []
  | n + 1, l => if l = [] then [] else (popL lt l).2 :: drainL lt n (popL lt l).1
/-- A list in order, of the same things, is what Pop takes one by one. -/
theorem drain_eq (hs : Strict lt) : ∀ (n : Nat) (l s : List α), HeapP lt l l.length → s.Perm l → s.Pairwise (fun a b => lt b a = false) → drainL lt n l = s.take n
  | 0, _, _, _, _, _ => by simp [drainL]
  | n + 1, l, s, hh, hp, hw => by
    rw [drainL]
    by_cases e : l = []
    · subst e
      rw [if_pos rfl, hp.eq_nil]
      rfl
    · rw [if_neg e]
      have h0 : 0 < l.length := List.length_pos_iff.2 e
      have hpp := pop_perm (lt := lt) h0
      have hle := pop_least hs h0 hh
      have hhp := pop_heap hs h0 hh
      cases s with
      | nil => exact absurd hp.symm.eq_nil e
      | cons x t =>
        have hxl : x ∈ l := hp.mem_iff.1 (by simp)
        have hx1 : lt x (popL lt l).2 = false := by
          have := hpp.mem_iff.2 hxl
          rcases List.mem_append.1 this with h | h
          · exact hle x h
          · rw [List.mem_singleton] at h; rw [← h]; exact hs.irr _
        have hm : (popL lt l).2 ∈ x :: t := hp.mem_iff.2 (hpp.mem_iff.1 (by simp))
        have hx2 : lt (popL lt l).2 x = false := by
          rcases List.mem_cons.1 hm with h | h
          · rw [h]; exact hs.irr _
          · exact (List.pairwise_cons.1 hw).1 _ h
        have hx := hs.tot _ _ hx2 hx1
        have hpt : t.Perm (popL lt l).1 := by
          have h1 : (x :: t).Perm ((popL lt l).2 :: (popL lt l).1) := hp.trans (hpp.symm.trans (List.perm_append_singleton _ _))
          rw [hx] at h1
          exact h1.cons_inv
        rw [List.take_succ_cons, hx, drain_eq hs n _ t hhp hpt (List.pairwise_cons.1 hw).2]
end
end Go.Proofs.Ytgdlnifncmiebaa
