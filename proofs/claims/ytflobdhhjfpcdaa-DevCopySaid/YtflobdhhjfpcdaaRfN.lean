/-
  What devices tell is what waits, and what they have: plain mathematics.
-/
import Derived.Test.YtflobdhhjfpcdaaRfL
import Derived.Test.YtflobdhhjfpcdaaDevMath2
namespace Go.Proofs.Ytflobdhhjfpcdaa
open Go.RowKit

def tellAt (d : DevD) (l : Int × Int) : ByteArray := (sideOf d l.1).tells.getD l.2.toNat ⟨#[]⟩
structure InvD (d : DevD) : Prop where
  t0 : d.s0.tells.length = d.s0.has.length
  t1 : d.s1.tells.length = d.s1.has.length
  tl : ∀ l, locOk d l → tellAt d l = d.waits.foldl (fdW l) (hasAt d l)
theorem fold_none (l : Int × Int) : ∀ (ws : List WrD) (s : ByteArray), (∀ x ∈ ws, x.1 ≠ l) → ws.foldl (fdW l) s = s
  | [], _, _ => rfl
  | x :: r, s, h => by
    rw [List.foldl_cons, show fdW l s x = s from if_neg (h x List.mem_cons_self)]
    exact fold_none l r s (fun y hy => h y (List.mem_cons_of_mem _ hy))
theorem fold_keep (l : Int × Int) (P : WrD → Bool) : ∀ (ws : List WrD) (s : ByteArray), (∀ x, P x = true → x.1 ≠ l) → (keepL P ws).foldl (fdW l) s = ws.foldl (fdW l) s
  | [], _, _ => rfl
  | x :: r, s, h => by
    have ih := fun s => fold_keep l P r s h
    by_cases hp : P x = true
    · rw [show keepL P (x :: r) = keepL P r by unfold keepL; rw [List.filter_cons_of_neg (by rw [hp]; decide)], ih, List.foldl_cons, show fdW l s x = s from if_neg (h x hp)]
    · rw [show keepL P (x :: r) = x :: keepL P r by unfold keepL; rw [List.filter_cons_of_pos (by simpa using hp)], List.foldl_cons, List.foldl_cons, ih]
theorem set_get (ls : List ByteArray) (i j : Nat) (s : ByteArray) (hi : i < ls.length) : (ls.set i s).getD j ⟨#[]⟩ = if i = j then s else ls.getD j ⟨#[]⟩ := by
  rw [List.getD_eq_getElem?_getD, List.getD_eq_getElem?_getD, List.getElem?_set]
  by_cases h : i = j
  · subst h
    rw [if_pos rfl, if_pos hi, if_pos rfl]
    rfl
  · rw [if_neg h, if_neg h]
theorem tellAt_set (d : DevD) (x : Int × Int) (s : ByteArray) (l : Int × Int) (t0 : d.s0.tells.length = d.s0.has.length) (t1 : d.s1.tells.length = d.s1.has.length) (hx : locOk d x) (hl : locOk d l) : tellAt (setTell d x s) l = if x = l then s else tellAt d l := by
  obtain ⟨x1, x2⟩ := x
  obtain ⟨l1, l2⟩ := l
  obtain ⟨hx1, hx2, hx3⟩ := hx
  obtain ⟨hl1, hl2, hl3⟩ := hl
  dsimp only at *
  have key : ((x1, x2) = (l1, l2)) ↔ (x1 = l1 ∧ x2.toNat = l2.toNat) := by
    constructor
    · intro h; injection h with h1 h2; exact ⟨h1, by rw [h2]⟩
    · rintro ⟨h1, h2⟩; rw [h1, show x2 = l2 by omega]
  unfold tellAt sideOf setTell
  rcases hx1 with rfl | rfl <;> rcases hl1 with rfl | rfl
  · have : x2.toNat < d.s0.tells.length := by have : devSize d 0 = d.s0.has.length := rfl; omega
    simp only [if_true]
    rw [set_get _ _ _ _ this]
    by_cases h : x2.toNat = l2.toNat
    · rw [if_pos h, if_pos (key.2 ⟨rfl, h⟩)]
    · rw [if_neg h, if_neg (fun e => h (key.1 e).2)]
  · have hne : ¬ (((0 : Int), x2) = (1, l2)) := fun e => by have := (key.1 e).1; omega
    rw [if_neg hne]
    simp
  · have hne : ¬ (((1 : Int), x2) = (0, l2)) := fun e => by have := (key.1 e).1; omega
    rw [if_neg hne]
    simp
  · have : x2.toNat < d.s1.tells.length := by have : devSize d 1 = d.s1.has.length := rfl; omega
    show (d.s1.tells.set x2.toNat s).getD l2.toNat ⟨#[]⟩ = _
    rw [set_get _ _ _ _ this]
    by_cases h : x2.toNat = l2.toNat
    · rw [if_pos h, if_pos (key.2 ⟨rfl, h⟩)]
    · rw [if_neg h, if_neg (fun e => h (key.1 e).2)]
      rfl
theorem setTell_lens (d : DevD) (l : Int × Int) (s : ByteArray) (t0 : d.s0.tells.length = d.s0.has.length) (t1 : d.s1.tells.length = d.s1.has.length) : (setTell d l s).s0.tells.length = (setTell d l s).s0.has.length ∧ (setTell d l s).s1.tells.length = (setTell d l s).s1.has.length := by
  by_cases h : l.1 = 0 <;> simp [setTell, h, t0, t1]
theorem hasAt_tell (d : DevD) (x : Int × Int) (s : ByteArray) (l : Int × Int) : hasAt (setTell d x s) l = hasAt d l := by
  unfold hasAt sideOf setTell
  by_cases h : x.1 = 0 <;> by_cases g : l.1 = 0 <;> simp [h, g]
theorem tellAt_has (d : DevD) (x : Int × Int) (s : ByteArray) (l : Int × Int) : tellAt (setHas d x s) l = tellAt d l := by
  unfold tellAt sideOf setHas
  by_cases h : x.1 = 0 <;> by_cases g : l.1 = 0 <;> simp [h, g]
theorem locOk_of {d d' : DevD} (hs : ∀ dev, devSize d' dev = devSize d dev) {l : Int × Int} (h : locOk d' l) : locOk d l := by
  unfold locOk at *
  rw [← hs]
  exact h
theorem inv_write {d : DevD} (h : InvD d) (l : Int × Int) (s : ByteArray) : InvD (writeD d l s) := by
  by_cases hc : chkD d l s.size = 0
  · have e : writeD d l s = { setTell d l s with waits := d.waits ++ [(l, s)] } := if_pos hc
    obtain ⟨a1, a2, a3, _, _⟩ := chkD_ok hc
    rw [e]
    have hl := setTell_lens d l s h.t0 h.t1
    refine ⟨hl.1, hl.2, fun k hk => ?_⟩
    have hk' : locOk d k := locOk_of (d' := setTell d l s) (size_setTell d l s) hk
    show tellAt (setTell d l s) k = (d.waits ++ [(l, s)]).foldl (fdW k) (hasAt (setTell d l s) k)
    rw [tellAt_set d l s k h.t0 h.t1 ⟨a1, a2, a3⟩ hk', List.foldl_append, hasAt_tell, ← h.tl k hk']
    rfl
  · rw [show writeD d l s = d from if_neg hc]
    exact h
theorem inv_end (d : DevD) (stay : List WrD) : InvD (endD d stay) := by
  refine ⟨rfl, rfl, fun l hl => ?_⟩
  show tellAt (endD d stay) l = hasAt (endD d stay) l
  unfold tellAt hasAt sideOf
  split <;> rfl
theorem inv_spoil {d : DevD} (h : InvD d) (l : Int × Int) (s : ByteArray) : InvD (spoilD d l s) := by
  by_cases hc : chkD d l s.size = 0
  · have e : spoilD d l s = setTell (setHas (forgetD d (fun x => x.1 == l.1 && x.2 == l.2)) l s) l s := if_pos hc
    obtain ⟨a1, a2, a3, _, _⟩ := chkD_ok hc
    obtain ⟨f, hf⟩ : ∃ f, f = forgetD d (fun x => x.1 == l.1 && x.2 == l.2) := ⟨_, rfl⟩
    have hfw : f.waits = keepL (fun x => x.1.1 == l.1 && x.1.2 == l.2) d.waits := by rw [hf]; rfl
    have hfl : ∀ k, locOk f k ↔ locOk d k := fun k => by rw [hf]; exact Iff.rfl
    have hfh : ∀ k, hasAt f k = hasAt d k := fun k => by rw [hf]; rfl
    have hft : ∀ k, tellAt f k = tellAt d k := fun k => by rw [hf]; rfl
    have g0 : f.s0.tells.length = f.s0.has.length := by rw [hf]; exact h.t0
    have g1 : f.s1.tells.length = f.s1.has.length := by rw [hf]; exact h.t1
    rw [e, ← hf]
    have hol : locOk f l := (hfl l).2 ⟨a1, a2, a3⟩
    have hl0 : (setHas f l s).s0.tells.length = (setHas f l s).s0.has.length ∧ (setHas f l s).s1.tells.length = (setHas f l s).s1.has.length := by
      by_cases h : l.1 = 0 <;> simp [setHas, h, g0, g1]
    have hl := setTell_lens (setHas f l s) l s hl0.1 hl0.2
    refine ⟨hl.1, hl.2, fun k hk => ?_⟩
    have hk2 : locOk (setHas f l s) k := locOk_of (size_setTell _ l s) hk
    have hk' : locOk f k := locOk_of (size_setHas f l s) hk2
    have hol2 : locOk (setHas f l s) l := by unfold locOk at *; rw [size_setHas]; exact hol
    rw [tellAt_set _ l s k hl0.1 hl0.2 hol2 hk2, hasAt_tell, tellAt_has, hasAt_set f l s k hol hk', hft, h.tl k ((hfl k).1 hk'), hfh]
    rw [(setTell_has (setHas f l s) l s).2.2, (lost_setHas0 f l s).2.2, hfw]
    by_cases hlk : l = k
    · subst hlk
      rw [if_pos rfl, if_pos rfl, fold_none]
      intro x hx
      have this : (!(x.1.1 == l.1 && x.1.2 == l.2)) = true := (List.mem_filter.1 hx).2
      intro e
      rw [e] at this
      simp at this
    · rw [if_neg hlk, if_neg hlk, fold_keep]
      intro x hx e
      apply hlk
      rw [Bool.and_eq_true, beq_iff_eq, beq_iff_eq] at hx
      rw [← e]
      exact Prod.ext hx.1.symm hx.2.symm
  · rw [show spoilD d l s = d from if_neg hc]
    exact h
theorem blanks_get (l : List ByteArray) (i : Nat) : (blanks l).getD i ⟨#[]⟩ = ⟨#[]⟩ := by
  unfold blanks
  rw [List.getD_eq_getElem?_getD, List.getElem?_replicate]
  split <;> rfl
theorem inv_lose {d : DevD} (h : InvD d) (dev : Int) : InvD (loseD d dev) := by
  by_cases h0 : dev = 0
  · subst h0
    refine ⟨by show (blanks _).length = (blanks _).length; simp [blanks, h.t0], h.t1, fun l hl => ?_⟩
    have hl' : locOk d l := locOk_of (loseD_is d 0 (.inl rfl)).1 hl
    show tellAt (loseD d 0) l = (keepL (fun x => x.1.1 == 0) d.waits).foldl (fdW l) (hasAt (loseD d 0) l)
    rcases hl'.1 with e | e
    · rw [fold_none]
      · have e1 : tellAt (loseD d 0) l = ⟨#[]⟩ := by unfold tellAt sideOf; rw [if_pos e]; exact blanks_get _ _
        have e2 : hasAt (loseD d 0) l = ⟨#[]⟩ := by unfold hasAt sideOf; rw [if_pos e]; exact blanks_get _ _
        rw [e1, e2]
      · intro x hx ex
        have this : (!(x.1.1 == 0)) = true := (List.mem_filter.1 hx).2
        rw [ex, e] at this
        simp at this
    · rw [fold_keep]
      · have hne : ¬ l.1 = 0 := by omega
        have e1 : tellAt (loseD d 0) l = tellAt d l := by unfold tellAt sideOf; rw [if_neg hne, if_neg hne]; rfl
        have e2 : hasAt (loseD d 0) l = hasAt d l := by unfold hasAt sideOf; rw [if_neg hne, if_neg hne]; rfl
        rw [e1, e2]
        exact h.tl l hl'
      · intro x hx ex
        rw [beq_iff_eq] at hx
        rw [ex] at hx
        omega
  by_cases h1 : dev = 1
  · subst h1
    refine ⟨h.t0, by show (blanks _).length = (blanks _).length; simp [blanks, h.t1], fun l hl => ?_⟩
    have hl' : locOk d l := locOk_of (loseD_is d 1 (.inr rfl)).1 hl
    show tellAt (loseD d 1) l = (keepL (fun x => x.1.1 == 1) d.waits).foldl (fdW l) (hasAt (loseD d 1) l)
    rcases hl'.1 with e | e
    · rw [fold_keep]
      · have e1 : tellAt (loseD d 1) l = tellAt d l := by unfold tellAt sideOf; rw [if_pos e, if_pos e]; rfl
        have e2 : hasAt (loseD d 1) l = hasAt d l := by unfold hasAt sideOf; rw [if_pos e, if_pos e]; rfl
        rw [e1, e2]
        exact h.tl l hl'
      · intro x hx ex
        rw [beq_iff_eq] at hx
        rw [ex] at hx
        omega
    · have hne : ¬ l.1 = 0 := by omega
      rw [fold_none]
      · have e1 : tellAt (loseD d 1) l = ⟨#[]⟩ := by unfold tellAt sideOf; rw [if_neg hne]; exact blanks_get _ _
        have e2 : hasAt (loseD d 1) l = ⟨#[]⟩ := by unfold hasAt sideOf; rw [if_neg hne]; exact blanks_get _ _
        rw [e1, e2]
      · intro x hx ex
        have this : (!(x.1.1 == 1)) = true := (List.mem_filter.1 hx).2
        rw [ex, e] at this
        simp at this
  · rw [show loseD d dev = d by unfold loseD; rw [if_neg h0, if_neg h1]]
    exact h
theorem inv_new (m n : Nat) : InvD (newD m n) := by
  refine ⟨by simp [newD, newS], by simp [newD, newS], fun l hl => ?_⟩
  show tellAt (newD m n) l = hasAt (newD m n) l
  unfold tellAt hasAt sideOf
  split <;> rfl
theorem inv_step {d : DevD} (h : InvD d) (x : OpD) : InvD (stepR d x) := by
  unfold stepR
  split
  · exact inv_write h _ _
  split
  · exact h
  split
  · exact inv_end _ _
  split
  · exact inv_end _ _
  split
  · exact inv_spoil h _ _
  split
  · exact inv_lose h _
  · exact h
theorem size_step (d : DevD) (x : OpD) (dev : Int) : devSize (stepR d x) dev = devSize d dev := by
  unfold stepR
  split
  · exact size_writeD _ _ _ _
  split
  · rfl
  split
  · exact size_endD _ _ _
  split
  · exact size_endD _ _ _
  split
  · unfold spoilD
    split
    · rw [size_setTell, size_setHas]
      rfl
    · rfl
  split
  · unfold loseD
    split
    · exact (loseD_is d 0 (.inl rfl)).1 dev
    · split
      · exact (loseD_is d 1 (.inr rfl)).1 dev
      · rfl
  · rfl
theorem len_step (d : DevD) (x : OpD) : (stepR d x).waits.length ≤ d.waits.length + 1 := by
  unfold stepR
  split
  · exact writeD_len _ _ _
  split
  · exact Nat.le_succ _
  split
  · exact Nat.zero_le _
  split
  · exact Nat.zero_le _
  split
  · unfold spoilD
    split
    · rw [(setTell_has _ _ _).2.2, (lost_setHas0 _ _ _).2.2]
      exact Nat.le_trans (keepL_len _ _) (Nat.le_succ _)
    · exact Nat.le_succ _
  split
  · unfold loseD
    split
    · exact Nat.le_trans (keepL_len _ _) (Nat.le_succ _)
    · split
      · exact Nat.le_trans (keepL_len _ _) (Nat.le_succ _)
      · exact Nat.le_succ _
  · exact Nat.le_succ _
theorem tell_same {d : DevD} (h : InvD d) (l : Int × Int) : tellD d l = rtell d l := by
  unfold tellD rtell
  by_cases hc : chkD d l 0 = 0
  · rw [if_pos hc, if_pos hc]
    obtain ⟨a1, a2, a3, _, _⟩ := chkD_ok hc
    exact h.tl l ⟨a1, a2, a3⟩
  · rw [if_neg hc, if_neg hc]
theorem does_same {d : DevD} (h : InvD d) (x : OpD) : doesB d d x = true := by
  unfold doesB
  split
  · exact beq_self_eq_true _
  split
  · rw [tell_same h]
    simp
  split
  · rfl
  split
  · rfl
  split
  · exact beq_self_eq_true _
  · rfl
/-- The devices behind k calls. -/
def devK (d : DevD) (l : List OpD) (k : Nat) : DevD := (l.take k).foldl stepR d
theorem devK_succ (d : DevD) (l : List OpD) (k : Nat) (h : k < l.length) : devK d l (k + 1) = stepR (devK d l k) l[k] := by
  unfold devK
  rw [List.take_succ_eq_append_getElem h, List.foldl_append]
  rfl
theorem devK_is (d : DevD) (l : List OpD) (h : InvD d) : ∀ k, k ≤ l.length → InvD (devK d l k) ∧ (∀ dev, devSize (devK d l k) dev = devSize d dev) ∧ (devK d l k).waits.length ≤ d.waits.length + k
  | 0, _ => ⟨h, fun _ => rfl, Nat.le_refl _⟩
  | k + 1, hk => by
    obtain ⟨h1, h2, h3⟩ := devK_is d l h k (by omega)
    rw [devK_succ d l k (by omega)]
    refine ⟨inv_step h1 _, fun dev => by rw [size_step, h2], ?_⟩
    have := len_step (devK d l k) l[k]
    omega
end Go.Proofs.Ytflobdhhjfpcdaa
