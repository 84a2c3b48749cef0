/-
  What devices tell behind writes, and the loss of one: plain mathematics.
-/
import Derived.Test.YtflobdhhjfpcdaaDevMath
import Derived.Test.YtflobdhhjfpcdaaOpenDev
namespace Go.Proofs.Ytflobdhhjfpcdaa
open Go.RowKit

/-- The devices behind k writes, from d on. -/
def devW (d : DevD) (l : List OpD) (k : Nat) : DevD := (l.take k).foldl (fun d x => writeD d x.l x.s) d
theorem devW_succ (d : DevD) (l : List OpD) (k : Nat) (hk : k < l.length) : devW d l (k + 1) = writeD (devW d l k) l[k].l l[k].s := by
  unfold devW
  rw [List.take_succ_eq_append_getElem hk, List.foldl_append]
  rfl
theorem devW_is (d : DevD) (l : List OpD) : ∀ k, k ≤ l.length → (∀ dev, devSize (devW d l k) dev = devSize d dev) ∧ (∀ dev, devLost (devW d l k) dev = devLost d dev) ∧ (devW d l k).waits.length ≤ d.waits.length + k ∧
    (devW d l k).s0.has = d.s0.has ∧ (devW d l k).s1.has = d.s1.has ∧ ∀ x ∈ (devW d l k).waits, x ∈ d.waits ∨ ∃ y ∈ l.take k, y.l = x.1 ∧ y.s = x.2
  | 0, _ => ⟨fun _ => rfl, fun _ => rfl, Nat.le_refl _, rfl, rfl, fun x hx => .inl hx⟩
  | k + 1, hk => by
    obtain ⟨h1, h2, h3, h4, h5, h6⟩ := devW_is d l k (by omega)
    rw [devW_succ d l k (by omega)]
    refine ⟨fun dev => by rw [size_writeD, h1], fun dev => by rw [lost_writeD, h2], ?_, by rw [(writeD_has _ _ _).1, h4], by rw [(writeD_has _ _ _).2, h5], ?_⟩
    · have := writeD_len (devW d l k) l[k].l l[k].s
      omega
    · intro x hx
      rw [List.take_succ_eq_append_getElem (by omega)]
      rw [writeD_waits] at hx
      have : x ∈ (devW d l k).waits ∨ x = (l[k].l, l[k].s) := by
        split at hx
        · rcases List.mem_append.1 hx with h | h
          · exact .inl h
          · exact .inr (by simpa using h)
        · exact .inl hx
      rcases this with h | h
      · rcases h6 x h with h7 | ⟨y, h7, h8⟩
        · exact .inl h7
        · exact .inr ⟨y, List.mem_append_left _ h7, h8⟩
      · subst h
        exact .inr ⟨l[k], List.mem_append_right _ (List.mem_singleton.2 rfl), rfl, rfl⟩

theorem chk20 (d : DevD) (q : Int) (hq : q = 0 ∨ q = 1) (at' : Nat) (ha : at' < 20) (hs : ∀ dev, devSize d dev = devSize (newD 20 20) dev) : chkD d (q, at') 0 = if devLost d q then 5 else 0 := by
  unfold chkD
  have h1 : devSize d q = 20 := by rw [hs]; rcases hq with rfl | rfl <;> rfl
  simp only
  rw [h1, if_neg (by omega)]

theorem loseD_is (d : DevD) (q : Int) (hq : q = 0 ∨ q = 1) : (∀ dev, devSize (loseD d q) dev = devSize d dev) ∧ devLost (loseD d q) q = true ∧ devLost (loseD d q) (1 - q) = devLost d (1 - q) ∧ (loseD d q).waits.length ≤ d.waits.length ∧
    sideOf (loseD d q) (1 - q) = sideOf d (1 - q) := by
  rcases hq with rfl | rfl
  · refine ⟨fun dev => ?_, rfl, rfl, keepL_len _ _, rfl⟩
    by_cases h0 : dev = 0
    · subst h0; simp [devSize, loseD, forgetD, loseS, blanks]
    · by_cases h1 : dev = 1
      · subst h1; rfl
      · simp [devSize, h0, h1]
  · refine ⟨fun dev => ?_, rfl, rfl, keepL_len _ _, rfl⟩
    by_cases h0 : dev = 0
    · subst h0; rfl
    · by_cases h1 : dev = 1
      · subst h1; simp [devSize, loseD, forgetD, loseS, blanks]
      · simp [devSize, h0, h1]

/-- What DevLost's loop asks. -/
theorem lost_tells (l : List OpD) (q : Int) (hq : q = 0 ∨ q = 1) (at' : Nat) (ha : at' < 20) :
    chkD (loseD (devW (newD 20 20) l l.length) q) (q, at') 0 = 5 ∧ tellD (loseD (devW (newD 20 20) l l.length) q) (q, at') = ⟨#[]⟩ ∧ chkD (loseD (devW (newD 20 20) l l.length) q) (1 - q, at') 0 = 0 ∧
      tellD (loseD (devW (newD 20 20) l l.length) q) (1 - q, at') = tellD (devW (newD 20 20) l l.length) (1 - q, at') := by
  obtain ⟨h1, h2, _⟩ := devW_is (newD 20 20) l l.length (Nat.le_refl _)
  generalize devW (newD 20 20) l l.length = D at *
  obtain ⟨g1, g2, g3, _, g5⟩ := loseD_is D q hq
  have hs : ∀ dev, devSize (loseD D q) dev = devSize (newD 20 20) dev := fun dev => by rw [g1, h1]
  have hq' : 1 - q = 0 ∨ 1 - q = 1 := by omega
  have e1 := chk20 (loseD D q) q hq at' ha hs
  rw [g2, if_pos rfl] at e1
  have hn : devLost (newD 20 20) (1 - q) = false := by rcases hq with rfl | rfl <;> rfl
  have e2 := chk20 (loseD D q) (1 - q) hq' at' ha hs
  rw [g3, h2, hn, if_neg (by simp)] at e2
  have e3 := chk20 D (1 - q) hq' at' ha h1
  rw [h2, hn, if_neg (by simp)] at e3
  refine ⟨e1, ?_, e2, ?_⟩
  · unfold tellD; rw [e1]; rfl
  · unfold tellD
    rw [if_pos e2, if_pos e3, g5]
theorem lost_end (l : List OpD) (q : Int) (hq : q = 0 ∨ q = 1) : chkD (loseD (devW (newD 20 20) l l.length) q) (q, 0) 0 = 5 ∧ chkD (writeD (loseD (devW (newD 20 20) l l.length) q) (q, 0) ⟨#[]⟩) (q, 0) 0 = 5 := by
  have h := (lost_tells l q hq 0 (by omega)).1
  refine ⟨h, ?_⟩
  rw [← h]
  exact chkD_congr _ _ (fun dev => size_writeD _ _ _ dev) (fun dev => lost_writeD _ _ _ dev)

/-- What DevFlushed's loop asks. -/
theorem flushed_tells (l1 l2 : List OpD) (keep : List Bool) (dv : Int) (hd : dv = 0 ∨ dv = 1) (at' : Nat) (ha : at' < 20) :
    let D2 := endD (devW (newD 20 20) l1 l1.length) (devW (newD 20 20) l1 l1.length).waits
    let D4 := crashD (devW D2 l2 l2.length) keep
    tellD D4 (dv, at') = tellD D2 (dv, at') ∨ ∃ y ∈ l2, y.l = (dv, (at' : Int)) ∧ y.s = tellD D4 (dv, at') := by
  intro D2 D4
  obtain ⟨h1, h2, _⟩ := devW_is (newD 20 20) l1 l1.length (Nat.le_refl _)
  have s2 : ∀ dev, devSize D2 dev = devSize (newD 20 20) dev := fun dev => by rw [size_endD, h1]
  have l2' : ∀ dev, devLost D2 dev = devLost (newD 20 20) dev := fun dev => by rw [lost_endD, h2]
  obtain ⟨g1, g2, _, g4, g5, g6⟩ := devW_is D2 l2 l2.length (Nat.le_refl _)
  have hn : devLost (newD 20 20) dv = false := by rcases hd with rfl | rfl <;> rfl
  have c1 : chkD (devW (newD 20 20) l1 l1.length) (dv, at') 0 = 0 := by rw [chk20 _ dv hd at' ha h1, h2, hn]; rfl
  have c3 : chkD (devW D2 l2 l2.length) (dv, at') 0 = 0 := by rw [chk20 _ dv hd at' ha (fun dev => by rw [g1, s2]), g2, l2', hn]; rfl
  have hl : locOk (devW D2 l2 l2.length) (dv, (at' : Int)) := by
    obtain ⟨a, b, c, _⟩ := chkD_ok c3
    exact ⟨a, b, c⟩
  have e4 : tellD D4 (dv, at') = hasAt (foldHas (devW D2 l2 l2.length) (keptL (devW D2 l2 l2.length).waits keep)) (dv, at') := tell_endD _ _ _ c3
  have e2 : tellD D2 (dv, at') = hasAt (foldHas (devW (newD 20 20) l1 l1.length) (devW (newD 20 20) l1 l1.length).waits) (dv, at') := tell_endD _ _ _ c1
  have e3 : hasAt (devW D2 l2 l2.length) (dv, at') = tellD D2 (dv, at') := by
    rw [e2]
    unfold hasAt sideOf
    rcases hd with rfl | rfl
    · simp only [if_true]; rw [g4]; rfl
    · simp only [show ¬ ((1 : Int) = 0) by omega, if_false]; rw [g5]; rfl
  have hw : ∀ x ∈ (devW D2 l2 l2.length).waits, ∃ y ∈ l2, y.l = x.1 ∧ y.s = x.2 := fun x hx => by
    rcases g6 x hx with h | ⟨y, h, h'⟩
    · cases h
    · exact ⟨y, List.mem_of_mem_take h, h'⟩
  have hk : ∀ x ∈ keptL (devW D2 l2 l2.length).waits keep, x ∈ (devW D2 l2 l2.length).waits := keptN_mem _ _ _ (Nat.le_refl _)
  -- of those that are kept each that is at this sector may be
  have key : ∀ ws : List WrD, (∀ x ∈ ws, x ∈ (devW D2 l2 l2.length).waits) → (∀ x ∈ ws, locOk (devW D2 l2 l2.length) x.1) → hasAt (foldHas (devW D2 l2 l2.length) ws) (dv, at') = hasAt (devW D2 l2 l2.length) (dv, at') ∨ ∃ x ∈ ws, x.1 = (dv, (at' : Int)) ∧ x.2 = hasAt (foldHas (devW D2 l2 l2.length) ws) (dv, at') := fun ws _ hok => hasAt_fold _ ws _ hl hok
  by_cases hok : ∀ x ∈ (devW D2 l2 l2.length).waits, locOk (devW D2 l2 l2.length) x.1
  · rcases key _ hk (fun x hx => hok x (hk x hx)) with h | ⟨x, hx, e, e'⟩
    · left; rw [e4, h, e3]
    · obtain ⟨y, hy, y1, y2⟩ := hw x (hk x hx)
      exact .inr ⟨y, hy, y1.trans e, y2.trans (e'.trans e4.symm)⟩
  · exfalso
    apply hok
    -- writes that wait were checked
    have : ∀ k, k ≤ l2.length → ∀ x ∈ (devW D2 l2 k).waits, locOk D2 x.1 := by
      intro k
      induction k with
      | zero => intro _ x hx; cases hx
      | succ k ih =>
        intro hk x hx
        obtain ⟨q1, q2, _⟩ := devW_is D2 l2 k (by omega)
        rw [devW_succ D2 l2 k (by omega), writeD_waits] at hx
        split at hx
        · rename_i hc
          rcases List.mem_append.1 hx with h | h
          · exact ih (by omega) x h
          · rw [List.mem_singleton] at h
            subst h
            obtain ⟨a, b, c, _⟩ := chkD_ok hc
            exact ⟨a, b, by rw [q1] at c; exact c⟩
        · exact ih (by omega) x hx
    intro x hx
    have h := this l2.length (Nat.le_refl _) x hx
    unfold locOk at *
    rw [g1]
    exact h
end Go.Proofs.Ytflobdhhjfpcdaa
