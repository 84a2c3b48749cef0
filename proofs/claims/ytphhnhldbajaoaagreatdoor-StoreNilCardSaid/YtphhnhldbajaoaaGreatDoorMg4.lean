/-
  Texts put together: Held, HeldM, Sched2.
-/
import Derived.StillTailTactics
namespace Go.Proofs.YtphhnhldbajaoaaGreatDoor
open Go

section
variable {P : Program} {ops : Array Oper} {Q : Exit → Act → World → Prop}

/-- Q, but no way out by a panic or a jump. -/
def Calm (Q : Exit → Act → World → Prop) : Exit → Act → World → Prop
  | .normal, a, w => Q .normal a w
  | .outgrown, a, w => Q .outgrown a w
  | _, _, _ => False
theorem wp_calm {o : Oper} {a : Act} {w : World} {K : Act → World → Prop} (hh : o.wp P a w K (Calm Q)) : o.wp P a w K Q := by
  unfold Oper.wp at *
  generalize (execOp a.eval o).run P w = r at *
  cases r with
  | ok n w' =>
    cases n <;> simp only [Oper.upon] at hh ⊢ <;>
      first
        | exact hh
        | exact Calls.mono hh (fun e w'' he => by
            cases e with
            | returned v => exact he
            | panicked c => exact (he : False).elim
            | outgrown => obtain ⟨a0, w0, h0⟩ := (he : LetsOut (Calm Q)); exact ⟨a0, w0, h0⟩)
  | halt x w' =>
    cases x <;> simp only [Oper.upon] at hh ⊢
    exact (hh : False).elim
theorem wpOp_calm {i : Nat} {a : Act} {w : World} {K : Act → World → Prop} (hh : wpOp P ops (Calm Q) i K a w) : wpOp P ops Q i K a w := by
  unfold wpOp at *
  split
  · simpa [*] using hh
  · rename_i o ho
    simp only [ho] at hh
    split
    · rename_i hw
      simp only [hw, if_true] at hh
      rcases hh with hh | ⟨h1, a0, w0, h0⟩
      · exact .inl (wp_calm hh)
      · exact .inr ⟨h1, a0, w0, h0⟩
    · rename_i hw; simpa [hw] using hh

theorem put_size (a : Act) (d : Option Tmp) (v : Value) : (a.put d v).tmps.size = a.tmps.size := by
  cases d with
  | none => rfl
  | some k => simp [Act.put]
theorem put_defers (a : Act) (x : Option Tmp) (v : Value) (D : List Deferred) : { a.put x v with defers := D } = ({ a with defers := D } : Act).put x v := by
  cases x <;> rfl
theorem put_same {a a' : Act} {d : Option Tmp} {v v' : Value} (hs : a'.tmps.size = a.tmps.size) (h : a.put d v' = a.put d v) : a'.put d v' = a'.put d v := by
  cases d with
  | none => rfl
  | some k =>
    by_cases hk : k < a.tmps.size
    · have h1 : (a.put (some k) v').tmps[k]? = (a.put (some k) v).tmps[k]? := by rw [h]
      have : v' = v := by simpa [Act.put, hk] using h1
      rw [this]
    · have hk' : ¬ k < a'.tmps.size := by rw [hs]; exact hk
      simp [Act.put, Array.setIfInBounds, hk']

/-- Two operations apart from each other may change places. -/
theorem wpOp_put {j : Nat} {oi oj : Oper} {v : Value} (hj : ops[j]? = some oj) (hap : oi.apart ops oj = true)
    (hsi : ∀ cs b, oi.op ≠ .select cs b) (hsj : ∀ cs b, oj.op ≠ .select cs b) {K : Act → World → Prop} {a : Act} {w : World}
    (h : wpOp P ops (Calm Q) j K (a.put oi.dst v) w) :
    wpOp P ops (Calm Q) j (fun a' w' => K (a'.put oi.dst v) w' ∧ execOp a'.eval oi = execOp a.eval oi ∧ Region.wanted oi (yielded ops a'.tmps) = Region.wanted oi (yielded ops a.tmps) ∧ a'.tmps.size = a.tmps.size) a w := by
  obtain ⟨h1, h2, h3⟩ := Oper.apart_spec hap
  have key : ∀ u w', K ((a.put oi.dst v).put oj.dst u) w' → K ((a.put oj.dst u).put oi.dst v) w' ∧ execOp (a.put oj.dst u).eval oi = execOp a.eval oi ∧ Region.wanted oi (yielded ops (a.put oj.dst u).tmps) = Region.wanted oi (yielded ops a.tmps) ∧ (a.put oj.dst u).tmps.size = a.tmps.size := fun u w' hk =>
    ⟨by rw [← Act.put_comm a v u h2]; exact hk, execOp_put oi hsi a oj.dst u h3, wanted_put oi a oj.dst u h3, put_size a oj.dst u⟩
  unfold wpOp at *
  simp only [hj] at *
  rw [wanted_put oj a oi.dst v h1] at h
  split
  · rename_i hw
    simp only [hw, if_true] at h
    rcases h with h | ⟨h, hl⟩
    · left
      unfold Oper.wp at *
      rw [execOp_put oj hsj a oi.dst v h1] at h
      generalize (execOp a.eval oj).run P w = r at *
      cases r with
      | ok n w' =>
        cases n <;> simp only [Oper.upon] at h ⊢
        case value u => exact key u w' h
        case skip => exact key _ w' h
        case defer d =>
          have hd : (a.put oi.dst v).defers = a.defers := by cases oi.dst <;> rfl
          rw [hd, put_defers a oi.dst v] at h
          refine ⟨by rw [← Act.put_comm _ v undef h2]; exact h, ?_, ?_, ?_⟩
          · exact execOp_put oi hsi { a with defers := d :: a.defers } oj.dst undef h3
          · exact wanted_put oi { a with defers := d :: a.defers } oj.dst undef h3
          · exact put_size { a with defers := d :: a.defers } oj.dst undef
        case enter f args => exact Calls.mono h (fun e w'' he => by
            cases e with
            | returned u => exact key u w'' he
            | panicked c => exact (he : False).elim
            | outgrown => exact he)
        case row row args => exact Rows.mono h (fun u w'' he => key u w'' he)
      | halt x w' =>
        cases x <;> simp only [Oper.upon] at h ⊢
        exact (h : False).elim
    · right
      unfold Oper.asks at *
      rw [execOp_put oj hsj a oi.dst v h1] at h
      exact ⟨h, hl⟩
  · rename_i hw
    simp only [hw] at h
    exact key undef w h

/-- The first operations, in whatever order; S all the while; then L. -/
def wpH (P : Program) (ops : Array Oper) (Q : Exit → Act → World → Prop) (S : World → Prop) (m : Nat) (L : Array Bool → Act → World → Prop) : Nat → Array Bool → Act → World → Prop
  | 0, listed, a, w => L listed a w
  | f + 1, listed, a, w =>
    Region.ready .any ops listed ≠ [] ∧ ∀ i ∈ Region.ready .any ops listed, i < m ∧ wpOp P ops (Calm Q) i (fun a' w' => S w' ∧ wpH P ops Q S m L f (listed.setIfInBounds i true) a' w') a w

theorem any_of_wpH {S : World → Prop} {m g : Nat} {L : Array Bool → Act → World → Prop} (hL : ∀ listed a w, L listed a w → wpAny P .any ops Q g listed a w) :
    ∀ (f : Nat) (listed : Array Bool) (a : Act) (w : World), wpH P ops Q S m L f listed a w → wpAny P .any ops Q (f + g) listed a w
  | 0, listed, a, w, h => by rw [Nat.zero_add]; exact hL _ _ _ h
  | f + 1, listed, a, w, h => by
    rw [show f + 1 + g = (f + g) + 1 by omega]
    exact ⟨fun h0 => absurd h0 h.1, fun i hi => wpOp_calm (wpOp_mono (fun a' w' h' => any_of_wpH hL f _ a' w' h'.2) (h.2 i hi).2)⟩

theorem wpH_first {S : World → Prop} {m i : Nat} {oi : Oper} {L : Array Bool → Act → World → Prop} (hi : ops[i]? = some oi) (hsel : ∀ (j : Nat) (o : Oper) cs b, ops[j]? = some o → o.op ≠ .select cs b)
    (hs : Region.sinkB .any ops m = true) (hc : Region.chainB .any ops m = true) (hn : m < ops.size) (hin : i < m)
    (hdone : ∀ listed a w, L listed a w → ∀ j ∈ Region.ready .any ops listed, m ≤ j) :
    ∀ (f : Nat) (listed : Array Bool) (a : Act) (w : World) (v : Value), HeadInv .any ops m listed →
      (∀ j oj, ops[j]? = some oj → j ≠ i → listed.getD j true = false → (∀ e ∈ oj.after, Region.binds .any e = true → e.on ≠ i) → oi.apart ops oj = true) →
      i ∈ Region.ready .any ops listed → S w → (∀ W, S W → ∃ v', YieldsAt P ops W oi v' a ∧ a.put oi.dst v' = a.put oi.dst v) →
      wpH P ops Q S m L f (listed.setIfInBounds i true) (a.put oi.dst v) w → wpH P ops Q S m L (f + 1) listed a w := by
  intro f
  induction f with
  | zero =>
    intro listed a w v inv _ hr hS hy H
    have hun := (mem_ready.1 hr).1
    refine ⟨fun h => (by rw [h] at hr; cases hr), fun j hj => ?_⟩
    have hjn : j < m := by
      rcases Nat.lt_or_ge j m with h | h
      · exact h
      · exact absurd hj (tail_waits hs hc hn inv _ i rfl hin hun j h)
    refine ⟨hjn, ?_⟩
    by_cases hji : j = i
    · subst hji
      obtain ⟨v', hy', he⟩ := hy w hS
      exact wpOp_of_stOp (fun _ h => h) (hy'.stOp hi (K := fun a' => S w ∧ wpH P ops Q S m L 0 (listed.setIfInBounds j true) a' w) ⟨hS, by rw [he]; exact H⟩)
    · have := hdone _ _ _ H j (ready_mono hj hji)
      omega
  | succ f ih =>
    intro listed a w v inv hfree hr hS hy H
    have hun := (mem_ready.1 hr).1
    refine ⟨fun h => (by rw [h] at hr; cases hr), fun j hj => ?_⟩
    have hjn : j < m := by
      rcases Nat.lt_or_ge j m with h | h
      · exact h
      · exact absurd hj (tail_waits hs hc hn inv _ i rfl hin hun j h)
    refine ⟨hjn, ?_⟩
    by_cases hji : j = i
    · subst hji
      obtain ⟨v', hy', he⟩ := hy w hS
      exact wpOp_of_stOp (fun _ h => h) (hy'.stOp hi (K := fun a' => S w ∧ wpH P ops Q S m L (f + 1) (listed.setIfInBounds j true) a' w) ⟨hS, by rw [he]; exact H⟩)
    · have h1 := (H.2 j (ready_mono hj hji)).2
      obtain ⟨hjun, oj, hoj, hall⟩ := mem_ready.1 hj
      have hnot : ∀ e ∈ oj.after, Region.binds .any e = true → e.on ≠ i := fun e he hb heq => by
        have h1 := hall e he hb
        rw [heq, getD_both hun] at h1
        cases h1
      have h2 := wpOp_put hoj (hfree j oj hoj hji hjun hnot) (fun cs b => hsel i oi cs b hi) (fun cs b => hsel j oj cs b hoj) h1
      have hfree' : ∀ k ok, ops[k]? = some ok → k ≠ i → (listed.setIfInBounds j true).getD k true = false →
          (∀ e ∈ ok.after, Region.binds .any e = true → e.on ≠ i) → oi.apart ops ok = true := fun k ok hk hki hun hno => by
        refine hfree k ok hk hki ?_ hno
        by_cases hjk : j = k
        · subst hjk; exact hjun
        · rw [getD_set_ne true hjk] at hun; exact hun
      refine wpOp_mono (fun a' w' h3 => ?_) h2
      obtain ⟨⟨hS', h4⟩, he, hw, hsz⟩ := h3
      refine ⟨hS', ih (listed.setIfInBounds j true) a' w' v (inv.set hj hjn) hfree' (ready_mono hr (Ne.symm hji)) hS' (fun W hW => ?_) ?_⟩
      · obtain ⟨v', hy', hp⟩ := hy W hW
        exact ⟨v', hy'.of_same he hw, put_same hsz hp⟩
      · rw [Array.setIfInBounds_comm _ _ hji]
        exact h4

/-- Each in its order, to the same frame in every world that holds S; then K. -/
def wpHeld (P : Program) (ops : Array Oper) (S : World → Prop) (K : Act → Prop) : List Oper → Act → Prop
  | [], a => K a
  | o :: r, a => ∃ a1, (∀ W, S W → if Region.wanted o (yielded ops a.tmps) then o.still P a W (fun a' => a' = a1) else a.put o.dst undef = a1) ∧ wpHeld P ops S K r a1
theorem wpHeld_nil {S : World → Prop} {K : Act → Prop} {a : Act} (h : K a) : wpHeld P ops S K [] a := h
theorem wpHeld_step {S : World → Prop} {Kb : Act → Prop} {o : Oper} {r : List Oper} {a a1 : Act}
    (h : ∀ W, S W → ∀ K : Act → Prop, (∀ a', a' = a1 → K a') → if Region.wanted o (yielded ops a.tmps) then o.still P a W K else K (a.put o.dst undef))
    (h2 : wpHeld P ops S Kb r a1) : wpHeld P ops S Kb (o :: r) a :=
  ⟨a1, fun W hS => h W hS (fun a' => a' = a1) (fun _ h => h), h2⟩
theorem wpOp_step {l : List Oper} {i : Nat} {o : Oper} {a : Act} {w : World} {K : Act → World → Prop} (hi : l[i]? = some o)
    (h : ∀ K' : Act → World → Prop, (∀ a w, K a w → K' a w) → if Region.wanted o (yielded l.toArray a.tmps) then o.wp P a w K' Q else K' (a.put o.dst undef) w) : wpOp P l.toArray Q i K a w := by
  unfold wpOp
  have hi' : l.toArray[i]? = some o := by simpa using hi
  simp only [hi']
  have := h K (fun _ _ h => h)
  split at this
  · next hw => rw [if_pos hw]; exact .inl this
  · next hw => rw [if_neg hw]; exact this

theorem wpH_lex {S : World → Prop} {m g : Nat} {w : World} {Lq : Act → World → Prop} (hsel : Region.noSelect ops = true) (hs : Region.sinkB .any ops m = true) (hc : Region.chainB .any ops m = true) (hn : m < ops.size) (hS : S w) :
    ∀ (l : List Oper) (k : Nat) (listed : Array Bool) (a : Act), (∀ j, j < l.length → l[j]? = ops[k + j]?) → k + l.length + 1 = m → HeadInv .any ops m listed → (∀ i, i < k → listed.getD i true = true) →
    Region.lexHead .any ops g (l.length + 1) k listed = true → wpHeld P ops S (fun a' => wpOp P ops (Calm Q) (m - 1) (fun a'' w'' => S w'' ∧ Lq a'' w'') a' w) l a →
    wpH P ops Q S m (fun listed' a' w' => Region.seqB .any ops g m listed' = true ∧ Lq a' w') (l.length + 1) listed a w
  | [], k, listed, a, _, hk, inv, hpre, hB, h => by
    obtain rfl : m = k + 1 := by simpa using hk.symm
    simp only [List.length_nil, Region.lexHead, Bool.and_eq_true] at hB
    obtain ⟨⟨hr, _⟩, hB'⟩ := hB
    have hr' : k ∈ Region.ready .any ops listed := by simpa using hr
    have hun := (mem_ready.1 hr').1
    refine ⟨fun h => (by rw [h] at hr'; cases hr'), fun j hj => ?_⟩
    have hjn : j < k + 1 := by
      rcases Nat.lt_or_ge j (k + 1) with h | h
      · exact h
      · exact absurd hj (tail_waits hs hc hn inv _ k rfl (by omega) hun j h)
    refine ⟨hjn, ?_⟩
    have hjk : j = k := by
      rcases Nat.lt_or_ge j k with h | h
      · have h1 := hpre j h
        have h2 := (mem_ready.1 hj).1
        rw [h1] at h2
        cases h2
      · omega
    subst hjk
    have h' : wpOp P ops (Calm Q) j (fun a'' w'' => S w'' ∧ Lq a'' w'') a w := h
    exact wpOp_mono (fun a' w' h3 => ⟨h3.1, hB', h3.2⟩) h'
  | o :: l, k, listed, a, hl, hk, inv, hpre, hB, h => by
    have h0 : ops[k]? = some o := by simpa using (hl 0 (by simp)).symm
    rw [List.length_cons, Region.lexHead, Bool.and_eq_true, Bool.and_eq_true] at hB
    obtain ⟨⟨hr, hf⟩, hB'⟩ := hB
    have hkn : k < m := by simp only [List.length_cons] at hk; omega
    have hr' : k ∈ Region.ready .any ops listed := by simpa using hr
    obtain ⟨a1, hst, hK⟩ := h
    have hst' : ∀ W, S W → ∃ v', YieldsAt P ops W o v' a ∧ a.put o.dst v' = a1 := fun W hW => by
      have := hst W hW
      exact yieldsAt_of_stOp (i := k) h0 (by unfold stOp; simp only [h0]; exact this)
    obtain ⟨v, _, hv⟩ := hst' w hS
    subst hv
    have hksz : k < listed.size := by rw [inv.size]; omega
    exact wpH_first h0 (Region.noSelect_spec hsel) hs hc hn hkn (fun listed' a' w' hL => seqB_ready hL.1) (l.length + 1) listed a w v inv (Region.free_spec h0 hf) hr' hS hst'
      (wpH_lex hsel hs hc hn hS l (k + 1) _ _ (fun j hj => by have := hl (j + 1) (by simp; omega); simpa [Nat.add_assoc, Nat.add_comm 1 j] using this) (by simp only [List.length_cons] at hk; omega) (inv.set hr' hkn)
        (fun i hi => by
          by_cases hik : k = i
          · subst hik; simp [hksz]
          · rw [getD_set_ne true hik]; exact hpre i (by omega)) hB' hK)

theorem still_of_held {S : World → Prop} {K : Act → Prop} {w : World} (hS : S w) : ∀ (l : List Oper) (a : Act), wpHeld P ops S K l a → wpStill P ops w K l a
  | [], _, h => h
  | o :: r, a, ⟨a1, h1, h2⟩ => by
    have h3 := h1 w hS
    unfold wpStill
    split at h3
    · next hw => rw [if_pos hw]; exact Oper.still_mono (fun a' h => by subst h; exact still_of_held hS r _ h2) h3
    · next hw => rw [if_neg hw]; subst h3; exact still_of_held hS r _ h2
/-- A region that only reads: while S holds its operations keep their values. -/
theorem wp_region_held_quiet {id : Nat} {a : Act} {w : World} {l : List Oper} (S : World → Prop) (hm : P.follows .mixedOrders = true) (hB : Region.lexB .any l.toArray = true) (hS : S w.drew)
    (h : wpHeld P l.toArray S (fun a' => Q .normal a' w.drew) l a) : (Code.region id l.toArray true).wp P Q a w :=
  wp_region_still_lit hm hB (still_of_held hS l a h)
/-- The region: its first m operations keep their values while S holds; operation m makes memory and keeps S; the others come behind, in their order. -/
theorem wp_region_held_tail {id : Nat} {a : Act} {w : World} {l : List Oper} (S : World → Prop) (m : Nat) (hm : P.follows .mixedOrders = true) (hB : Region.lexTailB .any l.toArray (m + 1) = true) (hS : S w.drew)
    (h : wpHeld P l.toArray S (fun a' => wpOp P l.toArray (Calm Q) m (fun a'' w'' => S w'' ∧ wpList P l.toArray Q (l.drop (m + 1)) a'' w'') a' w.drew) (l.take m) a) : (Code.region id l.toArray true).wp P Q a w := by
  simp only [Region.lexTailB, Bool.and_eq_true, decide_eq_true_eq] at hB
  obtain ⟨⟨⟨⟨hsel, hn⟩, hs⟩, hc⟩, hlex⟩ := hB
  have hn' : m + 1 < l.length := by simpa using hn
  have htl : (l.take m).length = m := by simp; omega
  have hdl : (l.drop (m + 1)).length = l.toArray.size - (m + 1) := by simp
  have inv0 : HeadInv .any l.toArray (m + 1) (Array.replicate l.toArray.size false) :=
    ⟨by simp, fun j oj _ hl => (by rw [getD_replicate_false] at hl; cases hl), fun t _ ht => getD_in (by simpa using ht) (getD_replicate_false _ _)⟩
  have H := wpH_lex (Q := Q) (g := l.toArray.size - (m + 1)) (w := w.drew) (S := S) (m := m + 1) (Lq := fun a'' w'' => wpList P l.toArray Q (l.drop (m + 1)) a'' w'') hsel hs hc hn hS (l.take m) 0 _ a (fun j hj => by
    have hj' : j < m := by rw [htl] at hj; exact hj
    simp [hj']) (by rw [htl]; omega) inv0 (fun i hi => by omega) (by rw [htl]; exact hlex) h
  refine wp_region_any hm ?_
  have := any_of_wpH (Q := Q) (g := l.toArray.size - (m + 1)) (fun listed a' w' hL => by
    have := wpAny_of_seq (md := .any) (Q' := Q) (l.drop (m + 1)) (m + 1) listed a' w' (fun j => by simp [List.getElem?_drop]) (by rw [hdl]; exact hL.1) hL.2
    rwa [hdl] at this) _ _ _ _ H
  rw [htl, show m + 1 + (l.toArray.size - (m + 1)) = l.toArray.size by omega] at this
  exact this
end
end Go.Proofs.YtphhnhldbajaoaaGreatDoor

namespace Go.Proofs.YtphhnhldbajaoaaGreatDoor
open Go

section
variable {P : Program} {ops : Array Oper} {Q : Exit → Act → World → Prop}

/-- n1 operations in whatever order, then the one that makes memory alone, then n2 more, then g in their order. -/
def lexMid (md : Region.Mode) (ops : Array Oper) (g n2 : Nat) : Nat → Nat → Array Bool → Bool
  | 0, k, listed => decide (Region.ready md ops listed = [k]) && Region.lexHead md ops g n2 (k + 1) (listed.setIfInBounds k true)
  | f + 1, k, listed => (Region.ready md ops listed).contains k && Region.free md ops listed k && lexMid md ops g n2 f (k + 1) (listed.setIfInBounds k true)
def lexMidB (md : Region.Mode) (ops : Array Oper) (m n2 : Nat) : Bool :=
  Region.noSelect ops && decide (m + 1 + n2 < ops.size) && Region.sinkB md ops (m + 1 + n2) && Region.chainB md ops (m + 1 + n2) && lexMid md ops (ops.size - (m + 1 + n2)) n2 m 0 (Array.replicate ops.size false)

theorem held_first {S : World → Prop} {n k : Nat} {o : Oper} {L : Array Bool → Act → World → Prop} (hsel : Region.noSelect ops = true) (hs : Region.sinkB .any ops n = true) (hc : Region.chainB .any ops n = true) (hn : n < ops.size)
    (h0 : ops[k]? = some o) (hdone : ∀ listed a w, L listed a w → ∀ j ∈ Region.ready .any ops listed, n ≤ j) {listed : Array Bool} {a a1 : Act} {w : World} (inv : HeadInv .any ops n listed) (hr : k ∈ Region.ready .any ops listed) (hf : Region.free .any ops listed k = true) (hkn : k < n)
    (hS : S w) (hst : ∀ W, S W → if Region.wanted o (yielded ops a.tmps) then o.still P a W (fun a' => a' = a1) else a.put o.dst undef = a1) (f : Nat)
    (h : wpH P ops Q S n L f (listed.setIfInBounds k true) a1 w) : wpH P ops Q S n L (f + 1) listed a w := by
  have hst' : ∀ W, S W → ∃ v', YieldsAt P ops W o v' a ∧ a.put o.dst v' = a1 := fun W hW => by
    have := hst W hW
    exact yieldsAt_of_stOp (i := k) h0 (by unfold stOp; simp only [h0]; exact this)
  obtain ⟨v, _, hv⟩ := hst' w hS
  subst hv
  exact wpH_first h0 (Region.noSelect_spec hsel) hs hc hn hkn hdone f listed a w v inv (Region.free_spec h0 hf) hr hS hst' h

theorem wpH_lexq {S : World → Prop} {n g : Nat} {w : World} {Lq : Act → World → Prop} (hsel : Region.noSelect ops = true) (hs : Region.sinkB .any ops n = true) (hc : Region.chainB .any ops n = true) (hn : n < ops.size) (hS : S w) :
    ∀ (l : List Oper) (k : Nat) (listed : Array Bool) (a : Act), (∀ j, j < l.length → l[j]? = ops[k + j]?) → k + l.length = n → HeadInv .any ops n listed →
    Region.lexHead .any ops g l.length k listed = true → wpHeld P ops S (fun a' => Lq a' w) l a →
    wpH P ops Q S n (fun listed' a' w' => Region.seqB .any ops g n listed' = true ∧ Lq a' w') l.length listed a w
  | [], k, listed, a, _, hk, _, hB, h => by
    obtain rfl : n = k := by simpa using hk.symm
    exact ⟨hB, h⟩
  | o :: l, k, listed, a, hl, hk, inv, hB, h => by
    have h0 : ops[k]? = some o := by simpa using (hl 0 (by simp)).symm
    rw [List.length_cons, Region.lexHead, Bool.and_eq_true, Bool.and_eq_true] at hB
    obtain ⟨⟨hr, hf⟩, hB'⟩ := hB
    have hkn : k < n := by simp only [List.length_cons] at hk; omega
    have hr' : k ∈ Region.ready .any ops listed := by simpa using hr
    obtain ⟨a1, hst, hK⟩ := h
    exact held_first hsel hs hc hn h0 (fun listed' a' w' hL => seqB_ready hL.1) inv hr' hf hkn hS hst l.length
      (wpH_lexq hsel hs hc hn hS l (k + 1) _ _ (fun j hj => by have := hl (j + 1) (by simp; omega); simpa [Nat.add_assoc, Nat.add_comm 1 j] using this) (by simp only [List.length_cons] at hk; omega) (inv.set hr' hkn) hB' hK)

theorem wpH_lexm {S : World → Prop} {n m n2 g : Nat} {w : World} {Lq : Act → World → Prop} {l2 : List Oper} (hsel : Region.noSelect ops = true) (hs : Region.sinkB .any ops n = true) (hc : Region.chainB .any ops n = true) (hn : n < ops.size) (hS : S w)
    (hl2 : ∀ j, j < l2.length → l2[j]? = ops[m + 1 + j]?) (hn2 : l2.length = n2) (hmn : m + 1 + n2 = n) :
    ∀ (l : List Oper) (k : Nat) (listed : Array Bool) (a : Act), (∀ j, j < l.length → l[j]? = ops[k + j]?) → k + l.length = m → HeadInv .any ops n listed →
    lexMid .any ops g n2 l.length k listed = true → wpHeld P ops S (fun a' => wpOp P ops (Calm Q) m (fun a'' w'' => S w'' ∧ wpHeld P ops S (fun a3 => Lq a3 w'') l2 a'') a' w) l a →
    wpH P ops Q S n (fun listed' a' w' => Region.seqB .any ops g n listed' = true ∧ Lq a' w') (l.length + (n2 + 1)) listed a w
  | [], k, listed, a, _, hk, inv, hB, h => by
    obtain rfl : m = k := by simpa using hk.symm
    simp only [List.length_nil, lexMid, Bool.and_eq_true, decide_eq_true_eq] at hB
    obtain ⟨hr, hB'⟩ := hB
    rw [show ([] : List Oper).length + (n2 + 1) = n2 + 1 by simp]
    refine ⟨fun h => (by rw [hr] at h; cases h), fun j hj => ?_⟩
    have hjm : j = m := by rw [hr] at hj; simpa using hj
    subst hjm
    refine ⟨by omega, ?_⟩
    have h' : wpOp P ops (Calm Q) j (fun a'' w'' => S w'' ∧ wpHeld P ops S (fun a3 => Lq a3 w'') l2 a'') a w := h
    refine wpOp_mono (fun a' w' h3 => ⟨h3.1, ?_⟩) h'
    subst hn2
    exact wpH_lexq hsel hs hc hn h3.1 l2 (j + 1) _ a' hl2 (by omega) (inv.set hj (by omega)) hB' h3.2
  | o :: l, k, listed, a, hl, hk, inv, hB, h => by
    have h0 : ops[k]? = some o := by simpa using (hl 0 (by simp)).symm
    rw [List.length_cons, lexMid, Bool.and_eq_true, Bool.and_eq_true] at hB
    obtain ⟨⟨hr, hf⟩, hB'⟩ := hB
    have hkn : k < n := by simp only [List.length_cons] at hk; omega
    have hr' : k ∈ Region.ready .any ops listed := by simpa using hr
    obtain ⟨a1, hst, hK⟩ := h
    rw [show (o :: l).length + (n2 + 1) = (l.length + (n2 + 1)) + 1 by simp; omega]
    exact held_first hsel hs hc hn h0 (fun listed' a' w' hL => seqB_ready hL.1) inv hr' hf hkn hS hst _
      (wpH_lexm hsel hs hc hn hS hl2 hn2 hmn l (k + 1) _ _ (fun j hj => by have := hl (j + 1) (by simp; omega); simpa [Nat.add_assoc, Nat.add_comm 1 j] using this) (by simp only [List.length_cons] at hk; omega) (inv.set hr' hkn) hB' hK)

/-- The region: its first m operations keep their values while S holds; operation m makes memory and keeps S; n2 more keep their values while S holds; the others come behind, in their order. -/
theorem wp_region_held_mid {id : Nat} {a : Act} {w : World} {l : List Oper} (S : World → Prop) (m n2 : Nat) (hm : P.follows .mixedOrders = true) (hB : lexMidB .any l.toArray m n2 = true) (hS : S w.drew)
    (h : wpHeld P l.toArray S (fun a' => wpOp P l.toArray (Calm Q) m (fun a'' w'' => S w'' ∧ wpHeld P l.toArray S (fun a3 => wpList P l.toArray Q (l.drop (m + 1 + n2)) a3 w'') ((l.drop (m + 1)).take n2) a'') a' w.drew) (l.take m) a) : (Code.region id l.toArray true).wp P Q a w := by
  simp only [lexMidB, Bool.and_eq_true, decide_eq_true_eq] at hB
  obtain ⟨⟨⟨⟨hsel, hn⟩, hs⟩, hc⟩, hlex⟩ := hB
  have hn' : m + 1 + n2 < l.length := by simpa using hn
  have htl : (l.take m).length = m := by simp; omega
  have hdl : (l.drop (m + 1 + n2)).length = l.toArray.size - (m + 1 + n2) := by simp
  have inv0 : HeadInv .any l.toArray (m + 1 + n2) (Array.replicate l.toArray.size false) :=
    ⟨by simp, fun j oj _ hl => (by rw [getD_replicate_false] at hl; cases hl), fun t _ ht => getD_in (by simpa using ht) (getD_replicate_false _ _)⟩
  have H := wpH_lexm (Q := Q) (g := l.toArray.size - (m + 1 + n2)) (w := w.drew) (S := S) (n := m + 1 + n2) (m := m) (n2 := n2) (l2 := (l.drop (m + 1)).take n2) (Lq := fun a'' w'' => wpList P l.toArray Q (l.drop (m + 1 + n2)) a'' w'') hsel hs hc hn hS
    (fun j hj => by
      have hj' : j < n2 := by simp at hj; omega
      rw [List.getElem?_take_of_lt hj', List.getElem?_drop]
      simp)
    (by simp; omega) rfl (l.take m) 0 _ a (fun j hj => by
    have hj' : j < m := by rw [htl] at hj; exact hj
    simp [hj']) (by rw [htl]; omega) inv0 (by rw [htl]; exact hlex) h
  refine wp_region_any hm ?_
  have := any_of_wpH (Q := Q) (g := l.toArray.size - (m + 1 + n2)) (fun listed a' w' hL => by
    have := wpAny_of_seq (md := .any) (Q' := Q) (l.drop (m + 1 + n2)) (m + 1 + n2) listed a' w' (fun j => by simp [List.getElem?_drop]) (by rw [hdl]; exact hL.1) hL.2
    rwa [hdl] at this) _ _ _ _ H
  rw [htl, show m + (n2 + 1) + (l.toArray.size - (m + 1 + n2)) = l.toArray.size by omega] at this
  exact this
end
end Go.Proofs.YtphhnhldbajaoaaGreatDoor

namespace Go.Proofs.YtphhnhldbajaoaaGreatDoor
open Go

section
variable {P : Program} {ops : Array Oper} {Q : Exit → Act → World → Prop}

/-- f operations, in whatever order, S all the while (it may come to say more); then L. -/
def wpX (P : Program) (ops : Array Oper) (Q : Exit → Act → World → Prop) (n : Nat) (L : Array Bool → Act → World → Prop) : Nat → (World → Prop) → Array Bool → Act → World → Prop
  | 0, _, listed, a, w => L listed a w
  | f + 1, S, listed, a, w =>
    Region.ready .any ops listed ≠ [] ∧ ∀ i ∈ Region.ready .any ops listed, i < n ∧ wpOp P ops (Calm Q) i (fun a' w' => ∃ S' : World → Prop, (∀ W, S' W → S W) ∧ S' w' ∧ wpX P ops Q n L f S' (listed.setIfInBounds i true) a' w') a w

theorem any_of_wpX {n g : Nat} {L : Array Bool → Act → World → Prop} (hL : ∀ listed a w, L listed a w → wpAny P .any ops Q g listed a w) :
    ∀ (f : Nat) (S : World → Prop) (listed : Array Bool) (a : Act) (w : World), wpX P ops Q n L f S listed a w → wpAny P .any ops Q (f + g) listed a w
  | 0, _, listed, a, w, h => by rw [Nat.zero_add]; exact hL _ _ _ h
  | f + 1, S, listed, a, w, h => by
    rw [show f + 1 + g = (f + g) + 1 by omega]
    exact ⟨fun h0 => absurd h0 h.1, fun i hi => wpOp_calm (wpOp_mono (fun a' w' ⟨S', _, _, h'⟩ => any_of_wpX hL f S' _ a' w' h') (h.2 i hi).2)⟩

theorem wpX_first {n i : Nat} {oi : Oper} {L : Array Bool → Act → World → Prop} (hi : ops[i]? = some oi) (hsel : ∀ (j : Nat) (o : Oper) cs b, ops[j]? = some o → o.op ≠ .select cs b)
    (hs : Region.sinkB .any ops n = true) (hc : Region.chainB .any ops n = true) (hn : n < ops.size) (hin : i < n)
    (hdone : ∀ listed a w, L listed a w → ∀ j ∈ Region.ready .any ops listed, n ≤ j) :
    ∀ (f : Nat) (S : World → Prop) (listed : Array Bool) (a : Act) (w : World) (v : Value), HeadInv .any ops n listed →
      (∀ j oj, ops[j]? = some oj → j ≠ i → listed.getD j true = false → (∀ e ∈ oj.after, Region.binds .any e = true → e.on ≠ i) → oi.apart ops oj = true) →
      i ∈ Region.ready .any ops listed → S w → (∀ W, S W → ∃ v', YieldsAt P ops W oi v' a ∧ a.put oi.dst v' = a.put oi.dst v) →
      wpX P ops Q n L f S (listed.setIfInBounds i true) (a.put oi.dst v) w → wpX P ops Q n L (f + 1) S listed a w := by
  intro f
  induction f with
  | zero =>
    intro S listed a w v inv _ hr hS hy H
    have hun := (mem_ready.1 hr).1
    refine ⟨fun h => (by rw [h] at hr; cases hr), fun j hj => ?_⟩
    have hjn : j < n := by
      rcases Nat.lt_or_ge j n with h | h
      · exact h
      · exact absurd hj (tail_waits hs hc hn inv _ i rfl hin hun j h)
    refine ⟨hjn, ?_⟩
    by_cases hji : j = i
    · subst hji
      obtain ⟨v', hy', he⟩ := hy w hS
      exact wpOp_of_stOp (fun _ h => h) (hy'.stOp hi (K := fun a' => ∃ S' : World → Prop, (∀ W, S' W → S W) ∧ S' w ∧ wpX P ops Q n L 0 S' (listed.setIfInBounds j true) a' w) ⟨S, fun _ h => h, hS, by rw [he]; exact H⟩)
    · have := hdone _ _ _ H j (ready_mono hj hji)
      omega
  | succ f ih =>
    intro S listed a w v inv hfree hr hS hy H
    have hun := (mem_ready.1 hr).1
    refine ⟨fun h => (by rw [h] at hr; cases hr), fun j hj => ?_⟩
    have hjn : j < n := by
      rcases Nat.lt_or_ge j n with h | h
      · exact h
      · exact absurd hj (tail_waits hs hc hn inv _ i rfl hin hun j h)
    refine ⟨hjn, ?_⟩
    by_cases hji : j = i
    · subst hji
      obtain ⟨v', hy', he⟩ := hy w hS
      exact wpOp_of_stOp (fun _ h => h) (hy'.stOp hi (K := fun a' => ∃ S' : World → Prop, (∀ W, S' W → S W) ∧ S' w ∧ wpX P ops Q n L (f + 1) S' (listed.setIfInBounds j true) a' w) ⟨S, fun _ h => h, hS, by rw [he]; exact H⟩)
    · have h1 := (H.2 j (ready_mono hj hji)).2
      obtain ⟨hjun, oj, hoj, hall⟩ := mem_ready.1 hj
      have hnot : ∀ e ∈ oj.after, Region.binds .any e = true → e.on ≠ i := fun e he hb heq => by
        have h1 := hall e he hb
        rw [heq, getD_both hun] at h1
        cases h1
      have h2 := wpOp_put hoj (hfree j oj hoj hji hjun hnot) (fun cs b => hsel i oi cs b hi) (fun cs b => hsel j oj cs b hoj) h1
      have hfree' : ∀ k ok, ops[k]? = some ok → k ≠ i → (listed.setIfInBounds j true).getD k true = false →
          (∀ e ∈ ok.after, Region.binds .any e = true → e.on ≠ i) → oi.apart ops ok = true := fun k ok hk hki hun hno => by
        refine hfree k ok hk hki ?_ hno
        by_cases hjk : j = k
        · subst hjk; exact hjun
        · rw [getD_set_ne true hjk] at hun; exact hun
      refine wpOp_mono (fun a' w' h3 => ?_) h2
      obtain ⟨⟨S', hm, hS', h4⟩, he, hw, hsz⟩ := h3
      refine ⟨S', hm, hS', ih S' (listed.setIfInBounds j true) a' w' v (inv.set hj hjn) hfree' (ready_mono hr (Ne.symm hji)) hS' (fun W hW => ?_) ?_⟩
      · obtain ⟨v', hy', hp⟩ := hy W (hm W hW)
        exact ⟨v', hy'.of_same he hw, put_same hsz hp⟩
      · rw [Array.setIfInBounds_comm _ _ hji]
        exact h4

/-- The schedule: which operation comes next, and whether it makes memory. -/
def wpSch (P : Program) (ops : Array Oper) (Q : Exit → Act → World → Prop) (Lq : Act → World → Prop) : List (Nat × Bool) → (World → Prop) → Act → World → Prop
  | [], _, a, w => Lq a w
  | (i, false) :: r, S, a, w => ∃ o a1, ops[i]? = some o ∧ (∀ W, S W → if Region.wanted o (yielded ops a.tmps) then o.still P a W (fun a' => a' = a1) else a.put o.dst undef = a1) ∧ wpSch P ops Q Lq r S a1 w
  | (i, true) :: r, S, a, w => wpOp P ops (Calm Q) i (fun a' w' => ∃ S' : World → Prop, (∀ W, S' W → S W) ∧ S' w' ∧ wpSch P ops Q Lq r S' a' w') a w
def schB (ops : Array Oper) (g n : Nat) : List (Nat × Bool) → Array Bool → Bool
  | [], listed => Region.seqB .any ops g n listed
  | (i, false) :: r, listed => (Region.ready .any ops listed).contains i && Region.free .any ops listed i && decide (i < n) && schB ops g n r (listed.setIfInBounds i true)
  | (i, true) :: r, listed => decide (Region.ready .any ops listed = [i]) && decide (i < n) && schB ops g n r (listed.setIfInBounds i true)
def schedB (ops : Array Oper) (n : Nat) (sch : List (Nat × Bool)) : Bool :=
  Region.noSelect ops && decide (n < ops.size) && Region.sinkB .any ops n && Region.chainB .any ops n && decide (sch.length = n) && schB ops (ops.size - n) n sch (Array.replicate ops.size false)

theorem wpX_of_sch {n g : Nat} {Lq : Act → World → Prop} (hsel : Region.noSelect ops = true) (hs : Region.sinkB .any ops n = true) (hc : Region.chainB .any ops n = true) (hn : n < ops.size) :
    ∀ (sch : List (Nat × Bool)) (S : World → Prop) (listed : Array Bool) (a : Act) (w : World), HeadInv .any ops n listed → S w → schB ops g n sch listed = true → wpSch P ops Q Lq sch S a w →
    wpX P ops Q n (fun listed' a' w' => Region.seqB .any ops g n listed' = true ∧ Lq a' w') sch.length S listed a w
  | [], _, listed, a, w, _, _, hB, h => ⟨hB, h⟩
  | (i, false) :: r, S, listed, a, w, inv, hS, hB, h => by
    rw [schB, Bool.and_eq_true, Bool.and_eq_true, Bool.and_eq_true] at hB
    obtain ⟨⟨⟨hr, hf⟩, hin⟩, hB'⟩ := hB
    have hr' : i ∈ Region.ready .any ops listed := by simpa using hr
    have hin' : i < n := of_decide_eq_true hin
    obtain ⟨o, a1, h0, hst, hK⟩ := h
    have hst' : ∀ W, S W → ∃ v', YieldsAt P ops W o v' a ∧ a.put o.dst v' = a1 := fun W hW => by
      have := hst W hW
      exact yieldsAt_of_stOp (i := i) h0 (by unfold stOp; simp only [h0]; exact this)
    obtain ⟨v, _, hv⟩ := hst' w hS
    subst hv
    exact wpX_first h0 (Region.noSelect_spec hsel) hs hc hn hin' (fun listed' a' w' hL => seqB_ready hL.1) r.length S listed a w v inv (Region.free_spec h0 hf) hr' hS hst'
      (wpX_of_sch hsel hs hc hn r S _ _ w (inv.set hr' hin') hS hB' hK)
  | (i, true) :: r, S, listed, a, w, inv, hS, hB, h => by
    rw [schB, Bool.and_eq_true, Bool.and_eq_true] at hB
    obtain ⟨⟨hr, hin⟩, hB'⟩ := hB
    have hr1 : Region.ready .any ops listed = [i] := of_decide_eq_true hr
    have hin' : i < n := of_decide_eq_true hin
    refine ⟨fun h => (by rw [hr1] at h; cases h), fun j hj => ?_⟩
    have hji : j = i := by rw [hr1] at hj; simpa using hj
    subst hji
    refine ⟨hin', ?_⟩
    have h' : wpOp P ops (Calm Q) j (fun a' w' => ∃ S' : World → Prop, (∀ W, S' W → S W) ∧ S' w' ∧ wpSch P ops Q Lq r S' a' w') a w := h
    refine wpOp_mono (fun a' w' ⟨S', hm, hS', h3⟩ => ⟨S', hm, hS', ?_⟩) h'
    exact wpX_of_sch hsel hs hc hn r S' _ a' w' (inv.set hj hin') hS' hB' h3

theorem wpSch_nil {Lq : Act → World → Prop} {S : World → Prop} {a : Act} {w : World} (h : Lq a w) : wpSch P ops Q Lq [] S a w := h
/-- An operation that only reads. -/
theorem wpSch_step {l : List Oper} {Lq : Act → World → Prop} {S : World → Prop} {i : Nat} {o : Oper} {r : List (Nat × Bool)} {a a1 : Act} {w : World} (hi : l[i]? = some o)
    (h : ∀ W, S W → ∀ K : Act → Prop, (∀ a', a' = a1 → K a') → if Region.wanted o (yielded l.toArray a.tmps) then o.still P a W K else K (a.put o.dst undef))
    (h2 : wpSch P l.toArray Q Lq r S a1 w) : wpSch P l.toArray Q Lq ((i, false) :: r) S a w :=
  ⟨o, a1, by simpa using hi, fun W hS => h W hS (fun a' => a' = a1) (fun _ h => h), h2⟩
/-- One that makes memory: S may say more behind it. -/
theorem wpSch_make {l : List Oper} {Lq : Act → World → Prop} {S : World → Prop} {i : Nat} {o : Oper} {r : List (Nat × Bool)} {a : Act} {w : World} (hi : l[i]? = some o)
    (h : ∀ K' : Act → World → Prop, (∀ a' w' (S' : World → Prop), (∀ W, S' W → S W) → S' w' → wpSch P l.toArray Q Lq r S' a' w' → K' a' w') → if Region.wanted o (yielded l.toArray a.tmps) then o.wp P a w K' (Calm Q) else K' (a.put o.dst undef) w) :
    wpSch P l.toArray Q Lq ((i, true) :: r) S a w :=
  wpOp_step hi (fun K' hK => h K' (fun a' w' S' h1 h2 h3 => hK a' w' ⟨S', h1, h2, h3⟩))
/-- The region by its schedule: n operations, and a tail in its order. -/
theorem wp_region_sched {id : Nat} {a : Act} {w : World} {l : List Oper} (S : World → Prop) (n : Nat) (sch : List (Nat × Bool)) (hm : P.follows .mixedOrders = true) (hB : schedB l.toArray n sch = true) (hS : S w.drew)
    (h : wpSch P l.toArray Q (fun a' w' => wpList P l.toArray Q (l.drop n) a' w') sch S a w.drew) : (Code.region id l.toArray true).wp P Q a w := by
  simp only [schedB, Bool.and_eq_true, decide_eq_true_eq] at hB
  obtain ⟨⟨⟨⟨⟨hsel, hn⟩, hs⟩, hc⟩, hlen⟩, hlex⟩ := hB
  have hn' : n < l.length := by simpa using hn
  have hdl : (l.drop n).length = l.toArray.size - n := by simp
  have inv0 : HeadInv .any l.toArray n (Array.replicate l.toArray.size false) :=
    ⟨by simp, fun j oj _ hl => (by rw [getD_replicate_false] at hl; cases hl), fun t _ ht => getD_in (by simpa using ht) (getD_replicate_false _ _)⟩
  have H := wpX_of_sch (Q := Q) (g := l.toArray.size - n) (Lq := fun a'' w'' => wpList P l.toArray Q (l.drop n) a'' w'') hsel hs hc hn sch S _ a w.drew inv0 hS hlex h
  refine wp_region_any hm ?_
  have := any_of_wpX (Q := Q) (g := l.toArray.size - n) (fun listed a' w' hL => by
    have := wpAny_of_seq (md := .any) (Q' := Q) (l.drop n) n listed a' w' (fun j => by simp [List.getElem?_drop]) (by rw [hdl]; exact hL.1) hL.2
    rwa [hdl] at this) _ _ _ _ _ H
  rw [hlen, show n + (l.toArray.size - n) = l.toArray.size by omega] at this
  exact this
end
end Go.Proofs.YtphhnhldbajaoaaGreatDoor
