/-
  A region that draws its order: operations whose value is the same in every world that holds S, one of them making memory (and keeping S), more such operations behind it, then a forced tail: they run in the order in which they stand. No program here.
-/
import Derived.Test.YteimpebfenpifaaGreatDoorHeld
namespace Go.Proofs.YteimpebfenpifaaGreatDoor
open Go

section
variable {P : Program} {ops : Array Oper} {Q : Exit → Act → World → Prop}

/-- n1 operations in whatever order, then the one that makes memory alone, then n2 more, then g in their order. -/
def lexMid (md : Region.Mode) (ops : Array Oper) (g n2 : Nat) : Nat → Nat → Array Bool → Bool
  | 0, k, listed => decide (Region.ready md ops listed = [k]) && Region.lexHead md ops g n2 (k + 1) (listed.setIfInBounds k true)
  | f + 1, k, listed => (Region.ready md ops listed).contains k && Region.free md ops listed k && lexMid md ops g n2 f (k + 1) (listed.setIfInBounds k true)
def lexMidB (md : Region.Mode) (ops : Array Oper) (m n2 : Nat) : Bool :=
  Region.noSelect ops && decide (m + 1 + n2 < ops.size) && Region.sinkB md ops (m + 1 + n2) && Region.chainB md ops (m + 1 + n2) && lexMid md ops (ops.size - (m + 1 + n2)) n2 m 0 (Array.replicate ops.size false)

theorem held_first {S : World → Prop} {n k : Nat} {o : Oper} {L : Array Bool → Act → World → Prop} (hsel : Region.noSelect ops = true) (hs : Region.sinkB .any ops n = true) (hc : Region.chainB .any ops n = true) (hn : n < ops.size)
    (h0 : ops[k]? = some o) (hdone : ∀ listed a w, L listed a w → ∀ j ∈ Region.ready .any ops listed, n ≤ j) {listed : Array Bool} {a a1 : Act} {w : World} (inv : HeadInv .any ops n listed) (hr : k ∈ Region.ready .any ops listed) (hf : Region.free .any ops listed k = true) (hkn : k < n)
    (hS : S w) (hst : ∀ W, S W → if Region.wanted o (yielded ops a.tmps) then o.still P a W (fun a' => a' = a1) else a.put o.dst undef = a1) (f : Nat)
    (h : wpH P ops Q S n L f (listed.setIfInBounds k true) a1 w) : wpH P ops Q S n L (f + 1) listed a w := by
  have hst' : ∀ W, S W → ∃ v', YieldsAt P ops W o v' a ∧ a.put o.dst v' = a1 := fun W hW => by
    have := hst W hW
    exact yieldsAt_of_stOp (i := k) h0 (by unfold stOp; simp only [h0]; exact this)
  obtain ⟨v, _, hv⟩ := hst' w hS
  subst hv
  exact wpH_first h0 (Region.noSelect_spec hsel) hs hc hn hkn hdone f listed a w v inv (Region.free_spec h0 hf) hr hS hst' h

theorem wpH_lexq {S : World → Prop} {n g : Nat} {w : World} {Lq : Act → World → Prop} (hsel : Region.noSelect ops = true) (hs : Region.sinkB .any ops n = true) (hc : Region.chainB .any ops n = true) (hn : n < ops.size) (hS : S w) :
    ∀ (l : List Oper) (k : Nat) (listed : Array Bool) (a : Act), (∀ j, j < l.length → l[j]? = ops[k + j]?) → k + l.length = n → HeadInv .any ops n listed →
    Region.lexHead .any ops g l.length k listed = true → wpHeld P ops S (fun a' => Lq a' w) l a →
    wpH P ops Q S n (fun listed' a' w' => Region.seqB .any ops g n listed' = true ∧ Lq a' w') l.length listed a w
  | [], k, listed, a, _, hk, _, hB, h => by
    obtain rfl : n = k := by simpa using hk.symm
    exact ⟨hB, h⟩
  | o :: l, k, listed, a, hl, hk, inv, hB, h => by
    have h0 : ops[k]? = some o := by simpa using (hl 0 (by simp)).symm
    rw [List.length_cons, Region.lexHead, Bool.and_eq_true, Bool.and_eq_true] at hB
    obtain ⟨⟨hr, hf⟩, hB'⟩ := hB
    have hkn : k < n := by simp only [List.length_cons] at hk; omega
    have hr' : k ∈ Region.ready .any ops listed := by simpa using hr
    obtain ⟨a1, hst, hK⟩ := h
    exact held_first hsel hs hc hn h0 (fun listed' a' w' hL => seqB_ready hL.1) inv hr' hf hkn hS hst l.length
      (wpH_lexq hsel hs hc hn hS l (k + 1) _ _ (fun j hj => by have := hl (j + 1) (by simp; omega); simpa [Nat.add_assoc, Nat.add_comm 1 j] using this) (by simp only [List.length_cons] at hk; omega) (inv.set hr' hkn) hB' hK)

theorem wpH_lexm {S : World → Prop} {n m n2 g : Nat} {w : World} {Lq : Act → World → Prop} {l2 : List Oper} (hsel : Region.noSelect ops = true) (hs : Region.sinkB .any ops n = true) (hc : Region.chainB .any ops n = true) (hn : n < ops.size) (hS : S w)
    (hl2 : ∀ j, j < l2.length → l2[j]? = ops[m + 1 + j]?) (hn2 : l2.length = n2) (hmn : m + 1 + n2 = n) :
    ∀ (l : List Oper) (k : Nat) (listed : Array Bool) (a : Act), (∀ j, j < l.length → l[j]? = ops[k + j]?) → k + l.length = m → HeadInv .any ops n listed →
    lexMid .any ops g n2 l.length k listed = true → wpHeld P ops S (fun a' => wpOp P ops (Calm Q) m (fun a'' w'' => S w'' ∧ wpHeld P ops S (fun a3 => Lq a3 w'') l2 a'') a' w) l a →
    wpH P ops Q S n (fun listed' a' w' => Region.seqB .any ops g n listed' = true ∧ Lq a' w') (l.length + (n2 + 1)) listed a w
  | [], k, listed, a, _, hk, inv, hB, h => by
    obtain rfl : m = k := by simpa using hk.symm
    simp only [List.length_nil, lexMid, Bool.and_eq_true, decide_eq_true_eq] at hB
    obtain ⟨hr, hB'⟩ := hB
    rw [show ([] : List Oper).length + (n2 + 1) = n2 + 1 by simp]
    refine ⟨fun h => (by rw [hr] at h; cases h), fun j hj => ?_⟩
    have hjm : j = m := by rw [hr] at hj; simpa using hj
    subst hjm
    refine ⟨by omega, ?_⟩
    have h' : wpOp P ops (Calm Q) j (fun a'' w'' => S w'' ∧ wpHeld P ops S (fun a3 => Lq a3 w'') l2 a'') a w := h
    refine wpOp_mono (fun a' w' h3 => ⟨h3.1, ?_⟩) h'
    subst hn2
    exact wpH_lexq hsel hs hc hn h3.1 l2 (j + 1) _ a' hl2 (by omega) (inv.set hj (by omega)) hB' h3.2
  | o :: l, k, listed, a, hl, hk, inv, hB, h => by
    have h0 : ops[k]? = some o := by simpa using (hl 0 (by simp)).symm
    rw [List.length_cons, lexMid, Bool.and_eq_true, Bool.and_eq_true] at hB
    obtain ⟨⟨hr, hf⟩, hB'⟩ := hB
    have hkn : k < n := by simp only [List.length_cons] at hk; omega
    have hr' : k ∈ Region.ready .any ops listed := by simpa using hr
    obtain ⟨a1, hst, hK⟩ := h
    rw [show (o :: l).length + (n2 + 1) = (l.length + (n2 + 1)) + 1 by simp; omega]
    exact held_first hsel hs hc hn h0 (fun listed' a' w' hL => seqB_ready hL.1) inv hr' hf hkn hS hst _
      (wpH_lexm hsel hs hc hn hS hl2 hn2 hmn l (k + 1) _ _ (fun j hj => by have := hl (j + 1) (by simp; omega); simpa [Nat.add_assoc, Nat.add_comm 1 j] using this) (by simp only [List.length_cons] at hk; omega) (inv.set hr' hkn) hB' hK)

/-- The region: its first m operations keep their values while S holds; operation m makes memory and keeps S; n2 more keep their values while S holds; the others come behind, in their order. -/
theorem wp_region_held_mid {id : Nat} {a : Act} {w : World} {l : List Oper} (S : World → Prop) (m n2 : Nat) (hm : P.follows .mixedOrders = true) (hB : lexMidB .any l.toArray m n2 = true) (hS : S w.drew)
    (h : wpHeld P l.toArray S (fun a' => wpOp P l.toArray (Calm Q) m (fun a'' w'' => S w'' ∧ wpHeld P l.toArray S (fun a3 => wpList P l.toArray Q (l.drop (m + 1 + n2)) a3 w'') ((l.drop (m + 1)).take n2) a'') a' w.drew) (l.take m) a) : (Code.region id l.toArray true).wp P Q a w := by
  simp only [lexMidB, Bool.and_eq_true, decide_eq_true_eq] at hB
  obtain ⟨⟨⟨⟨hsel, hn⟩, hs⟩, hc⟩, hlex⟩ := hB
  have hn' : m + 1 + n2 < l.length := by simpa using hn
  have htl : (l.take m).length = m := by simp; omega
  have hdl : (l.drop (m + 1 + n2)).length = l.toArray.size - (m + 1 + n2) := by simp
  have inv0 : HeadInv .any l.toArray (m + 1 + n2) (Array.replicate l.toArray.size false) :=
    ⟨by simp, fun j oj _ hl => (by rw [getD_replicate_false] at hl; cases hl), fun t _ ht => getD_in (by simpa using ht) (getD_replicate_false _ _)⟩
  have H := wpH_lexm (Q := Q) (g := l.toArray.size - (m + 1 + n2)) (w := w.drew) (S := S) (n := m + 1 + n2) (m := m) (n2 := n2) (l2 := (l.drop (m + 1)).take n2) (Lq := fun a'' w'' => wpList P l.toArray Q (l.drop (m + 1 + n2)) a'' w'') hsel hs hc hn hS
    (fun j hj => by
      have hj' : j < n2 := by simp at hj; omega
      rw [List.getElem?_take_of_lt hj', List.getElem?_drop]
      simp)
    (by simp; omega) rfl (l.take m) 0 _ a (fun j hj => by
    have hj' : j < m := by rw [htl] at hj; exact hj
    simp [hj']) (by rw [htl]; omega) inv0 (by rw [htl]; exact hlex) h
  refine wp_region_any hm ?_
  have := any_of_wpH (Q := Q) (g := l.toArray.size - (m + 1 + n2)) (fun listed a' w' hL => by
    have := wpAny_of_seq (md := .any) (Q' := Q) (l.drop (m + 1 + n2)) (m + 1 + n2) listed a' w' (fun j => by simp [List.getElem?_drop]) (by rw [hdl]; exact hL.1) hL.2
    rwa [hdl] at this) _ _ _ _ H
  rw [htl, show m + (n2 + 1) + (l.toArray.size - (m + 1 + n2)) = l.toArray.size by omega] at this
  exact this
end
end Go.Proofs.YteimpebfenpifaaGreatDoor
