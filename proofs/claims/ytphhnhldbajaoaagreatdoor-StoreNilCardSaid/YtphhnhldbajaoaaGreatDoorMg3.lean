/-
  Texts put together: ArcD, HeldM, ArcE.
-/
import Derived.Test.YtphhnhldbajaoaaGreatDoorMg2
import Derived.StillTailTactics
namespace Go.Proofs.YtphhnhldbajaoaaGreatDoor
open Go.RowKit Go.ChangeShapes Go.WideShapes Go.ChangeAt

theorem made_any (b : Nat) (v : Nat → Value) (d : ArcD) (w : World) (h : ArcAt w b v d) (hc : 1 ≤ d.c) :
    Calls Tryz.prog 116 #[.pointer (some ⟨b, 0, none⟩)] w fun e w' => e = .returned (.bool true) ∧ w = w' := by
  have q0 : w.cell? ⟨b, 0, none⟩ = some (.int .i64 d.c) := h.box.cell 0 _ rfl
  generalize d.c = c at *
  have h0 : (0 : Int) < c := by omega
  have h1 : decide ((0 : Int) < c) = true := decide_eq_true h0
  clear h
  go_enter Tryz.func116, Tryz.ntmps116
  go_wp2
  go_ret
  exact ⟨rfl, rfl⟩
theorem made_nil (w : World) : Calls Tryz.prog 116 #[.pointer none] w fun e w' => e = .returned (.bool false) ∧ w = w' := by
  go_enter Tryz.func116, Tryz.ntmps116
  go_wp2
  go_ret
  exact ⟨rfl, rfl⟩

/-- The cache's cells, as far as they are read. -/
structure Cell4 (w : World) (b : Nat) (d : ArcD) (a : Nat → Option Addr) (c : Nat → Nat) : Prop where
  z : w.cell? ⟨b, 0, none⟩ = some (.int .i64 d.c)
  t : w.cell? ⟨b, 1, none⟩ = some (.int .i64 d.t)
  l : ∀ i, InA i → w.cell? ⟨b, i, none⟩ = some (.slice (a i) (d.l i).length (c i))
theorem ArcAt.cells {w : World} {b : Nat} {v : Nat → Value} {d : ArcD} (h : ArcAt w b v d) : ∃ a c, Cell4 w b d a c := by
  have hv : ∀ i, ∃ x : Option Addr × Nat, InA i → v i = .slice x.1 (d.l i).length x.2 := by
    intro i
    by_cases hi : InA i
    · obtain ⟨a, c, e, _⟩ := (h.row i hi).view
      exact ⟨(a, c), fun _ => e⟩
    · exact ⟨(none, 0), fun h => absurd h hi⟩
  refine ⟨fun i => (Classical.choose (hv i)).1, fun i => (Classical.choose (hv i)).2, h.box.cell 0 _ rfl, h.box.cell 1 _ rfl, fun i hi => ?_⟩
  exact (h.box.cell i _ (cellsA_at _ _ v hi)).trans (congrArg some (Classical.choose_spec (hv i) hi))
theorem Tod.undrew {Q : List Nat → World → Prop} {F : List Nat} {w w' : World} (h : Tod Q F w.drew w') : Tod Q F w w' := by
  obtain ⟨F', h1, h2, h3⟩ := h
  exact ⟨F', h1, ⟨h2.os, h2.tape, h2.output, h2.size, h2.block⟩, h3⟩
theorem in2 : InA 2 := ⟨by omega, by omega⟩
theorem in3 : InA 3 := ⟨by omega, by omega⟩
theorem in4 : InA 4 := ⟨by omega, by omega⟩
theorem in5 : InA 5 := ⟨by omega, by omega⟩
def OkA (d : ArcD) : Prop := 1 ≤ d.c ∧ d.c ≤ 64 ∧ 0 ≤ d.t ∧ d.t ≤ d.c

set_option maxRecDepth 100000 in
set_option maxHeartbeats 2000000 in
theorem aroom_any (b : Nat) (F : List Nat) (d : ArcD) (even : Bool) (w : World) (h : ArcF b d F w) (hlen : d.len ≤ 10000) :
    Calls Tryz.prog 160 #[.pointer (some ⟨b, 0, none⟩), .bool even] w fun e w' => e = .returned (.string (roomA d even).2) ∧ Tod (ArcF b (roomA d even).1) F w w' := by
  obtain ⟨M, hM⟩ : ∃ M, M = roomA d even := ⟨_, rfl⟩
  rw [← hM]
  have HM : Hid (M = if room1 d even = true then moveA d 2 4 else moveA d 3 5) := hM
  have hlt : ArcF b d F w.drew := (fixed_arc b d).keep _ _ _ _ h (Chg.of (S := []) ((Below.refl _ _).drew) (Nat.le_refl _)) (fun _ _ hm => by cases hm)
  have HM24 := Lib.hid (move_list b 2 4 in2 in4 F d w.drew hlt hlen)
  have HM35 := Lib.hid (move_list b 3 5 in3 in5 F d w.drew hlt hlen)
  obtain ⟨v, h, rfl⟩ := h
  obtain ⟨a, c, hc⟩ := h.cells
  have q1 := hc.t
  have q2 := hc.l 2 in2
  have q3 := hc.l 3 in3
  have HS2 := Lib.hid (size_list b 2 _ _ _ w q2)
  have HS3 := Lib.hid (size_list b 3 _ _ _ w q3)
  have HR : Hid (room1 d even = (decide (0 < (d.l 2).length) && (decide (d.t < ((d.l 2).length : Int)) || (even && decide (((d.l 2).length : Int) = d.t)) || decide ((d.l 3).length = 0)))) := rfl
  clear hM h hlen hc hlt
  generalize (d.l 2).length = n2 at *
  generalize (d.l 3).length = n3 at *
  generalize d.t = t at *
  rcases Nat.eq_zero_or_pos n2 with h2 | h2
  · have HMf : Hid (M = moveA d 3 5) := by show _ = _; rw [HM.out, if_neg]; rw [HR.out, h2]; simp
    subst h2
    go_enter Tryz.func160, Tryz.ntmps160
    go_wp2_with fail
    refine HS2.out.mono ?_
    rintro e w1 ⟨rfl, rfl⟩
    go_wp2_with fail
    go_still_tail 6, (by kernel_rfl)
    go_wp2_with fail
    refine HM35.out.mono ?_
    rintro e w2 ⟨rfl, ht⟩
    have HT := Lib.hid (Tod.undrew ht)
    clear ht
    go_wp2
    go_ret
    rw [HMf.out]
    exact ⟨rfl, HT.out⟩
  · have e2 : decide ((0 : Int) < (n2 : Int)) = true := by rw [decide_eq_true_eq]; omega
    have D0 : decide (0 < n2) = true := decide_eq_true h2
    have hp2 : (0 : Int) < (n2 : Int) := by omega
    cases D1 : decide (t < (n2 : Int))
    · cases even
      · go_enter Tryz.func160, Tryz.ntmps160
        go_wp2_with fail
        refine HS2.out.mono ?_
        rintro e w1 ⟨rfl, rfl⟩
        rcases Nat.eq_zero_or_pos n3 with h3 | h3
        · have HMt : Hid (M = moveA d 2 4) := by show _ = _; rw [HM.out, if_pos]; rw [HR.out]; subst h3; simp [D0, D1]
          have e3 : ((n3 : Int) == 0) = true := by rw [h3]; rfl
          clear h3
          go_wp2_with fail
          refine HS3.out.mono ?_
          rintro e w1 ⟨rfl, rfl⟩
          go_wp2_with fail
          go_still_tail 6, (by kernel_rfl)
          go_wp2_with fail
          refine HM24.out.mono ?_
          rintro e w2 ⟨rfl, ht⟩
          have HT := Lib.hid (Tod.undrew ht)
          clear ht
          go_wp2
          go_ret
          rw [HMt.out]
          exact ⟨rfl, HT.out⟩
        · have HMf : Hid (M = moveA d 3 5) := by show _ = _; rw [HM.out, if_neg]; rw [HR.out]; have h4 : ¬ n3 = 0 := (by omega); simp [D0, D1, h4]
          have e3 : ((n3 : Int) == 0) = false := by rw [beq_eq_false_iff_ne]; omega
          clear h3
          go_wp2_with fail
          refine HS3.out.mono ?_
          rintro e w1 ⟨rfl, rfl⟩
          go_wp2_with fail
          go_still_tail 6, (by kernel_rfl)
          go_wp2_with fail
          refine HM35.out.mono ?_
          rintro e w2 ⟨rfl, ht⟩
          have HT := Lib.hid (Tod.undrew ht)
          clear ht
          go_wp2
          go_ret
          rw [HMf.out]
          exact ⟨rfl, HT.out⟩
      · cases D2 : decide ((n2 : Int) = t)
        · have e4 : ((n2 : Int) == t) = false := by rw [beq_eq_false_iff_ne]; simpa using D2
          go_enter Tryz.func160, Tryz.ntmps160
          go_wp2_with fail
          refine HS2.out.mono ?_
          rintro e w1 ⟨rfl, rfl⟩
          rcases Nat.eq_zero_or_pos n3 with h3 | h3
          · have HMt : Hid (M = moveA d 2 4) := by show _ = _; rw [HM.out, if_pos]; rw [HR.out]; subst h3; simp [D0, D1, D2]
            have e3 : ((n3 : Int) == 0) = true := by rw [h3]; rfl
            clear h3
            go_wp2_with fail
            refine HS3.out.mono ?_
            rintro e w1 ⟨rfl, rfl⟩
            go_wp2_with fail
            go_still_tail 6, (by kernel_rfl)
            go_wp2_with fail
            refine HM24.out.mono ?_
            rintro e w2 ⟨rfl, ht⟩
            have HT := Lib.hid (Tod.undrew ht)
            clear ht
            go_wp2
            go_ret
            rw [HMt.out]
            exact ⟨rfl, HT.out⟩
          · have HMf : Hid (M = moveA d 3 5) := by show _ = _; rw [HM.out, if_neg]; rw [HR.out]; have h4 : ¬ n3 = 0 := (by omega); simp [D0, D1, h4, D2]
            have e3 : ((n3 : Int) == 0) = false := by rw [beq_eq_false_iff_ne]; omega
            clear h3
            go_wp2_with fail
            refine HS3.out.mono ?_
            rintro e w1 ⟨rfl, rfl⟩
            go_wp2_with fail
            go_still_tail 6, (by kernel_rfl)
            go_wp2_with fail
            refine HM35.out.mono ?_
            rintro e w2 ⟨rfl, ht⟩
            have HT := Lib.hid (Tod.undrew ht)
            clear ht
            go_wp2
            go_ret
            rw [HMf.out]
            exact ⟨rfl, HT.out⟩
        · have HMt : Hid (M = moveA d 2 4) := by show _ = _; rw [HM.out, if_pos]; rw [HR.out]; simp [D0, D1, D2]
          have e4 : ((n2 : Int) == t) = true := by simpa using D2
          clear D0 D2
          go_enter Tryz.func160, Tryz.ntmps160
          go_wp2_with fail
          refine HS2.out.mono ?_
          rintro e w1 ⟨rfl, rfl⟩
          go_wp2_with fail
          go_still_tail 6, (by kernel_rfl)
          go_wp2_with fail
          refine HM24.out.mono ?_
          rintro e w2 ⟨rfl, ht⟩
          have HT := Lib.hid (Tod.undrew ht)
          clear ht
          go_wp2
          go_ret
          rw [HMt.out]
          exact ⟨rfl, HT.out⟩
    · have HMt : Hid (M = moveA d 2 4) := by show _ = _; rw [HM.out, if_pos]; rw [HR.out]; simp [D0, D1]
      clear D0
      go_enter Tryz.func160, Tryz.ntmps160
      go_wp2_with fail
      refine HS2.out.mono ?_
      rintro e w1 ⟨rfl, rfl⟩
      go_wp2_with fail
      go_still_tail 6, (by kernel_rfl)
      go_wp2_with fail
      refine HM24.out.mono ?_
      rintro e w2 ⟨rfl, ht⟩
      have HT := Lib.hid (Tod.undrew ht)
      clear ht
      go_wp2
      go_ret
      rw [HMt.out]
      exact ⟨rfl, HT.out⟩
end Go.Proofs.YtphhnhldbajaoaaGreatDoor

namespace Go.Proofs.YtphhnhldbajaoaaGreatDoor
open Go

section
variable {P : Program} {ops : Array Oper} {Q : Exit → Act → World → Prop}

/-- n1 operations in whatever order, then the one that makes memory alone, then n2 more, then g in their order. -/
def lexMid (md : Region.Mode) (ops : Array Oper) (g n2 : Nat) : Nat → Nat → Array Bool → Bool
  | 0, k, listed => decide (Region.ready md ops listed = [k]) && Region.lexHead md ops g n2 (k + 1) (listed.setIfInBounds k true)
  | f + 1, k, listed => (Region.ready md ops listed).contains k && Region.free md ops listed k && lexMid md ops g n2 f (k + 1) (listed.setIfInBounds k true)
def lexMidB (md : Region.Mode) (ops : Array Oper) (m n2 : Nat) : Bool :=
  Region.noSelect ops && decide (m + 1 + n2 < ops.size) && Region.sinkB md ops (m + 1 + n2) && Region.chainB md ops (m + 1 + n2) && lexMid md ops (ops.size - (m + 1 + n2)) n2 m 0 (Array.replicate ops.size false)

theorem held_first {S : World → Prop} {n k : Nat} {o : Oper} {L : Array Bool → Act → World → Prop} (hsel : Region.noSelect ops = true) (hs : Region.sinkB .any ops n = true) (hc : Region.chainB .any ops n = true) (hn : n < ops.size)
    (h0 : ops[k]? = some o) (hdone : ∀ listed a w, L listed a w → ∀ j ∈ Region.ready .any ops listed, n ≤ j) {listed : Array Bool} {a a1 : Act} {w : World} (inv : HeadInv .any ops n listed) (hr : k ∈ Region.ready .any ops listed) (hf : Region.free .any ops listed k = true) (hkn : k < n)
    (hS : S w) (hst : ∀ W, S W → if Region.wanted o (yielded ops a.tmps) then o.still P a W (fun a' => a' = a1) else a.put o.dst undef = a1) (f : Nat)
    (h : wpH P ops Q S n L f (listed.setIfInBounds k true) a1 w) : wpH P ops Q S n L (f + 1) listed a w := by
  have hst' : ∀ W, S W → ∃ v', YieldsAt P ops W o v' a ∧ a.put o.dst v' = a1 := fun W hW => by
    have := hst W hW
    exact yieldsAt_of_stOp (i := k) h0 (by unfold stOp; simp only [h0]; exact this)
  obtain ⟨v, _, hv⟩ := hst' w hS
  subst hv
  exact wpH_first h0 (Region.noSelect_spec hsel) hs hc hn hkn hdone f listed a w v inv (Region.free_spec h0 hf) hr hS hst' h

theorem wpH_lexq {S : World → Prop} {n g : Nat} {w : World} {Lq : Act → World → Prop} (hsel : Region.noSelect ops = true) (hs : Region.sinkB .any ops n = true) (hc : Region.chainB .any ops n = true) (hn : n < ops.size) (hS : S w) :
    ∀ (l : List Oper) (k : Nat) (listed : Array Bool) (a : Act), (∀ j, j < l.length → l[j]? = ops[k + j]?) → k + l.length = n → HeadInv .any ops n listed →
    Region.lexHead .any ops g l.length k listed = true → wpHeld P ops S (fun a' => Lq a' w) l a →
    wpH P ops Q S n (fun listed' a' w' => Region.seqB .any ops g n listed' = true ∧ Lq a' w') l.length listed a w
  | [], k, listed, a, _, hk, _, hB, h => by
    obtain rfl : n = k := by simpa using hk.symm
    exact ⟨hB, h⟩
  | o :: l, k, listed, a, hl, hk, inv, hB, h => by
    have h0 : ops[k]? = some o := by simpa using (hl 0 (by simp)).symm
    rw [List.length_cons, Region.lexHead, Bool.and_eq_true, Bool.and_eq_true] at hB
    obtain ⟨⟨hr, hf⟩, hB'⟩ := hB
    have hkn : k < n := by simp only [List.length_cons] at hk; omega
    have hr' : k ∈ Region.ready .any ops listed := by simpa using hr
    obtain ⟨a1, hst, hK⟩ := h
    exact held_first hsel hs hc hn h0 (fun listed' a' w' hL => seqB_ready hL.1) inv hr' hf hkn hS hst l.length
      (wpH_lexq hsel hs hc hn hS l (k + 1) _ _ (fun j hj => by have := hl (j + 1) (by simp; omega); simpa [Nat.add_assoc, Nat.add_comm 1 j] using this) (by simp only [List.length_cons] at hk; omega) (inv.set hr' hkn) hB' hK)

theorem wpH_lexm {S : World → Prop} {n m n2 g : Nat} {w : World} {Lq : Act → World → Prop} {l2 : List Oper} (hsel : Region.noSelect ops = true) (hs : Region.sinkB .any ops n = true) (hc : Region.chainB .any ops n = true) (hn : n < ops.size) (hS : S w)
    (hl2 : ∀ j, j < l2.length → l2[j]? = ops[m + 1 + j]?) (hn2 : l2.length = n2) (hmn : m + 1 + n2 = n) :
    ∀ (l : List Oper) (k : Nat) (listed : Array Bool) (a : Act), (∀ j, j < l.length → l[j]? = ops[k + j]?) → k + l.length = m → HeadInv .any ops n listed →
    lexMid .any ops g n2 l.length k listed = true → wpHeld P ops S (fun a' => wpOp P ops (Calm Q) m (fun a'' w'' => S w'' ∧ wpHeld P ops S (fun a3 => Lq a3 w'') l2 a'') a' w) l a →
    wpH P ops Q S n (fun listed' a' w' => Region.seqB .any ops g n listed' = true ∧ Lq a' w') (l.length + (n2 + 1)) listed a w
  | [], k, listed, a, _, hk, inv, hB, h => by
    obtain rfl : m = k := by simpa using hk.symm
    simp only [List.length_nil, lexMid, Bool.and_eq_true, decide_eq_true_eq] at hB
    obtain ⟨hr, hB'⟩ := hB
    rw [show ([] : List Oper).length + (n2 + 1) = n2 + 1 by simp]
    refine ⟨fun h => (by rw [hr] at h; cases h), fun j hj => ?_⟩
    have hjm : j = m := by rw [hr] at hj; simpa using hj
    subst hjm
    refine ⟨by omega, ?_⟩
    have h' : wpOp P ops (Calm Q) j (fun a'' w'' => S w'' ∧ wpHeld P ops S (fun a3 => Lq a3 w'') l2 a'') a w := h
    refine wpOp_mono (fun a' w' h3 => ⟨h3.1, ?_⟩) h'
    subst hn2
    exact wpH_lexq hsel hs hc hn h3.1 l2 (j + 1) _ a' hl2 (by omega) (inv.set hj (by omega)) hB' h3.2
  | o :: l, k, listed, a, hl, hk, inv, hB, h => by
    have h0 : ops[k]? = some o := by simpa using (hl 0 (by simp)).symm
    rw [List.length_cons, lexMid, Bool.and_eq_true, Bool.and_eq_true] at hB
    obtain ⟨⟨hr, hf⟩, hB'⟩ := hB
    have hkn : k < n := by simp only [List.length_cons] at hk; omega
    have hr' : k ∈ Region.ready .any ops listed := by simpa using hr
    obtain ⟨a1, hst, hK⟩ := h
    rw [show (o :: l).length + (n2 + 1) = (l.length + (n2 + 1)) + 1 by simp; omega]
    exact held_first hsel hs hc hn h0 (fun listed' a' w' hL => seqB_ready hL.1) inv hr' hf hkn hS hst _
      (wpH_lexm hsel hs hc hn hS hl2 hn2 hmn l (k + 1) _ _ (fun j hj => by have := hl (j + 1) (by simp; omega); simpa [Nat.add_assoc, Nat.add_comm 1 j] using this) (by simp only [List.length_cons] at hk; omega) (inv.set hr' hkn) hB' hK)

/-- The region: its first m operations keep their values while S holds; operation m makes memory and keeps S; n2 more keep their values while S holds; the others come behind, in their order. -/
theorem wp_region_held_mid {id : Nat} {a : Act} {w : World} {l : List Oper} (S : World → Prop) (m n2 : Nat) (hm : P.follows .mixedOrders = true) (hB : lexMidB .any l.toArray m n2 = true) (hS : S w.drew)
    (h : wpHeld P l.toArray S (fun a' => wpOp P l.toArray (Calm Q) m (fun a'' w'' => S w'' ∧ wpHeld P l.toArray S (fun a3 => wpList P l.toArray Q (l.drop (m + 1 + n2)) a3 w'') ((l.drop (m + 1)).take n2) a'') a' w.drew) (l.take m) a) : (Code.region id l.toArray true).wp P Q a w := by
  simp only [lexMidB, Bool.and_eq_true, decide_eq_true_eq] at hB
  obtain ⟨⟨⟨⟨hsel, hn⟩, hs⟩, hc⟩, hlex⟩ := hB
  have hn' : m + 1 + n2 < l.length := by simpa using hn
  have htl : (l.take m).length = m := by simp; omega
  have hdl : (l.drop (m + 1 + n2)).length = l.toArray.size - (m + 1 + n2) := by simp
  have inv0 : HeadInv .any l.toArray (m + 1 + n2) (Array.replicate l.toArray.size false) :=
    ⟨by simp, fun j oj _ hl => (by rw [getD_replicate_false] at hl; cases hl), fun t _ ht => getD_in (by simpa using ht) (getD_replicate_false _ _)⟩
  have H := wpH_lexm (Q := Q) (g := l.toArray.size - (m + 1 + n2)) (w := w.drew) (S := S) (n := m + 1 + n2) (m := m) (n2 := n2) (l2 := (l.drop (m + 1)).take n2) (Lq := fun a'' w'' => wpList P l.toArray Q (l.drop (m + 1 + n2)) a'' w'') hsel hs hc hn hS
    (fun j hj => by
      have hj' : j < n2 := by simp at hj; omega
      rw [List.getElem?_take_of_lt hj', List.getElem?_drop]
      simp)
    (by simp; omega) rfl (l.take m) 0 _ a (fun j hj => by
    have hj' : j < m := by rw [htl] at hj; exact hj
    simp [hj']) (by rw [htl]; omega) inv0 (by rw [htl]; exact hlex) h
  refine wp_region_any hm ?_
  have := any_of_wpH (Q := Q) (g := l.toArray.size - (m + 1 + n2)) (fun listed a' w' hL => by
    have := wpAny_of_seq (md := .any) (Q' := Q) (l.drop (m + 1 + n2)) (m + 1 + n2) listed a' w' (fun j => by simp [List.getElem?_drop]) (by rw [hdl]; exact hL.1) hL.2
    rwa [hdl] at this) _ _ _ _ H
  rw [htl, show m + (n2 + 1) + (l.toArray.size - (m + 1 + n2)) = l.toArray.size by omega] at this
  exact this
end
end Go.Proofs.YtphhnhldbajaoaaGreatDoor

namespace Go.Proofs.YtphhnhldbajaoaaGreatDoor
open Go.RowKit Go.ChangeShapes Go.WideShapes Go.ChangeAt

theorem callW {P : Program} {f : FuncId} {args : Array Value} {w : World} {v : Value} (h : Calls P f args w fun e w' => e = .returned v ∧ w = w') :
    Calls P f args w fun e w'' => e = .returned v ∧ w'' = w := h.mono fun _ _ hh => ⟨hh.1, hh.2.symm⟩
theorem move_len (d : ArcD) {i j : Nat} (hi : InA i) (hj : InA j) : (moveA d i j).1.len ≤ d.len := by
  unfold moveA
  split
  · exact old_len d hi
  · next h =>
    show (addA (oldA d i).1 j (oldA d i).2).len ≤ _
    rw [add_len _ hj]
    unfold oldA at h ⊢
    cases hd : d.l i with
    | nil => rw [hd] at h; exact absurd rfl h
    | cons x r =>
      have := d.len_put hi r
      rw [hd] at this
      simp only [List.length_cons] at this
      show (d.put i r).len + 1 ≤ _
      omega
theorem room_len (d : ArcD) (e : Bool) : (roomA d e).1.len ≤ d.len := by
  unfold roomA
  split
  · exact move_len d in2 in4
  · exact move_len d in3 in5
theorem tod_drew {b : Nat} {F : List Nat} {d : ArcD} {w : World} (h : ArcF b d F w) : ArcF b d F w.drew := (fixed_arc b d).keep _ _ _ _ h (Chg.of (S := []) ((Below.refl _ _).drew) (Nat.le_refl _)) (fun _ _ hm => by cases hm)

set_option maxRecDepth 100000 in
set_option maxHeartbeats 1000000 in
theorem again_any (b i : Nat) (hi : InA i) (F : List Nat) (d : ArcD) (k : ByteArray) (even : Bool) (w : World) (h : ArcF b d F w) (hlen : d.len ≤ 9000) :
    Calls Tryz.prog 142 #[.pointer (some ⟨b, 0, none⟩), .string k, .pointer (some ⟨b, i, none⟩), .bool even] w fun e w' => e = .returned (.string (againA d k i even).2) ∧ Tod (ArcF b (againA d k i even).1) F w w' := by
  have HR := Lib.hid (aroom_any b F d even w h (by omega))
  have HL := Lib.hid (Nat.le_trans (room_len d even) hlen)
  have HM : Hid (againA d k i even = (addA (takeA (roomA d even).1 i k) 3 k, (roomA d even).2)) := rfl
  generalize againA d k i even = M at *
  generalize roomA d even = r at *
  obtain ⟨d1, left⟩ := r
  dsimp only at HR HL HM
  clear h hlen
  go_enter Tryz.func142, Tryz.ntmps142
  go_wp2_with fail
  refine HR.out.mono ?_
  rintro e w1 ⟨rfl, ht⟩
  obtain ⟨F1, ⟨v1, h1, rfl⟩, hc1, hf1⟩ := ht
  have HT1 := Lib.hid (take_list b i hi v1 d1 k w1 h1 (by have := HL.out; omega))
  have HC1 := Lib.hid hc1
  have HF1 := Lib.hid hf1
  clear h1 hc1 hf1 HR
  go_wp2_with fail
  refine HT1.out.mono ?_
  rintro e w2 ⟨rfl, ht⟩
  obtain ⟨F2, ⟨v2, h2, rfl⟩, hc2, hf2⟩ := Tod.seq HC1.out HF1.out ht
  have HT2 := Lib.hid (add_list b 3 in3 v2 (takeA d1 i k) k w2 h2 (by have := HL.out; have := take_len d1 hi k; omega))
  have HC2 := Lib.hid hc2
  have HF2 := Lib.hid hf2
  clear h2 hc2 hf2 ht HT1 HC1 HF1
  go_wp2_with fail
  refine HT2.out.mono ?_
  rintro e w3 ⟨rfl, ht⟩
  have HT := Lib.hid (Tod.seq HC2.out HF2.out ht)
  clear ht HT2
  go_wp2
  go_ret
  rw [HM.out]
  exact ⟨rfl, HT.out⟩

set_option maxRecDepth 100000 in
set_option maxHeartbeats 2000000 in
theorem new_any (b : Nat) (F : List Nat) (d : ArcD) (w : World) (h : ArcF b d F w) (hlen : d.len ≤ 9000) (hok : OkA d) :
    Calls Tryz.prog 143 #[.pointer (some ⟨b, 0, none⟩)] w fun e w' => e = .returned (.string (newA d).2) ∧ Tod (ArcF b (newA d).1) F w w' := by
  obtain ⟨w3, hw3⟩ : ∃ w3, w3 = w.drew.drew.drew := ⟨_, rfl⟩
  have h3 : ArcF b d F w3 := by rw [hw3]; exact tod_drew (tod_drew (tod_drew h))
  have HU : Hid (∀ {d' : ArcD} {w' : World}, Tod (ArcF b d') F w3 w' → Tod (ArcF b d') F w w') := by
    intro d' w' ht
    rw [hw3] at ht
    exact ht.undrew.undrew.undrew
  have HM : Hid (newA d = if onceA d = d.c then (if ((d.l 2).length : Int) = d.c then oldA d 2 else roomA (oldA d 4).1 false) else if d.c ≤ allA d then roomA (if allA d = 2 * d.c then (oldA d 5).1 else d) false else (d, empA)) := rfl
  have hwl := ArcD.le_len d in2
  have hwl4 := ArcD.le_len d in4
  have hwl3 := ArcD.le_len d in3
  have hwl5 := ArcD.le_len d in5
  have HRD := Lib.hid (fun (d' : ArcD) (F' : List Nat) (w' : World) (hh : ArcF b d' F' w') (hl : d'.len ≤ 9000) => aroom_any b F' d' false w' hh (by omega))
  have HO2 := Lib.hid (old_len d in2)
  have HO4 := Lib.hid (Nat.le_trans (old_len d in4) hlen)
  have HO5 := Lib.hid (Nat.le_trans (old_len d in5) hlen)
  have HLN := Lib.hid hlen
  have hF := h3
  obtain ⟨v, hv, rfl⟩ := h
  obtain ⟨v3, hv3, hvF⟩ := h3
  have HT2 := Lib.hid (old_list b 2 in2 v3 d w3 hv3 (by omega))
  have HT4 := Lib.hid (old_list b 4 in4 v3 d w3 hv3 (by omega))
  have HT5 := Lib.hid (old_list b 5 in5 v3 d w3 hv3 (by omega))
  rw [← hvF] at HT2 HT4 HT5
  have HFF := Lib.hid hF
  obtain ⟨a, c, hc⟩ := hv.cells
  have q0 := hc.z
  have q2 := hc.l 2 in2
  have q3 := hc.l 3 in3
  have q4 := hc.l 4 in4
  have q5 := hc.l 5 in5
  have p0 : w3.cell? ⟨b, 0, none⟩ = some (.int .i64 d.c) := by rw [hw3]; exact q0
  have HW3 := Lib.hid hw3
  obtain ⟨hok1, hok2, _, _⟩ := hok
  have ho : onceA d = ((d.l 2).length : Int) + ((d.l 4).length : Int) := rfl
  have ha : allA d = onceA d + ((d.l 3).length : Int) + ((d.l 5).length : Int) := rfl
  rw [ho] at ha
  generalize newA d = M at *
  generalize onceA d = once at *
  generalize allA d = all at *
  generalize (d.l 2).length = n2 at *
  generalize (d.l 3).length = n3 at *
  generalize (d.l 4).length = n4 at *
  generalize (d.l 5).length = n5 at *
  generalize hdc : d.c = z at *
  have hdl := hlen
  have W1 : IntKind.i64.wrap ((n2 : Int) + (n4 : Int)) = once := by rw [ho]; exact i64_small _ (by omega) (by omega)
  have W2 : IntKind.i64.wrap (once + (n3 : Int)) = once + (n3 : Int) := i64_small _ (by omega) (by omega)
  have W3 : IntKind.i64.wrap (once + (n3 : Int) + (n5 : Int)) = all := by rw [ha, ← ho]; exact i64_small _ (by omega) (by omega)
  have W4 : IntKind.i64.wrap (2 * z) = 2 * z := i64_small _ (by omega) (by omega)
  clear hv hv3 hvF hc hlen hw3 hwl hwl3 hwl4 hwl5 ho ha hdc hF
  go_enter Tryz.func143, Tryz.ntmps143
  go_wp2_with fail
  refine wp_region_held_quiet (fun W => W.cell? ⟨b, 2, none⟩ = some (.slice (a 2) n2 (c 2)) ∧ W.cell? ⟨b, 4, none⟩ = some (.slice (a 4) n4 (c 4))) (by kernel_rfl) (by kernel_rfl) ⟨q2, q4⟩ ?_
  iterate 3 (apply wpHeld_step; (intro W hS K hK; obtain ⟨r2, r4⟩ := hS; go_simp; exact hK _ rfl))
  apply wpHeld_step
  · intro W hS K hK
    obtain ⟨r2, r4⟩ := hS
    go_simp
    exact ⟨_, callW (size_list b 2 _ _ _ W r2), hK _ rfl⟩
  iterate 3 (apply wpHeld_step; (intro W hS K hK; obtain ⟨r2, r4⟩ := hS; go_simp; exact hK _ rfl))
  apply wpHeld_step
  · intro W hS K hK
    obtain ⟨r2, r4⟩ := hS
    go_simp
    exact ⟨_, callW (size_list b 4 _ _ _ W r4), hK _ rfl⟩
  iterate 2 (apply wpHeld_step; (intro W hS K hK; obtain ⟨r2, r4⟩ := hS; go_simp; exact hK _ rfl))
  refine wpHeld_nil ?_
  go_wp2_with fail
  refine wp_region_held_quiet (fun W => W.cell? ⟨b, 3, none⟩ = some (.slice (a 3) n3 (c 3)) ∧ W.cell? ⟨b, 5, none⟩ = some (.slice (a 5) n5 (c 5))) (by kernel_rfl) (by kernel_rfl) ⟨q3, q5⟩ ?_
  iterate 4 (apply wpHeld_step; (intro W hS K hK; obtain ⟨r3, r5⟩ := hS; go_simp; exact hK _ rfl))
  apply wpHeld_step
  · intro W hS K hK
    obtain ⟨r3, r5⟩ := hS
    go_simp
    exact ⟨_, callW (size_list b 3 _ _ _ W r3), hK _ rfl⟩
  iterate 4 (apply wpHeld_step; (intro W hS K hK; obtain ⟨r3, r5⟩ := hS; go_simp; exact hK _ rfl))
  apply wpHeld_step
  · intro W hS K hK
    obtain ⟨r3, r5⟩ := hS
    go_simp
    exact ⟨_, callW (size_list b 5 _ _ _ W r5), hK _ rfl⟩
  iterate 2 (apply wpHeld_step; (intro W hS K hK; obtain ⟨r3, r5⟩ := hS; go_simp; exact hK _ rfl))
  refine wpHeld_nil ?_
  clear W1 W2 W3 q3 q4 q5
  by_cases h1 : once = z
  · subst h1
    have e1 : (once == once) = true := by simp
    go_wp2_with fail
    refine wp_region_held_quiet (fun W => W.cell? ⟨b, 0, none⟩ = some (.int .i64 once) ∧ W.cell? ⟨b, 2, none⟩ = some (.slice (a 2) n2 (c 2))) (by kernel_rfl) (by kernel_rfl) ⟨q0, q2⟩ ?_
    iterate 10 (apply wpHeld_step; (intro W hS K hK; obtain ⟨r0, r2⟩ := hS; go_simp; exact hK _ rfl))
    apply wpHeld_step
    · intro W hS K hK
      obtain ⟨r0, r2⟩ := hS
      go_simp
      exact ⟨_, callW (size_list b 2 _ _ _ W r2), hK _ rfl⟩
    iterate 7 (apply wpHeld_step; (intro W hS K hK; obtain ⟨r0, r2⟩ := hS; go_simp; exact hK _ rfl))
    refine wpHeld_nil ?_
    rw [← HW3.out]
    clear q0 q2
    by_cases h2 : (n2 : Int) = once
    · have e2 : ((n2 : Int) == once) = true := by simpa using h2
      have HMM : Hid (M = oldA d 2) := by show _ = _; rw [HM.out, if_pos trivial, if_pos h2]
      clear h2 HM
      go_wp2_with fail
      refine HT2.out.mono ?_
      rintro e w4 ⟨rfl, ht⟩
      have HT := Lib.hid (HU.out ht)
      clear ht
      go_wp2
      go_ret
      rw [HMM.out]
      exact ⟨rfl, HT.out⟩
    · have e2 : ((n2 : Int) == once) = false := by simpa using h2
      have HMM : Hid (M = roomA (oldA d 4).1 false) := by show _ = _; rw [HM.out, if_pos trivial, if_neg h2]
      clear h2 HM
      go_wp2_with fail
      refine HT4.out.mono ?_
      rintro e w4 ⟨rfl, ht⟩
      obtain ⟨F4, h4, hc4, hf4⟩ := ht
      have HR := Lib.hid (HRD.out _ F4 w4 h4 HO4.out)
      have HC4 := Lib.hid hc4
      have HF4 := Lib.hid hf4
      clear h4 hc4 hf4
      go_wp2_with fail
      refine HR.out.mono ?_
      rintro e w5 ⟨rfl, ht⟩
      have HT := Lib.hid (HU.out (Tod.seq HC4.out HF4.out ht))
      clear ht
      go_wp2
      go_ret
      rw [HMM.out]
      exact ⟨rfl, HT.out⟩
  · have e1 : (once == z) = false := by simpa using h1
    go_wp2_with fail
    refine wp_region_held_quiet (fun W => W.cell? ⟨b, 0, none⟩ = some (.int .i64 z)) (by kernel_rfl) (by kernel_rfl) q0 ?_
    iterate 18 (apply wpHeld_step; (intro W r0 K hK; go_simp; exact hK _ rfl))
    refine wpHeld_nil ?_
    rw [← HW3.out]
    clear q0 q2
    by_cases h2 : z ≤ all
    · have e2 : decide (z ≤ all) = true := decide_eq_true h2
      by_cases h3 : all = 2 * z
      · have e3 : (all == 2 * z) = true := by simpa using h3
        have HMM : Hid (M = roomA (oldA d 5).1 false) := by show _ = _; rw [HM.out, if_neg h1, if_pos h2, if_pos h3]
        clear h3 HM
        go_wp2_with fail
        refine HT5.out.mono ?_
        rintro e w4 ⟨rfl, ht⟩
        obtain ⟨F4, h4, hc4, hf4⟩ := ht
        have HR := Lib.hid (HRD.out _ F4 w4 h4 HO5.out)
        have HC4 := Lib.hid hc4
        have HF4 := Lib.hid hf4
        clear h4 hc4 hf4
        go_wp2_with fail
        refine HR.out.mono ?_
        rintro e w5 ⟨rfl, ht⟩
        have HT := Lib.hid (HU.out (Tod.seq HC4.out HF4.out ht))
        clear ht
        go_wp2
        go_ret
        rw [HMM.out]
        exact ⟨rfl, HT.out⟩
      · have e3 : (all == 2 * z) = false := by simpa using h3
        have HMM : Hid (M = roomA d false) := by show _ = _; rw [HM.out, if_neg h1, if_pos h2, if_neg h3]
        have HR := Lib.hid (HRD.out _ _ w3 HFF.out HLN.out)
        clear h3 HM
        go_wp2_with fail
        refine HR.out.mono ?_
        rintro e w5 ⟨rfl, ht⟩
        have HT := Lib.hid (HU.out ht)
        clear ht
        go_wp2
        go_ret
        rw [HMM.out]
        exact ⟨rfl, HT.out⟩
    · have e2 : decide (z ≤ all) = false := by simpa using h2
      have HMM : Hid (M = (d, empA)) := by show _ = _; rw [HM.out, if_neg h1, if_neg h2]
      have HT : Hid (Tod (ArcF b d) (fpA b v) w w3) := HU.out (Tod.same (fixed_arc b d) HFF.out (Below.refl _ _))
      clear h2 HM
      go_wp2
      go_ret
      rw [HMM.out]
      exact ⟨rfl, HT.out⟩
end Go.Proofs.YtphhnhldbajaoaaGreatDoor
