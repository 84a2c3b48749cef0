/-
  Texts put together: RefPad, HeldM.
-/
import Derived.Test.YtkapbkkbkfmidaaDoorRoot
import Derived.Test.YtkapbkkbkfmidaaDoorMg10
import Derived.Test.YtkapbkkbkfmidaaDoorHeld
namespace Go.Proofs.YtkapbkkbkfmidaaDoor
open Go.RowKit

def padZs (s : ByteArray) (j : Nat) : ByteArray := s ++ ⟨(128 :: List.replicate j (0 : UInt8)).toArray⟩
theorem padZs_size (s : ByteArray) (j : Nat) : (padZs s j).size = s.size + (1 + j) := by
  rw [← ba_len, padZs]
  simp [ByteArray.data_append]; omega
theorem padZs_succ (s : ByteArray) (j : Nat) : padZs s j ++ ⟨#[0]⟩ = padZs s (j + 1) := by
  apply ba_eq
  simp [padZs, List.replicate_succ']
where
  app_list' (a b : ByteArray) : (a ++ b).data.toList = a.data.toList ++ b.data.toList := by simp [ByteArray.data_append]
def padBs (s : ByteArray) (n k : Nat) : ByteArray := s ++ ⟨(be8 n k).toArray⟩
theorem padBs_succ (s : ByteArray) (n k : Nat) : padBs s n k ++ ⟨#[UInt8.ofNat (n / 2 ^ (56 - 8 * k))]⟩ = padBs s n (k + 1) := by
  apply ba_eq
  simp [padBs, be8_succ]
theorem pad_all (s : ByteArray) : padBs (padZs s (padZ s.size)) (8 * s.size) 8 = s ++ ⟨(padB s.size).toArray⟩ := by
  apply ba_eq
  simp [padBs, padZs, padB]

theorem one_text (w : World) (n k : Nat) (u : Value) (hu : u = byV (UInt8.ofNat (8 * n / 2 ^ (56 - 8 * k)))) :
    (convert 71 9 (.slice (some ⟨w.heap.size, 0, none⟩) 1 1)).run Tryd.prog (w.alloc (.cells #[u] 5 (0, 0))) = .ok (.string ⟨#[UInt8.ofNat (8 * n / 2 ^ (56 - 8 * k))]⟩) (w.alloc (.cells #[u] 5 (0, 0))) := by
  subst hu
  have hb : Buf (w.alloc (.cells #[byV (UInt8.ofNat (8 * n / 2 ^ (56 - 8 * k)))] 5 (0, 0))) w.heap.size (.slice (some ⟨w.heap.size, 0, none⟩) 1 1) [UInt8.ofNat (8 * n / 2 ^ (56 - 8 * k))] :=
    World.ownsRow_lit w #[byV (UInt8.ofNat (8 * n / 2 ^ (56 - 8 * k)))] 1 (Nat.le_refl _) (by decide) rfl
  exact hb.text

set_option maxRecDepth 100000 in
set_option maxHeartbeats 1000000 in
theorem rpad_any (s : ByteArray) (w : World) (hs : s.size ≤ 1000000) : Calls Tryd.prog 36 #[.string s] w fun e w' => e = .returned (.string (s ++ ⟨(padB s.size).toArray⟩)) ∧ Below w.heap.size w w' := by
  have HALL := Lib.hid (pad_all s)
  have HZZ := Lib.hid (padZs_size s)
  have HZS := Lib.hid (padZs_succ s)
  have hq : ¬ 9223372036854775807 < s.size + 1 := by omega
  have HP1 : Hid (s ++ ⟨#[128]⟩ = padZs s 0) := rfl
  have hpz := padZ_lt s.size
  have HM := Lib.hid (pad_more s.size)
  have HD := Lib.hid (pad_done s.size)
  go_enter Tryd.func36, Tryd.ntmps36
  go_wp2
  go_loop [0] (fun x => ∃ j : Nat, j ≤ padZ s.size ∧ x = .string (padZs s j)) (fun x => match x with | .string t => s.size + 1 + padZ s.size - t.size | _ => 0)
  case atStart => exact ⟨0, Nat.zero_le _, by rw [← HP1.out]⟩
  case round =>
    obtain ⟨j, hj, rfl⟩ := hrel
    have hz := HZZ.out j
    by_cases hlt : j < padZ s.size
    · have hm : ((((padZs s j).size : Nat) : Int) % 64 != 56) = true := by
        have := HM.out j hlt
        rw [hz, show ((s.size + (1 + j) : Nat) : Int) = (s.size : Int) + (1 + (j : Int)) by omega]; exact this
      have hq2 : ¬ 9223372036854775807 < (padZs s j).size + 1 := by omega
      have HS2 := HZS.out j
      have HZ2 := HZZ.out (j + 1)
      have HSS := Lib.hid HS2
      have HZZ2 := Lib.hid HZ2
      have Hz := Lib.hid hz
      clear HS2 HZ2 hz
      go_wp2
      go_round
      case rel => exact ⟨j + 1, by omega, by rw [← HSS.out]⟩
      case measure =>
        simp
        have e1 := Hz.out
        have e2 : (⟨#[0]⟩ : ByteArray).size = 1 := rfl
        omega
    · have hjz : j = padZ s.size := by omega
      have hm : ((((padZs s j).size : Nat) : Int) % 64 != 56) = false := by
        have := HD.out j hjz
        rw [hz, show ((s.size + (1 + j) : Nat) : Int) = (s.size : Int) + (1 + (j : Int)) by omega]; exact this
      subst hjz
      have hz2 : (padZs s (padZ s.size)).size ≤ 1000100 := by omega
      generalize padZs s (padZ s.size) = t at *
      clear hz
      go_wp2
      go_loopw [0, 4] (fun x i wr => ∃ k : Nat, k ≤ 8 ∧ i = .int .i64 (7 - (k : Int)) ∧ x = .string (padBs t (8 * s.size) k) ∧ Hid (Below w.heap.size w wr)) (fun _ i _ => (intOf i + 1).toNat)
      case atStart => exact ⟨0, Nat.zero_le _, rfl, congrArg Value.string (ba_eq (by simp [padBs, be8, ByteArray.data_append])), Below.refl _ _⟩
      case round =>
        obtain ⟨k, hk, rfl, rfl, HL⟩ := hrel
        by_cases hlt : k < 8
        · have hpb := pad_byte s.size k
          rw [Int.mul_comm, show 56 - 8 * k = 8 * (7 - k) by omega] at hpb
          have hc := one_text wr s.size k (.int .u8 (8 * (s.size : Int) / 2 ^ (8 * (7 - k)) % 256)) (by rw [hpb, show 56 - 8 * k = 8 * (7 - k) by omega])
          have HS2 := Lib.hid (padBs_succ t (8 * s.size) k)
          have hbz : (padBs t (8 * s.size) k).size = t.size + k := by
            rw [← ba_len, padBs]; simp [ByteArray.data_append, be8_length]
          have hq2 : ¬ 9223372036854775807 < (padBs t (8 * s.size) k).size + 1 := by omega
          have HBIT : Hid ((7 : Int) - ((k + 1 : Nat) : Int) = 7 - (k : Int) - 1) := by show _ = _; omega
          generalize hg : UInt8.ofNat (8 * s.size / 2 ^ (56 - 8 * k)) = bb at *
          clear hpb hbz hg
          go_wp2
          go_roundw
          case rel => exact ⟨k + 1, by omega, by rw [HBIT.out], by rw [HS2.out], HL.out.trans ((Below.refl _ _).alloc HL.out.size _)⟩
          case measure => simp [intOf]; omega
        · have hk8 : k = 8 := by omega
          subst hk8
          go_wp2
          go_ret
          exact ⟨ret_str (by rw [HALL.out]), HL.out⟩
end Go.Proofs.YtkapbkkbkfmidaaDoor

namespace Go.Proofs.YtkapbkkbkfmidaaDoor
open Go

section
variable {P : Program} {ops : Array Oper} {Q : Exit → Act → World → Prop}

/-- n1 operations in whatever order, then the one that makes memory alone, then n2 more, then g in their order. -/
def lexMid (md : Region.Mode) (ops : Array Oper) (g n2 : Nat) : Nat → Nat → Array Bool → Bool
  | 0, k, listed => decide (Region.ready md ops listed = [k]) && Region.lexHead md ops g n2 (k + 1) (listed.setIfInBounds k true)
  | f + 1, k, listed => (Region.ready md ops listed).contains k && Region.free md ops listed k && lexMid md ops g n2 f (k + 1) (listed.setIfInBounds k true)
def lexMidB (md : Region.Mode) (ops : Array Oper) (m n2 : Nat) : Bool :=
  Region.noSelect ops && decide (m + 1 + n2 < ops.size) && Region.sinkB md ops (m + 1 + n2) && Region.chainB md ops (m + 1 + n2) && lexMid md ops (ops.size - (m + 1 + n2)) n2 m 0 (Array.replicate ops.size false)

theorem held_first {S : World → Prop} {n k : Nat} {o : Oper} {L : Array Bool → Act → World → Prop} (hsel : Region.noSelect ops = true) (hs : Region.sinkB .any ops n = true) (hc : Region.chainB .any ops n = true) (hn : n < ops.size)
    (h0 : ops[k]? = some o) (hdone : ∀ listed a w, L listed a w → ∀ j ∈ Region.ready .any ops listed, n ≤ j) {listed : Array Bool} {a a1 : Act} {w : World} (inv : HeadInv .any ops n listed) (hr : k ∈ Region.ready .any ops listed) (hf : Region.free .any ops listed k = true) (hkn : k < n)
    (hS : S w) (hst : ∀ W, S W → if Region.wanted o (yielded ops a.tmps) then o.still P a W (fun a' => a' = a1) else a.put o.dst undef = a1) (f : Nat)
    (h : wpH P ops Q S n L f (listed.setIfInBounds k true) a1 w) : wpH P ops Q S n L (f + 1) listed a w := by
  have hst' : ∀ W, S W → ∃ v', YieldsAt P ops W o v' a ∧ a.put o.dst v' = a1 := fun W hW => by
    have := hst W hW
    exact yieldsAt_of_stOp (i := k) h0 (by unfold stOp; simp only [h0]; exact this)
  obtain ⟨v, _, hv⟩ := hst' w hS
  subst hv
  exact wpH_first h0 (Region.noSelect_spec hsel) hs hc hn hkn hdone f listed a w v inv (Region.free_spec h0 hf) hr hS hst' h

theorem wpH_lexq {S : World → Prop} {n g : Nat} {w : World} {Lq : Act → World → Prop} (hsel : Region.noSelect ops = true) (hs : Region.sinkB .any ops n = true) (hc : Region.chainB .any ops n = true) (hn : n < ops.size) (hS : S w) :
    ∀ (l : List Oper) (k : Nat) (listed : Array Bool) (a : Act), (∀ j, j < l.length → l[j]? = ops[k + j]?) → k + l.length = n → HeadInv .any ops n listed →
    Region.lexHead .any ops g l.length k listed = true → wpHeld P ops S (fun a' => Lq a' w) l a →
    wpH P ops Q S n (fun listed' a' w' => Region.seqB .any ops g n listed' = true ∧ Lq a' w') l.length listed a w
  | [], k, listed, a, _, hk, _, hB, h => by
    obtain rfl : n = k := by simpa using hk.symm
    exact ⟨hB, h⟩
  | o :: l, k, listed, a, hl, hk, inv, hB, h => by
    have h0 : ops[k]? = some o := by simpa using (hl 0 (by simp)).symm
    rw [List.length_cons, Region.lexHead, Bool.and_eq_true, Bool.and_eq_true] at hB
    obtain ⟨⟨hr, hf⟩, hB'⟩ := hB
    have hkn : k < n := by simp only [List.length_cons] at hk; omega
    have hr' : k ∈ Region.ready .any ops listed := by simpa using hr
    obtain ⟨a1, hst, hK⟩ := h
    exact held_first hsel hs hc hn h0 (fun listed' a' w' hL => seqB_ready hL.1) inv hr' hf hkn hS hst l.length
      (wpH_lexq hsel hs hc hn hS l (k + 1) _ _ (fun j hj => by have := hl (j + 1) (by simp; omega); simpa [Nat.add_assoc, Nat.add_comm 1 j] using this) (by simp only [List.length_cons] at hk; omega) (inv.set hr' hkn) hB' hK)

theorem wpH_lexm {S : World → Prop} {n m n2 g : Nat} {w : World} {Lq : Act → World → Prop} {l2 : List Oper} (hsel : Region.noSelect ops = true) (hs : Region.sinkB .any ops n = true) (hc : Region.chainB .any ops n = true) (hn : n < ops.size) (hS : S w)
    (hl2 : ∀ j, j < l2.length → l2[j]? = ops[m + 1 + j]?) (hn2 : l2.length = n2) (hmn : m + 1 + n2 = n) :
    ∀ (l : List Oper) (k : Nat) (listed : Array Bool) (a : Act), (∀ j, j < l.length → l[j]? = ops[k + j]?) → k + l.length = m → HeadInv .any ops n listed →
    lexMid .any ops g n2 l.length k listed = true → wpHeld P ops S (fun a' => wpOp P ops (Calm Q) m (fun a'' w'' => S w'' ∧ wpHeld P ops S (fun a3 => Lq a3 w'') l2 a'') a' w) l a →
    wpH P ops Q S n (fun listed' a' w' => Region.seqB .any ops g n listed' = true ∧ Lq a' w') (l.length + (n2 + 1)) listed a w
  | [], k, listed, a, _, hk, inv, hB, h => by
    obtain rfl : m = k := by simpa using hk.symm
    simp only [List.length_nil, lexMid, Bool.and_eq_true, decide_eq_true_eq] at hB
    obtain ⟨hr, hB'⟩ := hB
    rw [show ([] : List Oper).length + (n2 + 1) = n2 + 1 by simp]
    refine ⟨fun h => (by rw [hr] at h; cases h), fun j hj => ?_⟩
    have hjm : j = m := by rw [hr] at hj; simpa using hj
    subst hjm
    refine ⟨by omega, ?_⟩
    have h' : wpOp P ops (Calm Q) j (fun a'' w'' => S w'' ∧ wpHeld P ops S (fun a3 => Lq a3 w'') l2 a'') a w := h
    refine wpOp_mono (fun a' w' h3 => ⟨h3.1, ?_⟩) h'
    subst hn2
    exact wpH_lexq hsel hs hc hn h3.1 l2 (j + 1) _ a' hl2 (by omega) (inv.set hj (by omega)) hB' h3.2
  | o :: l, k, listed, a, hl, hk, inv, hB, h => by
    have h0 : ops[k]? = some o := by simpa using (hl 0 (by simp)).symm
    rw [List.length_cons, lexMid, Bool.and_eq_true, Bool.and_eq_true] at hB
    obtain ⟨⟨hr, hf⟩, hB'⟩ := hB
    have hkn : k < n := by simp only [List.length_cons] at hk; omega
    have hr' : k ∈ Region.ready .any ops listed := by simpa using hr
    obtain ⟨a1, hst, hK⟩ := h
    rw [show (o :: l).length + (n2 + 1) = (l.length + (n2 + 1)) + 1 by simp; omega]
    exact held_first hsel hs hc hn h0 (fun listed' a' w' hL => seqB_ready hL.1) inv hr' hf hkn hS hst _
      (wpH_lexm hsel hs hc hn hS hl2 hn2 hmn l (k + 1) _ _ (fun j hj => by have := hl (j + 1) (by simp; omega); simpa [Nat.add_assoc, Nat.add_comm 1 j] using this) (by simp only [List.length_cons] at hk; omega) (inv.set hr' hkn) hB' hK)

/-- The region: its first m operations keep their values while S holds; operation m makes memory and keeps S; n2 more keep their values while S holds; the others come behind, in their order. -/
theorem wp_region_held_mid {id : Nat} {a : Act} {w : World} {l : List Oper} (S : World → Prop) (m n2 : Nat) (hm : P.follows .mixedOrders = true) (hB : lexMidB .any l.toArray m n2 = true) (hS : S w.drew)
    (h : wpHeld P l.toArray S (fun a' => wpOp P l.toArray (Calm Q) m (fun a'' w'' => S w'' ∧ wpHeld P l.toArray S (fun a3 => wpList P l.toArray Q (l.drop (m + 1 + n2)) a3 w'') ((l.drop (m + 1)).take n2) a'') a' w.drew) (l.take m) a) : (Code.region id l.toArray true).wp P Q a w := by
  simp only [lexMidB, Bool.and_eq_true, decide_eq_true_eq] at hB
  obtain ⟨⟨⟨⟨hsel, hn⟩, hs⟩, hc⟩, hlex⟩ := hB
  have hn' : m + 1 + n2 < l.length := by simpa using hn
  have htl : (l.take m).length = m := by simp; omega
  have hdl : (l.drop (m + 1 + n2)).length = l.toArray.size - (m + 1 + n2) := by simp
  have inv0 : HeadInv .any l.toArray (m + 1 + n2) (Array.replicate l.toArray.size false) :=
    ⟨by simp, fun j oj _ hl => (by rw [getD_replicate_false] at hl; cases hl), fun t _ ht => getD_in (by simpa using ht) (getD_replicate_false _ _)⟩
  have H := wpH_lexm (Q := Q) (g := l.toArray.size - (m + 1 + n2)) (w := w.drew) (S := S) (n := m + 1 + n2) (m := m) (n2 := n2) (l2 := (l.drop (m + 1)).take n2) (Lq := fun a'' w'' => wpList P l.toArray Q (l.drop (m + 1 + n2)) a'' w'') hsel hs hc hn hS
    (fun j hj => by
      have hj' : j < n2 := by simp at hj; omega
      rw [List.getElem?_take_of_lt hj', List.getElem?_drop]
      simp)
    (by simp; omega) rfl (l.take m) 0 _ a (fun j hj => by
    have hj' : j < m := by rw [htl] at hj; exact hj
    simp [hj']) (by rw [htl]; omega) inv0 (by rw [htl]; exact hlex) h
  refine wp_region_any hm ?_
  have := any_of_wpH (Q := Q) (g := l.toArray.size - (m + 1 + n2)) (fun listed a' w' hL => by
    have := wpAny_of_seq (md := .any) (Q' := Q) (l.drop (m + 1 + n2)) (m + 1 + n2) listed a' w' (fun j => by simp [List.getElem?_drop]) (by rw [hdl]; exact hL.1) hL.2
    rwa [hdl] at this) _ _ _ _ H
  rw [htl, show m + (n2 + 1) + (l.toArray.size - (m + 1 + n2)) = l.toArray.size by omega] at this
  exact this
end
end Go.Proofs.YtkapbkkbkfmidaaDoor
