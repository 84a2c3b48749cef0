/-
  Texts put together: Sched3, StA, SlP, Pairs, SpaceA, SpaceB, SpaceRMay, SpaceTot, StB.
-/
import Derived.Test.YtphhnhldbajaoaaGreatDoorMg10
import Derived.Test.YtphhnhldbajaoaaGreatDoorMg0
import Derived.Deep.RegionLaw
import Derived.Maps.AppendAt
import Derived.Deep.Upon
import Derived.Deep.RegionHeld3
import Derived.Deep.QuietTactic
import Derived.BigQuiet
import Derived.Lib.Hide
namespace Go.Proofs.YtphhnhldbajaoaaGreatDoor
open Go

/-- A tree of schedules. -/
inductive Sch where
  | nil
  | quiet (i : Nat) (r : Sch)
  | make (i : Nat) (r : Sch)
  | two (i j : Nat) (r q : Sch)
def Sch.depth : Sch → Nat
  | .nil => 0
  | .quiet _ r => r.depth + 1
  | .make _ r => r.depth + 1
  | .two _ _ r _ => r.depth + 1

section
variable {P : Program} {ops : Array Oper} {Q : Exit → Act → World → Prop}

def wpTr (P : Program) (ops : Array Oper) (Q : Exit → Act → World → Prop) (Lq : Act → World → Prop) : Sch → (World → Prop) → Act → World → Prop
  | .nil, _, a, w => Lq a w
  | .quiet i r, S, a, w => ∃ o a1, ops[i]? = some o ∧ (∀ W, S W → if Region.wanted o (yielded ops a.tmps) then o.still P a W (fun a' => a' = a1) else a.put o.dst undef = a1) ∧ wpTr P ops Q Lq r S a1 w
  | .make i r, S, a, w => wpOp P ops (Calm Q) i (fun a' w' => ∃ S' : World → Prop, (∀ W, S' W → S W) ∧ S' w' ∧ wpTr P ops Q Lq r S' a' w') a w
  | .two i j r q, S, a, w => wpOp P ops (Calm Q) i (fun a' w' => ∃ S' : World → Prop, (∀ W, S' W → S W) ∧ S' w' ∧ wpTr P ops Q Lq r S' a' w') a w ∧ wpOp P ops (Calm Q) j (fun a' w' => ∃ S' : World → Prop, (∀ W, S' W → S W) ∧ S' w' ∧ wpTr P ops Q Lq q S' a' w') a w
def trB (ops : Array Oper) (g n : Nat) : Sch → Array Bool → Bool
  | .nil, listed => Region.seqB .any ops g n listed
  | .quiet i r, listed => (Region.ready .any ops listed).contains i && Region.free .any ops listed i && decide (i < n) && trB ops g n r (listed.setIfInBounds i true)
  | .make i r, listed => decide (Region.ready .any ops listed = [i]) && decide (i < n) && trB ops g n r (listed.setIfInBounds i true)
  | .two i j r q, listed => decide (Region.ready .any ops listed = [i, j]) && decide (i < n ∧ j < n ∧ q.depth = r.depth) && trB ops g n r (listed.setIfInBounds i true) && trB ops g n q (listed.setIfInBounds j true)
def treeB (ops : Array Oper) (n : Nat) (sch : Sch) : Bool :=
  Region.noSelect ops && decide (n < ops.size) && Region.sinkB .any ops n && Region.chainB .any ops n && decide (sch.depth = n) && trB ops (ops.size - n) n sch (Array.replicate ops.size false)

theorem wpX_of_tr {n g : Nat} {Lq : Act → World → Prop} (hsel : Region.noSelect ops = true) (hs : Region.sinkB .any ops n = true) (hc : Region.chainB .any ops n = true) (hn : n < ops.size) :
    ∀ (sch : Sch) (S : World → Prop) (listed : Array Bool) (a : Act) (w : World), HeadInv .any ops n listed → S w → trB ops g n sch listed = true → wpTr P ops Q Lq sch S a w →
    wpX P ops Q n (fun listed' a' w' => Region.seqB .any ops g n listed' = true ∧ Lq a' w') sch.depth S listed a w
  | .nil, _, listed, a, w, _, _, hB, h => ⟨hB, h⟩
  | .quiet i r, S, listed, a, w, inv, hS, hB, h => by
    rw [trB, Bool.and_eq_true, Bool.and_eq_true, Bool.and_eq_true] at hB
    obtain ⟨⟨⟨hr, hf⟩, hin⟩, hB'⟩ := hB
    have hr' : i ∈ Region.ready .any ops listed := by simpa using hr
    have hin' : i < n := of_decide_eq_true hin
    obtain ⟨o, a1, h0, hst, hK⟩ := h
    have hst' : ∀ W, S W → ∃ v', YieldsAt P ops W o v' a ∧ a.put o.dst v' = a1 := fun W hW => by
      have := hst W hW
      exact yieldsAt_of_stOp (i := i) h0 (by unfold stOp; simp only [h0]; exact this)
    obtain ⟨v, _, hv⟩ := hst' w hS
    subst hv
    exact wpX_first h0 (Region.noSelect_spec hsel) hs hc hn hin' (fun listed' a' w' hL => seqB_ready hL.1) r.depth S listed a w v inv (Region.free_spec h0 hf) hr' hS hst'
      (wpX_of_tr hsel hs hc hn r S _ _ w (inv.set hr' hin') hS hB' hK)
  | .make i r, S, listed, a, w, inv, hS, hB, h => by
    rw [trB, Bool.and_eq_true, Bool.and_eq_true] at hB
    obtain ⟨⟨hr, hin⟩, hB'⟩ := hB
    have hr1 : Region.ready .any ops listed = [i] := of_decide_eq_true hr
    have hin' : i < n := of_decide_eq_true hin
    refine ⟨fun h => (by rw [hr1] at h; cases h), fun j hj => ?_⟩
    have hji : j = i := by rw [hr1] at hj; simpa using hj
    subst hji
    refine ⟨hin', ?_⟩
    have h' : wpOp P ops (Calm Q) j (fun a' w' => ∃ S' : World → Prop, (∀ W, S' W → S W) ∧ S' w' ∧ wpTr P ops Q Lq r S' a' w') a w := h
    refine wpOp_mono (fun a' w' ⟨S', hm, hS', h3⟩ => ⟨S', hm, hS', ?_⟩) h'
    exact wpX_of_tr hsel hs hc hn r S' _ a' w' (inv.set hj hin') hS' hB' h3
  | .two i k r q, S, listed, a, w, inv, hS, hB, h => by
    rw [trB, Bool.and_eq_true, Bool.and_eq_true, Bool.and_eq_true] at hB
    obtain ⟨⟨⟨hr, hin⟩, hB1⟩, hB2⟩ := hB
    have hr1 : Region.ready .any ops listed = [i, k] := of_decide_eq_true hr
    obtain ⟨hi, hk, hd⟩ := of_decide_eq_true hin
    obtain ⟨h1, h2⟩ : wpOp P ops (Calm Q) i (fun a' w' => ∃ S' : World → Prop, (∀ W, S' W → S W) ∧ S' w' ∧ wpTr P ops Q Lq r S' a' w') a w ∧ wpOp P ops (Calm Q) k (fun a' w' => ∃ S' : World → Prop, (∀ W, S' W → S W) ∧ S' w' ∧ wpTr P ops Q Lq q S' a' w') a w := h
    refine ⟨fun h => (by rw [hr1] at h; cases h), fun j hj => ?_⟩
    have hji : j = i ∨ j = k := by rw [hr1] at hj; simpa using hj
    rcases hji with rfl | rfl
    · refine ⟨hi, wpOp_mono (fun a' w' ⟨S', hm, hS', h3⟩ => ⟨S', hm, hS', ?_⟩) h1⟩
      exact wpX_of_tr hsel hs hc hn r S' _ a' w' (inv.set hj hi) hS' hB1 h3
    · refine ⟨hk, wpOp_mono (fun a' w' ⟨S', hm, hS', h3⟩ => ⟨S', hm, hS', ?_⟩) h2⟩
      have := wpX_of_tr hsel hs hc hn q S' _ a' w' (inv.set hj hk) hS' hB2 h3
      rw [hd] at this
      exact this

theorem wpTr_nil {Lq : Act → World → Prop} {S : World → Prop} {a : Act} {w : World} (h : Lq a w) : wpTr P ops Q Lq .nil S a w := h
/-- An operation that only reads. -/
theorem wpTr_step {l : List Oper} {Lq : Act → World → Prop} {S : World → Prop} {i : Nat} {o : Oper} {r : Sch} {a a1 : Act} {w : World} (hi : l[i]? = some o)
    (h : ∀ W, S W → ∀ K : Act → Prop, (∀ a', a' = a1 → K a') → if Region.wanted o (yielded l.toArray a.tmps) then o.still P a W K else K (a.put o.dst undef))
    (h2 : wpTr P l.toArray Q Lq r S a1 w) : wpTr P l.toArray Q Lq (.quiet i r) S a w :=
  ⟨o, a1, by simpa using hi, fun W hS => h W hS (fun a' => a' = a1) (fun _ h => h), h2⟩
/-- One that makes memory: S may say more behind it. -/
theorem wpTr_make {l : List Oper} {Lq : Act → World → Prop} {S : World → Prop} {i : Nat} {o : Oper} {r : Sch} {a : Act} {w : World} (hi : l[i]? = some o)
    (h : ∀ K' : Act → World → Prop, (∀ a' w' (S' : World → Prop), (∀ W, S' W → S W) → S' w' → wpTr P l.toArray Q Lq r S' a' w' → K' a' w') → if Region.wanted o (yielded l.toArray a.tmps) then o.wp P a w K' (Calm Q) else K' (a.put o.dst undef) w) :
    wpTr P l.toArray Q Lq (.make i r) S a w :=
  wpOp_step hi (fun K' hK => h K' (fun a' w' S' h1 h2 h3 => hK a' w' ⟨S', h1, h2, h3⟩))
/-- Two that make memory, either of which may come first. -/
theorem wpTr_two {l : List Oper} {Lq : Act → World → Prop} {S : World → Prop} {i j : Nat} {o p : Oper} {r q : Sch} {a : Act} {w : World} (hi : l[i]? = some o) (hj : l[j]? = some p)
    (h : ∀ K' : Act → World → Prop, (∀ a' w' (S' : World → Prop), (∀ W, S' W → S W) → S' w' → wpTr P l.toArray Q Lq r S' a' w' → K' a' w') → if Region.wanted o (yielded l.toArray a.tmps) then o.wp P a w K' (Calm Q) else K' (a.put o.dst undef) w)
    (h2 : ∀ K' : Act → World → Prop, (∀ a' w' (S' : World → Prop), (∀ W, S' W → S W) → S' w' → wpTr P l.toArray Q Lq q S' a' w' → K' a' w') → if Region.wanted p (yielded l.toArray a.tmps) then p.wp P a w K' (Calm Q) else K' (a.put p.dst undef) w) :
    wpTr P l.toArray Q Lq (.two i j r q) S a w :=
  ⟨wpOp_step hi (fun K' hK => h K' (fun a' w' S' h1 h2 h3 => hK a' w' ⟨S', h1, h2, h3⟩)), wpOp_step hj (fun K' hK => h2 K' (fun a' w' S' h1 h2 h3 => hK a' w' ⟨S', h1, h2, h3⟩))⟩
/-- The region by its tree: n operations, and a tail in its order. -/
theorem wp_region_tree {id : Nat} {a : Act} {w : World} {l : List Oper} (S : World → Prop) (n : Nat) (sch : Sch) (hm : P.follows .mixedOrders = true) (hB : treeB l.toArray n sch = true) (hS : S w.drew)
    (h : wpTr P l.toArray Q (fun a' w' => wpList P l.toArray Q (l.drop n) a' w') sch S a w.drew) : (Code.region id l.toArray true).wp P Q a w := by
  simp only [treeB, Bool.and_eq_true, decide_eq_true_eq] at hB
  obtain ⟨⟨⟨⟨⟨hsel, hn⟩, hs⟩, hc⟩, hlen⟩, hlex⟩ := hB
  have hn' : n < l.length := by simpa using hn
  have hdl : (l.drop n).length = l.toArray.size - n := by simp
  have inv0 : HeadInv .any l.toArray n (Array.replicate l.toArray.size false) :=
    ⟨by simp, fun j oj _ hl => (by rw [getD_replicate_false] at hl; cases hl), fun t _ ht => getD_in (by simpa using ht) (getD_replicate_false _ _)⟩
  have H := wpX_of_tr (Q := Q) (g := l.toArray.size - n) (Lq := fun a'' w'' => wpList P l.toArray Q (l.drop n) a'' w'') hsel hs hc hn sch S _ a w.drew inv0 hS hlex h
  refine wp_region_any hm ?_
  have := any_of_wpX (Q := Q) (g := l.toArray.size - n) (fun listed a' w' hL => by
    have := wpAny_of_seq (md := .any) (Q' := Q) (l.drop n) n listed a' w' (fun j => by simp [List.getElem?_drop]) (by rw [hdl]; exact hL.1) hL.2
    rwa [hdl] at this) _ _ _ _ _ H
  rw [hlen, show n + (l.toArray.size - n) = l.toArray.size by omega] at this
  exact this
end
end Go.Proofs.YtphhnhldbajaoaaGreatDoor

namespace Go.Proofs.YtphhnhldbajaoaaGreatDoor
open Go Go.RowKit Go.ChangeShapes Go.WideShapes Go.ChangeAt

/-- A store's fields. -/
structure StoV where
  db : Nat
  pol : PolD
  txg : Int
  v0 : Value
  v1 : Value
  av : Value
  m : Nat
  cv : Value
  h0 : Int
  h1 : Int
  h2 : Int
def StoV.cells (x : StoV) : Array Value := #[.pointer (some ⟨x.db, 0, none⟩), .bool x.pol.mf, .bool x.pol.mi, .int .i64 x.pol.small, .int .i64 x.pol.arc, .int .i64 x.pol.second, .int .i64 x.txg, x.v0, x.v1, x.av, .map (some x.m), x.cv, .int .i64 x.h0, .int .i64 x.h1, .int .i64 x.h2]
abbrev StoB (w : World) (s : Nat) (x : StoV) : Prop := Box w s 93 x.cells
set_option maxRecDepth 100000 in
theorem smade_nil (w : World) : Calls Tryz.prog 41 #[.pointer none] w fun e w' => e = .returned (.bool false) ∧ w = w' := by
  go_enter Tryz.func41, Tryz.ntmps41
  go_wp2
  go_ret
  exact ⟨rfl, rfl⟩
set_option maxRecDepth 100000 in
theorem smade_any (s : Nat) (x : StoV) (w : World) (h : StoB w s x) : Calls Tryz.prog 41 #[.pointer (some ⟨s, 0, none⟩)] w fun e w' => e = .returned (.bool true) ∧ w = w' := by
  have c0 : w.cell? ⟨s, 0, none⟩ = some (.pointer (some ⟨x.db, 0, none⟩)) := h.cell 0 _ rfl
  clear h
  go_enter Tryz.func41, Tryz.ntmps41
  go_wp2
  go_ret
  exact ⟨rfl, rfl⟩
set_option maxRecDepth 100000 in
theorem sdevs_nil (w : World) : Calls Tryz.prog 21 #[.pointer none] w fun e w' => e = .returned (.pointer none) ∧ w = w' := by
  go_enter Tryz.func21, Tryz.ntmps21
  go_wp2_with fail
  refine (smade_nil _).mono ?_
  rintro e w1 ⟨rfl, rfl⟩
  go_wp2
  go_ret
  exact ⟨rfl, rfl⟩
set_option maxRecDepth 100000 in
theorem shits_nil (w : World) : Calls Tryz.prog 29 #[.pointer none] w fun e w' => e = .returned (.tuple #[.int .i64 0, .int .i64 0, .int .i64 0]) ∧ w = w' := by
  go_enter Tryz.func29, Tryz.ntmps29
  go_wp2_with fail
  refine (smade_nil _).mono ?_
  rintro e w1 ⟨rfl, rfl⟩
  go_wp2
  go_ret3
  exact ⟨rfl, rfl⟩
set_option maxRecDepth 100000 in
set_option maxHeartbeats 1000000 in
theorem shits_any (s : Nat) (x : StoV) (w : World) (h : StoB w s x) : Calls Tryz.prog 29 #[.pointer (some ⟨s, 0, none⟩)] w fun e w' => e = .returned (.tuple #[.int .i64 x.h0, .int .i64 x.h1, .int .i64 x.h2]) ∧ Below w.heap.size w w' := by
  have HD := Lib.hid (smade_any s x w h)
  have c0 : w.cell? ⟨s, 12, none⟩ = some (.int .i64 x.h0) := h.cell 12 _ rfl
  have c1 : w.cell? ⟨s, 13, none⟩ = some (.int .i64 x.h1) := h.cell 13 _ rfl
  have c2 : w.cell? ⟨s, 14, none⟩ = some (.int .i64 x.h2) := h.cell 14 _ rfl
  have HB : Hid (Below w.heap.size w w.drew) := (Below.refl _ _).drew
  clear h
  go_enter Tryz.func29, Tryz.ntmps29
  go_wp2_with fail
  refine HD.out.mono ?_
  rintro e w1 ⟨rfl, rfl⟩
  go_wp2_with fail
  refine wp_region_tree (fun W => W.cell? ⟨s, 12, none⟩ = some (.int .i64 x.h0) ∧ W.cell? ⟨s, 13, none⟩ = some (.int .i64 x.h1) ∧ W.cell? ⟨s, 14, none⟩ = some (.int .i64 x.h2)) 17 (.quiet 0 (.quiet 1 (.quiet 2 (.quiet 3 (.quiet 4 (.quiet 5 (.quiet 6 (.quiet 7 (.quiet 8 (.quiet 9 (.quiet 10 (.quiet 11 (.quiet 12 (.quiet 13 (.quiet 14 (.quiet 15 (.quiet 16 .nil))))))))))))))))) (by kernel_rfl) (by kernel_rfl) ⟨c0, c1, c2⟩ ?_
  simp only [List.drop_succ_cons, List.drop_zero]
  iterate 17 (apply wpTr_step rfl; (intro W hS K hK; obtain ⟨y0, y1, y2⟩ := hS; go_simp; exact hK _ rfl))
  refine wpTr_nil ?_
  clear c0 c1 c2
  go_wp2
  go_ret3
  exact ⟨rfl, HB.out⟩
/-- How many sectors of Fast are the second cache's. -/
def regionS (x : StoV) (d : DevD) : Int := if x.pol.second < 2 ∨ (devSize d 1 : Int) - 4 < x.pol.second then 0 else x.pol.second
section
variable {B : Nat} {P : List Nat → World → Prop} {s : Nat} {x : StoV} {d : DevD} {w : World}
set_option maxRecDepth 100000 in
theorem sregion_any (h : StoB w s x) (ho : One B P x.db d w) (hz : devSize d 1 ≤ 100000) : Calls Tryz.prog 68 #[.pointer (some ⟨s, 0, none⟩)] w fun e w' => e = .returned (.int .i64 (regionS x d)) ∧ w = w' := by
  have c0 : w.cell? ⟨s, 0, none⟩ = some (.pointer (some ⟨x.db, 0, none⟩)) := h.cell 0 _ rfl
  have c5 : w.cell? ⟨s, 5, none⟩ = some (.int .i64 x.pol.second) := h.cell 5 _ rfl
  have HD := Lib.hid (one_size ho 1)
  obtain ⟨R, hR⟩ : ∃ R, R = regionS x d := ⟨_, rfl⟩
  rw [← hR]
  have HR := Lib.hid hR
  clear h ho hR
  by_cases h2 : x.pol.second < 2
  · have HE : Hid (R = 0) := by show _ = _; rw [HR.out]; exact if_pos (.inl h2)
    clear HR
    go_enter Tryz.func68, Tryz.ntmps68
    go_wp2
    go_ret
    rw [HE.out]
    exact ⟨rfl, rfl⟩
  · go_enter Tryz.func68, Tryz.ntmps68
    go_wp2_with fail
    refine HD.out.mono ?_
    rintro e w1 ⟨rfl, rfl⟩
    obtain ⟨z, hzz⟩ : ∃ z : Nat, z = devSize d 1 := ⟨_, rfl⟩
    rw [← hzz] at hz ⊢
    have HZ := Lib.hid hzz
    clear hzz
    by_cases h3 : (z : Int) - 4 < x.pol.second
    · have HE : Hid (R = 0) := by show _ = _; rw [HR.out]; exact if_pos (.inr (by rw [← HZ.out]; exact h3))
      clear HR
      go_wp2
      go_ret
      rw [HE.out]
      exact ⟨rfl, rfl⟩
    · have HE : Hid (R = x.pol.second) := by show _ = _; rw [HR.out]; exact if_neg (by rw [← HZ.out]; omega)
      clear HR
      go_wp2
      go_ret
      rw [HE.out]
      exact ⟨rfl, rfl⟩
end
end Go.Proofs.YtphhnhldbajaoaaGreatDoor

namespace Go.Proofs.YtphhnhldbajaoaaGreatDoor
open Go.RowKit

/-- A slice of pairs of ints. -/
def SlP (w : World) (a : Option Addr) (l : List (Int × Int)) : Prop :=
  l ≠ [] → ∃ b off, a = some ⟨b, off, none⟩ ∧ b < w.heap.size ∧
    ∀ i x, l[i]? = some x → w.cell? ⟨b, off + i * 2, none⟩ = some (.int .i64 x.1) ∧ w.cell? ⟨b, off + i * 2 + 1, none⟩ = some (.int .i64 x.2)
theorem SlP.nil {w : World} {a : Option Addr} : SlP w a [] := fun h => absurd rfl h
theorem SlP.keep {w w' : World} {a : Option Addr} {l : List (Int × Int)} (h : SlP w a l) (hb : Below w.heap.size w w') : SlP w' a l := by
  intro hne
  obtain ⟨b, off, e, hl, hc⟩ := h hne
  exact ⟨b, off, e, Nat.lt_of_lt_of_le hl hb.size, fun i x hx => ⟨by rw [hb.cell hl]; exact (hc i x hx).1, by rw [hb.cell hl]; exact (hc i x hx).2⟩⟩
theorem SlP.get {w : World} {a : Option Addr} {l : List (Int × Int)} (h : SlP w a l) (i : Nat) (hi : i < l.length) :
    ∃ b off, a = some ⟨b, off, none⟩ ∧ b < w.heap.size ∧ w.cell? ⟨b, off + i * 2, none⟩ = some (.int .i64 (l[i]).1) ∧ w.cell? ⟨b, off + i * 2 + 1, none⟩ = some (.int .i64 (l[i]).2) := by
  obtain ⟨b, off, e, hl, hc⟩ := h (by intro h; rw [h] at hi; simp at hi)
  exact ⟨b, off, e, hl, hc i _ (List.getElem?_eq_getElem hi)⟩
end Go.Proofs.YtphhnhldbajaoaaGreatDoor

namespace Go.Proofs.YtphhnhldbajaoaaGreatDoor
open Go.RowKit

def PrVS (x : Int × Int) : List Value := [.int .i64 x.1, .int .i64 x.2]
/-- A type of two ints. -/
def Two (e : TypeId) : Prop := (Tryz.prog.info? e).map (fun i => (i.zero, i.size, i.bytes)) = some (some (.agg #[.int .i64 0, .int .i64 0]), 2, 16)

/-- The value v is a slice of the call's own that holds the pairs l. -/
def PrsS (e : TypeId) (w : World) (base : Nat) (v : Value) (l : List (Int × Int)) : Prop := w.ownsRow base e 2 v l.length (l.flatMap PrVS)
theorem PrsS.nil (e : TypeId) (w : World) (base : Nat) : PrsS e w base (.slice none 0 0) [] := World.ownsRow_nil _ _ _ _
theorem PrsS.base {e : TypeId} {w : World} {b b' : Nat} {v : Value} {l : List (Int × Int)} (h : PrsS e w b v l) (hb : b' ≤ b) : PrsS e w b' v l := by
  refine ⟨h.1, ?_⟩
  rcases h.2 with h | ⟨g, cap, cur, h1, h2, h3⟩
  · exact .inl h
  · exact .inr ⟨g, cap, cur, h1, Nat.le_trans hb h2, h3⟩
theorem PrsS.keep {e : TypeId} {w w' : World} {base : Nat} {v : Value} {l : List (Int × Int)} (h : PrsS e w base v l) (hb : Below w.heap.size w w') : PrsS e w' base v l :=
  ownsRow_of h fun k _ hlt => hb.block k hlt
theorem PrsS.view {e : TypeId} {w : World} {base : Nat} {v : Value} {l : List (Int × Int)} (h : PrsS e w base v l) :
    (v = .slice none 0 0 ∧ l = []) ∨ ∃ g cap, v = .slice (some ⟨g, 0, none⟩) l.length cap ∧ l.length ≤ cap ∧ cap ≤ maxLen ∧ base ≤ g ∧ g < w.heap.size ∧ ∀ j u, (l.flatMap PrVS)[j]? = some u → w.cell? ⟨g, j, none⟩ = some u := by
  have h' := h
  rcases h.2 with ⟨rfl, h0⟩ | ⟨g, cap, cur, rfl, hg, hh, hc, hm, _⟩
  · exact .inl ⟨rfl, List.eq_nil_of_length_eq_zero h0⟩
  · refine .inr ⟨g, cap, rfl, hc, hm, hg, lt_of_block hh, fun j u hj => ?_⟩
    have hlt : j < (l.flatMap PrVS).length := (List.getElem?_eq_some_iff.1 hj).1
    rw [World.ownsRow.cellAt h' j (by rw [h.1] at hlt; exact hlt)]
    exact hj
theorem slP_flat {w : World} {g : Nat} {l : List (Int × Int)} (hlt : g < w.heap.size) (h : ∀ j u, (l.flatMap PrVS)[j]? = some u → w.cell? ⟨g, j, none⟩ = some u) : SlP w (some ⟨g, 0, none⟩) l := by
  intro _
  refine ⟨g, 0, rfl, hlt, fun i x hx => ?_⟩
  have h0 := flat_get PrVS 2 (fun _ => rfl) l i x hx 0 (by decide)
  have h1 := flat_get PrVS 2 (fun _ => rfl) l i x hx 1 (by decide)
  constructor
  · rw [Nat.zero_add]; exact h _ _ h0
  · rw [Nat.zero_add]; exact h _ _ h1
theorem PrsS.slP {e : TypeId} {w : World} {base : Nat} {v : Value} {l : List (Int × Int)} (h : PrsS e w base v l) : ∃ a cap, v = .slice a l.length cap ∧ l.length ≤ cap ∧ cap ≤ maxLen ∧ SlP w a l := by
  rcases h.view with ⟨rfl, rfl⟩ | ⟨g, cap, rfl, hc, hm, _, hlt, hcell⟩
  · exact ⟨none, 0, rfl, Nat.le_refl _, Nat.zero_le _, SlP.nil⟩
  · exact ⟨some ⟨g, 0, none⟩, cap, rfl, hc, hm, slP_flat hlt hcell⟩
/-- A slice's cells, from its k-th element on. -/
theorem SlP.cellsS {w : World} {a : Option Addr} {l : List (Int × Int)} (h : SlP w a l) (hne : l ≠ []) : ∃ b off, a = some ⟨b, off, none⟩ ∧ b < w.heap.size ∧ ∀ j u, (l.flatMap PrVS)[j]? = some u → w.cell? ⟨b, off + j, none⟩ = some u := by
  obtain ⟨b, off, rfl, hlt, hc⟩ := h hne
  refine ⟨b, off, rfl, hlt, fun j u hj => ?_⟩
  have hlen := flat_len PrVS 2 (fun _ => rfl) l
  have hj' : j < l.length * 2 := by rw [← hlen]; exact (List.getElem?_eq_some_iff.1 hj).1
  have hi : j / 2 < l.length := by omega
  have hx := List.getElem?_eq_getElem hi
  have hm : j = j / 2 * 2 + j % 2 := by omega
  have hf := flat_get PrVS 2 (fun _ => rfl) l (j / 2) _ hx (j % 2) (by omega)
  rw [← hm, hj] at hf
  have h2 := hc (j / 2) _ hx
  rcases (show j % 2 = 0 ∨ j % 2 = 1 by omega) with e | e
  · rw [e] at hf hm
    simp [PrVS] at hf
    rw [hm, hf, Nat.add_zero, h2.1]
  · rw [e] at hf hm
    simp [PrVS] at hf
    rw [hm, hf, ← Nat.add_assoc, h2.2]
/-- 'append(out, x...)' of pairs. -/
theorem wp_prs_app {t e : TypeId} (ht : Tryz.prog.underlying t = some (.slice e)) (he : Two e) {ops : Array Oper} {rest : List Oper} {o : Oper} {a : Act} {Q : Exit → Act → World → Prop} (W : World) (hgd : o.guard = none) (s x : Operand)
    (ho : o.op = .call { callee := .builtin .append, args := #[s, x], argTypes := #[t, t] })
    (base : Nat) (v : Value) (l : List (Int × Int)) (hs : a.eval s = v) (hb : PrsS e W base v l)
    (ad : Addr) (c : Nat) (ps : List (Int × Int)) (hx : a.eval x = .slice (some ad) ps.length c) (hcell : ∀ j u, (ps.flatMap PrVS)[j]? = some u → W.cell? (ad.add j) = some u)
    (hbytes : l.length + ps.length ≤ 100000) (hbase : base ≤ W.heap.size)
    (h : ∀ v' w', PrsS e w' base v' (l ++ ps) → W.grownBy w' v.ownBlock → wpList Tryz.prog ops Q rest (a.put o.dst v') w') : wpList Tryz.prog ops Q (o :: rest) a W := by
  obtain ⟨i0, hi, hz0, hz1, hz2⟩ := info_parts he
  refine wpList_append_own W hgd s x t ho base e i0 (.agg #[.int .i64 0, .int .i64 0]) 2 16 ht hi hz0 hz1 hz2 rfl (by decide) v l.length _ hs hb ad ps.length c (ps.flatMap PrVS) hx (flat_len PrVS 2 (fun _ => rfl) ps) hcell ?_ (by unfold maxLen; omega) (by omega) hbase ?_
  · intro u hu
    simp only [List.mem_flatMap] at hu
    obtain ⟨y, _, hy⟩ := hu
    simp [PrVS] at hy
    rcases hy with rfl | rfl <;> rfl
  · intro v' w' h1 h2 _
    refine h v' w' ?_ h2
    unfold PrsS
    rw [List.flatMap_append, List.length_append]
    exact h1
theorem below_grow {w w' : World} {base : Nat} {e : TypeId} {v : Value} {l : List (Int × Int)} {a : World} (h : Below base a w) (hg : w.grownBy w' v.ownBlock) (hr : PrsS e w base v l) (hb : base ≤ w.heap.size) : Below base a w' :=
  h.grown hg hb fun k hk => (World.ownsRow.lt hr k hk).1
end Go.Proofs.YtphhnhldbajaoaaGreatDoor

namespace Go.Proofs.YtphhnhldbajaoaaGreatDoor
open Go.RowKit Go.ChangeShapes Go.WideShapes Go.ChangeAt
theorem two_S : Two 139 := by unfold Two; kernel_rfl
theorem snoc_take {α : Type} (l : List α) (k : Nat) (h : k < l.length) : l.take (k + 1) = l.take k ++ [l[k]] := List.take_succ_eq_append_getElem h

end Go.Proofs.YtphhnhldbajaoaaGreatDoor

namespace Go.Proofs.YtphhnhldbajaoaaGreatDoor
open Go.RowKit Go.ChangeShapes Go.WideShapes Go.ChangeAt

def spmayF : Int → List (Int × Int) → Bool
  | _, [] => true
  | m, x :: r => decide (m ≤ x.1 ∧ 1 ≤ x.2 ∧ x.2 ≤ 1073741824 - x.1) && spmayF (x.1 + x.2 + 1) r
def mayL (l : List (Int × Int)) : Bool := spmayF 0 l
/-- Both lie in the range of ints. -/
def WfP (l : List (Int × Int)) : Prop := ∀ x ∈ l, (Lit.int .i64 x.1).wf = true ∧ (Lit.int .i64 x.2).wf = true
theorem may_bad {m : Int} {l : List (Int × Int)} {k : Nat} (h : k < l.length) (hb : ¬ (m ≤ l[k].1 ∧ 1 ≤ l[k].2 ∧ l[k].2 ≤ 1073741824 - l[k].1)) : spmayF m (l.drop k) = false := by
  rw [List.drop_eq_getElem_cons h, spmayF, decide_eq_false hb, Bool.false_and]
theorem may_good {m : Int} {l : List (Int × Int)} {k : Nat} (h : k < l.length) (hb : m ≤ l[k].1 ∧ 1 ≤ l[k].2 ∧ l[k].2 ≤ 1073741824 - l[k].1) : spmayF m (l.drop k) = spmayF (l[k].1 + l[k].2 + 1) (l.drop (k + 1)) := by
  rw [List.drop_eq_getElem_cons h, spmayF, decide_eq_true hb, Bool.true_and]
theorem i64_lo {n : Int} (h : (Lit.int .i64 n).wf = true) : -9223372036854775808 ≤ n ∧ n ≤ 9223372036854775807 := by
  have h2 : IntKind.i64.min ≤ n ∧ n ≤ IntKind.i64.max := by simpa [Lit.wf] using h
  rw [show IntKind.i64.min = -9223372036854775808 from rfl, show IntKind.i64.max = 9223372036854775807 from rfl] at h2
  exact h2

theorem spend_any (x : Int × Int) (w : World) (a0 : 0 ≤ x.1) (a1 : x.1 ≤ 2147483647) (n0 : 0 ≤ x.2) (n1 : x.2 ≤ 2147483647) :
    Calls Tryz.prog 95 #[.agg #[.int .i64 x.1, .int .i64 x.2]] w fun e w' => e = .returned (.int .i64 (x.1 + x.2)) ∧ Below w.heap.size w w' := by
  obtain ⟨a, n⟩ := x
  simp only at a0 a1 n0 n1
  have B := Box.new w 139 #[.int .i64 a, .int .i64 n]
  have HL := Lib.hid ((Below.refl w.heap.size w).alloc (Nat.le_refl _) (.cells #[.int .i64 a, .int .i64 n] 139 (0, 0)))
  have k0 := B.cell 0 _ rfl
  have k1 := B.cell 1 _ rfl
  clear B
  go_enter Tryz.func95, Tryz.ntmps95
  go_wp2
  go_ret
  exact ⟨rfl, HL.out⟩

set_option maxRecDepth 100000 in
set_option maxHeartbeats 1000000 in
theorem may_any (a : Option Addr) (cap : Nat) (l : List (Int × Int)) (w : World) (h : SlP w a l) (hl : l.length ≤ 1000) (hw : WfP l) :
    Calls Tryz.prog 90 #[.slice a l.length cap] w fun e w' => e = .returned (.bool (mayL l)) ∧ Below w.heap.size w w' := by
  have H := Lib.hid h
  have HW := Lib.hid hw
  clear h hw
  obtain ⟨r, hr⟩ : ∃ r, mayL l = r := ⟨_, rfl⟩
  rw [hr]
  have HR := Lib.hid hr
  clear hr
  go_enter Tryz.func90, Tryz.ntmps90
  go_wp2
  go_loopw [3, 8] (fun m i wr => ∃ (k : Nat) (least : Int), k ≤ l.length ∧ i = .int .i64 k ∧ m = .int .i64 least ∧ 0 ≤ least ∧ least ≤ 1073741825 ∧ Hid (spmayF least (l.drop k) = r) ∧ Hid (Below w.heap.size w wr)) (fun _ i _ => l.length - (intOf i).toNat)
  case atStart => exact ⟨0, 0, Nat.zero_le _, rfl, rfl, by omega, by omega, HR.out, Below.refl _ _⟩
  case round =>
    obtain ⟨k, least, hk, rfl, rfl, hl0, hl1, HM, HL⟩ := hrel
    by_cases hlt : k < l.length
    · obtain ⟨b, off, rfl, hb, hc0, hc1⟩ := (H.out.keep HL.out).get k hlt
      have hwf := HW.out l[k] (List.getElem_mem hlt)
      have HB := Lib.hid (@may_bad least l k hlt)
      have HG := Lib.hid (@may_good least l k hlt)
      generalize l[k] = x at *
      obtain ⟨xa, xn⟩ := x
      simp only at hc0 hc1 hwf HB HG
      have BX := Box.new wr 139 #[.int .i64 xa, .int .i64 xn]
      have ha := (Below.refl wr.heap.size wr).alloc (Nat.le_refl _) (.cells #[.int .i64 xa, .int .i64 xn] 139 (0, 0))
      have HL2 := Lib.hid (HL.out.trans (ha.mono HL.out.size))
      have k0 := BX.cell 0 _ rfl
      have k1 := BX.cell 1 _ rfl
      clear ha BX HL hb
      have hwa := i64_lo hwf.1
      have hwn := i64_lo hwf.2
      by_cases c1 : xa < least
      · have HN := Lib.hid (show r = false by rw [← HM.out]; exact HB.out (by omega))
        clear hwf hwa hwn
        go_wp2
        go_ret
        exact ⟨ret_bool HN.out.symm, HL2.out⟩
      · by_cases c2 : xn < 1
        · have HN := Lib.hid (show r = false by rw [← HM.out]; exact HB.out (by omega))
          clear hwf hwa hwn
          go_wp2
          go_ret
          exact ⟨ret_bool HN.out.symm, HL2.out⟩
        · have g0 : IntKind.i64.wrap (1073741824 - xa) = 1073741824 - xa := IntWalk.i64_in _ ⟨by omega, by omega⟩
          have HWR := Lib.hid g0
          by_cases c3 : 1073741824 - xa < xn
          · have HN := Lib.hid (show r = false by rw [← HM.out]; exact HB.out (by omega))
            clear hwf hwa hwn
            go_wp2
            go_ret
            exact ⟨ret_bool HN.out.symm, HL2.out⟩
          · have HN := Lib.hid (show spmayF (xa + xn + 1) (l.drop (k + 1)) = r by rw [← HM.out]; exact (HG.out (by omega)).symm)
            have b1 : 0 ≤ xa := by omega
            have b2 : xa ≤ 1073741823 := by omega
            have b3 : 1 ≤ xn := by omega
            have b4 : xn ≤ 1073741824 := by omega
            have b5 : xa + xn ≤ 1073741824 := by omega
            clear hwf hwa hwn HB HG HM
            go_wp2_with fail
            refine (spend_any (xa, xn) _ b1 (by omega) (by omega) (by omega)).mono ?_
            rintro e w2 ⟨rfl, hb2⟩
            have HL3 := Lib.hid (HL2.out.trans (hb2.mono HL2.out.size))
            clear hb2 k0 k1 hc0 hc1 HL2 g0
            dsimp only
            go_wp2
            go_roundw
            case rel => exact ⟨k + 1, xa + xn + 1, by omega, by go_num, rfl, by omega, by omega, HN.out, HL3.out⟩
            case measure => simp [intOf]; omega
    · obtain rfl : k = l.length := by omega
      have HT := Lib.hid (show r = true by rw [← HM.out, List.drop_length]; rfl)
      go_wp2
      go_ret
      exact ⟨ret_bool HT.out.symm, HL.out⟩
end Go.Proofs.YtphhnhldbajaoaaGreatDoor

namespace Go.Proofs.YtphhnhldbajaoaaGreatDoor
open Go.RowKit Go.ChangeShapes Go.WideShapes Go.ChangeAt

end Go.Proofs.YtphhnhldbajaoaaGreatDoor

namespace Go.Proofs.YtphhnhldbajaoaaGreatDoor
open Go.RowKit Go.ChangeShapes Go.WideShapes Go.ChangeAt

def sumN : List (Int × Int) → Int
  | [] => 0
  | x :: r => x.2 + sumN r
def totL (l : List (Int × Int)) : Int := if mayL l = true then sumN l else 0
/-- A run that may be. -/
def MayR (x : Int × Int) : Prop := 0 ≤ x.1 ∧ 1 ≤ x.2 ∧ x.1 + x.2 ≤ 1073741824
theorem sumN_snoc (l : List (Int × Int)) (x : Int × Int) : sumN (l ++ [x]) = sumN l + x.2 := by
  induction l with
  | nil => simp [sumN]
  | cons y r ih => simp only [List.cons_append, sumN, ih]; omega
theorem may_mem {l : List (Int × Int)} : ∀ {m : Int}, 0 ≤ m → spmayF m l = true → ∀ x ∈ l, MayR x ∧ m ≤ x.1 := by
  induction l with
  | nil => intro m _ _ x hx; cases hx
  | cons y r ih =>
    intro m hm h x hx
    rw [spmayF, Bool.and_eq_true, decide_eq_true_eq] at h
    rcases List.mem_cons.1 hx with rfl | hx
    · unfold MayR; omega
    · have := ih (m := y.1 + y.2 + 1) (by omega) h.2 x hx
      unfold MayR at *
      omega
theorem sumN_bd {l : List (Int × Int)} (h : ∀ x ∈ l, MayR x) : 0 ≤ sumN l ∧ sumN l ≤ l.length * 1073741824 := by
  induction l with
  | nil => simp [sumN]
  | cons y r ih =>
    have h1 := ih fun x hx => h x (List.mem_cons_of_mem _ hx)
    have h2 := h y (List.mem_cons_self ..)
    unfold MayR at h2
    simp only [sumN, List.length_cons]
    omega

set_option maxRecDepth 100000 in
set_option maxHeartbeats 1000000 in
theorem total_any (a : Option Addr) (cap : Nat) (l : List (Int × Int)) (w : World) (h : SlP w a l) (hl : l.length ≤ 1000) (hw : WfP l) :
    Calls Tryz.prog 45 #[.slice a l.length cap] w fun e w' => e = .returned (.int .i64 (totL l)) ∧ Below w.heap.size w w' := by
  have H := Lib.hid h
  have HW := Lib.hid hw
  clear h hw
  cases hm : mayL l
  · have HT := Lib.hid (show totL l = 0 by unfold totL; rw [hm]; rfl)
    go_enter Tryz.func45, Tryz.ntmps45
    go_wp2_with fail
    refine (may_any a cap l _ H.out hl HW.out).mono ?_
    rintro e w1 ⟨rfl, hb⟩
    rw [hm]
    have HB := Lib.hid hb
    clear hb hm
    go_wp2
    go_ret
    exact ⟨ret_int HT.out.symm, HB.out⟩
  · have HT := Lib.hid (show totL l = sumN l by unfold totL; rw [hm]; rfl)
    have HR := Lib.hid (fun x hx => (may_mem (l := l) (m := 0) (by omega) hm x hx).1)
    go_enter Tryz.func45, Tryz.ntmps45
    go_wp2_with fail
    refine (may_any a cap l _ H.out hl HW.out).mono ?_
    rintro e w1 ⟨rfl, hb⟩
    rw [hm]
    have HB := Lib.hid hb
    clear hb hm
    go_wp2
    go_loopw [3, 11] (fun s i wr => ∃ k : Nat, k ≤ l.length ∧ i = .int .i64 k ∧ s = .int .i64 (sumN (l.take k)) ∧ Hid (Below w.heap.size w wr)) (fun _ i _ => l.length - (intOf i).toNat)
    case atStart => exact ⟨0, Nat.zero_le _, rfl, rfl, HB⟩
    case round =>
      obtain ⟨k, hk, rfl, rfl, HL⟩ := hrel
      by_cases hlt : k < l.length
      · obtain ⟨b, off, rfl, hb, hc0, hc1⟩ := (H.out.keep HL.out).get k hlt
        have HX := Lib.hid (HR.out _ (List.getElem_mem hlt))
        have HS := Lib.hid (show sumN (l.take (k + 1)) = sumN (l.take k) + l[k].2 by rw [snoc_take l k hlt, sumN_snoc])
        have hsb := sumN_bd (l := l.take k) fun x hx => HR.out x (List.mem_of_mem_take hx)
        have hlk : (l.take k).length ≤ 1000 := by rw [List.length_take]; omega
        generalize l[k] = x at *
        obtain ⟨xa, xn⟩ := x
        generalize sumN (l.take k) = s at *
        have hx := HX.out
        unfold MayR at hx
        simp only at hx hc0 hc1
        obtain ⟨x0, x1, x2⟩ := hx
        obtain ⟨s0, s1⟩ := hsb
        have s2 : s ≤ 1073741824000 := by omega
        have BX := Box.new wr 139 #[.int .i64 xa, .int .i64 xn]
        have ha := (Below.refl wr.heap.size wr).alloc (Nat.le_refl _) (.cells #[.int .i64 xa, .int .i64 xn] 139 (0, 0))
        have HL2 := Lib.hid (HL.out.trans (ha.mono HL.out.size))
        have k0 := BX.cell 0 _ rfl
        have k1 := BX.cell 1 _ rfl
        have x3 : xn ≤ 1073741824 := by omega
        clear ha BX HL hb hlk s1 x2
        go_wp2
        go_roundw
        case rel => exact ⟨k + 1, by omega, by go_num, by rw [HS.out], HL2⟩
        case measure => simp [intOf]; omega
      · obtain rfl : k = l.length := by omega
        rw [List.take_length]
        go_wp2
        go_ret
        exact ⟨ret_int HT.out.symm, HL.out⟩

end Go.Proofs.YtphhnhldbajaoaaGreatDoor

namespace Go.Proofs.YtphhnhldbajaoaaGreatDoor
open Go Go.RowKit Go.ChangeShapes Go.WideShapes Go.ChangeAt

/-- Is a place no sector of the devices? -/
def nowhS (d : DevD) (l : Int × Int) : Bool := decide (l.2 < 0) || decide ((devSize d l.1 : Int) ≤ l.2)
section
variable {B : Nat} {P : List Nat → World → Prop} {s : Nat} {x : StoV} {d : DevD} {w : World}
set_option maxRecDepth 100000 in
set_option maxHeartbeats 2000000 in
theorem snowh_any (hP : Fixed P) (h : StoB w s x) (ho : One B P x.db d w) (l : Int × Int) : Calls Tryz.prog 58 #[.pointer (some ⟨s, 0, none⟩), locV l] w fun e w' => e = .returned (.bool (nowhS d l)) ∧ Below w.heap.size w w' := by
  obtain ⟨l1, l2⟩ := l
  obtain ⟨gb, hgb⟩ : ∃ gb, gb = w.heap.size := ⟨_, rfl⟩
  obtain ⟨wa, hwa⟩ : ∃ wa, wa = w.alloc (.cells #[.int .i64 l1, .int .i64 l2] 47 (0, 0)) := ⟨_, rfl⟩
  have hba : Below w.heap.size w wa := by rw [hwa]; exact (Below.refl _ _).alloc (Nat.le_refl _) _
  have HBX : Hid (Box wa gb 47 #[.int .i64 l1, .int .i64 l2]) := by show Box _ _ _ _; rw [hwa, hgb]; exact Box.new _ _ _
  have b0 : wa.cell? ⟨gb, 0, none⟩ = some (.int .i64 l1) := HBX.out.cell 0 _ rfl
  have b1 : wa.cell? ⟨gb, 1, none⟩ = some (.int .i64 l2) := HBX.out.cell 1 _ rfl
  have c0 : wa.cell? ⟨s, 0, none⟩ = some (.pointer (some ⟨x.db, 0, none⟩)) := (h.keep hba h.lt).cell 0 _ rfl
  have HD := Lib.hid (fun W (hb : Below w.heap.size w W) => one_size (ho.keep hP hb) l1)
  have HBD : Hid (Below w.heap.size w wa.drew) := hba.drew
  obtain ⟨R, hR⟩ : ∃ R, R = nowhS d (l1, l2) := ⟨_, rfl⟩
  rw [← hR]
  have HR := Lib.hid hR
  have hwa2 := hwa.symm
  have hgb2 := hgb.symm
  clear h ho hR hwa hgb hba
  by_cases h2 : l2 < 0
  · have HE : Hid (R = true) := by show _ = _; rw [HR.out]; unfold nowhS; simp [h2]
    have d2 : decide (l2 < 0) = true := decide_eq_true h2
    clear HR
    unfold locV
    go_enter Tryz.func58, Tryz.ntmps58
    go_wp2_with fail
    try rw [hwa2, hgb2]
    have e0 : wa.drew.cell? ⟨gb, 0, none⟩ = some (.int .i64 l1) := b0
    have e1 : wa.drew.cell? ⟨gb, 1, none⟩ = some (.int .i64 l2) := b1
    refine wp_region_tree (fun W => W.cell? ⟨gb, 0, none⟩ = some (.int .i64 l1) ∧ W.cell? ⟨gb, 1, none⟩ = some (.int .i64 l2)) 13 (.quiet 0 (.quiet 1 (.quiet 2 (.quiet 3 (.quiet 4 (.quiet 5 (.quiet 6 (.quiet 7 (.quiet 8 (.quiet 9 (.quiet 10 (.quiet 11 (.make 12 .nil))))))))))))) (by kernel_rfl) (by kernel_rfl) ⟨e0, e1⟩ ?_
    simp only [List.drop_succ_cons, List.drop_zero]
    iterate 12 (apply wpTr_step rfl; (intro W hS K hK; obtain ⟨y0, y1⟩ := hS; go_simp; exact hK _ rfl))
    refine wpTr_make rfl (fun K' hK => ?_)
    go_simp
    refine hK _ _ _ (fun _ h => h) ⟨e0, e1⟩ ?_
    clear hK K' e0 e1 b0 b1
    refine wpTr_nil ?_
    go_wp2
    go_ret
    rw [HE.out]
    exact ⟨rfl, HBD.out⟩
  · have HE : Hid (R = decide ((devSize d l1 : Int) ≤ l2)) := by show _ = _; rw [HR.out]; unfold nowhS; simp [h2]
    have d2 : decide (l2 < 0) = false := decide_eq_false h2
    clear HR
    unfold locV
    go_enter Tryz.func58, Tryz.ntmps58
    go_wp2_with fail
    try rw [hwa2, hgb2]
    have e0 : wa.drew.cell? ⟨gb, 0, none⟩ = some (.int .i64 l1) := b0
    have e1 : wa.drew.cell? ⟨gb, 1, none⟩ = some (.int .i64 l2) := b1
    have e2 : wa.drew.cell? ⟨s, 0, none⟩ = some (.pointer (some ⟨x.db, 0, none⟩)) := c0
    refine wp_region_tree (fun W => W.cell? ⟨gb, 0, none⟩ = some (.int .i64 l1) ∧ W.cell? ⟨gb, 1, none⟩ = some (.int .i64 l2) ∧ W.cell? ⟨s, 0, none⟩ = some (.pointer (some ⟨x.db, 0, none⟩))) 13 (.quiet 0 (.quiet 1 (.quiet 2 (.quiet 3 (.quiet 4 (.quiet 5 (.quiet 6 (.quiet 7 (.quiet 8 (.quiet 9 (.quiet 10 (.quiet 11 (.make 12 .nil))))))))))))) (by kernel_rfl) (by kernel_rfl) ⟨e0, e1, e2⟩ ?_
    simp only [List.drop_succ_cons, List.drop_zero]
    iterate 12 (apply wpTr_step rfl; (intro W hS K hK; obtain ⟨y0, y1, y2⟩ := hS; go_simp; exact hK _ rfl))
    refine wpTr_make rfl (fun K' hK => ?_)
    go_simp
    refine (HD.out _ HBD.out).mono ?_
    rintro e w2 ⟨rfl, rfl⟩
    refine hK _ _ _ (fun _ h => h) ⟨e0, e1, e2⟩ ?_
    clear hK K' e0 e1 e2 b0 b1 c0 HD
    refine wpTr_nil ?_
    obtain ⟨z, hz⟩ : ∃ z : Nat, z = devSize d l1 := ⟨_, rfl⟩
    rw [← hz] at HE ⊢
    clear hz
    go_wp2
    go_ret
    rw [HE.out]
    exact ⟨rfl, HBD.out⟩
/-- The free runs of a device. -/
def RunR (w : World) (v : Value) (l : List (Int × Int)) : Prop := ∃ a cap, v = .slice a l.length cap ∧ SlP w a l ∧ l.length ≤ 1000 ∧ WfP l
def StoV.v (x : StoV) (side : Int) : Value := if side = 0 then x.v0 else x.v1
set_option maxRecDepth 100000 in
theorem smay_nil (side : Int) (w : World) : Calls Tryz.prog 46 #[.pointer none, .int .i64 side] w fun e w' => e = .returned (.slice none 0 0) ∧ w = w' := by
  go_enter Tryz.func46, Tryz.ntmps46
  go_wp2_with fail
  refine (smade_nil _).mono ?_
  rintro e w1 ⟨rfl, rfl⟩
  go_wp2
  go_ret
  exact ⟨rfl, rfl⟩
/-- What may be taken of a device. -/
def mayS (x : StoV) (d : DevD) (side : Int) : Value := if devLost d side = true then .slice none 0 0 else x.v side
set_option maxRecDepth 100000 in
theorem smay_any (h : StoB w s x) (ho : One B P x.db d w) (side : Int) (hs : side = 0 ∨ side = 1) : Calls Tryz.prog 46 #[.pointer (some ⟨s, 0, none⟩), .int .i64 side] w fun e w' => e = .returned (mayS x d side) ∧ w = w' := by
  have c0 : w.cell? ⟨s, 0, none⟩ = some (.pointer (some ⟨x.db, 0, none⟩)) := h.cell 0 _ rfl
  have c7 : w.cell? ⟨s, 7, none⟩ = some x.v0 := h.cell 7 _ rfl
  have c8 : w.cell? ⟨s, 8, none⟩ = some x.v1 := h.cell 8 _ rfl
  have HM := Lib.hid (smade_any s x w h)
  have HD := Lib.hid (one_lost ho side)
  clear h ho
  cases hl : devLost d side
  · have HE : Hid (mayS x d side = x.v side) := by show mayS _ _ _ = _; unfold mayS; rw [hl]; rfl
    rcases hs with rfl | rfl
    · have HV : Hid (x.v 0 = x.v0) := rfl
      rw [HE.out, HV.out]
      go_enter Tryz.func46, Tryz.ntmps46
      go_wp2_with fail
      refine HM.out.mono ?_
      rintro e w1 ⟨rfl, rfl⟩
      go_wp2_with fail
      refine HD.out.mono ?_
      rintro e w1 ⟨rfl, rfl⟩
      rw [hl]
      go_wp2
      go_ret
      exact ⟨rfl, rfl⟩
    · have HV : Hid (x.v 1 = x.v1) := rfl
      rw [HE.out, HV.out]
      go_enter Tryz.func46, Tryz.ntmps46
      go_wp2_with fail
      refine HM.out.mono ?_
      rintro e w1 ⟨rfl, rfl⟩
      go_wp2_with fail
      refine HD.out.mono ?_
      rintro e w1 ⟨rfl, rfl⟩
      rw [hl]
      go_wp2
      go_ret
      exact ⟨rfl, rfl⟩
  · have HE : Hid (mayS x d side = .slice none 0 0) := by show mayS _ _ _ = _; unfold mayS; rw [hl]; rfl
    rw [HE.out]
    go_enter Tryz.func46, Tryz.ntmps46
    go_wp2_with fail
    refine HM.out.mono ?_
    rintro e w1 ⟨rfl, rfl⟩
    go_wp2_with fail
    refine HD.out.mono ?_
    rintro e w1 ⟨rfl, rfl⟩
    rw [hl]
    go_wp2
    go_ret
    exact ⟨rfl, rfl⟩
def frS (d : DevD) (side : Int) (l : List (Int × Int)) : List (Int × Int) := if devLost d side = true then [] else l
theorem may_run {side : Int} {l : List (Int × Int)} (h : RunR w (x.v side) l) : RunR w (mayS x d side) (frS d side l) := by
  unfold mayS frS
  cases devLost d side
  · exact h
  · exact ⟨none, 0, rfl, SlP.nil, Nat.zero_le _, fun y hy => by cases hy⟩
set_option maxRecDepth 100000 in
set_option maxHeartbeats 2000000 in
theorem sfree_nil (w : World) : Calls Tryz.prog 18 #[.pointer none] w fun e w' => e = .returned (.tuple #[.int .i64 0, .int .i64 0]) ∧ Below w.heap.size w w' := by
  have HB : Hid (Below w.heap.size w w) := Below.refl _ _
  go_enter Tryz.func18, Tryz.ntmps18
  go_wp2_with fail
  refine (smay_nil 0 _).mono ?_
  rintro e w1 ⟨rfl, rfl⟩
  go_wp2_with fail
  refine (total_any none 0 [] _ SlP.nil (Nat.zero_le _) (fun y hy => by cases hy)).mono ?_
  rintro e w2 ⟨rfl, hb2⟩
  have HB2 := Lib.hid (HB.out.trans hb2)
  clear hb2
  go_wp2_with fail
  refine (smay_nil 1 _).mono ?_
  rintro e w3 ⟨rfl, rfl⟩
  go_wp2_with fail
  refine (total_any none 0 [] _ SlP.nil (Nat.zero_le _) (fun y hy => by cases hy)).mono ?_
  rintro e w4 ⟨rfl, hb4⟩
  have HB4 := Lib.hid (HB2.out.trans (hb4.mono HB2.out.size))
  clear hb4
  go_wp2
  go_ret2
  exact ⟨rfl, HB4.out⟩
set_option maxRecDepth 100000 in
set_option maxHeartbeats 2000000 in
theorem sfree_any (hP : Fixed P) (h : StoB w s x) (ho : One B P x.db d w) (l0 l1 : List (Int × Int)) (h0 : RunR w x.v0 l0) (h1 : RunR w x.v1 l1) : Calls Tryz.prog 18 #[.pointer (some ⟨s, 0, none⟩)] w fun e w' => e = .returned (.tuple #[.int .i64 (totL (frS d 0 l0)), .int .i64 (totL (frS d 1 l1))]) ∧ Below w.heap.size w w' := by
  have HB : Hid (Below w.heap.size w w) := Below.refl _ _
  have HX : Hid (∀ W, Below w.heap.size w W → StoB W s x ∧ One B P x.db d W) := fun W hb => ⟨h.keep hb h.lt, ho.keep hP hb⟩
  have hr0 : RunR w (mayS x d 0) (frS d 0 l0) := may_run (d := d) (x := x) (side := 0) h0
  have hr1 : RunR w (mayS x d 1) (frS d 1 l1) := may_run (d := d) (x := x) (side := 1) h1
  obtain ⟨a0, k0, e0, s0, n0, f0⟩ := hr0
  obtain ⟨a1, k1, e1, s1, n1, f1⟩ := hr1
  have HE0 := Lib.hid e0
  have HE1 := Lib.hid e1
  have HS0 := Lib.hid s0
  have HS1 := Lib.hid s1
  have HN0 := Lib.hid n0
  have HN1 := Lib.hid n1
  have HF0 := Lib.hid f0
  have HF1 := Lib.hid f1
  generalize frS d 0 l0 = r0 at *
  generalize frS d 1 l1 = r1 at *
  clear h ho e0 e1 s0 s1 n0 n1 f0 f1 h0 h1
  go_enter Tryz.func18, Tryz.ntmps18
  go_wp2_with fail
  refine (smay_any (HX.out _ HB.out).1 (HX.out _ HB.out).2 0 (.inl rfl)).mono ?_
  rintro e w1 ⟨rfl, rfl⟩
  rw [HE0.out]
  go_wp2_with fail
  refine (total_any a0 k0 r0 _ (HS0.out.keep HB.out) HN0.out HF0.out).mono ?_
  rintro e w2 ⟨rfl, hb2⟩
  have HB2 := Lib.hid (HB.out.trans hb2)
  clear hb2
  go_wp2_with fail
  refine (smay_any (HX.out _ HB2.out).1 (HX.out _ HB2.out).2 1 (.inr rfl)).mono ?_
  rintro e w3 ⟨rfl, rfl⟩
  rw [HE1.out]
  go_wp2_with fail
  refine (total_any a1 k1 r1 _ (HS1.out.keep HB2.out) HN1.out HF1.out).mono ?_
  rintro e w4 ⟨rfl, hb4⟩
  have HB4 := Lib.hid (HB2.out.trans (hb4.mono HB2.out.size))
  clear hb4
  go_wp2
  go_ret2
  exact ⟨rfl, HB4.out⟩
end
end Go.Proofs.YtphhnhldbajaoaaGreatDoor
