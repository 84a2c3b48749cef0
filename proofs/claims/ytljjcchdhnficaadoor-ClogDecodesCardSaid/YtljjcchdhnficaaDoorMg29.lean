/-
  Texts put together: ClogF, ClogG, Sched3.
-/
import Derived.Test.YtljjcchdhnficaaDoorMg4
import Derived.Test.YtljjcchdhnficaaDoorMg14
import Derived.Deep.QuietTactic
import Derived.BigQuiet
namespace Go.Proofs.YtljjcchdhnficaaDoor
open Go.RowKit Go.ChangeShapes Go.WideShapes Go.ChangeAt

theorem snoc_takeC (l : List CgE) (k : Nat) (h : k < l.length) : l.take (k + 1) = l.take k ++ [l[k]] := List.take_succ_eq_append_getElem h

set_option maxRecDepth 100000 in
set_option maxHeartbeats 1000000 in
theorem ctold_any (a : Option Addr) (cap : Nat) (l : List CgE) (w : World) (h : SlC w a l) (hl : l.length ≤ 1000) :
    Calls Tryd.prog 19 #[.slice a l.length cap] w fun e w' => ∃ v, e = .returned v ∧ Cgs 53 w' w.heap.size v l ∧ Below w.heap.size w w' := by
  have H := Lib.hid h
  clear h
  go_enter Tryd.func19, Tryd.ntmps19
  go_wp2
  go_loopw [3, 4] (fun s i wr => ∃ (k : Nat) (v : Value), k ≤ l.length ∧ i = .int .i64 k ∧ s = v ∧ Hid (Cgs 53 wr w.heap.size v (l.take k)) ∧ Hid (Below w.heap.size w wr)) (fun _ i _ => l.length - (RowKit.intOf i).toNat)
  case atStart => exact ⟨0, _, Nat.zero_le _, rfl, rfl, Cgs.nil _ _ _, Below.refl _ _⟩
  case round =>
    obtain ⟨k, v, hk, rfl, rfl, HP, HL⟩ := hrel
    by_cases hlt : k < l.length
    · obtain ⟨b, off, rfl, hb, e0, e1, e2, e3⟩ := (H.out.keep HL.out).get k hlt
      have HT := Lib.hid (snoc_takeC l k hlt)
      have hlk : (l.take k).length ≤ 1000 := by rw [List.length_take]; omega
      have HLK := Lib.hid hlk
      have HLT := Lib.hid hlt
      have hk0 : (0 : Int) ≤ (k : Int) := by omega
      have hkl : (k : Int) < (l.length : Int) := by omega
      generalize l.take k = p at *
      generalize l[k] = x at *
      have ha := ((Below.refl wr.heap.size wr).drew).alloc (Nat.le_refl _) (.cells #[.string x.key, .string x.sum, .int .i64 x.len, .int .i64 x.pos] 53)
      have BX : Hid (Box (wr.drew.alloc (.cells #[.string x.key, .string x.sum, .int .i64 x.len, .int .i64 x.pos] 53)) wr.heap.size 53 #[.string x.key, .string x.sum, .int .i64 x.len, .int .i64 x.pos]) := Box.new wr.drew _ _
      have HP2 := Lib.hid (HP.out.keep ha)
      have HL2 := Lib.hid (HL.out.trans (ha.mono HL.out.size))
      have HE := Lib.hid (And.intro ((ha.cell (p := ⟨b, off + k * 4, none⟩) hb).trans e0) (And.intro ((ha.cell (p := ⟨b, off + k * 4 + 1, none⟩) hb).trans e1) (And.intro ((ha.cell (p := ⟨b, off + k * 4 + 2, none⟩) hb).trans e2) ((ha.cell (p := ⟨b, off + k * 4 + 3, none⟩) hb).trans e3))))
      clear ha hb HP HL hlk hlt
      go_wp2_with fail
      refine wp_region_sched (fun W => W.cell? ⟨b, off + k * 4, none⟩ = some (.string x.key) ∧ W.cell? ⟨b, off + k * 4 + 1, none⟩ = some (.string x.sum) ∧ W.cell? ⟨b, off + k * 4 + 2, none⟩ = some (.int .i64 x.len) ∧ W.cell? ⟨b, off + k * 4 + 3, none⟩ = some (.int .i64 x.pos)) 23 [(0, false), (1, false), (2, false), (3, false), (4, false), (5, false), (6, false), (7, false), (8, false), (9, false), (10, false), (11, false), (12, false), (13, false), (14, false), (15, false), (16, false), (17, false), (18, false), (19, false), (20, false), (21, false), (22, true)] (by kernel_rfl) (by kernel_rfl) ⟨e0, e1, e2, e3⟩ ?_
      simp only [List.drop_succ_cons, List.drop_zero]
      clear e0 e1 e2 e3
      iterate 22 (apply wpSch_step rfl; (intro W hS K hK; obtain ⟨r1, r2, r3, r4⟩ := hS; go_simp; exact hK _ rfl))
      refine wpSch_make rfl (fun K' hK => ?_)
      go_simp
      refine hK _ _ _ (fun _ h => h) HE.out ?_
      clear hK K'
      refine wpSch_nil ?_
      go_wp2_with (with_reducible refine wp_cgs_push Tryd.underlying22 four_R _ rfl (.tmp 11) (.tmp 33) rfl w.heap.size _ p rfl ?a1 wr.heap.size 1 x ?a2 ?a3 ?a4 ?a5 ?a6)
      case a1 => exact HP2.out
      try (case a2 => rfl)
      case a3 => intro j u hj; exact BX.out.cell j u (by simpa [cgL] using hj)
      case a4 => have := HLK.out; omega
      case a5 => exact HL2.out.size
      intro v' w5 hp hgr _
      have HP3 := Lib.hid hp
      have HL3 := Lib.hid (below_cgs HL2.out hgr HP2.out HL2.out.size)
      clear hp hgr HP2 HL2 BX HE
      go_wp2
      go_roundw
      case rel => exact ⟨k + 1, _, HLT.out, by go_num, rfl, by show Cgs _ _ _ _ _; rw [HT.out]; exact HP3.out, HL3⟩
      case measure => have := HLT.out; simp [RowKit.intOf]; omega
    · obtain rfl : k = l.length := by omega
      rw [List.take_length] at HP
      go_wp2
      go_ret
      exact ⟨_, rfl, HP.out, HL.out⟩
end Go.Proofs.YtljjcchdhnficaaDoor

namespace Go.Proofs.YtljjcchdhnficaaDoor
open Go.RowKit Go.ChangeShapes Go.WideShapes Go.ChangeAt

set_option maxRecDepth 100000 in
theorem eqEntR (x y : CgE) (w : World) : (Op.equalIn 10000 53 (cgV x) (cgV y)).run Tryd.prog w = .ok (x.key.toList == y.key.toList && x.sum.toList == y.sum.toList && x.len == y.len && x.pos == y.pos) w := by
  have u3 := Tryd.underlying3
  have a3 := Tryd.isAgg3
  have z3 := Tryd.sizeOf3
  have u9 := Tryd.underlying9
  have a9 := Tryd.isAgg9
  have z9 := Tryd.sizeOf9
  have hS : Tryd.prog.underlying 53 = some (.struct (Tryd.prog.fieldsOf 53)) := by kernel_rfl
  have hp : Tryd.prog.stoodInHeld 53 = false := by kernel_rfl
  rw [show (10000 : Nat) = 9999 + 1 from rfl, run_equalIn_agg w 9999 53 _ _ hS hp]
  simp only [Program.fieldsOf, Tryd.underlying53]
  obtain ⟨x1, x2, x3, x4⟩ := x
  obtain ⟨y1, y2, y3, y4⟩ := y
  go_simp
  by_cases h1 : x1.toList = y1.toList <;> by_cases h2 : x2.toList = y2.toList <;> by_cases h3 : x3 = y3 <;> by_cases h4 : x4 = y4 <;> simp [h1, h2, h3, h4]
theorem bytes_eqC {a b : ByteArray} (h : a.toList = b.toList) : a = b := by
  rw [ByteArray.toList_eq, ByteArray.toList_eq] at h
  exact ByteArray.ext (Array.toList_inj.1 h)
theorem entEq (x y : CgE) : (x.key.toList == y.key.toList && x.sum.toList == y.sum.toList && x.len == y.len && x.pos == y.pos) = decide (x = y) := by
  by_cases h : x = y
  · subst h; simp
  · rw [decide_eq_false h]
    rcases hb : (x.key.toList == y.key.toList && x.sum.toList == y.sum.toList && x.len == y.len && x.pos == y.pos)
    · rfl
    · simp only [Bool.and_eq_true, beq_iff_eq] at hb
      obtain ⟨⟨⟨h1, h2⟩, h3⟩, h4⟩ := hb
      obtain ⟨x1, x2, x3, x4⟩ := x
      obtain ⟨y1, y2, y3, y4⟩ := y
      simp only at h1 h2 h3 h4
      exact absurd (by rw [bytes_eqC h1, bytes_eqC h2, h3, h4]) h
theorem take_eq_succC {l m : List CgE} {k : Nat} (h : l.take k = m.take k) (h1 : k < l.length) (h2 : k < m.length) (e : l[k] = m[k]) : l.take (k + 1) = m.take (k + 1) := by
  rw [List.take_succ_eq_append_getElem h1, List.take_succ_eq_append_getElem h2, h, e]

set_option maxRecDepth 100000 in
set_option maxHeartbeats 1000000 in
theorem csame_any (xa xb : Option Addr) (ca cb : Nat) (l m : List CgE) (w : World) (hl : l.length ≤ 1000) (hm : m.length ≤ 1000) (h1 : SlC w xa l) (h2 : SlC w xb m) :
    Calls Tryd.prog 18 #[.slice xa l.length ca, .slice xb m.length cb] w fun e w' => e = .returned (.bool (decide (l = m))) ∧ Below w.heap.size w w' := by
  have H1 := Lib.hid h1
  have H2 := Lib.hid h2
  clear h1 h2
  by_cases hlen : l.length = m.length
  · have HLEN := Lib.hid hlen
    rw [hlen] at hl ⊢
    clear hlen
    go_enter Tryd.func18, Tryd.ntmps18
    go_wp2
    go_loopw [5] (fun i wr => ∃ k : Nat, k ≤ m.length ∧ i = .int .i64 k ∧ Hid (l.take k = m.take k) ∧ Hid (Below w.heap.size w wr)) (fun i _ => m.length - (RowKit.intOf i).toNat)
    case atStart => exact ⟨0, Nat.zero_le _, rfl, rfl, Below.refl _ _⟩
    case round =>
      obtain ⟨k, hk, rfl, HT, HL⟩ := hrel
      by_cases hlt : k < m.length
      · have hltl : k < l.length := by rw [HLEN.out]; exact hlt
        obtain ⟨b1, o1, rfl, hb1, p1, p2, p3, p4⟩ := (H1.out.keep HL.out).get k hltl
        obtain ⟨b2, o2, rfl, hb2, p5, p6, p7, p8⟩ := (H2.out.keep HL.out).get k hlt
        have HS := Lib.hid (fun e : l[k] = m[k] => take_eq_succC HT.out hltl hlt e)
        have HN := Lib.hid (show l[k] ≠ m[k] → l ≠ m from fun h e => h (by subst e; rfl))
        have HDN : Hid (∀ nq, Below w.heap.size w (wr.drewN nq)) := fun nq => ⟨HL.out.os, HL.out.tape, HL.out.output, HL.out.size, HL.out.block⟩
        generalize l[k] = x at *
        generalize m[k] = y at *
        clear hltl hb1 hb2
        obtain ⟨bq, hbq⟩ : ∃ bq, decide (x = y) = bq := ⟨_, rfl⟩
        have hq : ∀ w, (Op.equalIn 10000 53 (.agg #[.string x.key, .string x.sum, .int .i64 x.len, .int .i64 x.pos]) (.agg #[.string y.key, .string y.sum, .int .i64 y.len, .int .i64 y.pos])).run Tryd.prog w = .ok bq w := fun w => by
          rw [← hbq, ← entEq]
          exact eqEntR x y w
        have HBQ := Lib.hid hbq
        clear hbq
        have hki : (0 : Int) ≤ (k : Int) := by omega
        have hkl : (k : Int) < (m.length : Int) := by omega
        cases bq
        · have HF := Lib.hid (show decide (l = m) = false by simp [HN.out (of_decide_eq_false HBQ.out)])
          go_wp2_with fail
          go_quiet (fail)
          go_wp2
          go_ret
          exact ⟨by rw [HF.out]; rfl, HDN.out _⟩
        · have HS2 := Lib.hid (HS.out (of_decide_eq_true HBQ.out))
          go_wp2_with fail
          go_quiet (fail)
          go_wp2
          go_roundw
          case rel => exact ⟨k + 1, by omega, by go_num, HS2, HDN.out _⟩
          case measure => simp [RowKit.intOf]; omega
      · have hkl : k = m.length := by omega
        subst hkl
        have HE : Hid (decide (l = m) = true) := by
          have := HT.out
          rw [List.take_length, List.take_of_length_le (by rw [HLEN.out]; exact Nat.le_refl _)] at this
          exact decide_eq_true this
        clear hk
        go_wp2
        go_ret
        exact ⟨by rw [HE.out]; rfl, HL.out⟩
  · have hb : ((l.length : Int) != (m.length : Int)) = true := by simp; omega
    have HF := Lib.hid (show decide (l = m) = false by simp; intro e; exact hlen (by rw [e]))
    go_enter Tryd.func18, Tryd.ntmps18
    go_wp2
    go_ret
    exact ⟨by rw [HF.out]; rfl, Below.refl _ _⟩
end Go.Proofs.YtljjcchdhnficaaDoor

namespace Go.Proofs.YtljjcchdhnficaaDoor
open Go

/-- A tree of schedules. -/
inductive Sch where
  | nil
  | quiet (i : Nat) (r : Sch)
  | make (i : Nat) (r : Sch)
  | two (i j : Nat) (r q : Sch)
def Sch.depth : Sch → Nat
  | .nil => 0
  | .quiet _ r => r.depth + 1
  | .make _ r => r.depth + 1
  | .two _ _ r _ => r.depth + 1

section
variable {P : Program} {ops : Array Oper} {Q : Exit → Act → World → Prop}

def wpTr (P : Program) (ops : Array Oper) (Q : Exit → Act → World → Prop) (Lq : Act → World → Prop) : Sch → (World → Prop) → Act → World → Prop
  | .nil, _, a, w => Lq a w
  | .quiet i r, S, a, w => ∃ o a1, ops[i]? = some o ∧ (∀ W, S W → if Region.wanted o (yielded ops a.tmps) then o.still P a W (fun a' => a' = a1) else a.put o.dst undef = a1) ∧ wpTr P ops Q Lq r S a1 w
  | .make i r, S, a, w => wpOp P ops (Calm Q) i (fun a' w' => ∃ S' : World → Prop, (∀ W, S' W → S W) ∧ S' w' ∧ wpTr P ops Q Lq r S' a' w') a w
  | .two i j r q, S, a, w => wpOp P ops (Calm Q) i (fun a' w' => ∃ S' : World → Prop, (∀ W, S' W → S W) ∧ S' w' ∧ wpTr P ops Q Lq r S' a' w') a w ∧ wpOp P ops (Calm Q) j (fun a' w' => ∃ S' : World → Prop, (∀ W, S' W → S W) ∧ S' w' ∧ wpTr P ops Q Lq q S' a' w') a w
def trB (ops : Array Oper) (g n : Nat) : Sch → Array Bool → Bool
  | .nil, listed => Region.seqB .any ops g n listed
  | .quiet i r, listed => (Region.ready .any ops listed).contains i && Region.free .any ops listed i && decide (i < n) && trB ops g n r (listed.setIfInBounds i true)
  | .make i r, listed => decide (Region.ready .any ops listed = [i]) && decide (i < n) && trB ops g n r (listed.setIfInBounds i true)
  | .two i j r q, listed => decide (Region.ready .any ops listed = [i, j]) && decide (i < n ∧ j < n ∧ q.depth = r.depth) && trB ops g n r (listed.setIfInBounds i true) && trB ops g n q (listed.setIfInBounds j true)
def treeB (ops : Array Oper) (n : Nat) (sch : Sch) : Bool :=
  Region.noSelect ops && decide (n < ops.size) && Region.sinkB .any ops n && Region.chainB .any ops n && decide (sch.depth = n) && trB ops (ops.size - n) n sch (Array.replicate ops.size false)

theorem wpX_of_tr {n g : Nat} {Lq : Act → World → Prop} (hsel : Region.noSelect ops = true) (hs : Region.sinkB .any ops n = true) (hc : Region.chainB .any ops n = true) (hn : n < ops.size) :
    ∀ (sch : Sch) (S : World → Prop) (listed : Array Bool) (a : Act) (w : World), HeadInv .any ops n listed → S w → trB ops g n sch listed = true → wpTr P ops Q Lq sch S a w →
    wpX P ops Q n (fun listed' a' w' => Region.seqB .any ops g n listed' = true ∧ Lq a' w') sch.depth S listed a w
  | .nil, _, listed, a, w, _, _, hB, h => ⟨hB, h⟩
  | .quiet i r, S, listed, a, w, inv, hS, hB, h => by
    rw [trB, Bool.and_eq_true, Bool.and_eq_true, Bool.and_eq_true] at hB
    obtain ⟨⟨⟨hr, hf⟩, hin⟩, hB'⟩ := hB
    have hr' : i ∈ Region.ready .any ops listed := by simpa using hr
    have hin' : i < n := of_decide_eq_true hin
    obtain ⟨o, a1, h0, hst, hK⟩ := h
    have hst' : ∀ W, S W → ∃ v', YieldsAt P ops W o v' a ∧ a.put o.dst v' = a1 := fun W hW => by
      have := hst W hW
      exact yieldsAt_of_stOp (i := i) h0 (by unfold stOp; simp only [h0]; exact this)
    obtain ⟨v, _, hv⟩ := hst' w hS
    subst hv
    exact wpX_first h0 (Region.noSelect_spec hsel) hs hc hn hin' (fun listed' a' w' hL => seqB_ready hL.1) r.depth S listed a w v inv (Region.free_spec h0 hf) hr' hS hst'
      (wpX_of_tr hsel hs hc hn r S _ _ w (inv.set hr' hin') hS hB' hK)
  | .make i r, S, listed, a, w, inv, hS, hB, h => by
    rw [trB, Bool.and_eq_true, Bool.and_eq_true] at hB
    obtain ⟨⟨hr, hin⟩, hB'⟩ := hB
    have hr1 : Region.ready .any ops listed = [i] := of_decide_eq_true hr
    have hin' : i < n := of_decide_eq_true hin
    refine ⟨fun h => (by rw [hr1] at h; cases h), fun j hj => ?_⟩
    have hji : j = i := by rw [hr1] at hj; simpa using hj
    subst hji
    refine ⟨hin', ?_⟩
    have h' : wpOp P ops (Calm Q) j (fun a' w' => ∃ S' : World → Prop, (∀ W, S' W → S W) ∧ S' w' ∧ wpTr P ops Q Lq r S' a' w') a w := h
    refine wpOp_mono (fun a' w' ⟨S', hm, hS', h3⟩ => ⟨S', hm, hS', ?_⟩) h'
    exact wpX_of_tr hsel hs hc hn r S' _ a' w' (inv.set hj hin') hS' hB' h3
  | .two i k r q, S, listed, a, w, inv, hS, hB, h => by
    rw [trB, Bool.and_eq_true, Bool.and_eq_true, Bool.and_eq_true] at hB
    obtain ⟨⟨⟨hr, hin⟩, hB1⟩, hB2⟩ := hB
    have hr1 : Region.ready .any ops listed = [i, k] := of_decide_eq_true hr
    obtain ⟨hi, hk, hd⟩ := of_decide_eq_true hin
    obtain ⟨h1, h2⟩ : wpOp P ops (Calm Q) i (fun a' w' => ∃ S' : World → Prop, (∀ W, S' W → S W) ∧ S' w' ∧ wpTr P ops Q Lq r S' a' w') a w ∧ wpOp P ops (Calm Q) k (fun a' w' => ∃ S' : World → Prop, (∀ W, S' W → S W) ∧ S' w' ∧ wpTr P ops Q Lq q S' a' w') a w := h
    refine ⟨fun h => (by rw [hr1] at h; cases h), fun j hj => ?_⟩
    have hji : j = i ∨ j = k := by rw [hr1] at hj; simpa using hj
    rcases hji with rfl | rfl
    · refine ⟨hi, wpOp_mono (fun a' w' ⟨S', hm, hS', h3⟩ => ⟨S', hm, hS', ?_⟩) h1⟩
      exact wpX_of_tr hsel hs hc hn r S' _ a' w' (inv.set hj hi) hS' hB1 h3
    · refine ⟨hk, wpOp_mono (fun a' w' ⟨S', hm, hS', h3⟩ => ⟨S', hm, hS', ?_⟩) h2⟩
      have := wpX_of_tr hsel hs hc hn q S' _ a' w' (inv.set hj hk) hS' hB2 h3
      rw [hd] at this
      exact this

theorem wpTr_nil {Lq : Act → World → Prop} {S : World → Prop} {a : Act} {w : World} (h : Lq a w) : wpTr P ops Q Lq .nil S a w := h
/-- An operation that only reads. -/
theorem wpTr_step {l : List Oper} {Lq : Act → World → Prop} {S : World → Prop} {i : Nat} {o : Oper} {r : Sch} {a a1 : Act} {w : World} (hi : l[i]? = some o)
    (h : ∀ W, S W → ∀ K : Act → Prop, (∀ a', a' = a1 → K a') → if Region.wanted o (yielded l.toArray a.tmps) then o.still P a W K else K (a.put o.dst undef))
    (h2 : wpTr P l.toArray Q Lq r S a1 w) : wpTr P l.toArray Q Lq (.quiet i r) S a w :=
  ⟨o, a1, by simpa using hi, fun W hS => h W hS (fun a' => a' = a1) (fun _ h => h), h2⟩
/-- One that makes memory: S may say more behind it. -/
theorem wpTr_make {l : List Oper} {Lq : Act → World → Prop} {S : World → Prop} {i : Nat} {o : Oper} {r : Sch} {a : Act} {w : World} (hi : l[i]? = some o)
    (h : ∀ K' : Act → World → Prop, (∀ a' w' (S' : World → Prop), (∀ W, S' W → S W) → S' w' → wpTr P l.toArray Q Lq r S' a' w' → K' a' w') → if Region.wanted o (yielded l.toArray a.tmps) then o.wp P a w K' (Calm Q) else K' (a.put o.dst undef) w) :
    wpTr P l.toArray Q Lq (.make i r) S a w :=
  wpOp_step hi (fun K' hK => h K' (fun a' w' S' h1 h2 h3 => hK a' w' ⟨S', h1, h2, h3⟩))
/-- Two that make memory, either of which may come first. -/
theorem wpTr_two {l : List Oper} {Lq : Act → World → Prop} {S : World → Prop} {i j : Nat} {o p : Oper} {r q : Sch} {a : Act} {w : World} (hi : l[i]? = some o) (hj : l[j]? = some p)
    (h : ∀ K' : Act → World → Prop, (∀ a' w' (S' : World → Prop), (∀ W, S' W → S W) → S' w' → wpTr P l.toArray Q Lq r S' a' w' → K' a' w') → if Region.wanted o (yielded l.toArray a.tmps) then o.wp P a w K' (Calm Q) else K' (a.put o.dst undef) w)
    (h2 : ∀ K' : Act → World → Prop, (∀ a' w' (S' : World → Prop), (∀ W, S' W → S W) → S' w' → wpTr P l.toArray Q Lq q S' a' w' → K' a' w') → if Region.wanted p (yielded l.toArray a.tmps) then p.wp P a w K' (Calm Q) else K' (a.put p.dst undef) w) :
    wpTr P l.toArray Q Lq (.two i j r q) S a w :=
  ⟨wpOp_step hi (fun K' hK => h K' (fun a' w' S' h1 h2 h3 => hK a' w' ⟨S', h1, h2, h3⟩)), wpOp_step hj (fun K' hK => h2 K' (fun a' w' S' h1 h2 h3 => hK a' w' ⟨S', h1, h2, h3⟩))⟩
/-- The region by its tree: n operations, and a tail in its order. -/
theorem wp_region_tree {id : Nat} {a : Act} {w : World} {l : List Oper} (S : World → Prop) (n : Nat) (sch : Sch) (hm : P.follows .mixedOrders = true) (hB : treeB l.toArray n sch = true) (hS : S w.drew)
    (h : wpTr P l.toArray Q (fun a' w' => wpList P l.toArray Q (l.drop n) a' w') sch S a w.drew) : (Code.region id l.toArray true).wp P Q a w := by
  simp only [treeB, Bool.and_eq_true, decide_eq_true_eq] at hB
  obtain ⟨⟨⟨⟨⟨hsel, hn⟩, hs⟩, hc⟩, hlen⟩, hlex⟩ := hB
  have hn' : n < l.length := by simpa using hn
  have hdl : (l.drop n).length = l.toArray.size - n := by simp
  have inv0 : HeadInv .any l.toArray n (Array.replicate l.toArray.size false) :=
    ⟨by simp, fun j oj _ hl => (by rw [getD_replicate_false] at hl; cases hl), fun t _ ht => getD_in (by simpa using ht) (getD_replicate_false _ _)⟩
  have H := wpX_of_tr (Q := Q) (g := l.toArray.size - n) (Lq := fun a'' w'' => wpList P l.toArray Q (l.drop n) a'' w'') hsel hs hc hn sch S _ a w.drew inv0 hS hlex h
  refine wp_region_any hm ?_
  have := any_of_wpX (Q := Q) (g := l.toArray.size - n) (fun listed a' w' hL => by
    have := wpAny_of_seq (md := .any) (Q' := Q) (l.drop n) n listed a' w' (fun j => by simp [List.getElem?_drop]) (by rw [hdl]; exact hL.1) hL.2
    rwa [hdl] at this) _ _ _ _ _ H
  rw [hlen, show n + (l.toArray.size - n) = l.toArray.size by omega] at this
  exact this
end
end Go.Proofs.YtljjcchdhnficaaDoor
