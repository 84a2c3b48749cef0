/-
  Texts put together: BlkB, Range, BlkC, BlkD.
-/
import Derived.Test.YtphhnhldbajaoaaGreatDoorMg15
import Derived.Test.YtphhnhldbajaoaaGreatDoorMg10
import Derived.Deep.QuietTactic
import Derived.BigQuiet
import Derived.RangeFuncOwn
import Derived.RangeFuncSeq
import Derived.RangeFuncBound
import Derived.RangeFuncCalls
import Derived.RangeFuncLeaves
import Derived.Shelf.Abstract
import Derived.Shelf.RegionOpen
import Derived.WalkKit
import Derived.OwnWalkIn
import Derived.TacticsInMore
import Derived.LoopNIn
import Derived.LoopIn
import Derived.Shelf.AbstractIn
import Derived.Lib.Hide
namespace Go.Proofs.YtphhnhldbajaoaaGreatDoor
open Go.RowKit Go.ChangeShapes Go.WideShapes Go.ChangeAt

/-- Is s the text that p was made of? -/
def isT (p : PtrD) (s : ByteArray) : Bool := ((s.size : Int) == p.len) && ((sha s).toList == p.sum.toList)

set_option maxRecDepth 100000 in
set_option maxHeartbeats 1000000 in
theorem isof_any (a : Option Addr) (cap : Nat) (p : PtrD) (s : ByteArray) (w : World) (hs : s.size ≤ 140737488355328) (hK : Kt w) :
    Calls Tryz.prog 158 #[ptrV a cap p, .string s] w fun e w' => e = .returned (.bool (isT p s)) ∧ Below w.heap.size w w' := by
  obtain ⟨ll, ln, bi, su⟩ := p
  have HX := Lib.hid ((Below.refl w.heap.size w).alloc (Nat.le_refl _) (.cells #[.slice a ll.length cap, .int .i64 ln, .int .i64 bi, .string su] 37 (0, 0)))
  have BX := Lib.hid (Box.new w 37 #[.slice a ll.length cap, .int .i64 ln, .int .i64 bi, .string su])
  have HK := Lib.hid hK
  have HP := Lib.hid hK.pos
  clear hK
  unfold ptrV
  simp only
  cases hq : ((s.size : Int) == ln)
  · have HQ : Hid (isT ⟨ll, ln, bi, su⟩ s = false) := by show _ = _; unfold isT; simp only; rw [hq]; rfl
    go_enter Tryz.func158, Tryz.ntmps158
    go_wp2_with fail
    generalize World.alloc _ _ = wx at *
    have k1 : wx.cell? ⟨w.heap.size, 1, none⟩ = some (.int .i64 ln) := BX.out.cell 1 _ rfl
    go_quiet (fail)
    have L4 : Hid (Below w.heap.size w (wx.drewN nq)) := ⟨HX.out.os, HX.out.tape, HX.out.output, HX.out.size, HX.out.block⟩
    go_wp2
    go_ret
    exact ⟨ret_bool HQ.out.symm, L4.out⟩
  · have HQ : Hid (isT ⟨ll, ln, bi, su⟩ s = ((sha s).toList == su.toList)) := by show _ = _; unfold isT; simp only; rw [hq]; rfl
    go_enter Tryz.func158, Tryz.ntmps158
    go_wp2_with fail
    generalize World.alloc _ _ = wx at *
    have k1 : wx.cell? ⟨w.heap.size, 1, none⟩ = some (.int .i64 ln) := BX.out.cell 1 _ rfl
    have k3 : wx.cell? ⟨w.heap.size, 3, none⟩ = some (.string su) := BX.out.cell 3 _ rfl
    have KX := Lib.hid (HK.out.below HX.out.drew HP.out)
    refine wp_region_sched (fun W => W.cell? ⟨w.heap.size, 1, none⟩ = some (.int .i64 ln) ∧ W.cell? ⟨w.heap.size, 3, none⟩ = some (.string su)) 10 [(0, false), (1, false), (2, false), (3, false), (4, false), (5, false), (6, false), (8, false), (9, false), (7, true)] (by kernel_rfl) (by kernel_rfl) ⟨k1, k3⟩ ?_
    simp only [List.drop_succ_cons, List.drop_zero]
    iterate 9 (apply wpSch_step rfl; (intro W hS K hK; obtain ⟨q1, q2⟩ := hS; go_simp; exact hK _ rfl))
    refine wpSch_make rfl (fun K' hK => ?_)
    go_simp
    refine (of_any s _ hs KX.out).mono ?_
    rintro e w2 ⟨rfl, hb⟩
    have L2 := Lib.hid (HX.out.drew.trans (hb.mono HX.out.size))
    refine hK _ _ _ (fun _ h => h) ⟨(hb.cell (p := ⟨w.heap.size, 1, none⟩) BX.out.lt).trans k1, (hb.cell (p := ⟨w.heap.size, 3, none⟩) BX.out.lt).trans k3⟩ ?_
    clear hK K' hb k1 k3
    refine wpSch_nil ?_
    go_wp2
    go_ret
    exact ⟨ret_bool HQ.out.symm, L2.out⟩

/-- What a closure of Locs answers, as long as old memory stays. -/
def OfB (f : FuncId) (C : Nat) (R : Int × Int → Bool) (w : World) : Prop :=
  ∀ w', Below w.heap.size w w' → ∀ x : Int × Int, Calls Tryz.prog f #[locV x, .pointer (some ⟨C, 0, none⟩)] w' fun e w'' => e = .returned (.bool (R x)) ∧ Below w'.heap.size w' w''

set_option maxRecDepth 100000 in
theorem write1_any (x : Option Addr) (sz : Int → Nat) (l : Int × Int) (C : Nat) (w : World) (hc : w.cell? ⟨C, 0, none⟩ = some (.pointer x)) (hs : ∀ w', Below w.heap.size w w' → ∀ dev, Calls Tryz.prog 55 #[.pointer x, .int .i64 dev] w' fun e w'' => e = .returned (.int .i64 (sz dev : Nat)) ∧ w' = w'') :
    Calls Tryz.prog 104 #[locV l, .pointer (some ⟨C, 0, none⟩)] w fun e w' => e = .returned (.bool (decide ((sz l.1 : Int) ≤ l.2))) ∧ Below w.heap.size w w' := by
  obtain ⟨da, db⟩ := l
  unfold locV
  simp only
  have hx := (Below.refl w.heap.size w).alloc (Nat.le_refl _) (.cells #[.int .i64 da, .int .i64 db] 47 (0, 0))
  have HX := Lib.hid hx
  have BX := Lib.hid (Box.new w 47 #[.int .i64 da, .int .i64 db])
  have HC := Lib.hid ((hx.cell (p := ⟨C, 0, none⟩) (lt_of_cell hc)).trans hc)
  have HS := Lib.hid (hs _ (hx.drew) da)
  clear hx hc hs
  go_enter Tryz.func104, Tryz.ntmps104
  go_wp2_with fail
  generalize World.alloc _ _ = wx at *
  have k0 : wx.cell? ⟨w.heap.size, 0, none⟩ = some (.int .i64 da) := BX.out.cell 0 _ rfl
  have k1 : wx.cell? ⟨w.heap.size, 1, none⟩ = some (.int .i64 db) := BX.out.cell 1 _ rfl
  have kc : wx.cell? ⟨C, 0, none⟩ = some (.pointer x) := HC.out
  refine wp_region_sched (fun W => W.cell? ⟨w.heap.size, 0, none⟩ = some (.int .i64 da) ∧ W.cell? ⟨w.heap.size, 1, none⟩ = some (.int .i64 db) ∧ W.cell? ⟨C, 0, none⟩ = some (.pointer x)) 6 [(0, false), (1, false), (2, false), (3, false), (4, false), (5, true)] (by kernel_rfl) (by kernel_rfl) ⟨k0, k1, kc⟩ ?_
  simp only [List.drop_succ_cons, List.drop_zero]
  iterate 5 (apply wpSch_step rfl; (intro W hS K hK; obtain ⟨q1, q2, q3⟩ := hS; go_simp; exact hK _ rfl))
  refine wpSch_make rfl (fun K' hK => ?_)
  go_simp
  refine HS.out.mono ?_
  rintro e w2 ⟨rfl, rfl⟩
  refine hK _ _ _ (fun _ h => h) ⟨k0, k1, kc⟩ ?_
  clear hK K' k0 k1 kc
  refine wpSch_nil ?_
  have L2 := Lib.hid HX.out.drew
  go_wp2
  go_ret
  exact ⟨rfl, L2.out⟩

theorem write2_any (x : Option Addr) (lo : Int → Bool) (l : Int × Int) (C : Nat) (w : World) (hc : w.cell? ⟨C, 0, none⟩ = some (.pointer x)) (hs : ∀ w', Below w.heap.size w w' → ∀ dev, Calls Tryz.prog 91 #[.pointer x, .int .i64 dev] w' fun e w'' => e = .returned (.bool (lo dev)) ∧ w' = w'') :
    Calls Tryz.prog 105 #[locV l, .pointer (some ⟨C, 0, none⟩)] w fun e w' => e = .returned (.bool (lo l.1)) ∧ Below w.heap.size w w' := by
  obtain ⟨da, db⟩ := l
  unfold locV
  simp only
  have hx := (Below.refl w.heap.size w).alloc (Nat.le_refl _) (.cells #[.int .i64 da, .int .i64 db] 47 (0, 0))
  have HX := Lib.hid hx
  have BX := Lib.hid (Box.new w 47 #[.int .i64 da, .int .i64 db])
  have HC := Lib.hid ((hx.cell (p := ⟨C, 0, none⟩) (lt_of_cell hc)).trans hc)
  have HS := Lib.hid (hs _ hx da)
  have k0 : (w.alloc (.cells #[.int .i64 da, .int .i64 db] 47 (0, 0))).cell? ⟨w.heap.size, 0, none⟩ = some (.int .i64 da) := BX.out.cell 0 _ rfl
  have kc := HC.out
  clear hx hc hs
  go_enter Tryz.func105, Tryz.ntmps105
  go_wp2_with fail
  refine HS.out.mono ?_
  rintro e w2 ⟨rfl, rfl⟩
  go_wp2
  go_ret
  exact ⟨rfl, HX.out⟩

set_option maxRecDepth 100000 in
set_option maxHeartbeats 1000000 in
theorem index_w1 (a : Option Addr) (cap : Nat) (l : List (Int × Int)) (C : Nat) (R : Int × Int → Bool) (w : World) (h : SlP w a l) (hl : l.length ≤ 1000) (hR : OfB 104 C R w) :
    Calls Tryz.prog 94 #[.slice a l.length cap, .func (.func 104) #[] #[.pointer (some ⟨C, 0, none⟩)]] w fun e w' =>
      e = .returned (.int .i64 (idxP R l)) ∧ Below w.heap.size w w' := by
  have H := Lib.hid h
  have HC := Lib.hid hR
  clear h hR
  go_enter Tryz.func94, Tryz.ntmps94
  go_wp2
  go_loopw [5, 8] (fun _ i wr => ∃ k : Nat, k ≤ l.length ∧ i = .int .i64 k ∧ Hid (∀ x ∈ l.take k, R x = false) ∧ Hid (Below w.heap.size w wr)) (fun _ i _ => l.length - (intOf i).toNat)
  case atStart => exact ⟨0, Nat.zero_le _, rfl, Lib.hid (fun x hx => by simp at hx), Below.refl _ _⟩
  case round =>
    obtain ⟨k, hk, rfl, HN, HL⟩ := hrel
    by_cases hlt : k < l.length
    · obtain ⟨b, off, rfl, hb, hc0, hc1⟩ := (H.out.keep HL.out).get k hlt
      have HS := Lib.hid (fun e => step_no HN.out hlt e)
      have HI := Lib.hid (fun e => idx_at HN.out hlt e)
      generalize l[k] = x at *
      have HCW := Lib.hid (HC.out _ HL.out x)
      unfold locV at HCW
      cases hx : R x
      · have Hx := Lib.hid hx
        go_wp2_with fail
        refine HCW.out.mono ?_
        rintro e w1 ⟨rfl, hb1⟩
        rw [hx]
        have HB := Lib.hid (HL.out.trans (hb1.mono HL.out.size))
        have HY := Lib.hid (HS.out Hx.out)
        clear hx hb1 hc0 hc1 hb
        go_wp2
        go_roundw
        case rel => exact ⟨k + 1, by omega, by go_num, HY, HB⟩
        case measure => simp [intOf]; omega
      · have Hx := Lib.hid hx
        go_wp2_with fail
        refine HCW.out.mono ?_
        rintro e w1 ⟨rfl, hb1⟩
        rw [hx]
        have HB := Lib.hid (HL.out.trans (hb1.mono HL.out.size))
        have HY := Lib.hid (HI.out Hx.out)
        clear hx hb1 hc0 hc1 hb
        go_wp2
        go_ret
        exact ⟨ret_int HY.out.symm, HB.out⟩
    · obtain rfl : k = l.length := by omega
      have HF := Lib.hid (idx_no (P := R) (l := l) (by have := HN.out; rwa [List.take_length] at this))
      go_wp2
      go_ret
      exact ⟨ret_int HF.out.symm, HL.out⟩

theorem contains_w1 (a : Option Addr) (cap : Nat) (l : List (Int × Int)) (C : Nat) (R : Int × Int → Bool) (w : World) (h : SlP w a l) (hl : l.length ≤ 1000) (hR : OfB 104 C R w) :
    Calls Tryz.prog 57 #[.slice a l.length cap, .func (.func 104) #[] #[.pointer (some ⟨C, 0, none⟩)]] w fun e w' =>
      e = .returned (.bool (l.any R)) ∧ Below w.heap.size w w' := by
  have H := Lib.hid h
  have HR := Lib.hid hR
  clear h hR
  go_enter Tryz.func57, Tryz.ntmps57
  go_wp2_with fail
  refine (index_w1 a cap l C R _ H.out hl HR.out).mono ?_
  rintro e w1 ⟨rfl, hb⟩
  have HB := Lib.hid hb
  have HI := Lib.hid (idx_any R l)
  clear hb
  generalize idxP R l = i at *
  go_wp2
  go_ret
  exact ⟨ret_bool HI.out, HB.out⟩

set_option maxRecDepth 100000 in
set_option maxHeartbeats 1000000 in
theorem index_w2 (a : Option Addr) (cap : Nat) (l : List (Int × Int)) (C : Nat) (R : Int × Int → Bool) (w : World) (h : SlP w a l) (hl : l.length ≤ 1000) (hR : OfB 105 C R w) :
    Calls Tryz.prog 94 #[.slice a l.length cap, .func (.func 105) #[] #[.pointer (some ⟨C, 0, none⟩)]] w fun e w' =>
      e = .returned (.int .i64 (idxP R l)) ∧ Below w.heap.size w w' := by
  have H := Lib.hid h
  have HC := Lib.hid hR
  clear h hR
  go_enter Tryz.func94, Tryz.ntmps94
  go_wp2
  go_loopw [5, 8] (fun _ i wr => ∃ k : Nat, k ≤ l.length ∧ i = .int .i64 k ∧ Hid (∀ x ∈ l.take k, R x = false) ∧ Hid (Below w.heap.size w wr)) (fun _ i _ => l.length - (intOf i).toNat)
  case atStart => exact ⟨0, Nat.zero_le _, rfl, Lib.hid (fun x hx => by simp at hx), Below.refl _ _⟩
  case round =>
    obtain ⟨k, hk, rfl, HN, HL⟩ := hrel
    by_cases hlt : k < l.length
    · obtain ⟨b, off, rfl, hb, hc0, hc1⟩ := (H.out.keep HL.out).get k hlt
      have HS := Lib.hid (fun e => step_no HN.out hlt e)
      have HI := Lib.hid (fun e => idx_at HN.out hlt e)
      generalize l[k] = x at *
      have HCW := Lib.hid (HC.out _ HL.out x)
      unfold locV at HCW
      cases hx : R x
      · have Hx := Lib.hid hx
        go_wp2_with fail
        refine HCW.out.mono ?_
        rintro e w1 ⟨rfl, hb1⟩
        rw [hx]
        have HB := Lib.hid (HL.out.trans (hb1.mono HL.out.size))
        have HY := Lib.hid (HS.out Hx.out)
        clear hx hb1 hc0 hc1 hb
        go_wp2
        go_roundw
        case rel => exact ⟨k + 1, by omega, by go_num, HY, HB⟩
        case measure => simp [intOf]; omega
      · have Hx := Lib.hid hx
        go_wp2_with fail
        refine HCW.out.mono ?_
        rintro e w1 ⟨rfl, hb1⟩
        rw [hx]
        have HB := Lib.hid (HL.out.trans (hb1.mono HL.out.size))
        have HY := Lib.hid (HI.out Hx.out)
        clear hx hb1 hc0 hc1 hb
        go_wp2
        go_ret
        exact ⟨ret_int HY.out.symm, HB.out⟩
    · obtain rfl : k = l.length := by omega
      have HF := Lib.hid (idx_no (P := R) (l := l) (by have := HN.out; rwa [List.take_length] at this))
      go_wp2
      go_ret
      exact ⟨ret_int HF.out.symm, HL.out⟩

theorem contains_w2 (a : Option Addr) (cap : Nat) (l : List (Int × Int)) (C : Nat) (R : Int × Int → Bool) (w : World) (h : SlP w a l) (hl : l.length ≤ 1000) (hR : OfB 105 C R w) :
    Calls Tryz.prog 57 #[.slice a l.length cap, .func (.func 105) #[] #[.pointer (some ⟨C, 0, none⟩)]] w fun e w' =>
      e = .returned (.bool (l.any R)) ∧ Below w.heap.size w w' := by
  have H := Lib.hid h
  have HR := Lib.hid hR
  clear h hR
  go_enter Tryz.func57, Tryz.ntmps57
  go_wp2_with fail
  refine (index_w2 a cap l C R _ H.out hl HR.out).mono ?_
  rintro e w1 ⟨rfl, hb⟩
  have HB := Lib.hid hb
  have HI := Lib.hid (idx_any R l)
  clear hb
  generalize idxP R l = i at *
  go_wp2
  go_ret
  exact ⟨ret_bool HI.out, HB.out⟩
end Go.Proofs.YtphhnhldbajaoaaGreatDoor

namespace Go.Proofs.YtphhnhldbajaoaaGreatDoor
open Go Go.RowKit

/-- A loop's record. -/
def recL (st : LoopState) (pe : Option Code) (fn : FuncId) (tmps : Array Value) (ps : Array Tmp) (assign body : Code) (D : Nat) : Loop :=
  { state := st, pending := pe, fn := fn, tmps := tmps, params := ps, assign := assign, body := body, defers := D }

/-- What the statement does behind the call, by what is pending. -/
def leaveL (F : Fence) (n : Nat) (P : Program) (Q : Exit → Act → World → Prop) (a : Act) (W : World) : Option Code → Prop
  | none => Q .normal a W
  | some c => c.wpIn F n P Q a W

section
variable {F : Fence} {n : Nat} {P : Program}

theorem range_enter {g : Operand} {ps : Array Tmp} {assign body : Code} {Q : Exit → Act → World → Prop} {a : Act} {w : World}
    (hro : F.round = none) (h1 : 1 ≤ n) {gf : Nat} {lb : Array Value} (hg : a.eval g = .func (.func gf) #[] lb) (hFg : F.fn gf) (eg : ∀ args w, (callFunc gf args).run P w = .ok (.enter gf args) w)
    (h : ∀ fn, F.fn fn → ∀ RC : LoopState → Option Code → Loop, (RC = fun st pe => recL st pe fn a.tmps ps assign body w.heap.size) → CallsIn F (n - 1) P gf (#[.func (.yield (w.heap.size + 1)) #[] #[]] ++ lb) ((w.alloc (.deferred (some []))).alloc (.loop (RC .ready none)))
      fun e W2 => (∃ v, e = .returned v) ∧ ∃ st jump, st ≠ LoopState.busy ∧ W2.heap[w.heap.size + 1]? = some (.loop (RC st jump)) ∧
        leaveL F n P Q { a with defers := { target := .collected w.heap.size, args := #[] } :: a.defers } (W2.putObj (w.heap.size + 1) (.loop (RC .exhausted jump))) jump) :
    (Code.rangeFunc g ps assign body).wpIn F n P Q a w := by
  refine wpIn_rangeFunc fun fn hfn => ?_
  rw [hro]
  have H := h fn hfn _ rfl
  have he := run_enterLoop_outer (P := P) (w := w) fn a.tmps ps assign body
  generalize hW : (w.alloc (.deferred (some []))).alloc (.loop (recL .ready none fn a.tmps ps assign body w.heap.size)) = W1 at H
  rw [show (w.alloc (.deferred (some []))).alloc (.loop { state := .ready, pending := none, fn, tmps := a.tmps, params := ps, assign, body, defers := w.heap.size }) = W1 from hW] at he
  refine ⟨_, _, W1, { target := .fn (.func gf) lb, args := #[.func (.yield (w.heap.size + 1)) #[] #[]] }, W1, gf, #[.func (.yield (w.heap.size + 1)) #[] #[]] ++ lb, W1, he, ?_, ?_, ?_, fun _ => h1, ?_⟩
  · simp only [resolve, hg]
    simp [go_sem]
  · intro f' hf'
    simp [Target.leads] at hf'
    subst hf'
    exact hFg
  · simp [invoke, go_sem, eg]
  · refine H.mono ?_
    rintro e W2 ⟨⟨v, rfl⟩, st, jump, hs, hl, hq⟩
    refine ⟨jump, _, run_endLoop hl hs, ?_⟩
    cases jump <;> exact hq

/-- The record in a round, and behind it. -/
def busyL (r : Loop) : Loop := { r with state := .busy }
def readyL (r : Loop) : Loop := { r with state := .ready, pending := none }
def doneL (r : Loop) (c : Code) : Loop := { r with state := .done, pending := some c }

/-- How a round's body may be left: off its end, or by a return, or out of a block. -/
def roundL (l : Nat) (r : Loop) (R : Ending → World → Prop) : Exit → Act → World → Prop
  | .normal, _, W => W.heap[l]? = some (.loop (busyL r)) ∧ R (.returned (.bool true)) (W.putObj l (.loop (readyL r)))
  | .ret, _, W => W.heap[l]? = some (.loop (busyL r)) ∧ R (.returned (.bool false)) (W.putObj l (.loop (doneL r .ret)))
  | .exit id, _, W => W.heap[l]? = some (.loop (busyL r)) ∧ R (.returned (.bool false)) (W.putObj l (.loop (doneL r (.exit id))))
  | _, _, _ => False

theorem yield_round {l : Nat} {r : Loop} {args : Array Value} {W : World} {R : Ending → World → Prop} (hl : W.heap[l]? = some (.loop r)) (hr : r.state = .ready) (hfn : F.fn r.fn) (hsz : args.size = r.params.size)
    (h : r.assign.wpIn (F.inRound l) n P (Exit.then (fun a1 W1 => W1.heap[l]? = some (.loop r) ∧ r.body.wpIn (F.inRound l) n P (roundL l r R) a1 (W1.putObj l (.loop (busyL r)))) (fun _ _ _ => False))
      { tmps := (r.params.zip args).foldl (fun t (p, v) => t.setIfInBounds p v) r.tmps, defers := [] } W) :
    YieldAt F n P l args W R := by
  refine ⟨r.fn, _, r.assign, r.body, run_yield hl hsz, roundIn_of_wpIn hfn (wpIn_mono h ?_)⟩
  rintro e a1 W1 hq
  cases e with
  | normal =>
    obtain ⟨hl1, hq⟩ := hq
    refine ⟨_, run_beginRound hl1 hr, wpIn_mono hq ?_⟩
    rintro e a2 W2 hp
    cases e with
    | normal => exact ⟨_, _, run_endRound none hp.1, hp.2⟩
    | ret => exact ⟨_, _, run_endRound (some .ret) hp.1, hp.2⟩
    | exit id => exact ⟨_, _, run_endRound (some (.exit id)) hp.1, hp.2⟩
    | goto t => exact hp.elim
    | panic ch => exact hp.elim
    | outgrown => exact hp.elim
  | _ => exact hq.elim
end
end Go.Proofs.YtphhnhldbajaoaaGreatDoor

namespace Go.Proofs.YtphhnhldbajaoaaGreatDoor
open Go Go.RowKit Go.Shelf

attribute [local go_sem] Oper.semAt_some

def foundV (k : Nat) (l : Int × Int) (t : ByteArray) (g : Bool) : Value := .agg #[.int .i64 k, .int .i64 l.1, .int .i64 l.2, .string t, .bool g]
/-- What each copy tells: its text, and an error. -/
structure Told where
  T : Nat → ByteArray
  C : Nat → Int
def Told.good (t : Told) (p : PtrD) (k : Nat) : Bool := t.C k == 0 && isT p (t.T k)

set_option maxRecDepth 100000 in
set_option maxHeartbeats 1000000 in
theorem copies_iter (n l pb db : Nat) (hn : 1 ≤ n) (x : Option Addr) (a : Option Addr) (cap : Nat) (p : PtrD) (hl : p.locs.length ≤ 1000) (t : Told) (hT : ∀ k, k < p.locs.length → (t.T k).size ≤ 140737488355328) (J Jx : Nat → World → Prop)
    (hJs : ∀ k W, J k W → Kt W ∧ SlP W a p.locs ∧ W.cell? ⟨db, 0, none⟩ = some (.pointer x) ∧ Box W pb 37 #[.slice a p.locs.length cap, .int .i64 p.len, .int .i64 p.birth, .string p.sum])
    (hJb : ∀ k W W', J k W → Below W.heap.size W W' → J k W')
    (hR : ∀ k W (h : k < p.locs.length), J k W → Calls Tryz.prog 137 #[.pointer x, locV p.locs[k]] W fun e W' => e = .returned (.tuple #[.string (t.T k), .int .i64 (t.C k)]) ∧ Below W.heap.size W W')
    (hY : ∀ k W (h : k < p.locs.length), J k W → YieldAt Fence.wide (n - 1) Tryz.prog l #[foundV k p.locs[k] (t.T k) (t.good p k)] W fun e W' => (e = .returned (.bool true) ∧ J (k + 1) W') ∨ (e = .returned (.bool false) ∧ Jx (k + 1) W'))
    (W : World) (h0 : J 0 W) :
    CallsIn Fence.wide n Tryz.prog 157 #[.func (.yield l) #[] #[], .pointer (some ⟨pb, 0, none⟩), .pointer (some ⟨db, 0, none⟩)] W fun e W' => (∃ v, e = .returned v) ∧
      (J p.locs.length W' ∨ ∃ k, k ≤ p.locs.length ∧ Jx k W') := by
  have HY := Lib.hid hY
  have HJB := Lib.hid hJb
  have HJS := Lib.hid hJs
  have HRD := Lib.hid hR
  have HTT := Lib.hid hT
  obtain ⟨_, _, _, hbx⟩ := hJs _ _ h0
  have H0 := Lib.hid h0
  have c0 : W.cell? ⟨pb, 0, none⟩ = some (.slice a p.locs.length cap) := hbx.cell 0 _ rfl
  clear hY hJb hJs h0 hR hT hbx
  refine callsIn_of_wp Tryz.func157 rfl trivial ?_ rfl
  simp only [Tryz.ntmps157, List.size_toArray, List.length_cons, List.length_nil, Nat.reduceAdd, Nat.reduceSub, Array.replicate_succ, Array.replicate_zero, List.push_toArray, List.append_toArray, List.nil_append, List.cons_append]
  gi_wp2
  gi_loopw [4, 5, 6, 7, 8, 12] (fun _ _ _ _ _ i wr => ∃ k : Nat, k ≤ p.locs.length ∧ i = .int .i64 k ∧ Hid (J k wr)) (fun _ _ _ _ _ i _ => p.locs.length - (intOf i).toNat)
  case atStart => exact ⟨0, Nat.zero_le _, rfl, H0⟩
  case round =>
    obtain ⟨k, hk, rfl, HJ⟩ := hrel
    clear c0 H0
    by_cases hlt : k < p.locs.length
    · obtain ⟨hK, hs, hd, hbx⟩ := HJS.out _ _ HJ.out
      obtain ⟨b, off, rfl, hb, hc0, hc1⟩ := hs.get k hlt
      have hx := fun o : Obj => (Below.refl wr.heap.size wr).alloc (Nat.le_refl _) o
      have hd1 : ∀ o : Obj, (wr.alloc o).cell? ⟨db, 0, none⟩ = some (.pointer x) := fun o => ((hx o).cell (p := ⟨db, 0, none⟩) (lt_of_cell hd)).trans hd
      have hrk := HRD.out k (wr.alloc (.cells #[.int .i64 p.locs[k].1, .int .i64 p.locs[k].2] 47)) hlt (HJB.out _ _ _ HJ.out (hx _))
      have HYK := Lib.hid fun W => HY.out k W hlt
      generalize p.locs[k] = lk at *
      obtain ⟨la, lb⟩ := lk
      simp only at hc0 hc1
      have BX := Lib.hid (Box.new wr 47 #[.int .i64 la, .int .i64 lb])
      have HX := Lib.hid (hx (.cells #[.int .i64 la, .int .i64 lb] 47))
      have hcl0 : (wr.alloc (.cells #[.int .i64 la, .int .i64 lb] 47)).cell? ⟨wr.heap.size, 0, none⟩ = some (.int .i64 la) := BX.out.cell 0 _ rfl
      have hcl1 : (wr.alloc (.cells #[.int .i64 la, .int .i64 lb] 47)).cell? ⟨wr.heap.size, 1, none⟩ = some (.int .i64 lb) := BX.out.cell 1 _ rfl
      have HRK := Lib.hid hrk
      clear hx hrk hs hb hK hbx
      unfold locV at HRK
      have HK := Lib.hid hk
      have HLT := Lib.hid hlt
      gi_wp2_with fail
      refine ⟨trivial, ?_⟩
      refine (callsIn_wide.2 HRK.out).mono ?_
      rintro e w1 ⟨rfl, hb1⟩
      have HB1 := Lib.hid (HX.out.trans (hb1.mono HX.out.size))
      have BX1 := Lib.hid (BX.out.keep hb1 BX.out.lt)
      have HJ1 := Lib.hid (HJB.out _ _ _ HJ.out HB1.out)
      clear hb1 hd1 hcl0 hcl1 hc0 hc1 hd HX BX HRK
      generalize hgk : t.good p k = gk at *
      have HGK := Lib.hid hgk
      unfold Told.good at HGK
      have hTs := HTT.out k HLT.out
      generalize t.T k = tk at *
      generalize t.C k = ck at *
      obtain ⟨hK, _, _, hbx⟩ := HJS.out _ _ HJ1.out
      have hp0 : w1.cell? ⟨pb, 0, none⟩ = some (.slice (some ⟨b, off, none⟩) p.locs.length cap) := hbx.cell 0 _ rfl
      have hp1 : w1.cell? ⟨pb, 1, none⟩ = some (.int .i64 p.len) := hbx.cell 1 _ rfl
      have hp2 : w1.cell? ⟨pb, 2, none⟩ = some (.int .i64 p.birth) := hbx.cell 2 _ rfl
      have hp3 : w1.cell? ⟨pb, 3, none⟩ = some (.string p.sum) := hbx.cell 3 _ rfl
      have HIS := Lib.hid (isof_any (some ⟨b, off, none⟩) cap p tk w1 hTs hK)
      unfold ptrV at HIS
      clear hbx hK hgk
      by_cases hc : ck = 0
      · have hq : (ck == 0) = true := by simpa using hc
        rw [hq, Bool.true_and] at HGK
        gi_wp2_with fail
        refine ⟨trivial, ?_⟩
        refine (callsIn_wide.2 HIS.out).mono ?_
        rintro e w2 ⟨rfl, hb2⟩
        rw [HGK.out]
        have HB2 := Lib.hid (HB1.out.trans (hb2.mono HB1.out.size))
        have BX2 := Lib.hid (BX1.out.keep hb2 BX1.out.lt)
        have HJ2 := Lib.hid (HJB.out _ _ _ HJ1.out hb2)
        clear hb2 hp0 hp1 hp2 hp3 HIS hq hc HJ1 BX1 HB1
        have hl0 : w2.cell? ⟨wr.heap.size, 0, none⟩ = some (.int .i64 la) := BX2.out.cell 0 _ rfl
        have hl1 : w2.cell? ⟨wr.heap.size, 1, none⟩ = some (.int .i64 lb) := BX2.out.cell 1 _ rfl
        have hy := HYK.out w2 HJ2.out
        unfold foundV at hy
        obtain ⟨fn, tmps, assign, body, hyy, hR⟩ := hy
        gi_wp2
        refine hR.mono ?_
        rintro e w3 (⟨rfl, hJ3⟩ | ⟨rfl, hJx3⟩)
        · have hk5 : (k : Int) < 1000 := by have := HLT.out; omega
          have hw1 : wrap64 ((k : Int) + 1) = k + 1 := IntWalk.wrap64_in _ (by omega)
          gi_wp2
          go_roundw
          case rel => exact ⟨k + 1, HLT.out, by go_num, hJ3⟩
          case measure => have := HLT.out; simp [intOf]; omega
        · gi_wp2
          refine bodyPost_ret (results_none rfl _ _ _) rfl ?_
          exact ⟨⟨_, rfl⟩, .inr ⟨k + 1, HLT.out, hJx3⟩⟩
      · have hq : (ck == 0) = false := by simpa using hc
        rw [hq, Bool.false_and] at HGK
        obtain rfl : false = gk := HGK.out
        clear hc HGK HIS hp0 hp1 hp2 hp3
        gi_wp2_with fail
        refine ⟨trivial, ?_⟩
        have BX2 := BX1
        have HJ2 := HJ1
        have hl0 : w1.cell? ⟨wr.heap.size, 0, none⟩ = some (.int .i64 la) := BX2.out.cell 0 _ rfl
        have hl1 : w1.cell? ⟨wr.heap.size, 1, none⟩ = some (.int .i64 lb) := BX2.out.cell 1 _ rfl
        have hy := HYK.out w1 HJ2.out
        unfold foundV at hy
        obtain ⟨fn, tmps, assign, body, hyy, hR⟩ := hy
        gi_wp2
        refine hR.mono ?_
        rintro e w3 (⟨rfl, hJ3⟩ | ⟨rfl, hJx3⟩)
        · have hk5 : (k : Int) < 1000 := by have := HLT.out; omega
          have hw1 : wrap64 ((k : Int) + 1) = k + 1 := IntWalk.wrap64_in _ (by omega)
          gi_wp2
          go_roundw
          case rel => exact ⟨k + 1, HLT.out, by go_num, hJ3⟩
          case measure => have := HLT.out; simp [intOf]; omega
        · gi_wp2
          refine bodyPost_ret (results_none rfl _ _ _) rfl ?_
          exact ⟨⟨_, rfl⟩, .inr ⟨k + 1, HLT.out, hJx3⟩⟩
    · obtain rfl : k = p.locs.length := by omega
      gi_wp2
      go_end0
      exact ⟨⟨_, rfl⟩, .inl HJ.out⟩
end Go.Proofs.YtphhnhldbajaoaaGreatDoor

namespace Go.Proofs.YtphhnhldbajaoaaGreatDoor
open Go Go.RowKit Go.Shelf

attribute [local go_sem] Oper.semAt_some

theorem chg_putObj (W : World) (r : Nat) (o : Obj) : Chg [r] W (W.putObj r o) := by
  have h := grownBy_putObj' W r o
  exact ⟨h.os, h.tape, h.output, h.size, fun k hk hn => h.block k hk (fun e => hn (by simp at e; simp [e]))⟩

theorem copies_any (n : Nat) (_hn : 1 ≤ n) (x a : Option Addr) (cap : Nat) (p : PtrD) (W : World) : CallsIn Fence.wide n Tryz.prog 138 #[.pointer x, ptrV a cap p] W fun e w' =>
    e = .returned (.func (.func 157) #[] #[.pointer (some ⟨W.heap.size + 1, 0, none⟩), .pointer (some ⟨W.heap.size, 0, none⟩)]) ∧
    w'.heap.size = W.heap.size + 2 ∧ Below W.heap.size W w' ∧ w'.heap[W.heap.size]? = some (.cells #[.pointer x] 56 (0, 0)) ∧
    w'.heap[W.heap.size + 1]? = some (.cells #[.slice a p.locs.length cap, .int .i64 p.len, .int .i64 p.birth, .string p.sum] 37 (0, 0)) := by
  unfold ptrV
  refine callsIn_of_wp Tryz.func138 rfl trivial ?_ rfl
  simp only [Tryz.ntmps138, List.size_toArray, List.length_cons, List.length_nil, Nat.reduceAdd, Nat.reduceSub, Array.replicate_succ, Array.replicate_zero, List.push_toArray, List.append_toArray, List.nil_append, List.cons_append]
  gi_wp2
  go_ret
  refine ⟨rfl, by simp only [size_alloc], ((Below.refl _ _).alloc (Nat.le_refl _) _).alloc (by rw [size_alloc]; omega) _, (Below.heap_alloc _ _ _ (by rw [size_alloc]; omega)).trans (World.alloc_heap_new W _), ?_⟩
  have := World.alloc_heap_new (W.alloc (.cells #[.pointer x] 56)) (.cells #[.slice a p.locs.length cap, .int .i64 p.len, .int .i64 p.birth, .string p.sum] 37)
  rwa [size_alloc] at this

/-- The first copy that is good. -/
def firstG (t : Told) (p : PtrD) : Option Nat := (List.range p.locs.length).find? (t.good p)
def readR (t : Told) (p : PtrD) : ByteArray × Nat × Int := if badP p then (⟨#[]⟩, 0, 1) else match firstG t p with
  | some k => (t.T k, k, 0)
  | none => (⟨#[]⟩, 0, 7)
theorem firstG_at {t : Told} {p : PtrD} {k : Nat} (h : ∀ j < k, t.good p j = false) (hk : k < p.locs.length) (hg : t.good p k = true) : firstG t p = some k := by
  unfold firstG
  rw [List.find?_range_eq_some]
  exact ⟨hg, by simpa using hk, fun j hj => by simp [h j hj]⟩
theorem firstG_no {t : Told} {p : PtrD} (h : ∀ j < p.locs.length, t.good p j = false) : firstG t p = none := by
  unfold firstG
  rw [List.find?_eq_none]
  intro j hj
  rw [List.mem_range] at hj
  simp [h j hj]
theorem readR_bad {t : Told} {p : PtrD} (h : badP p) : readR t p = (⟨#[]⟩, 0, 1) := if_pos h
theorem readR_at {t : Told} {p : PtrD} {k : Nat} (hp : ¬ badP p) (h : firstG t p = some k) : readR t p = (t.T k, k, 0) := by unfold readR; rw [if_neg hp, h]
theorem readR_no {t : Told} {p : PtrD} (hp : ¬ badP p) (h : firstG t p = none) : readR t p = (⟨#[]⟩, 0, 7) := by unfold readR; rw [if_neg hp, h]

/-- What the devices tell of p's places, as long as old memory stays. -/
def Rd (x : Option Addr) (p : PtrD) (t : Told) (w : World) : Prop :=
  ∀ W, Below w.heap.size w W → ∀ k (h : k < p.locs.length), Calls Tryz.prog 137 #[.pointer x, locV p.locs[k]] W fun e W' => e = .returned (.tuple #[.string (t.T k), .int .i64 (t.C k)]) ∧ Below W.heap.size W W'
/-- Three results that lie in cells. -/
theorem results_c3 {P : Program} {fn : Func} {p q r : Tmp} {t1 t2 t3 : TypeId} (h : fn.results = #[.cell p t1, .cell q t2, .cell r t3]) (tmps : Array Value) (w : World) (a1 a2 a3 : Addr) (v1 v2 v3 : Value)
    (hp : tmps.getD p undef = .pointer (some a1)) (hq : tmps.getD q undef = .pointer (some a2)) (hr : tmps.getD r undef = .pointer (some a3)) (g1 : (isAgg t1).run P w = .ok false w) (g2 : (isAgg t2).run P w = .ok false w) (g3 : (isAgg t3).run P w = .ok false w)
    (h1 : w.cell? a1 = some v1) (h2 : w.cell? a2 = some v2) (h3 : w.cell? a3 = some v3) : (results fn tmps).run P w = .ok (.tuple #[v1, v2, v3]) w := by
  have hp' : tmps[p]?.getD undef = .pointer (some a1) := by simpa using hp
  have hq' : tmps[q]?.getD undef = .pointer (some a2) := by simpa using hq
  have hr' : tmps[r]?.getD undef = .pointer (some a3) := by simpa using hr
  simp [results, h, hp', hq', hr', asAddr, loadVar, Sem.run_bind, g1, g2, g3, h1, h2, h3, go_sem]
/-- Three cells of blocks of their own, stored to. -/
theorem three_set {W : World} {a b c : Nat} {t1 t2 t3 : TypeId} {u1 u2 u3 : Value} (h1 : Box W a t1 #[u1]) (h2 : Box W b t2 #[u2]) (h3 : Box W c t3 #[u3]) (hab : a ≠ b) (hac : a ≠ c) (hbc : b ≠ c) (v1 v2 v3 : Value) :
    Box (((W.setCell ⟨a, 0, none⟩ v1).setCell ⟨b, 0, none⟩ v2).setCell ⟨c, 0, none⟩ v3) a t1 #[v1] ∧ Box (((W.setCell ⟨a, 0, none⟩ v1).setCell ⟨b, 0, none⟩ v2).setCell ⟨c, 0, none⟩ v3) b t2 #[v2] ∧
    Box (((W.setCell ⟨a, 0, none⟩ v1).setCell ⟨b, 0, none⟩ v2).setCell ⟨c, 0, none⟩ v3) c t3 #[v3] ∧ Chg [a, b, c] W (((W.setCell ⟨a, 0, none⟩ v1).setCell ⟨b, 0, none⟩ v2).setCell ⟨c, 0, none⟩ v3) := by
  have e := fun (X : World) (x y : Nat) (v : Value) (h : y ≠ x) => heap_setCell_other X ⟨x, 0, none⟩ y v h
  refine ⟨((h1.set 0 v1).of (e _ b a v2 hab)).of (e _ c a v3 hac), ((h2.of (e _ a b v1 (Ne.symm hab))).set 0 v2).of (e _ c b v3 hbc), ((h3.of (e _ a c v1 (Ne.symm hac))).of (e _ b c v2 (Ne.symm hbc))).set 0 v3, ?_⟩
  exact (((Chg.refl [a, b, c] W).set a 0 v1 (.inl (by simp))).set b 0 v2 (.inl (by simp))).set c 0 v3 (.inl (by simp))
end Go.Proofs.YtphhnhldbajaoaaGreatDoor
