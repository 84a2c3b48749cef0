/-
  Texts put together: Range, SeR, SeI.
-/
import Derived.RangeFuncOwn
import Derived.RangeFuncSeq
import Derived.Test.YtopinlnjdgedeaaDoorMg0
import Derived.Test.YtopinlnjdgedeaaDoorMg14
import Derived.RangeFuncBound
import Derived.RangeFuncCalls
import Derived.RangeFuncLeaves
import Derived.Shelf.Abstract
import Derived.Shelf.RegionOpen
import Derived.WalkKit
import Derived.OwnWalkIn
import Derived.TacticsInMore
import Derived.LoopNIn
import Derived.LoopIn
import Derived.Shelf.AbstractIn
import Derived.Lib.Hide
namespace Go.Proofs.YtopinlnjdgedeaaDoor
open Go Go.RowKit

/-- A loop's record. -/
def recL (st : LoopState) (pe : Option Code) (fn : FuncId) (tmps : Array Value) (ps : Array Tmp) (assign body : Code) (D : Nat) : Loop :=
  { state := st, pending := pe, fn := fn, tmps := tmps, params := ps, assign := assign, body := body, defers := D }

/-- What the statement does behind the call, by what is pending. -/
def leaveL (F : Fence) (n : Nat) (P : Program) (Q : Exit → Act → World → Prop) (a : Act) (W : World) : Option Code → Prop
  | none => Q .normal a W
  | some c => c.wpIn F n P Q a W

section
variable {F : Fence} {n : Nat} {P : Program}

theorem range_enter {g : Operand} {ps : Array Tmp} {assign body : Code} {Q : Exit → Act → World → Prop} {a : Act} {w : World}
    (hro : F.round = none) (h1 : 1 ≤ n) {gf : Nat} {lb : Array Value} (hg : a.eval g = .func (.func gf) #[] lb) (hFg : F.fn gf) (eg : ∀ args w, (callFunc gf args).run P w = .ok (.enter gf args) w)
    (h : ∀ fn, F.fn fn → ∀ RC : LoopState → Option Code → Loop, (RC = fun st pe => recL st pe fn a.tmps ps assign body w.heap.size) → CallsIn F (n - 1) P gf (#[.func (.yield (w.heap.size + 1)) #[] #[]] ++ lb) ((w.alloc (.deferred (some []))).alloc (.loop (RC .ready none)))
      fun e W2 => (∃ v, e = .returned v) ∧ ∃ st jump, st ≠ LoopState.busy ∧ W2.heap[w.heap.size + 1]? = some (.loop (RC st jump)) ∧
        leaveL F n P Q { a with defers := { target := .collected w.heap.size, args := #[] } :: a.defers } (W2.putObj (w.heap.size + 1) (.loop (RC .exhausted jump))) jump) :
    (Code.rangeFunc g ps assign body).wpIn F n P Q a w := by
  refine wpIn_rangeFunc fun fn hfn => ?_
  rw [hro]
  have H := h fn hfn _ rfl
  have he := run_enterLoop_outer (P := P) (w := w) fn a.tmps ps assign body
  generalize hW : (w.alloc (.deferred (some []))).alloc (.loop (recL .ready none fn a.tmps ps assign body w.heap.size)) = W1 at H
  rw [show (w.alloc (.deferred (some []))).alloc (.loop { state := .ready, pending := none, fn, tmps := a.tmps, params := ps, assign, body, defers := w.heap.size }) = W1 from hW] at he
  refine ⟨_, _, W1, { target := .fn (.func gf) lb, args := #[.func (.yield (w.heap.size + 1)) #[] #[]] }, W1, gf, #[.func (.yield (w.heap.size + 1)) #[] #[]] ++ lb, W1, he, ?_, ?_, ?_, fun _ => h1, ?_⟩
  · simp only [resolve, hg]
    simp [go_sem]
  · intro f' hf'
    simp [Target.leads] at hf'
    subst hf'
    exact hFg
  · simp [invoke, go_sem, eg]
  · refine H.mono ?_
    rintro e W2 ⟨⟨v, rfl⟩, st, jump, hs, hl, hq⟩
    refine ⟨jump, _, run_endLoop hl hs, ?_⟩
    cases jump <;> exact hq

/-- The record in a round, and behind it. -/
def busyL (r : Loop) : Loop := { r with state := .busy }
def readyL (r : Loop) : Loop := { r with state := .ready, pending := none }
def doneL (r : Loop) (c : Code) : Loop := { r with state := .done, pending := some c }

/-- How a round's body may be left: off its end, or by a return, or out of a block. -/
def roundL (l : Nat) (r : Loop) (R : Ending → World → Prop) : Exit → Act → World → Prop
  | .normal, _, W => W.heap[l]? = some (.loop (busyL r)) ∧ R (.returned (.bool true)) (W.putObj l (.loop (readyL r)))
  | .ret, _, W => W.heap[l]? = some (.loop (busyL r)) ∧ R (.returned (.bool false)) (W.putObj l (.loop (doneL r .ret)))
  | .exit id, _, W => W.heap[l]? = some (.loop (busyL r)) ∧ R (.returned (.bool false)) (W.putObj l (.loop (doneL r (.exit id))))
  | _, _, _ => False

theorem yield_round {l : Nat} {r : Loop} {args : Array Value} {W : World} {R : Ending → World → Prop} (hl : W.heap[l]? = some (.loop r)) (hr : r.state = .ready) (hfn : F.fn r.fn) (hsz : args.size = r.params.size)
    (h : r.assign.wpIn (F.inRound l) n P (Exit.then (fun a1 W1 => W1.heap[l]? = some (.loop r) ∧ r.body.wpIn (F.inRound l) n P (roundL l r R) a1 (W1.putObj l (.loop (busyL r)))) (fun _ _ _ => False))
      { tmps := (r.params.zip args).foldl (fun t (p, v) => t.setIfInBounds p v) r.tmps, defers := [] } W) :
    YieldAt F n P l args W R := by
  refine ⟨r.fn, _, r.assign, r.body, run_yield hl hsz, roundIn_of_wpIn hfn (wpIn_mono h ?_)⟩
  rintro e a1 W1 hq
  cases e with
  | normal =>
    obtain ⟨hl1, hq⟩ := hq
    refine ⟨_, run_beginRound hl1 hr, wpIn_mono hq ?_⟩
    rintro e a2 W2 hp
    cases e with
    | normal => exact ⟨_, _, run_endRound none hp.1, hp.2⟩
    | ret => exact ⟨_, _, run_endRound (some .ret) hp.1, hp.2⟩
    | exit id => exact ⟨_, _, run_endRound (some (.exit id)) hp.1, hp.2⟩
    | goto t => exact hp.elim
    | panic ch => exact hp.elim
    | outgrown => exact hp.elim
  | _ => exact hq.elim
end
end Go.Proofs.YtopinlnjdgedeaaDoor

namespace Go.Proofs.YtopinlnjdgedeaaDoor
open Go Go.RowKit

theorem putObj_os (W : World) (r : Nat) (o : Obj) : W.heap.size ≤ (W.putObj r o).heap.size := (grownBy_putObj' W r o).size

theorem range_by {n : Nat} {P : Program} {g : Operand} {ps : Array Tmp} {assign body : Code} {Q : Exit → Act → World → Prop} {a : Act} {w : World}
    (h1 : 1 ≤ n) {gf : Nat} {lb : Array Value} (hg : a.eval g = .func (.func gf) #[] lb) (eg : ∀ args w, (callFunc gf args).run P w = .ok (.enter gf args) w)
    (lo hi : Nat) (ya : Nat → Array Value) (hsz : ∀ k, (ya k).size = ps.size) (Good : World → Prop)
    (ITER : ∀ (l : Nat) (J : Nat → World → Prop) (Jx : World → Prop) (W : World), (∀ k W, J k W → Good W) → (∀ k W W', J k W → Below W.heap.size W W' → J k W') →
      (∀ k W, lo ≤ k → k < hi → J k W → YieldAt Fence.wide (n - 1 - 1) P l (ya k) W fun e W' => (e = .returned (.bool true) ∧ J (k + 1) W') ∨ (e = .returned (.bool false) ∧ Jx W')) →
      J lo W → CallsIn Fence.wide (n - 1) P gf (#[.func (.yield l) #[] #[]] ++ lb) W fun e W' => (∃ v, e = .returned v) ∧ (J (max lo hi) W' ∨ Jx W'))
    (J : Nat → World → Prop) (Jx : World → Prop)
    (hJg : ∀ k W, J k W → Good W) (hJb : ∀ k W W', J k W → Below W.heap.size W W' → J k W')
    (hJp : ∀ k W o, J k W → w.heap.size + 2 ≤ W.heap.size → J k (W.putObj (w.heap.size + 1) o)) (hXp : ∀ W o, Jx W → w.heap.size + 2 ≤ W.heap.size → Jx (W.putObj (w.heap.size + 1) o)) (h0 : J lo w)
    (hbody : ∀ k W, lo ≤ k → k < hi → J k W → w.heap.size + 2 ≤ W.heap.size →
      assign.wpIn (Fence.wide.inRound (w.heap.size + 1)) (n - 1 - 1) P (fun e a1 W1 => e = .normal ∧ W1 = W ∧ ∀ o,
        body.wpIn (Fence.wide.inRound (w.heap.size + 1)) (n - 1 - 1) P (fun e2 _ W2 => W.heap.size ≤ W2.heap.size ∧ W2.heap[w.heap.size + 1]? = (W.putObj (w.heap.size + 1) o).heap[w.heap.size + 1]? ∧ W2.heap[w.heap.size]? = W.heap[w.heap.size]? ∧
          match e2 with | .normal => J (k + 1) W2 | .ret => Jx W2 | _ => False) a1 (W.putObj (w.heap.size + 1) o))
        { tmps := (ps.zip (ya k)).foldl (fun t (p, v) => t.setIfInBounds p v) a.tmps, defers := [] } W)
    (hend : ∀ W, J (max lo hi) W → w.heap.size + 2 ≤ W.heap.size → W.heap[w.heap.size]? = some (.deferred (some [])) → Q .normal { a with defers := { target := .collected w.heap.size, args := #[] } :: a.defers } W)
    (hret : ∀ W, Jx W → w.heap.size + 2 ≤ W.heap.size → W.heap[w.heap.size]? = some (.deferred (some [])) → Code.ret.wpIn Fence.wide n P Q { a with defers := { target := .collected w.heap.size, args := #[] } :: a.defers } W) :
    (Code.rangeFunc g ps assign body).wpIn Fence.wide n P Q a w := by
  refine range_enter rfl h1 hg trivial eg ?_
  intro fn hfn RC hRC
  have hz : ((w.alloc (.deferred (some []))).alloc (.loop (RC .ready none))).heap.size = w.heap.size + 2 := by simp only [size_alloc]
  have hr0 : ((w.alloc (.deferred (some []))).alloc (.loop (RC .ready none))).heap[w.heap.size + 1]? = some (.loop (RC .ready none)) := by
    have := World.alloc_heap_new (w.alloc (.deferred (some []))) (.loop (RC .ready none))
    rwa [size_alloc] at this
  have hd0 : ((w.alloc (.deferred (some []))).alloc (.loop (RC .ready none))).heap[w.heap.size]? = some (.deferred (some [])) :=
    (Below.heap_alloc _ _ _ (by rw [size_alloc]; omega)).trans (World.alloc_heap_new w _)
  have hx : Below w.heap.size w ((w.alloc (.deferred (some []))).alloc (.loop (RC .ready none))) := ((Below.refl _ w).alloc (Nat.le_refl _) _).alloc (by rw [size_alloc]; omega) _
  refine (ITER (w.heap.size + 1) (fun k W => J k W ∧ w.heap.size + 2 ≤ W.heap.size ∧ W.heap[w.heap.size + 1]? = some (.loop (RC .ready none)) ∧ W.heap[w.heap.size]? = some (.deferred (some [])))
    (fun W => Jx W ∧ w.heap.size + 2 ≤ W.heap.size ∧ W.heap[w.heap.size + 1]? = some (.loop (RC .done (some .ret))) ∧ W.heap[w.heap.size]? = some (.deferred (some []))) _ ?_ ?_ ?_ ?_).mono ?_
  · exact fun k W h => hJg k W h.1
  · rintro k W W' ⟨hj, hs, hr, hd⟩ hb
    exact ⟨hJb _ _ _ hj hb, Nat.le_trans hs hb.size, (hb.block _ (by omega)).trans hr, (hb.block _ (by omega)).trans hd⟩
  · rintro k W hlo hhi ⟨hj, hs, hr, hd⟩
    refine yield_round (r := RC .ready none) hr (by rw [hRC]; rfl) (by rw [hRC]; exact hfn) (by rw [hRC]; exact hsz k) ?_
    have H := hbody k W hlo hhi hj hs
    rw [show (RC .ready none).assign = assign from by rw [hRC]; rfl, show (RC .ready none).body = body from by rw [hRC]; rfl, show (RC .ready none).params = ps from by rw [hRC]; rfl, show (RC .ready none).tmps = a.tmps from by rw [hRC]; rfl]
    refine wpIn_mono H ?_
    rintro e a1 W1 ⟨rfl, rfl, hb⟩
    refine ⟨hr, wpIn_mono (hb _) ?_⟩
    rintro e2 a2 W2 ⟨hs2, hr2, hd2, hq⟩
    rw [World.putObj_heap_same (Array.getElem?_eq_some_iff.1 hr).1] at hr2
    have hs3 : w.heap.size + 2 ≤ W2.heap.size := Nat.le_trans hs hs2
    have hlt := (Array.getElem?_eq_some_iff.1 hr2).1
    cases e2 with
    | normal =>
      refine ⟨hr2, .inl ⟨rfl, hJp _ _ _ hq hs3, Nat.le_trans hs3 (putObj_os _ _ _), ?_, ?_⟩⟩
      · rw [show readyL (RC .ready none) = RC .ready none from by rw [hRC]; rfl]
        exact World.putObj_heap_same hlt
      · exact (World.putObj_heap_other (by omega)).trans (hd2.trans hd)
    | ret =>
      refine ⟨hr2, .inr ⟨rfl, hXp _ _ hq hs3, Nat.le_trans hs3 (putObj_os _ _ _), ?_, ?_⟩⟩
      · rw [show doneL (RC .ready none) .ret = RC .done (some .ret) from by rw [hRC]; rfl]
        exact World.putObj_heap_same hlt
      · exact (World.putObj_heap_other (by omega)).trans (hd2.trans hd)
    | _ => exact hq.elim
  · exact ⟨hJb _ _ _ h0 hx, by rw [hz]; exact Nat.le_refl _, hr0, hd0⟩
  · rintro e W2 ⟨hv, ⟨hj, hs, hr, hd⟩ | ⟨hj, hs, hr, hd⟩⟩
    · refine ⟨hv, .ready, none, by simp, hr, ?_⟩
      exact hend _ (hJp _ _ _ hj hs) (Nat.le_trans hs (putObj_os _ _ _)) ((World.putObj_heap_other (by omega)).trans hd)
    · refine ⟨hv, .done, some .ret, by simp, hr, ?_⟩
      exact hret _ (hXp _ _ hj hs) (Nat.le_trans hs (putObj_os _ _ _)) ((World.putObj_heap_other (by omega)).trans hd)
end Go.Proofs.YtopinlnjdgedeaaDoor

namespace Go.Proofs.YtopinlnjdgedeaaDoor
open Go Go.RowKit Go.Shelf Go.ChangeShapes Go.WideShapes Go.ChangeAt

attribute [local go_sem] Oper.semAt_some

theorem places_any (sp : Option Addr) (fr to : Int) (w : World) : Calls Tryd.prog 41 #[.pointer sp, .int .i64 fr, .int .i64 to] w fun e w' =>
    e = .returned (.func (.func 53) #[] #[.pointer (some ⟨w.heap.size + 1, 0, none⟩), .pointer (some ⟨w.heap.size + 2, 0, none⟩), .pointer (some ⟨w.heap.size, 0, none⟩)]) ∧
    Below w.heap.size w w' ∧ Box w' w.heap.size 27 #[.pointer sp] ∧ Box w' (w.heap.size + 1) 3 #[.int .i64 fr] ∧ Box w' (w.heap.size + 2) 3 #[.int .i64 to] := by
  go_enter Tryd.func41, Tryd.ntmps41
  go_wp2
  go_ret
  have b0 := Box.new w 27 #[.pointer sp]
  have b1 := Box.new (w.alloc (.cells #[.pointer sp] 27)) 3 #[.int .i64 fr]
  have b2 := Box.new ((w.alloc (.cells #[.pointer sp] 27)).alloc (.cells #[.int .i64 fr] 3)) 3 #[.int .i64 to]
  simp only [size_alloc] at b1 b2
  exact ⟨rfl, (((Below.refl _ _).alloc (Nat.le_refl _) _).alloc (by rw [size_alloc]; omega) _).alloc (by simp only [size_alloc]; omega) _, (b0.alloc _).alloc _, b1.alloc _, b2⟩

set_option maxRecDepth 100000 in
set_option maxHeartbeats 1000000 in
theorem places_iter (n l c3 c4 c5 : Nat) (hn : 1 ≤ n) (sp : Option Addr) (fr to rm : Nat) (hto : to ≤ 1000) (hfr : fr ≤ 1000) (hrm : rm ≤ 1000) (sec : Nat → Nat) (Good : World → Prop)
    (hG : ∀ W, Good W → Box W c3 27 #[.pointer sp] ∧ Box W c4 3 #[.int .i64 fr] ∧ Box W c5 3 #[.int .i64 to])
    (hRm : ∀ W, Good W → Calls Tryd.prog 14 #[.pointer sp] W fun e W' => e = .returned (.int .i64 rm) ∧ Below W.heap.size W W')
    (hSe : ∀ W (k : Nat), Good W → k < to → k < rm → Calls Tryd.prog 26 #[.pointer sp, .int .i64 k] W fun e W' => e = .returned (.int .i64 (sec k)) ∧ W = W')
    (J : Nat → World → Prop) (Jx : World → Prop) (W : World)
    (hJg : ∀ k W, J k W → Good W) (hJb : ∀ k W W', J k W → Below W.heap.size W W' → J k W')
    (hY : ∀ k W, fr ≤ k → k < min to rm → J k W → YieldAt Fence.wide (n - 1) Tryd.prog l #[.int .i64 (sec k)] W fun e W' => (e = .returned (.bool true) ∧ J (k + 1) W') ∨ (e = .returned (.bool false) ∧ Jx W'))
    (h0 : J fr W) :
    CallsIn Fence.wide n Tryd.prog 53 #[.func (.yield l) #[] #[], .pointer (some ⟨c4, 0, none⟩), .pointer (some ⟨c5, 0, none⟩), .pointer (some ⟨c3, 0, none⟩)] W fun e W' => (∃ v, e = .returned v) ∧ (J (max fr (min to rm)) W' ∨ Jx W') := by
  have HY := Lib.hid hY
  have HJB := Lib.hid hJb
  have HJG := Lib.hid hJg
  have HRM := Lib.hid hRm
  have HSE := Lib.hid hSe
  have HG := Lib.hid hG
  have H0 := Lib.hid h0
  have HB := Lib.hid (And.intro hto (And.intro hfr hrm))
  have b4 := (hG _ (hJg _ _ h0)).2.1
  have k4 := b4.cell 0 _ rfl
  clear hY hJb hJg hRm hSe hG h0 b4 hto hfr hrm
  refine callsIn_of_wp Tryd.func53 rfl trivial ?_ rfl
  simp only [Tryd.ntmps53, List.size_toArray, List.length_cons, List.length_nil, Nat.reduceAdd, Nat.reduceSub, Array.replicate_succ, Array.replicate_zero, List.push_toArray, List.append_toArray, List.nil_append, List.cons_append]
  gi_wp2
  clear k4
  gi_loopw [5] (fun i wr => ∃ k : Nat, fr ≤ k ∧ k ≤ max fr (min to rm) ∧ i = .int .i64 k ∧ Hid (J k wr)) (fun i _ => max fr (min to rm) - (intOf i).toNat)
  case atStart => exact ⟨fr, Nat.le_refl _, by omega, rfl, H0⟩
  case round =>
    obtain ⟨k, hk0, hk, rfl, HJ⟩ := hrel
    clear H0
    obtain ⟨hB1, hB2, hB3⟩ := HB.out
    have hc5 := (HG.out _ (HJG.out _ _ HJ.out)).2.2.cell 0 _ rfl
    have hc3 := (HG.out _ (HJG.out _ _ HJ.out)).1.cell 0 _ rfl
    have HJD := Lib.hid (HJB.out _ _ _ HJ.out (Below.refl _ wr).drew)
    have hRk := HRM.out _ (HJG.out _ _ HJD.out)
    have HRK := Lib.hid hRk
    have hw1 : wrap64 ((k : Int) + 1) = k + 1 := IntWalk.wrap64_in _ (by omega)
    obtain ⟨mn, hmn0⟩ : ∃ mn : Int, mn = ((min to rm : Nat) : Int) := ⟨_, rfl⟩
    have hmn : (if rm < to then (rm : Int) else (to : Int)) = mn := by rw [hmn0]; split <;> omega
    have HK0 := Lib.hid hk0
    have HK := Lib.hid hk
    clear hRk hk0 hk
    by_cases hlt : k < min to rm
    · have HLT := Lib.hid hlt
      have dlt : (k : Int) < mn := by omega
      have hkt : k < to ∧ k < rm := by omega
      have hsk := HSE.out
      clear hlt hmn0
      gi_wp2_with fail
      refine wpIn_wide.2 ?_
      refine wp_region_tree (fun W => W.cell? ⟨c5, 0, none⟩ = some (.int .i64 to) ∧ W.cell? ⟨c3, 0, none⟩ = some (.pointer sp)) 5 (.quiet 0 (.quiet 1 (.quiet 2 (.make 3 (.quiet 4 .nil))))) (by kernel_rfl) (by kernel_rfl) ⟨hc5, hc3⟩ ?_
      simp only [List.drop_succ_cons, List.drop_zero]
      iterate 3 (apply wpTr_step rfl; (intro W hS K hK; obtain ⟨r1, r2⟩ := hS; go_simp; exact hK _ rfl))
      refine wpTr_make rfl (fun K' hK => ?_)
      go_simp
      refine HRK.out.mono ?_
      rintro e w2 ⟨rfl, hb⟩
      have HJ2 := Lib.hid (HJB.out _ _ _ HJD.out hb)
      have hc5' := (HG.out _ (HJG.out _ _ HJ2.out)).2.2.cell 0 _ rfl
      have hc3' := (HG.out _ (HJG.out _ _ HJ2.out)).1.cell 0 _ rfl
      refine hK _ _ _ (fun _ h => h) ⟨hc5', hc3'⟩ ?_
      clear hK K' hb hc5 hc3
      apply wpTr_step rfl
      · intro W hS K hK
        obtain ⟨r1, r2⟩ := hS
        go_simp
        exact hK _ rfl
      refine wpTr_nil ?_
      have HSK := Lib.hid (hsk w2 k (HJG.out _ _ HJ2.out) hkt.1 hkt.2)
      have HYK := Lib.hid (HY.out k w2 HK0.out HLT.out HJ2.out)
      clear hsk hkt
      go_wp2_with fail
      gi_wp2_with fail
      refine ⟨trivial, ?_⟩
      refine (callsIn_wide.2 HSK.out).mono ?_
      rintro e w3 ⟨rfl, rfl⟩
      have hy := HYK.out
      obtain ⟨fn, tmps, assign, body, hyy, hR⟩ := hy
      gi_wp2
      refine hR.mono ?_
      rintro e w3 (⟨rfl, hJ3⟩ | ⟨rfl, hJx3⟩)
      · gi_wp2
        go_roundw
        case rel => exact ⟨k + 1, Nat.le_succ_of_le HK0.out, by have := HLT.out; omega, by go_num, hJ3⟩
        case measure => have := HLT.out; have := HK0.out; simp [intOf]; omega
      · gi_wp2
        refine bodyPost_ret (results_none rfl _ _ _) rfl ?_
        exact ⟨⟨_, rfl⟩, .inr hJx3⟩
    · have dlt : ¬ (k : Int) < mn := by omega
      have HKE : Hid (k = max fr (min to rm)) := by
        show _ = _
        have := HK.out
        have := HK0.out
        omega
      clear hlt hmn0
      gi_wp2_with fail
      refine wpIn_wide.2 ?_
      refine wp_region_tree (fun W => W.cell? ⟨c5, 0, none⟩ = some (.int .i64 to) ∧ W.cell? ⟨c3, 0, none⟩ = some (.pointer sp)) 5 (.quiet 0 (.quiet 1 (.quiet 2 (.make 3 (.quiet 4 .nil))))) (by kernel_rfl) (by kernel_rfl) ⟨hc5, hc3⟩ ?_
      simp only [List.drop_succ_cons, List.drop_zero]
      iterate 3 (apply wpTr_step rfl; (intro W hS K hK; obtain ⟨r1, r2⟩ := hS; go_simp; exact hK _ rfl))
      refine wpTr_make rfl (fun K' hK => ?_)
      go_simp
      refine HRK.out.mono ?_
      rintro e w2 ⟨rfl, hb⟩
      have HJ2 := Lib.hid (HJB.out _ _ _ HJD.out hb)
      have hc5' := (HG.out _ (HJG.out _ _ HJ2.out)).2.2.cell 0 _ rfl
      have hc3' := (HG.out _ (HJG.out _ _ HJ2.out)).1.cell 0 _ rfl
      refine hK _ _ _ (fun _ h => h) ⟨hc5', hc3'⟩ ?_
      clear hK K' hb hc5 hc3
      apply wpTr_step rfl
      · intro W hS K hK
        obtain ⟨r1, r2⟩ := hS
        go_simp
        exact hK _ rfl
      refine wpTr_nil ?_
      clear HSE HRK HRM
      go_wp2_with fail
      gi_wp2
      go_end0
      exact ⟨⟨_, rfl⟩, .inl (by rw [← HKE.out]; exact HJ2.out)⟩
end Go.Proofs.YtopinlnjdgedeaaDoor
