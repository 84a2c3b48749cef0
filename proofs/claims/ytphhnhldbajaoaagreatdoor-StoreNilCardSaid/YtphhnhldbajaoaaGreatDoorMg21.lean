/-
  Texts put together: SeR, SeI, SeP.
-/
import Derived.Test.YtphhnhldbajaoaaGreatDoorMg16
import Derived.Test.YtphhnhldbajaoaaGreatDoorMg0
import Derived.Test.YtphhnhldbajaoaaGreatDoorMg20
import Derived.RangeFuncBound
import Derived.RangeFuncCalls
import Derived.RangeFuncLeaves
import Derived.Shelf.Abstract
import Derived.Shelf.RegionOpen
import Derived.WalkKit
import Derived.OwnWalkIn
import Derived.TacticsInMore
import Derived.LoopNIn
import Derived.LoopIn
import Derived.Shelf.AbstractIn
import Derived.Lib.Hide
import Derived.BigRegionIn
namespace Go.Proofs.YtphhnhldbajaoaaGreatDoor
open Go Go.RowKit

theorem putObj_os (W : World) (r : Nat) (o : Obj) : W.heap.size ≤ (W.putObj r o).heap.size := (grownBy_putObj' W r o).size

theorem range_by {n : Nat} {P : Program} {g : Operand} {ps : Array Tmp} {assign body : Code} {Q : Exit → Act → World → Prop} {a : Act} {w : World}
    (h1 : 1 ≤ n) {gf : Nat} {lb : Array Value} (hg : a.eval g = .func (.func gf) #[] lb) (eg : ∀ args w, (callFunc gf args).run P w = .ok (.enter gf args) w)
    (lo hi : Nat) (ya : Nat → Array Value) (hsz : ∀ k, (ya k).size = ps.size) (Good : World → Prop)
    (ITER : ∀ (l : Nat) (J : Nat → World → Prop) (Jx : World → Prop) (W : World), (∀ k W, J k W → Good W) → (∀ k W W', J k W → Below W.heap.size W W' → J k W') →
      (∀ k W, lo ≤ k → k < hi → J k W → YieldAt Fence.wide (n - 1 - 1) P l (ya k) W fun e W' => (e = .returned (.bool true) ∧ J (k + 1) W') ∨ (e = .returned (.bool false) ∧ Jx W')) →
      J lo W → CallsIn Fence.wide (n - 1) P gf (#[.func (.yield l) #[] #[]] ++ lb) W fun e W' => (∃ v, e = .returned v) ∧ (J (max lo hi) W' ∨ Jx W'))
    (J : Nat → World → Prop) (Jx : World → Prop)
    (hJg : ∀ k W, J k W → Good W) (hJb : ∀ k W W', J k W → Below W.heap.size W W' → J k W')
    (hJp : ∀ k W o, J k W → w.heap.size + 2 ≤ W.heap.size → J k (W.putObj (w.heap.size + 1) o)) (hXp : ∀ W o, Jx W → w.heap.size + 2 ≤ W.heap.size → Jx (W.putObj (w.heap.size + 1) o)) (h0 : J lo w)
    (hbody : ∀ k W, lo ≤ k → k < hi → J k W → w.heap.size + 2 ≤ W.heap.size →
      assign.wpIn (Fence.wide.inRound (w.heap.size + 1)) (n - 1 - 1) P (fun e a1 W1 => e = .normal ∧ W1 = W ∧ ∀ o,
        body.wpIn (Fence.wide.inRound (w.heap.size + 1)) (n - 1 - 1) P (fun e2 _ W2 => W.heap.size ≤ W2.heap.size ∧ W2.heap[w.heap.size + 1]? = (W.putObj (w.heap.size + 1) o).heap[w.heap.size + 1]? ∧ W2.heap[w.heap.size]? = W.heap[w.heap.size]? ∧
          match e2 with | .normal => J (k + 1) W2 | .ret => Jx W2 | _ => False) a1 (W.putObj (w.heap.size + 1) o))
        { tmps := (ps.zip (ya k)).foldl (fun t (p, v) => t.setIfInBounds p v) a.tmps, defers := [] } W)
    (hend : ∀ W, J (max lo hi) W → w.heap.size + 2 ≤ W.heap.size → W.heap[w.heap.size]? = some (.deferred (some [])) → Q .normal { a with defers := { target := .collected w.heap.size, args := #[] } :: a.defers } W)
    (hret : ∀ W, Jx W → w.heap.size + 2 ≤ W.heap.size → W.heap[w.heap.size]? = some (.deferred (some [])) → Code.ret.wpIn Fence.wide n P Q { a with defers := { target := .collected w.heap.size, args := #[] } :: a.defers } W) :
    (Code.rangeFunc g ps assign body).wpIn Fence.wide n P Q a w := by
  refine range_enter rfl h1 hg trivial eg ?_
  intro fn hfn RC hRC
  have hz : ((w.alloc (.deferred (some []))).alloc (.loop (RC .ready none))).heap.size = w.heap.size + 2 := by simp only [size_alloc]
  have hr0 : ((w.alloc (.deferred (some []))).alloc (.loop (RC .ready none))).heap[w.heap.size + 1]? = some (.loop (RC .ready none)) := by
    have := World.alloc_heap_new (w.alloc (.deferred (some []))) (.loop (RC .ready none))
    rwa [size_alloc] at this
  have hd0 : ((w.alloc (.deferred (some []))).alloc (.loop (RC .ready none))).heap[w.heap.size]? = some (.deferred (some [])) :=
    (Below.heap_alloc _ _ _ (by rw [size_alloc]; omega)).trans (World.alloc_heap_new w _)
  have hx : Below w.heap.size w ((w.alloc (.deferred (some []))).alloc (.loop (RC .ready none))) := ((Below.refl _ w).alloc (Nat.le_refl _) _).alloc (by rw [size_alloc]; omega) _
  refine (ITER (w.heap.size + 1) (fun k W => J k W ∧ w.heap.size + 2 ≤ W.heap.size ∧ W.heap[w.heap.size + 1]? = some (.loop (RC .ready none)) ∧ W.heap[w.heap.size]? = some (.deferred (some [])))
    (fun W => Jx W ∧ w.heap.size + 2 ≤ W.heap.size ∧ W.heap[w.heap.size + 1]? = some (.loop (RC .done (some .ret))) ∧ W.heap[w.heap.size]? = some (.deferred (some []))) _ ?_ ?_ ?_ ?_).mono ?_
  · exact fun k W h => hJg k W h.1
  · rintro k W W' ⟨hj, hs, hr, hd⟩ hb
    exact ⟨hJb _ _ _ hj hb, Nat.le_trans hs hb.size, (hb.block _ (by omega)).trans hr, (hb.block _ (by omega)).trans hd⟩
  · rintro k W hlo hhi ⟨hj, hs, hr, hd⟩
    refine yield_round (r := RC .ready none) hr (by rw [hRC]; rfl) (by rw [hRC]; exact hfn) (by rw [hRC]; exact hsz k) ?_
    have H := hbody k W hlo hhi hj hs
    rw [show (RC .ready none).assign = assign from by rw [hRC]; rfl, show (RC .ready none).body = body from by rw [hRC]; rfl, show (RC .ready none).params = ps from by rw [hRC]; rfl, show (RC .ready none).tmps = a.tmps from by rw [hRC]; rfl]
    refine wpIn_mono H ?_
    rintro e a1 W1 ⟨rfl, rfl, hb⟩
    refine ⟨hr, wpIn_mono (hb _) ?_⟩
    rintro e2 a2 W2 ⟨hs2, hr2, hd2, hq⟩
    rw [World.putObj_heap_same (Array.getElem?_eq_some_iff.1 hr).1] at hr2
    have hs3 : w.heap.size + 2 ≤ W2.heap.size := Nat.le_trans hs hs2
    have hlt := (Array.getElem?_eq_some_iff.1 hr2).1
    cases e2 with
    | normal =>
      refine ⟨hr2, .inl ⟨rfl, hJp _ _ _ hq hs3, Nat.le_trans hs3 (putObj_os _ _ _), ?_, ?_⟩⟩
      · rw [show readyL (RC .ready none) = RC .ready none from by rw [hRC]; rfl]
        exact World.putObj_heap_same hlt
      · exact (World.putObj_heap_other (by omega)).trans (hd2.trans hd)
    | ret =>
      refine ⟨hr2, .inr ⟨rfl, hXp _ _ hq hs3, Nat.le_trans hs3 (putObj_os _ _ _), ?_, ?_⟩⟩
      · rw [show doneL (RC .ready none) .ret = RC .done (some .ret) from by rw [hRC]; rfl]
        exact World.putObj_heap_same hlt
      · exact (World.putObj_heap_other (by omega)).trans (hd2.trans hd)
    | _ => exact hq.elim
  · exact ⟨hJb _ _ _ h0 hx, by rw [hz]; exact Nat.le_refl _, hr0, hd0⟩
  · rintro e W2 ⟨hv, ⟨hj, hs, hr, hd⟩ | ⟨hj, hs, hr, hd⟩⟩
    · refine ⟨hv, .ready, none, by simp, hr, ?_⟩
      exact hend _ (hJp _ _ _ hj hs) (Nat.le_trans hs (putObj_os _ _ _)) ((World.putObj_heap_other (by omega)).trans hd)
    · refine ⟨hv, .done, some .ret, by simp, hr, ?_⟩
      exact hret _ (hXp _ _ hj hs) (Nat.le_trans hs (putObj_os _ _ _)) ((World.putObj_heap_other (by omega)).trans hd)
end Go.Proofs.YtphhnhldbajaoaaGreatDoor

namespace Go.Proofs.YtphhnhldbajaoaaGreatDoor
open Go Go.RowKit Go.Shelf Go.ChangeShapes Go.WideShapes Go.ChangeAt

attribute [local go_sem] Oper.semAt_some

theorem places_any (sp : Option Addr) (fr tu : Int) (w : World) : Calls Tryz.prog 144 #[.pointer sp, .int .i64 fr, .int .i64 tu] w fun e w' =>
    e = .returned (.func (.func 162) #[] #[.pointer (some ⟨w.heap.size + 1, 0, none⟩), .pointer (some ⟨w.heap.size + 2, 0, none⟩), .pointer (some ⟨w.heap.size, 0, none⟩)]) ∧
    Below w.heap.size w w' ∧ Box w' w.heap.size 90 #[.pointer sp] ∧ Box w' (w.heap.size + 1) 3 #[.int .i64 fr] ∧ Box w' (w.heap.size + 2) 3 #[.int .i64 tu] := by
  go_enter Tryz.func144, Tryz.ntmps144
  go_wp2
  go_ret
  have b0 := Box.new w 90 #[.pointer sp]
  have b1 := Box.new (w.alloc (.cells #[.pointer sp] 90)) 3 #[.int .i64 fr]
  have b2 := Box.new ((w.alloc (.cells #[.pointer sp] 90)).alloc (.cells #[.int .i64 fr] 3)) 3 #[.int .i64 tu]
  simp only [size_alloc] at b1 b2
  exact ⟨rfl, (((Below.refl _ _).alloc (Nat.le_refl _) _).alloc (by rw [size_alloc]; omega) _).alloc (by simp only [size_alloc]; omega) _, (b0.alloc _).alloc _, b1.alloc _, b2⟩

set_option maxRecDepth 100000 in
set_option maxHeartbeats 1000000 in
theorem places_iter (n l c3 c4 c5 : Nat) (hn : 1 ≤ n) (sp : Option Addr) (fr tu rm : Nat) (hto : tu ≤ 1000) (hfr : fr ≤ 1000) (hrm : rm ≤ 1000) (sec : Nat → Nat) (Good : World → Prop)
    (hG : ∀ W, Good W → Box W c3 90 #[.pointer sp] ∧ Box W c4 3 #[.int .i64 fr] ∧ Box W c5 3 #[.int .i64 tu])
    (hRm : ∀ W, Good W → Calls Tryz.prog 121 #[.pointer sp] W fun e W' => e = .returned (.int .i64 rm) ∧ Below W.heap.size W W')
    (hSe : ∀ W (k : Nat), Good W → k < tu → k < rm → Calls Tryz.prog 124 #[.pointer sp, .int .i64 k] W fun e W' => e = .returned (.int .i64 (sec k)) ∧ W = W')
    (J : Nat → World → Prop) (Jx : World → Prop) (W : World)
    (hJg : ∀ k W, J k W → Good W) (hJb : ∀ k W W', J k W → Below W.heap.size W W' → J k W')
    (hY : ∀ k W, fr ≤ k → k < min tu rm → J k W → YieldAt Fence.wide (n - 1) Tryz.prog l #[.int .i64 (sec k)] W fun e W' => (e = .returned (.bool true) ∧ J (k + 1) W') ∨ (e = .returned (.bool false) ∧ Jx W'))
    (h0 : J fr W) :
    CallsIn Fence.wide n Tryz.prog 162 #[.func (.yield l) #[] #[], .pointer (some ⟨c4, 0, none⟩), .pointer (some ⟨c5, 0, none⟩), .pointer (some ⟨c3, 0, none⟩)] W fun e W' => (∃ v, e = .returned v) ∧ (J (max fr (min tu rm)) W' ∨ Jx W') := by
  have HY := Lib.hid hY
  have HJB := Lib.hid hJb
  have HJG := Lib.hid hJg
  have HRM := Lib.hid hRm
  have HSE := Lib.hid hSe
  have HG := Lib.hid hG
  have H0 := Lib.hid h0
  have HB := Lib.hid (And.intro hto (And.intro hfr hrm))
  have b4 := (hG _ (hJg _ _ h0)).2.1
  have k4 := b4.cell 0 _ rfl
  clear hY hJb hJg hRm hSe hG h0 b4 hto hfr hrm
  refine callsIn_of_wp Tryz.func162 rfl trivial ?_ rfl
  simp only [Tryz.ntmps162, List.size_toArray, List.length_cons, List.length_nil, Nat.reduceAdd, Nat.reduceSub, Array.replicate_succ, Array.replicate_zero, List.push_toArray, List.append_toArray, List.nil_append, List.cons_append]
  gi_wp2
  clear k4
  gi_loopw [5] (fun i wr => ∃ k : Nat, fr ≤ k ∧ k ≤ max fr (min tu rm) ∧ i = .int .i64 k ∧ Hid (J k wr)) (fun i _ => max fr (min tu rm) - (intOf i).toNat)
  case atStart => exact ⟨fr, Nat.le_refl _, by omega, rfl, H0⟩
  case round =>
    obtain ⟨k, hk0, hk, rfl, HJ⟩ := hrel
    clear H0
    obtain ⟨hB1, hB2, hB3⟩ := HB.out
    have hc5 := (HG.out _ (HJG.out _ _ HJ.out)).2.2.cell 0 _ rfl
    have hc3 := (HG.out _ (HJG.out _ _ HJ.out)).1.cell 0 _ rfl
    have HJD := Lib.hid (HJB.out _ _ _ HJ.out (Below.refl _ wr).drew)
    have hRk := HRM.out _ (HJG.out _ _ HJD.out)
    have HRK := Lib.hid hRk
    have hw1 : wrap64 ((k : Int) + 1) = k + 1 := IntWalk.wrap64_in _ (by omega)
    obtain ⟨mn, hmn0⟩ : ∃ mn : Int, mn = ((min tu rm : Nat) : Int) := ⟨_, rfl⟩
    have hmn : (if rm < tu then (rm : Int) else (tu : Int)) = mn := by rw [hmn0]; split <;> omega
    have HK0 := Lib.hid hk0
    have HK := Lib.hid hk
    clear hRk hk0 hk
    by_cases hlt : k < min tu rm
    · have HLT := Lib.hid hlt
      have dlt : (k : Int) < mn := by omega
      have hkt : k < tu ∧ k < rm := by omega
      have hsk := HSE.out
      clear hlt hmn0
      gi_wp2_with fail
      refine wpIn_wide.2 ?_
      refine wp_region_tree (fun W => W.cell? ⟨c5, 0, none⟩ = some (.int .i64 tu) ∧ W.cell? ⟨c3, 0, none⟩ = some (.pointer sp)) 5 (.quiet 0 (.quiet 1 (.quiet 2 (.make 3 (.quiet 4 .nil))))) (by kernel_rfl) (by kernel_rfl) ⟨hc5, hc3⟩ ?_
      simp only [List.drop_succ_cons, List.drop_zero]
      iterate 3 (apply wpTr_step rfl; (intro W hS K hK; obtain ⟨r1, r2⟩ := hS; go_simp; exact hK _ rfl))
      refine wpTr_make rfl (fun K' hK => ?_)
      go_simp
      refine HRK.out.mono ?_
      rintro e w2 ⟨rfl, hb⟩
      have HJ2 := Lib.hid (HJB.out _ _ _ HJD.out hb)
      have hc5' := (HG.out _ (HJG.out _ _ HJ2.out)).2.2.cell 0 _ rfl
      have hc3' := (HG.out _ (HJG.out _ _ HJ2.out)).1.cell 0 _ rfl
      refine hK _ _ _ (fun _ h => h) ⟨hc5', hc3'⟩ ?_
      clear hK K' hb hc5 hc3
      apply wpTr_step rfl
      · intro W hS K hK
        obtain ⟨r1, r2⟩ := hS
        go_simp
        exact hK _ rfl
      refine wpTr_nil ?_
      have HSK := Lib.hid (hsk w2 k (HJG.out _ _ HJ2.out) hkt.1 hkt.2)
      have HYK := Lib.hid (HY.out k w2 HK0.out HLT.out HJ2.out)
      clear hsk hkt
      go_wp2_with fail
      gi_wp2_with fail
      refine ⟨trivial, ?_⟩
      refine (callsIn_wide.2 HSK.out).mono ?_
      rintro e w3 ⟨rfl, rfl⟩
      have hy := HYK.out
      obtain ⟨fn, tmps, assign, body, hyy, hR⟩ := hy
      gi_wp2
      refine hR.mono ?_
      rintro e w3 (⟨rfl, hJ3⟩ | ⟨rfl, hJx3⟩)
      · gi_wp2
        go_roundw
        case rel => exact ⟨k + 1, Nat.le_succ_of_le HK0.out, by have := HLT.out; omega, by go_num, hJ3⟩
        case measure => have := HLT.out; have := HK0.out; simp [intOf]; omega
      · gi_wp2
        refine bodyPost_ret (results_none rfl _ _ _) rfl ?_
        exact ⟨⟨_, rfl⟩, .inr hJx3⟩
    · have dlt : ¬ (k : Int) < mn := by omega
      have HKE : Hid (k = max fr (min tu rm)) := by
        show _ = _
        have := HK.out
        have := HK0.out
        omega
      clear hlt hmn0
      gi_wp2_with fail
      refine wpIn_wide.2 ?_
      refine wp_region_tree (fun W => W.cell? ⟨c5, 0, none⟩ = some (.int .i64 tu) ∧ W.cell? ⟨c3, 0, none⟩ = some (.pointer sp)) 5 (.quiet 0 (.quiet 1 (.quiet 2 (.make 3 (.quiet 4 .nil))))) (by kernel_rfl) (by kernel_rfl) ⟨hc5, hc3⟩ ?_
      simp only [List.drop_succ_cons, List.drop_zero]
      iterate 3 (apply wpTr_step rfl; (intro W hS K hK; obtain ⟨r1, r2⟩ := hS; go_simp; exact hK _ rfl))
      refine wpTr_make rfl (fun K' hK => ?_)
      go_simp
      refine HRK.out.mono ?_
      rintro e w2 ⟨rfl, hb⟩
      have HJ2 := Lib.hid (HJB.out _ _ _ HJD.out hb)
      have hc5' := (HG.out _ (HJG.out _ _ HJ2.out)).2.2.cell 0 _ rfl
      have hc3' := (HG.out _ (HJG.out _ _ HJ2.out)).1.cell 0 _ rfl
      refine hK _ _ _ (fun _ h => h) ⟨hc5', hc3'⟩ ?_
      clear hK K' hb hc5 hc3
      apply wpTr_step rfl
      · intro W hS K hK
        obtain ⟨r1, r2⟩ := hS
        go_simp
        exact hK _ rfl
      refine wpTr_nil ?_
      clear HSE HRK HRM
      go_wp2_with fail
      gi_wp2
      go_end0
      exact ⟨⟨_, rfl⟩, .inl (by rw [← HKE.out]; exact HJ2.out)⟩
end Go.Proofs.YtphhnhldbajaoaaGreatDoor

namespace Go.Proofs.YtphhnhldbajaoaaGreatDoor
open Go Go.RowKit Go.Shelf Go.ChangeShapes Go.WideShapes Go.ChangeAt

attribute [local go_sem] Oper.semAt_some

/-- Is v the sector of one of the group's places? -/
def isPl (f n fr : Nat) (v : Int) : Bool := (List.range 7).any (fun i => decide (fr + i < roomN n ∧ (secN f (fr + i) : Int) = v))
theorem isPl_yes {f n fr : Nat} {v : Int} {k : Nat} (h0 : fr ≤ k) (h : k < min (fr + 7) (roomN n)) (hv : (secN f k : Int) = v) : isPl f n fr v = true := by
  unfold isPl
  rw [List.any_eq_true]
  exact ⟨k - fr, by rw [List.mem_range]; omega, by rw [decide_eq_true_eq, show fr + (k - fr) = k by omega]; exact ⟨by omega, hv⟩⟩
theorem isPl_no {f n fr : Nat} {v : Int} (h : ∀ k, fr ≤ k → k < min (fr + 7) (roomN n) → (secN f k : Int) ≠ v) : isPl f n fr v = false := by
  unfold isPl
  rw [List.any_eq_false]
  intro i hi hd
  rw [List.mem_range] at hi
  rw [decide_eq_true_eq] at hd
  exact h (fr + i) (by omega) (by omega) hd.2

/-- What lies in the walk's own blocks. -/
def SameLow (g n : Nat) (X W : World) : Prop := n ≤ W.heap.size ∧ ∀ i, i < n → g ≤ i → W.heap[i]? = X.heap[i]?
theorem SameLow.keep {g n : Nat} {X W W' : World} (h : SameLow g n X W) (hb : Below W.heap.size W W') : SameLow g n X W' :=
  ⟨Nat.le_trans h.1 hb.size, fun i hi hg => (hb.block i (Nat.lt_of_lt_of_le hi h.1)).trans (h.2 i hi hg)⟩
theorem SameLow.put {g n : Nat} {X W : World} (h : SameLow g n X W) (r : Nat) (o : Obj) (hr : n ≤ r) : SameLow g n X (W.putObj r o) :=
  ⟨Nat.le_trans h.1 (putObj_os _ _ _), fun i hi hg => (World.putObj_heap_other (by omega)).trans (h.2 i hi hg)⟩
theorem SameLow.box {g n b : Nat} {X W : World} {t : TypeId} {cs : Array Value} (h : SameLow g n X W) (hx : Box X b t cs) (h1 : b < n) (h2 : g ≤ b) : Box W b t cs := hx.of (h.2 b h1 h2)
theorem below_put {g : Nat} {w W : World} (h : Below g w W) (hw : g ≤ w.heap.size) (r : Nat) (o : Obj) (hr : g ≤ r) : Below g w (W.putObj r o) :=
  h.grown (grownBy_putObj' W r o) (Nat.le_trans hw h.size) (fun k e => by cases e; exact hr)

/-- One result that lies in a cell. -/
theorem results_c1 {P : Program} {fn : Func} {p : Tmp} {t1 : TypeId} (h : fn.results = #[.cell p t1]) (tmps : Array Value) (w : World) (a1 : Addr) (v1 : Value)
    (hp : tmps.getD p undef = .pointer (some a1)) (g1 : (isAgg t1).run P w = .ok false w) (h1 : w.cell? a1 = some v1) : (results fn tmps).run P w = .ok v1 w := by
  have hp' : tmps[p]?.getD undef = .pointer (some a1) := by simpa using hp
  simp [results, h, hp', asAddr, loadVar, Sem.run_bind, g1, h1, go_sem]

def IpJ (w X : World) (g f fr : Nat) (v : Int) (k : Nat) (W : World) : Prop := Below g w W ∧ SameLow g (g + 5) X W ∧ ∀ j, fr ≤ j → j < k → (secN f j : Int) ≠ v
def IpX (w : World) (g f n fr : Nat) (v : Int) (W : World) : Prop := Below g w W ∧ g + 5 ≤ W.heap.size ∧ Box W (g + 1) 4 #[.bool true] ∧ isPl f n fr v = true

set_option maxRecDepth 100000 in
set_option maxHeartbeats 2000000 in
theorem isplace_in (s b m : Nat) (x : SecD) (w : World) (h : Box w s 158 (secC b m x)) (hx : x.f ≤ 512) (hn : x.n ≤ 512) (fr : Nat) (hfr : fr ≤ 900) (v : Int) :
    CallsIn Fence.wide 6 Tryz.prog 153 #[.pointer (some ⟨s, 0, none⟩), .int .i64 fr, .int .i64 v] w fun e w' => e = .returned (.bool (isPl x.f x.n fr v)) ∧ Below w.heap.size w w' := by
  have B0 := Box.new w 3 #[.int .i64 v]
  have B1 := Box.new (w.alloc (.cells #[.int .i64 v] 3)) 4 #[.bool false]
  rw [size_alloc] at B1
  have hb0 : Below w.heap.size w ((w.alloc (.cells #[.int .i64 v] 3)).alloc (.cells #[.bool false] 4)) := ((Below.refl _ w).alloc (Nat.le_refl _) _).alloc (by rw [size_alloc]; omega) _
  have HB0 := Lib.hid hb0
  have HB1 := Lib.hid B1
  have HBV := Lib.hid (B0.alloc (.cells #[.bool false] 4))
  have HS := Lib.hid h
  have HX := Lib.hid hx
  have HN := Lib.hid hn
  have HF := Lib.hid hfr
  have hw7 : wrap64 ((fr : Int) + 7) = ((fr + 7 : Nat) : Int) := by rw [IntWalk.wrap64_in _ (by omega)]; omega
  clear h hx hn hfr B0 B1 hb0
  refine callsIn_of_wp_marks Tryz.func153 rfl trivial ?_ rfl
  simp only [Tryz.ntmps153, List.size_toArray, List.length_cons, List.length_nil, Nat.reduceAdd, Nat.reduceSub, Array.replicate_succ, Array.replicate_zero, List.push_toArray, List.append_toArray, List.nil_append, List.cons_append]
  gi_wp2_with fail
  refine ⟨trivial, ?_⟩
  generalize hW1 : (w.alloc (.cells #[.int .i64 v] 3)).alloc (.cells #[.bool false] 4) = W1 at *
  have hz1 : W1.heap.size = w.heap.size + 2 := by rw [← hW1]; simp only [size_alloc]
  clear hW1
  refine (callsIn_wide.2 (places_any _ _ _ _)).mono ?_
  rintro e X ⟨rfl, hb, bs, b4, b5⟩
  rw [show ((fr : Int) + 7) = ((fr + 7 : Nat) : Int) by omega] at b5
  rw [hz1] at hb bs b4 b5 ⊢
  obtain ⟨g, hg⟩ : ∃ g, g = w.heap.size := ⟨_, rfl⟩
  rw [← hg] at HB0 HB1 HBV hz1 hb bs b4 b5 ⊢
  have HBX := Lib.hid (HB0.out.trans (hb.mono (Nat.le_add_right g 2)))
  have HR := Lib.hid (HB1.out.keep hb (Nat.lt_succ_self (g + 1)))
  have HV := Lib.hid (HBV.out.keep hb (by omega))
  have HBS := Lib.hid bs
  have HB4 := Lib.hid b4
  have HB5 := Lib.hid b5
  have HG := Lib.hid hg
  clear hb bs b4 b5 hg HB0 HB1 HBV hz1
  simp only [Nat.add_assoc, Nat.reduceAdd] at *
  gi_wp2_with fail
  obtain ⟨z, hz⟩ : ∃ z, z = X.heap.size := ⟨_, rfl⟩
  have HZ : Hid (z = X.heap.size ∧ g + 5 ≤ z) := ⟨hz, by rw [hz]; exact HB5.out.lt⟩
  have HL0 : Hid (SameLow g (g + 5) X X) := ⟨by rw [← hz]; exact HZ.out.2, fun _ _ _ => rfl⟩
  refine range_by (gf := 162) (lb := #[.pointer (some ⟨g + 3, 0, none⟩), .pointer (some ⟨g + 4, 0, none⟩), .pointer (some ⟨g + 2, 0, none⟩)]) (by decide) rfl (enters_of Tryz.func162 (by kernel_rfl) rfl)
    fr (min (fr + 7) (roomN x.n)) (fun k => #[.int .i64 (secN x.f k)]) (fun _ => rfl) (fun W => Below g w W ∧ SameLow g (g + 5) X W)
    (fun l J Jx W hgd hbl hyy h0 => ?iter) (IpJ w X g x.f fr v) (IpX w g x.f x.n fr v) (fun k W h => ⟨h.1, h.2.1⟩) ?jb ?jp ?xp ⟨HBX.out, HL0.out, fun j h1 h2 => absurd h2 (by omega)⟩ ?body ?fin ?ret
  case iter =>
    have hB : ∀ W, Below g w W → Box W s 158 (secC b m x) := fun W hb => HS.out.keep hb (by rw [HG.out]; exact HS.out.lt)
    refine places_iter 5 l (g + 2) (g + 3) (g + 4) (by decide) (some ⟨s, 0, none⟩) fr (fr + 7) (roomN x.n) (by have := HF.out; omega) (by have := HF.out; omega) (Nat.le_trans (room_le _) (Nat.le_trans HN.out (by decide))) (secN x.f) _ ?_ ?_ ?_ J Jx W hgd hbl hyy h0
    · rintro W ⟨hb, hl⟩
      exact ⟨hl.box HBS.out (by omega) (by omega), hl.box HB4.out (by omega) (by omega), hl.box HB5.out (by omega) (by omega)⟩
    · rintro W ⟨hb, hl⟩
      exact room_any s b m x W (hB W hb) HN.out
    · rintro W k ⟨hb, hl⟩ h1 h2
      exact sector_any s b m x W k (hB W hb) HX.out (by have := HF.out; omega)
  case jb =>
    rintro k W W' ⟨hb, hl, hk⟩ hbb
    exact ⟨hb.trans (hbb.mono (by have := hl.1; omega)), hl.keep hbb, hk⟩
  case jp =>
    rintro k W o ⟨hb, hl, hk⟩ hs
    have := HZ.out
    exact ⟨below_put hb (by rw [HG.out]; exact Nat.le_refl _) _ _ (by omega), hl.put _ _ (by omega), hk⟩
  case xp =>
    rintro W o ⟨hb, hl, hr, hk⟩ hs
    have := HZ.out
    exact ⟨below_put hb (by rw [HG.out]; exact Nat.le_refl _) _ _ (by omega), Nat.le_trans hl (putObj_os _ _ _), hr.of (World.putObj_heap_other (by omega)), hk⟩
  case body =>
    rintro k W h1 h2 ⟨hb, hl, hk⟩ hs
    have HB := Lib.hid hb
    have HL := Lib.hid hl
    have HK := Lib.hid (And.intro h1 (And.intro h2 hk))
    rw [← hz] at hs ⊢
    have HSZ := Lib.hid hs
    clear hb hl hk h1 h2 hs hz
    gi_wp2_with fail
    intro o
    have hb1 := below_put (o := o) HB.out (by rw [HG.out]; exact Nat.le_refl _) (z + 1) (by have := HZ.out; omega)
    have hl1 := HL.out.put (z + 1) o (by have := HZ.out; omega)
    have hd1 : (W.putObj (z + 1) o).heap[z]? = W.heap[z]? := World.putObj_heap_other (by omega)
    have hs1 := putObj_os W (z + 1) o
    obtain ⟨r1, hr1⟩ : ∃ r1, r1 = (W.putObj (z + 1) o).heap[z + 1]? := ⟨_, rfl⟩
    rw [← hr1]
    generalize W.putObj (z + 1) o = W1 at *
    have HB1 := Lib.hid hb1
    have HL1 := Lib.hid hl1
    have HD1 := Lib.hid hd1
    have HS1 := Lib.hid hs1
    have HR1 := Lib.hid hr1
    have cv : W1.cell? ⟨g, 0, none⟩ = some (.int .i64 v) := (HL1.out.box HV.out (by omega) (by omega)).cell 0 _ rfl
    clear hb1 hl1 hd1 hs1 hr1
    by_cases hv : (secN x.f k : Int) = v
    · have HYES := Lib.hid (isPl_yes (f := x.f) (n := x.n) HK.out.1 HK.out.2.1 hv)
      have d : ((secN x.f k : Int) == v) = true := by simpa using hv
      have br : Box W1 (g + 1) 4 #[.bool false] := HL1.out.box HR.out (by omega) (by omega)
      have BR := Lib.hid br
      have c1 := br.cell 0 _ rfl
      have f1 := br.free 0
      clear hv br
      generalize (secN x.f k : Int) = sv at *
      gi_wp2
      have h3 := BR.out.set 0 (.bool true)
      have hzz := HZ.out
      have ho := Only.set (g + 1) 0 W1 (.bool true)
      refine ⟨HS1.out, ?_, ?_, HB1.out.trans (ho.below' (by omega) ?_), Nat.le_trans HL1.out.1 ho.size, h3, HYES.out⟩
      · rw [HR1.out]
        exact heap_setCell_other W1 ⟨g + 1, 0, none⟩ (z + 1) _ (by show z + 1 ≠ g + 1; omega)
      · rw [← HD1.out]
        exact heap_setCell_other W1 ⟨g + 1, 0, none⟩ z _ (by show z ≠ g + 1; omega)
      · have := HL1.out.1; omega
    · have d : ((secN x.f k : Int) == v) = false := by simpa using hv
      have HNO := Lib.hid hv
      clear hv
      generalize hsv : (secN x.f k : Int) = sv at *
      have HSV := Lib.hid hsv
      clear hsv
      gi_wp2
      refine ⟨HS1.out, HR1.out.symm, HD1.out, HB1.out, HL1.out, fun j h1 h2 => ?_⟩
      by_cases e : j = k
      · rw [e, HSV.out]; exact HNO.out
      · exact HK.out.2.2 j h1 (by omega)
  case fin =>
    rintro W ⟨hb, hl, hk⟩ hs hd
    have HNO := Lib.hid (isPl_no (f := x.f) (n := x.n) (fr := fr) (v := v) (fun k h1 h2 => hk k h1 (by omega)))
    have BR := Lib.hid (hl.box HR.out (by omega) (by omega))
    have HB := Lib.hid hb
    have HL := Lib.hid hl
    rw [← hz] at hd ⊢
    have HD := Lib.hid hd
    clear hb hl hk hs hd hz
    have c1 := BR.out.cell 0 _ rfl
    have f1 := BR.out.free 0
    gi_wp2
    have h3 := BR.out.set 0 (.bool false)
    have ho := Only.set (g + 1) 0 W (.bool false)
    have hdd := (heap_setCell_other W ⟨g + 1, 0, none⟩ z (.bool false) (by show z ≠ g + 1; have := HZ.out; omega)).trans HD.out
    refine ⟨by simp, .inl ⟨_, _, rfl, run_takeDeferred hdd, ?_⟩⟩
    refine ⟨_, results_c1 rfl _ _ ⟨g + 1, 0, none⟩ (.bool false) rfl (Tryz.isAgg4 _) ((h3.of (World.putObj_heap_other (by have := HZ.out; omega))).cell 0 _ rfl), ?_⟩
    refine ⟨by rw [HNO.out], ?_⟩
    rw [← HG.out]
    have hzz := HZ.out
    exact below_put (HB.out.trans (ho.below' (by omega) (by have := HL.out.1; omega))) (by rw [HG.out]; exact Nat.le_refl _) _ _ (by omega)
  case ret =>
    rintro W ⟨hb, hs2, br, hk⟩ hs hd
    have BR := Lib.hid br
    have HB := Lib.hid hb
    have HK := Lib.hid hk
    rw [← hz] at hd ⊢
    have HD := Lib.hid hd
    clear hb hk hs hd hz br hs2
    gi_wp2
    refine ⟨by simp, .inl ⟨_, _, rfl, run_takeDeferred HD.out, ?_⟩⟩
    refine ⟨_, results_c1 rfl _ _ ⟨g + 1, 0, none⟩ (.bool true) rfl (Tryz.isAgg4 _) ((BR.out.of (World.putObj_heap_other (by have := HZ.out; omega))).cell 0 _ rfl), ?_⟩
    refine ⟨by rw [HK.out], ?_⟩
    rw [← HG.out]
    have hzz := HZ.out
    exact below_put HB.out (by rw [HG.out]; exact Nat.le_refl _) _ _ (by omega)
end Go.Proofs.YtphhnhldbajaoaaGreatDoor
