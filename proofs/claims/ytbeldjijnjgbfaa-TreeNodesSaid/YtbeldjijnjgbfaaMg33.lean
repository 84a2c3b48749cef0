/-
  Texts put together: TcU, Range, Rfx.
-/
import Derived.Test.YtbeldjijnjgbfaaMg31
import Derived.Test.YtbeldjijnjgbfaaMap
import Derived.RangeFuncOwn
import Derived.RangeFuncSeq
import Derived.Test.YtbeldjijnjgbfaaMg10
namespace Go.Proofs.Ytbeldjijnjgbfaa
open Go Go.RowKit Go.ChangeShapes Go.WideShapes Go.ChangeAt

theorem zeroU (w : World) : (zeroValue 113).run Try.prog w = .ok (.agg #[]) w := by kernel_rfl
/-- A set of strings. -/
def SeS : MapSp Try.prog ByteArray Unit where
  t := 94
  kt := 9
  et := 113
  und := Try.underlying94
  keyed := Maps.string_keyed Try.underlying9
  kv := .string
  kl k := .string k.data.toList
  okK k := k.size ≤ maxLen
  keyOf k h := WideMaps.keyOf_string_mk Try.underlying9 h
  keyInv v l h := by
    have hk := Try.underlying9
    cases v <;> simp [Go.keyOf, hk, mapKey] at h
    rename_i k
    obtain ⟨h1, rfl⟩ := h
    exact ⟨k, rfl, rfl, h1⟩
  klInj k k' h := by
    injection h with h
    have h2 : k.data = k'.data := Array.toList_inj.1 h
    cases k; cases k'; simp_all
  kvInj k k' h := by injection h
  vv _ := .agg #[]
  dv _ := .agg []
  rd v := match v with | .agg cs => (if cs.size = 0 then some (.agg [], []) else none) | _ => none
  rdMk x := rfl
  rdInv v y h := by
    split at h
    · rename_i cs
      split at h
      · rename_i hc
        cases h
        exact ⟨(), by rw [Array.eq_empty_of_size_eq_zero hc], rfl⟩
      · cases h
    · cases h
  dvInj x y h := rfl
  vvInj x y h := rfl
  z := ()
  zero := zeroU
abbrev SeenD := List (ByteArray × Unit)
def onceN (S : StD) (ref : ByteArray) (h : Nat) (l : SeenD) : (NodeD × Int) × SeenD := if (findL l ref).isSome = true then ((nilD, 3), l) else (loadN S ref h, putL l ref ())
theorem once_yes {S : StD} {ref : ByteArray} {h : Nat} {l : SeenD} (hs : (findL l ref).isSome = true) : onceN S ref h l = ((nilD, 3), l) := if_pos hs
theorem once_no {S : StD} {ref : ByteArray} {h : Nat} {l : SeenD} (hs : ¬ (findL l ref).isSome = true) : onceN S ref h l = (loadN S ref h, putL l ref ()) := if_neg hs
set_option maxRecDepth 100000 in
set_option maxHeartbeats 4000000 in
theorem once_any (kb : Nat) (F : List Nat) (S : StD) (ref : ByteArray) (h m : Nat) (l : SeenD) (w : World) (hK : KpF kb S F w) (hr : ref.size ≤ maxLen) (hh : h ≤ 100000) (hm : MapAt SeS w m l) (hmF : m ∉ F) (hl : l.length < maxLen) :
    Calls Try.prog 45 #[kpV kb, .agg #[.string ref, .int .i64 h], .map (some m)] w fun e w' => ∃ v, e = .returned (.tuple #[v, .int .i64 (onceN S ref h l).1.2]) ∧ NodeOwn w' w.heap.size v (onceN S ref h l).1.1 ∧ MapAt SeS w' m (onceN S ref h l).2 ∧ Chg [m] w w' := by
  have HF := Lib.hid hK
  have HM := Lib.hid hm
  have HMF := Lib.hid hmF
  have HR := Lib.hid hr
  obtain ⟨Q, hQ⟩ : ∃ Q, Q = onceN S ref h l := ⟨_, rfl⟩
  rw [← hQ]
  obtain ⟨W0, hW0⟩ : ∃ W0, W0 = (w.alloc (.cells #[.string ref, .int .i64 (h : Int)] 89 (0, 0))).alloc (.cells #[.bool false, .slice none 0 0, .slice none 0 0] 51 (0, 0)) := ⟨_, rfl⟩
  have BP : Hid (Box W0 w.heap.size 89 #[.string ref, .int .i64 (h : Int)]) := by show Box _ _ _ _; rw [hW0]; exact (Box.new _ _ _).alloc _
  have BR : Hid (Box W0 (w.heap.size + 1) 51 #[.bool false, .slice none 0 0, .slice none 0 0]) := by show Box _ _ _ _; rw [hW0]; exact box_second _ _ _ _
  have BW : Hid (Below w.heap.size w W0) := by show Below _ _ _; rw [hW0]; exact ((Below.refl _ _).alloc (Nat.le_refl _) _).alloc (by rw [size_alloc]; omega) _
  have HM0 := Lib.hid (HM.out.keep BW.out)
  have hlk : (Instr.lookup 94 (.map (some m)) (.string ref) true).run Try.prog W0 = .ok (.tuple #[.agg #[], .bool (findL l ref).isSome]) W0 := HM0.out.look_ok (S := SeS) (k := ref) hr
  have hw1 := hW0.symm
  have p0 : W0.cell? ⟨w.heap.size, 0, none⟩ = some (.string ref) := BP.out.cell 0 _ rfl
  have HNI : Hid (m ≠ w.heap.size + 1 ∧ m < w.heap.size) := ⟨by have := hm.lt; omega, hm.lt⟩
  obtain ⟨W1, hW1⟩ : ∃ W1, W1 = W0.alloc (.cells #[] 113 (0, 0)) := ⟨_, rfl⟩
  have hb1 : Below W0.heap.size W0 W1 := by rw [hW1]; exact (Below.refl _ _).alloc (Nat.le_refl _) _
  have BP1 := Lib.hid (BP.out.keep hb1 BP.out.lt)
  have BR1 := Lib.hid (BR.out.keep hb1 BR.out.lt)
  have BW1 := Lib.hid (BW.out.trans (hb1.mono BW.out.size))
  have HM1 := Lib.hid (HM0.out.keep hb1)
  have hw2 := hW1.symm
  have HLL := Lib.hid hl
  clear hK hm hmF hW0 hW1 hb1 hl
  by_cases hs : (findL l ref).isSome = true
  · have HQ := Lib.hid (hQ.trans (once_yes hs))
    rw [hs] at hlk
    have r0 := BR1.out.cell 0 _ rfl
    have r1 := BR1.out.cell 1 _ rfl
    have r2 := BR1.out.cell 2 _ rfl
    have f0 := BR1.out.free 0
    have f1 := BR1.out.free 1
    have f2 := BR1.out.free 2
    have hC := chg_set3 W1 (w.heap.size + 1) (.bool false) (.slice none 0 0) (.slice none 0 0)
    have HBE := Lib.hid (BW1.out.trans (hC.below BW1.out.size (fun j hj => by simp at hj; omega)))
    have HRE := Lib.hid (box_set3 BR1.out (.bool false) (.slice none 0 0) (.slice none 0 0))
    have HME := Lib.hid (HM1.out.chg hC (by simp; exact HNI.out.1))
    clear hs hQ hC
    go_enter Try.func45, Try.ntmps45
    go_wp2
    refine bodyPost_ret (results_cell2 rfl _ _ (w.heap.size + 1) 51 _ (0, 0) _ rfl HRE.out Try.underlying51 rfl sizeNode) rfl ?_
    rw [HQ.out]
    exact ⟨_, rfl, NodeOwn.nil _ _, HME.out, Chg.of HBE.out (Nat.le_refl _)⟩
  · have HQ := Lib.hid (hQ.trans (once_no hs))
    have hs0 : (findL l ref).isSome = false := by simpa using hs
    rw [hs0] at hlk
    have p0 : W1.cell? ⟨w.heap.size, 0, none⟩ = some (.string ref) := BP1.out.cell 0 _ rfl
    clear hs hs0 hQ
    go_enter Try.func45, Try.ntmps45
    go_wp2_with (at_mapUpdate; refine map_store (S := SeS) rfl _ _ _ _ rfl rfl rfl HM1.out HLL.out (k := ref) (v := ()) rfl rfl hr ?_; intro w2 hm2 hc2; have BP2 := Lib.hid (BP1.out.of (hc2.block _ BP1.out.lt (by simp; have := HNI.out.2; omega))); have q0 : w2.cell? ⟨w.heap.size, 0, none⟩ = some (.string ref) := BP2.out.cell 0 _ rfl; have q1 : w2.cell? ⟨w.heap.size, 1, none⟩ = some (.int .i64 (h : Int)) := BP2.out.cell 1 _ rfl)
    have BR2 := Lib.hid (BR1.out.of (hc2.block _ BR1.out.lt (by simp; exact fun e => HNI.out.1 e.symm)))
    have HK2 := Lib.hid ((fixed_kp kb S).keep _ _ _ _ (HF.out.keep BW1.out) hc2 (fun k hk hm => by simp at hm; subst hm; exact HMF.out hk))
    have HC2 : Hid (Chg [m] w w2) := (Chg.of BW1.out (Nat.le_refl _)).trans hc2
    have HM2 := Lib.hid hm2
    clear hm2 hc2 hw1 hw2 p0 hlk
    refine (load_any kb F S ref h _ HK2.out HR.out hh).mono ?_
    rintro e w3 ⟨v, rfl, hn, hb⟩
    obtain ⟨x, rfl, hx⟩ := hn.ndz
    unfold NdV.val
    have BR3 := Lib.hid (BR2.out.keep hb BR2.out.lt)
    have HC3 : Hid (Chg [m] w w3) := HC2.out.trans (Chg.of hb (Nat.le_refl _))
    have HM3 := Lib.hid (HM2.out.keep hb)
    have hsz : w.heap.size + 1 < w2.heap.size := BR2.out.lt
    have HX := Lib.hid (hx.mono (Z' := fun k => w.heap.size + 1 < k) (fun k _ hk => by have hk2 : w2.heap.size ≤ k := hk; omega))
    clear hb hn hx hsz q0 q1
    have r0 := BR3.out.cell 0 _ rfl
    have r1 := BR3.out.cell 1 _ rfl
    have r2 := BR3.out.cell 2 _ rfl
    have f0 := BR3.out.free 0
    have f1 := BR3.out.free 1
    have f2 := BR3.out.free 2
    have hC := chg_set3 w3 (w.heap.size + 1) (.bool x.leaf) (.slice x.ka x.kn x.kc) (.slice x.va x.vn x.vc)
    have HRE := Lib.hid (box_set3 BR3.out (.bool x.leaf) (.slice x.ka x.kn x.kc) (.slice x.va x.vn x.vc))
    have HCE : Hid (Chg [m] w _) := HC3.out.then hC (fun i hi => by simp at hi; subst hi; exact .inr (Nat.le_succ _))
    have HME := Lib.hid (HM3.out.chg hC (by simp; exact HNI.out.1))
    have hxc := HX.out.chg hC (fun k hk hm => by simp at hm; omega)
    have HNE := Lib.hid ((hxc.mono (Z' := (w.heap.size ≤ ·)) (fun k _ hk => by have hk2 : w.heap.size + 1 < k := hk; show w.heap.size ≤ k; omega)).own)
    clear hC hxc
    go_wp2
    refine bodyPost_ret (results_cell2 rfl _ _ (w.heap.size + 1) 51 _ (0, 0) _ rfl HRE.out Try.underlying51 rfl sizeNode) rfl ?_
    rw [HQ.out]
    exact ⟨_, rfl, HNE.out, HME.out, HCE.out⟩
end Go.Proofs.Ytbeldjijnjgbfaa

namespace Go.Proofs.Ytbeldjijnjgbfaa
open Go Go.RowKit

/-- A loop's record. -/
def recL (st : LoopState) (pe : Option Code) (fn : FuncId) (tmps : Array Value) (ps : Array Tmp) (assign body : Code) (D : Nat) : Loop :=
  { state := st, pending := pe, fn := fn, tmps := tmps, params := ps, assign := assign, body := body, defers := D }

/-- What the statement does behind the call, by what is pending. -/
def leaveL (F : Fence) (n : Nat) (P : Program) (Q : Exit → Act → World → Prop) (a : Act) (W : World) : Option Code → Prop
  | none => Q .normal a W
  | some c => c.wpIn F n P Q a W

section
variable {F : Fence} {n : Nat} {P : Program}

theorem range_enter {g : Operand} {ps : Array Tmp} {assign body : Code} {Q : Exit → Act → World → Prop} {a : Act} {w : World}
    (hro : F.round = none) (h1 : 1 ≤ n) {gf : Nat} {lb : Array Value} (hg : a.eval g = .func (.func gf) #[] lb) (hFg : F.fn gf) (eg : ∀ args w, (callFunc gf args).run P w = .ok (.enter gf args) w)
    (h : ∀ fn, F.fn fn → ∀ RC : LoopState → Option Code → Loop, (RC = fun st pe => recL st pe fn a.tmps ps assign body w.heap.size) → CallsIn F (n - 1) P gf (#[.func (.yield (w.heap.size + 1)) #[] #[]] ++ lb) ((w.alloc (.deferred (some []))).alloc (.loop (RC .ready none)))
      fun e W2 => (∃ v, e = .returned v) ∧ ∃ st jump, st ≠ LoopState.busy ∧ W2.heap[w.heap.size + 1]? = some (.loop (RC st jump)) ∧
        leaveL F n P Q { a with defers := { target := .collected w.heap.size, args := #[] } :: a.defers } (W2.putObj (w.heap.size + 1) (.loop (RC .exhausted jump))) jump) :
    (Code.rangeFunc g ps assign body).wpIn F n P Q a w := by
  refine wpIn_rangeFunc fun fn hfn => ?_
  rw [hro]
  have H := h fn hfn _ rfl
  have he := run_enterLoop_outer (P := P) (w := w) fn a.tmps ps assign body
  generalize hW : (w.alloc (.deferred (some []))).alloc (.loop (recL .ready none fn a.tmps ps assign body w.heap.size)) = W1 at H
  rw [show (w.alloc (.deferred (some []))).alloc (.loop { state := .ready, pending := none, fn, tmps := a.tmps, params := ps, assign, body, defers := w.heap.size }) = W1 from hW] at he
  refine ⟨_, _, W1, { target := .fn (.func gf) lb, args := #[.func (.yield (w.heap.size + 1)) #[] #[]] }, W1, gf, #[.func (.yield (w.heap.size + 1)) #[] #[]] ++ lb, W1, he, ?_, ?_, ?_, fun _ => h1, ?_⟩
  · simp only [resolve, hg]
    simp [go_sem]
  · intro f' hf'
    simp [Target.leads] at hf'
    subst hf'
    exact hFg
  · simp [invoke, go_sem, eg]
  · refine H.mono ?_
    rintro e W2 ⟨⟨v, rfl⟩, st, jump, hs, hl, hq⟩
    refine ⟨jump, _, run_endLoop hl hs, ?_⟩
    cases jump <;> exact hq

/-- The record in a round, and behind it. -/
def busyL (r : Loop) : Loop := { r with state := .busy }
def readyL (r : Loop) : Loop := { r with state := .ready, pending := none }
def doneL (r : Loop) (c : Code) : Loop := { r with state := .done, pending := some c }

/-- How a round's body may be left: off its end, or by a return, or out of a block. -/
def roundL (l : Nat) (r : Loop) (R : Ending → World → Prop) : Exit → Act → World → Prop
  | .normal, _, W => W.heap[l]? = some (.loop (busyL r)) ∧ R (.returned (.bool true)) (W.putObj l (.loop (readyL r)))
  | .ret, _, W => W.heap[l]? = some (.loop (busyL r)) ∧ R (.returned (.bool false)) (W.putObj l (.loop (doneL r .ret)))
  | .exit id, _, W => W.heap[l]? = some (.loop (busyL r)) ∧ R (.returned (.bool false)) (W.putObj l (.loop (doneL r (.exit id))))
  | _, _, _ => False

theorem yield_round {l : Nat} {r : Loop} {args : Array Value} {W : World} {R : Ending → World → Prop} (hl : W.heap[l]? = some (.loop r)) (hr : r.state = .ready) (hfn : F.fn r.fn) (hsz : args.size = r.params.size)
    (h : r.assign.wpIn (F.inRound l) n P (Exit.then (fun a1 W1 => W1.heap[l]? = some (.loop r) ∧ r.body.wpIn (F.inRound l) n P (roundL l r R) a1 (W1.putObj l (.loop (busyL r)))) (fun _ _ _ => False))
      { tmps := (r.params.zip args).foldl (fun t (p, v) => t.setIfInBounds p v) r.tmps, defers := [] } W) :
    YieldAt F n P l args W R := by
  refine ⟨r.fn, _, r.assign, r.body, run_yield hl hsz, roundIn_of_wpIn hfn (wpIn_mono h ?_)⟩
  rintro e a1 W1 hq
  cases e with
  | normal =>
    obtain ⟨hl1, hq⟩ := hq
    refine ⟨_, run_beginRound hl1 hr, wpIn_mono hq ?_⟩
    rintro e a2 W2 hp
    cases e with
    | normal => exact ⟨_, _, run_endRound none hp.1, hp.2⟩
    | ret => exact ⟨_, _, run_endRound (some .ret) hp.1, hp.2⟩
    | exit id => exact ⟨_, _, run_endRound (some (.exit id)) hp.1, hp.2⟩
    | goto t => exact hp.elim
    | panic ch => exact hp.elim
    | outgrown => exact hp.elim
  | _ => exact hq.elim
end
end Go.Proofs.Ytbeldjijnjgbfaa

namespace Go.Proofs.Ytbeldjijnjgbfaa
open Go Go.RowKit

theorem chg_put (W : World) (r : Nat) (o : Obj) : Chg [r] W (W.putObj r o) := Chg.only (grownBy_putObj' W r o)
/-- The caller's memory between two rounds: C, and the loop's two blocks. -/
def RndJ (r d : Nat) (o : Obj) (J : List Nat → World → Prop) (C' : List Nat) (W : World) : Prop :=
  ∃ C, C' = r :: d :: C ∧ J C W ∧ r ∉ C ∧ d ∉ C ∧ r < W.heap.size ∧ W.heap[r]? = some o ∧ W.heap[d]? = some (.deferred (some []))
theorem fixed_rnd {r d : Nat} {o : Obj} {J : List Nat → World → Prop} (hJ : Fixed J) : Fixed (RndJ r d o J) := by
  refine ⟨?_, ?_⟩
  · rintro G S w1 w2 ⟨C, rfl, h1, h2, h3, h4, h5, h6⟩ hc hn
    have hd : d < w1.heap.size := (Array.getElem?_eq_some_iff.1 h6).1
    exact ⟨C, rfl, hJ.keep _ _ _ _ h1 hc (fun k hk => hn k (by simp [hk])), h2, h3, Nat.lt_of_lt_of_le h4 hc.size, (hc.block r h4 (hn r (by simp))).trans h5, (hc.block d hd (hn d (by simp))).trans h6⟩
  · rintro G w ⟨C, rfl, h1, h2, h3, h4, h5, h6⟩ k hk
    have hd : d < w.heap.size := (Array.getElem?_eq_some_iff.1 h6).1
    rcases List.mem_cons.1 hk with rfl | hk
    · exact h4
    · rcases List.mem_cons.1 hk with rfl | hk
      · exact hd
      · exact hJ.lt _ _ h1 k hk
theorem range_fx {n : Nat} {P : Program} {g : Operand} {ps : Array Tmp} {assign body : Code} {Q : Exit → Act → World → Prop} {a : Act} {w : World}
    (h1 : 1 ≤ n) {gf : Nat} {lb : Array Value} (hg : a.eval g = .func (.func gf) #[] lb) (eg : ∀ args w, (callFunc gf args).run P w = .ok (.enter gf args) w)
    (N : Nat) (Arg : Nat → Array Value → List Nat → World → Prop) (hsz : ∀ k ya C W, Arg k ya C W → ya.size = ps.size)
    (J : Nat → List Nat → World → Prop) (Jx : List Nat → World → Prop) (hJ : ∀ k, Fixed (J k)) (hX : Fixed Jx) (C0 : List Nat) (h0 : J 0 C0 w)
    (ITER : ∀ (l : Nat) (J' : Nat → List Nat → World → Prop) (Jx' : List Nat → World → Prop), (∀ k, Fixed (J' k)) → Fixed Jx' → ∀ C W, J' 0 C W → Below w.heap.size w W → (∀ i ∈ C, i ∈ C0 ∨ w.heap.size ≤ i) →
      (∀ k C2 W2 ya, k < N → J' k C2 W2 → Chg C W W2 → (∀ i ∈ C2, i ∈ C ∨ W.heap.size ≤ i) → Arg k ya C2 W2 → YieldAt Fence.wide (n - 1 - 1) P l ya W2 fun e W' => (e = .returned (.bool true) ∧ Tod (J' (k + 1)) C2 W2 W') ∨ (e = .returned (.bool false) ∧ Tod Jx' C2 W2 W')) →
      CallsIn Fence.wide (n - 1) P gf (#[.func (.yield l) #[] #[]] ++ lb) W fun e W' => (∃ v, e = .returned v) ∧ (Tod (J' N) C W W' ∨ Tod Jx' C W W'))
    (hbody : ∀ k C W ya, k < N → J k C W → Arg k ya ((w.heap.size + 1) :: w.heap.size :: C) W → w.heap.size + 2 ≤ W.heap.size → w.heap.size + 1 ∉ C → w.heap.size ∉ C → Chg C0 w W → (∀ k ∈ C, k ∈ C0 ∨ w.heap.size ≤ k) →
      assign.wpIn (Fence.wide.inRound (w.heap.size + 1)) (n - 1 - 1) P (fun e a1 W1 => e = .normal ∧ Below W.heap.size W W1 ∧ ∀ o,
        body.wpIn (Fence.wide.inRound (w.heap.size + 1)) (n - 1 - 1) P (fun e2 _ W2 => match e2 with | .normal => Tod (J (k + 1)) C (W1.putObj (w.heap.size + 1) o) W2 | .ret => Tod Jx C (W1.putObj (w.heap.size + 1) o) W2 | _ => False) a1 (W1.putObj (w.heap.size + 1) o))
        { tmps := (ps.zip ya).foldl (fun t (p, v) => t.setIfInBounds p v) a.tmps, defers := [] } W)
    (hend : ∀ C W, J N C W → Chg C0 w W → (∀ k ∈ C, k ∈ C0 ∨ w.heap.size ≤ k) → w.heap.size ∉ C → w.heap.size + 2 ≤ W.heap.size → W.heap[w.heap.size]? = some (.deferred (some [])) → Q .normal { a with defers := { target := .collected w.heap.size, args := #[] } :: a.defers } W)
    (hret : ∀ C W, Jx C W → Chg C0 w W → (∀ k ∈ C, k ∈ C0 ∨ w.heap.size ≤ k) → w.heap.size ∉ C → w.heap.size + 2 ≤ W.heap.size → W.heap[w.heap.size]? = some (.deferred (some [])) → Code.ret.wpIn Fence.wide n P Q { a with defers := { target := .collected w.heap.size, args := #[] } :: a.defers } W) :
    (Code.rangeFunc g ps assign body).wpIn Fence.wide n P Q a w := by
  have hs := fun (W : World) (o : Obj) => (show (W.alloc o).heap.size = W.heap.size + 1 by show (W.heap.push o).size = _; rw [Array.size_push])
  refine range_enter rfl h1 hg trivial eg ?_
  intro fn hfn RC hRC
  obtain ⟨W0, hW0⟩ : ∃ W0, W0 = (w.alloc (.deferred (some []))).alloc (.loop (RC .ready none)) := ⟨_, rfl⟩
  rw [← hW0]
  have hz : W0.heap.size = w.heap.size + 2 := by rw [hW0, hs, hs]
  have hr0 : W0.heap[w.heap.size + 1]? = some (.loop (RC .ready none)) := by
    have := World.alloc_heap_new (w.alloc (.deferred (some []))) (.loop (RC .ready none))
    rw [hs] at this
    rw [hW0]; exact this
  have hd0 : W0.heap[w.heap.size]? = some (.deferred (some [])) := by
    rw [hW0]
    exact (Below.heap_alloc _ _ _ (by rw [hs]; omega)).trans (World.alloc_heap_new w _)
  have hx : Below w.heap.size w W0 := by rw [hW0]; exact ((Below.refl _ w).alloc (Nat.le_refl _) _).alloc (by rw [hs]; omega) _
  have hl0 := (hJ 0).lt _ _ h0
  have hc0 : Chg [] w W0 := Chg.of hx (Nat.le_refl _)
  have hcw : Chg C0 w W0 := Chg.of hx (Nat.le_refl _)
  have hfj : ∀ k, Fixed (J k) := hJ
  have hC0 : ∀ r ∈ C0, r < w.heap.size := hl0
  have h00 : RndJ (w.heap.size + 1) w.heap.size (.loop (RC .ready none)) (J 0) ((w.heap.size + 1) :: w.heap.size :: C0) W0 :=
    ⟨C0, rfl, (hJ 0).keep _ _ _ _ h0 hc0 (fun _ _ h => by cases h), fun hm => by have := hC0 _ hm; omega, fun hm => by have := hC0 _ hm; omega, by omega, hr0, hd0⟩
  have hco : ∀ W2, Chg ((w.heap.size + 1) :: w.heap.size :: C0) W0 W2 → Chg C0 w W2 := fun W2 hc => hcw.then hc (fun i hi => by
    rcases List.mem_cons.1 hi with rfl | hi
    · exact .inr (by omega)
    · rcases List.mem_cons.1 hi with rfl | hi
      · exact .inr (by omega)
      · exact .inl hi)
  have hmo : ∀ i, (i ∈ (w.heap.size + 1) :: w.heap.size :: C0 ∨ W0.heap.size ≤ i) → i ∈ C0 ∨ w.heap.size ≤ i := fun i hi => by
    rcases hi with hi | hi
    · rcases List.mem_cons.1 hi with rfl | hi
      · exact .inr (by omega)
      · rcases List.mem_cons.1 hi with rfl | hi
        · exact .inr (by omega)
        · exact .inl hi
    · exact .inr (by omega)
  refine (ITER (w.heap.size + 1) (fun k => RndJ (w.heap.size + 1) w.heap.size (.loop (RC .ready none)) (J k)) (RndJ (w.heap.size + 1) w.heap.size (.loop (RC .done (some .ret))) Jx) (fun k => fixed_rnd (hJ k)) (fixed_rnd hX) _ W0 h00 hx (fun i hi => hmo i (.inl hi)) ?_).mono ?_
  · rintro k C' W ya hk ⟨C, rfl, hj, hr1, hd1, hlt, hr, hd⟩ hc hm ha
    have hsw : w.heap.size + 2 ≤ W.heap.size := by have := hc.size; omega
    refine yield_round (r := RC .ready none) hr (by rw [hRC]; rfl) (by rw [hRC]; exact hfn) (by rw [hRC]; exact hsz k ya _ W ha) ?_
    have H := hbody k C W ya hk hj ha hsw hr1 hd1 (hco W hc) (fun i hi => hmo i (hm i (by simp [hi])))
    rw [show (RC .ready none).assign = assign from by rw [hRC]; rfl, show (RC .ready none).body = body from by rw [hRC]; rfl, show (RC .ready none).params = ps from by rw [hRC]; rfl, show (RC .ready none).tmps = a.tmps from by rw [hRC]; rfl]
    refine wpIn_mono H ?_
    rintro e a1 W1 ⟨rfl, hb1, hb⟩
    have hr2 : W1.heap[w.heap.size + 1]? = some (.loop (RC .ready none)) := (hb1.block _ hlt).trans hr
    have hd2 : W1.heap[w.heap.size]? = some (.deferred (some [])) := (hb1.block _ (by omega)).trans hd
    have hlt1 : w.heap.size + 1 < W1.heap.size := Nat.lt_of_lt_of_le hlt hb1.size
    refine ⟨hr2, wpIn_mono (hb (.loop (busyL (RC .ready none)))) ?_⟩
    have hCl : ∀ c ∈ C, c < W.heap.size := (hJ k).lt _ _ hj
    have fin : ∀ (J2 : List Nat → World → Prop) (o2 : Obj) (W2 : World), Fixed J2 → Tod J2 C (W1.putObj (w.heap.size + 1) (.loop (busyL (RC .ready none)))) W2 →
        W2.heap[w.heap.size + 1]? = some (.loop (busyL (RC .ready none))) ∧ Tod (RndJ (w.heap.size + 1) w.heap.size o2 J2) ((w.heap.size + 1) :: w.heap.size :: C) W (W2.putObj (w.heap.size + 1) o2) := by
      rintro J2 o2 W2 hf ⟨C2, g1, g2, g3⟩
      have hps : (W1.putObj (w.heap.size + 1) (.loop (busyL (RC .ready none)))).heap.size = W1.heap.size := by
        show (W1.heap.setIfInBounds _ _).size = _
        rw [Array.size_setIfInBounds]
      have e1 : W2.heap[w.heap.size + 1]? = some (.loop (busyL (RC .ready none))) := (g2.block _ (by rw [hps]; exact hlt1) hr1).trans (World.putObj_heap_same hlt1)
      have e2 : W2.heap[w.heap.size]? = some (.deferred (some [])) := (g2.block _ (by rw [hps]; omega) hd1).trans ((World.putObj_heap_other (by omega)).trans hd2)
      have hlt2 : w.heap.size + 1 < W2.heap.size := by have := g2.size; omega
      have hn2 : ∀ c ∈ C2, c ∈ C ∨ W.heap.size ≤ c := fun c hc2 => by
        rcases g3 c hc2 with h | h
        · exact .inl h
        · exact .inr (by have := hb1.size; omega)
      have hr3 : w.heap.size + 1 ∉ C2 := fun hm2 => by
        rcases hn2 _ hm2 with h | h
        · exact hr1 h
        · omega
      have hd3 : w.heap.size ∉ C2 := fun hm2 => by
        rcases hn2 _ hm2 with h | h
        · exact hd1 h
        · omega
      have c1 := chg_put W1 (w.heap.size + 1) (.loop (busyL (RC .ready none)))
      have c2 := chg_put W2 (w.heap.size + 1) o2
      have hps2 : (W2.putObj (w.heap.size + 1) o2).heap.size = W2.heap.size := by
        show (W2.heap.setIfInBounds _ _).size = _
        rw [Array.size_setIfInBounds]
      refine ⟨e1, _, ⟨C2, rfl, hf.keep _ _ _ _ g1 c2 (fun c hc2 hm2 => by rw [List.mem_singleton] at hm2; subst hm2; exact hr3 hc2), hr3, hd3, by rw [hps2]; exact hlt2, World.putObj_heap_same hlt2, (World.putObj_heap_other (by omega)).trans e2⟩, ?_, fun c hc2 => ?_⟩
      · have x0 : Chg ((w.heap.size + 1) :: w.heap.size :: C) W W1 := Chg.of hb1 (Nat.le_refl _)
        exact ((x0.trans (c1.mono (fun c hc => by rw [List.mem_singleton.1 hc]; simp))).trans (g2.mono (fun c hc => by simp [hc]))).trans (c2.mono (fun c hc => by rw [List.mem_singleton.1 hc]; simp))
      · rcases List.mem_cons.1 hc2 with rfl | hc2
        · exact .inl (by simp)
        · rcases List.mem_cons.1 hc2 with rfl | hc2
          · exact .inl (by simp)
          · rcases hn2 c hc2 with h | h
            · exact .inl (by simp [h])
            · exact .inr h
    rintro e2 a2 W2 hq
    cases e2 with
    | normal =>
      obtain ⟨k1, k2⟩ := fin _ (.loop (readyL (RC .ready none))) W2 (hJ (k + 1)) hq
      refine ⟨k1, .inl ⟨rfl, ?_⟩⟩
      rw [show RC .ready none = readyL (RC .ready none) from by rw [hRC]; rfl]
      rw [show readyL (readyL (RC .ready none)) = readyL (RC .ready none) from rfl]
      exact k2
    | ret =>
      obtain ⟨k1, k2⟩ := fin _ (.loop (doneL (RC .ready none) .ret)) W2 hX hq
      refine ⟨k1, .inr ⟨rfl, ?_⟩⟩
      rw [show RC .done (some .ret) = doneL (RC .ready none) .ret from by rw [hRC]; rfl]
      exact k2
    | _ => exact hq.elim
  · have putj : ∀ (J2 : List Nat → World → Prop) (C : List Nat) (W2 : World) (o : Obj), Fixed J2 → J2 C W2 → w.heap.size + 1 ∉ C → J2 C (W2.putObj (w.heap.size + 1) o) := fun J2 C W2 o hf h hn =>
      hf.keep _ _ _ _ h (chg_put _ _ _) (fun c hc hm => by rw [List.mem_singleton] at hm; subst hm; exact hn hc)
    have cput : ∀ (W2 : World) (o : Obj), Chg ((w.heap.size + 1) :: w.heap.size :: C0) W0 W2 → Chg C0 w (W2.putObj (w.heap.size + 1) o) := fun W2 o hc => hco _ (hc.trans ((chg_put W2 _ o).mono (fun c hc => by rw [List.mem_singleton.1 hc]; simp)))
    have sput : ∀ (W2 : World) (o : Obj), (W2.putObj (w.heap.size + 1) o).heap.size = W2.heap.size := fun W2 o => by
      show (W2.heap.setIfInBounds _ _).size = _
      rw [Array.size_setIfInBounds]
    rintro e W2 ⟨hv, ⟨C', ⟨C, rfl, hj, hr1, hd1, hlt, hr, hd⟩, hc, hm⟩ | ⟨C', ⟨C, rfl, hj, hr1, hd1, hlt, hr, hd⟩, hc, hm⟩⟩
    · refine ⟨hv, .ready, none, by simp, hr, ?_⟩
      exact hend C _ (putj _ _ _ _ (hJ N) hj hr1) (cput _ _ hc) (fun i hi => hmo i (hm i (by simp [hi]))) hd1 (by rw [sput]; omega) ((World.putObj_heap_other (by omega)).trans hd)
    · refine ⟨hv, .done, some .ret, by simp, hr, ?_⟩
      exact hret C _ (putj _ _ _ _ hX hj hr1) (cput _ _ hc) (fun i hi => hmo i (hm i (by simp [hi]))) hd1 (by rw [sput]; omega) ((World.putObj_heap_other (by omega)).trans hd)
end Go.Proofs.Ytbeldjijnjgbfaa
