/-
  The contract of the reference's one.
-/
import Derived.Test.YtljjcchdhnficaaDoorMg22
import Derived.Test.YtljjcchdhnficaaDoorMg1
import Derived.Test.YtljjcchdhnficaaDoorHeld
import Derived.OwnWalk
namespace Go.Proofs.YtljjcchdhnficaaDoor
open Go.ChangeShapes Go.WideShapes Go.ChangeAt Go.RowKit

theorem callQ {P : Program} {f : FuncId} {args : Array Value} {w : World} {v : Value} (h : Calls P f args w fun e w' => e = .returned v ∧ w = w') :
    Calls P f args w fun e w'' => e = .returned v ∧ w'' = w := h.mono fun _ _ hh => ⟨hh.1, hh.2.symm⟩

theorem Nums.base {w : World} {b b' : Nat} {v : Value} {l : List Nat} (h : Nums w b v l) (hb : b' ≤ b) : Nums w b' v l := by
  refine ⟨h.1, ?_⟩
  rcases h.2 with h | ⟨g, cap, cur, h1, h2, h3⟩
  · exact .inl h
  · exact .inr ⟨g, cap, cur, h1, Nat.le_trans hb h2, h3⟩
theorem word_to (n r : Nat) (w : World) (hn : n ≤ 4611686018427387904) (hr : n % 4294967296 = r) : Calls Tryd.prog 54 #[.int .i64 n] w fun e w' => e = .returned (.int .i64 (r : Int)) ∧ w = w' := by
  subst hr
  exact word_any n w hn
theorem wrap_to (a b : Nat) (n : Nat) (h : n = a + b) (hn : a + b < 4611686018427387904) : IntKind.i64.wrap ((a : Int) + (b : Int)) = (n : Int) := by
  rw [IntWalk.i64_in _ ⟨by omega, by omega⟩]
  omega
/-- Eight cells hold r. -/
abbrev S8 (g o : Nat) (r : St) (W : World) : Prop :=
  W.cell? ⟨g, o, none⟩ = some (.int .i64 (r.a : Int)) ∧ W.cell? ⟨g, o + 1, none⟩ = some (.int .i64 (r.b : Int)) ∧ W.cell? ⟨g, o + 2, none⟩ = some (.int .i64 (r.c : Int)) ∧ W.cell? ⟨g, o + 3, none⟩ = some (.int .i64 (r.d : Int)) ∧
  W.cell? ⟨g, o + 4, none⟩ = some (.int .i64 (r.e : Int)) ∧ W.cell? ⟨g, o + 5, none⟩ = some (.int .i64 (r.f : Int)) ∧ W.cell? ⟨g, o + 6, none⟩ = some (.int .i64 (r.g : Int)) ∧ W.cell? ⟨g, o + 7, none⟩ = some (.int .i64 (r.h : Int))
theorem S8.of {w : World} {g o : Nat} {r : St} (hc : ∀ i x, r.list[i]? = some x → w.cell? ⟨g, o + i, none⟩ = some (nV x)) : S8 g o r w :=
  ⟨hc 0 _ rfl, hc 1 _ rfl, hc 2 _ rfl, hc 3 _ rfl, hc 4 _ rfl, hc 5 _ rfl, hc 6 _ rfl, hc 7 _ rfl⟩
theorem add_get (r v : St) : ∀ i, i < 8 → (addS r v).list.getD i 0 = (r.list.getD i 0 + v.list.getD i 0) % 4294967296 := by
  intro i hi
  match i, hi with
  | 0, _ => rfl
  | 1, _ => rfl
  | 2, _ => rfl
  | 3, _ => rfl
  | 4, _ => rfl
  | 5, _ => rfl
  | 6, _ => rfl
  | 7, _ => rfl
theorem take_more {l : List Nat} {k : Nat} (h : k < l.length) : l.take (k + 1) = l.take k ++ [l.getD k 0] := by
  rw [List.take_succ_eq_append_getElem h, List.getD, List.getElem?_eq_getElem h]
  rfl
theorem sl_new (w : World) (t : TypeId) (l : List Nat) : Sl (w.alloc (.cells (l.map nV).toArray t)) nV (some ⟨w.heap.size, 0, none⟩) l :=
  Sl.of fun i x hx => by
    rw [add_plain, Nat.zero_add]
    exact boxed0 w _ t _ i _ (by rw [List.getElem?_toArray, List.getElem?_map, hx]; rfl)

set_option maxRecDepth 100000 in
set_option maxHeartbeats 16000000 in
theorem one_any (xh xk : Option Addr) (ch ck : Nat) (st : St) (s : ByteArray) (w : World) (hst : st.ok) (hs : s.size = 64) (hh : Sl w nV xh st.list) (hk : Sl w nV xk kTab) :
    Calls Tryd.prog 33 #[.slice xh 8 ch, .string s, .slice xk 64 ck] w fun e w' => ∃ v, e = .returned v ∧ Nums w' w.heap.size v (mixS st (wk s 64)).list ∧ Below w.heap.size w w' := by
  obtain ⟨hB, hO, rfl, hBl, hC⟩ := hh (by simp [St.list])
  obtain ⟨kB, kO, rfl, kBl, kC⟩ := hk (by decide)
  have HHC : Hid (∀ W, Below w.heap.size w W → ∀ i x, st.list[i]? = some x → W.cell? ⟨hB, hO + i, none⟩ = some (nV x)) := fun W hW i x hx => (hW.cell (p := ⟨hB, hO + i, none⟩) hBl).trans (hC i x hx)
  have HKC : Hid (∀ W, Below w.heap.size w W → ∀ i x, kTab[i]? = some x → W.cell? ⟨kB, kO + i, none⟩ = some (nV x)) := fun W hW i x hx => (hW.cell (p := ⟨kB, kO + i, none⟩) kBl).trans (kC i x hx)
  have HOK := Lib.hid hst
  obtain ⟨M, hM⟩ : ∃ M, M = (mixS st (wk s 64)).list := ⟨_, rfl⟩
  rw [← hM]
  have HM := Lib.hid hM
  clear hh hk hst hC kC hM
  have hbt := byN_get s
  go_enter Tryd.func33, Tryd.ntmps33
  go_wp2
  go_loopw [7, 8] (fun v t wr => ∃ k : Nat, k ≤ 64 ∧ t = .int .i64 k ∧ Hid (Nums wr w.heap.size v (wk s k)) ∧ Hid (Below w.heap.size w wr)) (fun _ t _ => 64 - (RowKit.intOf t).toNat)
  case atStart => exact ⟨0, Nat.zero_le _, rfl, Nums.nil _ _, Below.refl _ _⟩
  case round =>
    rename_i hkl1
    obtain ⟨k, hk, rfl, HW, HL⟩ := hrel
    by_cases hlt : k < 64
    · clear hkl1
      have hd64 : decide ((k : Int) < 64) = true := decide_eq_true (by omega)
      have hi64 : (k : Int) < 64 := by omega
      have hl := wk_length s k
      have hsz := HL.out.size
      by_cases h16 : k < 16
      · have hd16 : decide ((k : Int) < 16) = true := decide_eq_true (by omega)
        have hi16 : (k : Int) < 16 := by omega
        have b0 := byN_lt s (4 * k)
        have b1 := byN_lt s (4 * k + 1)
        have b2 := byN_lt s (4 * k + 2)
        have b3 := byN_lt s (4 * k + 3)
        have hb4 := be4_i64 s (4 * k)
        have HN : Hid (wk s (k + 1) = wk s k ++ [be4 s (4 * k)]) := by show _ = _; rw [wk, wnext, if_pos h16]
        have g0 : IntKind.i64.wrap (4 * (k : Int)) = 4 * (k : Int) := i64_small _ (by omega) (by omega)
        have g1 : IntKind.i64.wrap (4 * (k : Int) + 1) = 4 * (k : Int) + 1 := i64_small _ (by omega) (by omega)
        have g2 : IntKind.i64.wrap (4 * (k : Int) + 2) = 4 * (k : Int) + 2 := i64_small _ (by omega) (by omega)
        have g3 : IntKind.i64.wrap (4 * (k : Int) + 3) = 4 * (k : Int) + 3 := i64_small _ (by omega) (by omega)
        have t0 : (4 * (k : Int)).toNat = 4 * k := by omega
        have t1 : (4 * (k : Int) + 1).toNat = 4 * k + 1 := by omega
        have t2 : (4 * (k : Int) + 2).toNat = 4 * k + 2 := by omega
        have t3 : (4 * (k : Int) + 3).toNat = 4 * k + 3 := by omega
        have a0 : 0 ≤ 4 * (k : Int) := by omega
        have a1 : 0 ≤ 4 * (k : Int) + 1 := by omega
        have a2 : 0 ≤ 4 * (k : Int) + 2 := by omega
        have a3 : 0 ≤ 4 * (k : Int) + 3 := by omega
        have c0 : 4 * (k : Int) < 64 := by omega
        have c1 : 4 * (k : Int) + 1 < 64 := by omega
        have c2 : 4 * (k : Int) + 2 < 64 := by omega
        have c3 : 4 * (k : Int) + 3 < 64 := by omega
        obtain ⟨d0, z0⟩ : ∃ d, byN s (4 * k) = d := ⟨_, rfl⟩
        obtain ⟨d1, z1⟩ : ∃ d, byN s (4 * k + 1) = d := ⟨_, rfl⟩
        obtain ⟨d2, z2⟩ : ∃ d, byN s (4 * k + 2) = d := ⟨_, rfl⟩
        obtain ⟨d3, z3⟩ : ∃ d, byN s (4 * k + 3) = d := ⟨_, rfl⟩
        rw [z0] at b0 hb4
        rw [z1] at b1 hb4
        rw [z2] at b2 hb4
        rw [z3] at b3 hb4
        have s0 : IntKind.i64.wrap ((d0 : Int) * 16777216) = (d0 : Int) * 16777216 := i64_small _ (by omega) (by omega)
        have s1 : IntKind.i64.wrap ((d1 : Int) * 65536) = (d1 : Int) * 65536 := i64_small _ (by omega) (by omega)
        have s2 : IntKind.i64.wrap ((d2 : Int) * 256) = (d2 : Int) * 256 := i64_small _ (by omega) (by omega)
        have r0 : IntKind.i64.wrap (d0 : Int) = (d0 : Int) := i64_small _ (by omega) (by omega)
        have r1 : IntKind.i64.wrap (d1 : Int) = (d1 : Int) := i64_small _ (by omega) (by omega)
        have r2 : IntKind.i64.wrap (d2 : Int) = (d2 : Int) := i64_small _ (by omega) (by omega)
        have r3 : IntKind.i64.wrap (d3 : Int) = (d3 : Int) := i64_small _ (by omega) (by omega)
        have HBW : Hid (bits .or .i64 (bits .or .i64 (bits .or .i64 (IntKind.i64.wrap (IntKind.i64.wrap (d0 : Int) * 16777216)) (IntKind.i64.wrap (IntKind.i64.wrap (d1 : Int) * 65536))) (IntKind.i64.wrap (IntKind.i64.wrap (d2 : Int) * 256))) (IntKind.i64.wrap (d3 : Int)) = ((be4 s (4 * k) : Nat) : Int)) := by
          show _ = _
          rw [r0, r1, r2, r3, s0, s1, s2]
          exact hb4
        clear r0 r1 r2 r3 s0 s1 s2 hb4
        go_wp2_with fail
        refine wp_region_held_tail (fun _ => True) 30 (by kernel_rfl) (by kernel_rfl) trivial ?_
        simp only [List.take_succ_cons, List.take_zero, List.drop_succ_cons, List.drop_zero]
        repeat (apply wpHeld_step; (intro W hS K hK; go_simp; exact hK _ rfl))
        refine wpHeld_nil ?_
        refine wpOp_step rfl (fun K' hK => ?_)
        go_simp
        refine hK _ _ ⟨trivial, ?_⟩
        clear hK K'
        go_wp2_with (at_builtin; refine wp_nums_push _ rfl _ _ rfl w.heap.size _ (wk s k) rfl ?p1 _ _ _ [be4 s (4 * k)] rfl rfl ?p2 (by omega) ?p3 ?_)
        case p1 => exact (show Nums wr.drew _ _ _ from HW.out).alloc _
        case p3 => exact Nat.le_trans hsz (by show wr.heap.size ≤ (wr.heap.push _).size; rw [Array.size_push]; omega)
        case p2 =>
          intro j u hj
          match j, hj with
          | 0, hj =>
            simp only [List.getElem?_cons_zero, Option.some.injEq] at hj
            subst hj
            show _ = some (Value.int .i64 ((be4 s (4 * k) : Nat) : Int))
            rw [← HBW.out]
            exact boxed0 _ _ _ _ 0 _ rfl
        intro v' w' hn' hb'
        rw [← HN.out] at hn'
        have HN' := Lib.hid hn'
        have HL2 := Lib.hid (HL.out.trans ((((Below.refl _ wr).drew).alloc hsz _).trans hb'))
        clear hn' hb' HBW HN hl
        go_wp2
        go_roundw
        case rel => exact ⟨k + 1, by omega, by go_num, HN', HL2⟩
        case measure => simp [RowKit.intOf]; omega
      · have hd16 : decide ((k : Int) < 16) = false := decide_eq_false (by omega)
        have hview := HW.out.view
        rw [hl] at hview
        obtain ⟨xa, cap, rfl, hsl⟩ := hview
        obtain ⟨g, off, rfl, hg, hc⟩ := hsl (by intro h; rw [h] at hl; simp at hl; omega)
        obtain ⟨j15, e15⟩ : ∃ j, j = k - 15 := ⟨_, rfl⟩
        obtain ⟨j2, e2⟩ : ∃ j, j = k - 2 := ⟨_, rfl⟩
        obtain ⟨j7, e7⟩ : ∃ j, j = k - 7 := ⟨_, rfl⟩
        obtain ⟨j16, e16⟩ : ∃ j, j = k - 16 := ⟨_, rfl⟩
        have p15 : IntKind.i64.wrap ((k : Int) - 15) = (j15 : Int) := by rw [IntWalk.i64_in _ ⟨by omega, by omega⟩]; omega
        have p2 : IntKind.i64.wrap ((k : Int) - 2) = (j2 : Int) := by rw [IntWalk.i64_in _ ⟨by omega, by omega⟩]; omega
        have p7 : IntKind.i64.wrap ((k : Int) - 7) = (j7 : Int) := by rw [IntWalk.i64_in _ ⟨by omega, by omega⟩]; omega
        have p16 : IntKind.i64.wrap ((k : Int) - 16) = (j16 : Int) := by rw [IntWalk.i64_in _ ⟨by omega, by omega⟩]; omega
        have l15 : (j15 : Int) < (k : Int) := by omega
        have l2 : (j2 : Int) < (k : Int) := by omega
        have l7 : (j7 : Int) < (k : Int) := by omega
        have l16 : (j16 : Int) < (k : Int) := by omega
        have hwl := wk_lt s k
        have get : ∀ j, j < k → wr.cell? ⟨g, off + j, none⟩ = some (.int .i64 (((wk s k).getD j 0 : Nat) : Int)) := fun j hj => by
          refine hc j _ ?_
          rw [List.getD, List.getElem?_eq_getElem (by omega)]
          rfl
        have q15 := get j15 (by omega)
        have q2 := get j2 (by omega)
        have q7 := get j7 (by omega)
        have q16 := get j16 (by omega)
        have HN : Hid (wk s (k + 1) = wk s k ++ [(sig1 ((wk s k).getD j2 0) + (wk s k).getD j7 0 + sig0 ((wk s k).getD j15 0) + (wk s k).getD j16 0) % 4294967296]) := by
          show _ = _
          rw [wk, wnext, if_neg h16, e2, e7, e15, e16]
        have hx := getD_lt hwl j15
        have hy := getD_lt hwl j2
        have h7 := getD_lt hwl j7
        have h6 := getD_lt hwl j16
        generalize (wk s k).getD j15 0 = x at *
        generalize (wk s k).getD j2 0 = y at *
        generalize (wk s k).getD j7 0 = a7 at *
        generalize (wk s k).getD j16 0 = a16 at *
        have s1l := sig1_lt y hy
        have s0l := sig0_lt x hx
        have F1 := Lib.hid (sig1_i64 y hy)
        have F0 := Lib.hid (sig0_i64 x hx)
        generalize sig1 y = b1 at *
        generalize sig0 x = b0 at *
        obtain ⟨n1, hn1⟩ : ∃ n, n = b1 + a7 := ⟨_, rfl⟩
        obtain ⟨n2, hn2⟩ : ∃ n, n = n1 + b0 := ⟨_, rfl⟩
        obtain ⟨n3, hn3⟩ : ∃ n, n = n2 + a16 := ⟨_, rfl⟩
        have w1 : IntKind.i64.wrap ((b1 : Int) + (a7 : Int)) = (n1 : Int) := by rw [IntWalk.i64_in _ ⟨by omega, by omega⟩]; omega
        have w2 : IntKind.i64.wrap ((n1 : Int) + (b0 : Int)) = (n2 : Int) := by rw [IntWalk.i64_in _ ⟨by omega, by omega⟩]; omega
        have w3 : IntKind.i64.wrap ((n2 : Int) + (a16 : Int)) = (n3 : Int) := by rw [IntWalk.i64_in _ ⟨by omega, by omega⟩]; omega
        have hn3l : n3 ≤ 4611686018427387904 := by omega
        have HN : Hid (wk s (k + 1) = wk s k ++ [n3 % 4294967296]) := by show _ = _; rw [hn3, hn2, hn1]; exact HN.out
        have HST : Hid (∀ W, Below wr.heap.size wr W → W.cell? ⟨g, off + j7, none⟩ = some (.int .i64 (a7 : Int)) ∧ W.cell? ⟨g, off + j16, none⟩ = some (.int .i64 (a16 : Int))) := fun W hW => ⟨(hW.cell (p := ⟨g, _, none⟩) hg).trans q7, (hW.cell (p := ⟨g, _, none⟩) hg).trans q16⟩
        have f1 := F1.out
        have f0 := F0.out
        clear e15 e2 e7 e16 hn1 hn2 hn3 get hc hwl hsl F1 F0
        go_wp2_with fail
        refine wp_region_held_tail (fun W => W.cell? ⟨g, off + j7, none⟩ = some (.int .i64 (a7 : Int)) ∧ W.cell? ⟨g, off + j16, none⟩ = some (.int .i64 (a16 : Int))) 31 (by kernel_rfl) (by kernel_rfl) ⟨q7, q16⟩ ?_
        simp only [List.take_succ_cons, List.take_zero, List.drop_succ_cons, List.drop_zero]
        clear q7 q16 q15 q2
        repeat (apply wpHeld_step; (intro W hS K hK; obtain ⟨q7, q16⟩ := hS; go_simp; exact hK _ rfl))
        apply wpHeld_step
        · intro W hS K hK
          go_simp
          exact ⟨_, callQ (turn_17 y W hy), hK _ rfl⟩
        repeat (apply wpHeld_step; (intro W hS K hK; obtain ⟨q7, q16⟩ := hS; go_simp; exact hK _ rfl))
        apply wpHeld_step
        · intro W hS K hK
          go_simp
          exact ⟨_, callQ (turn_19 y W hy), hK _ rfl⟩
        repeat (apply wpHeld_step; (intro W hS K hK; obtain ⟨q7, q16⟩ := hS; go_simp; exact hK _ rfl))
        apply wpHeld_step
        · intro W hS K hK
          go_simp
          exact ⟨_, callQ (turn_7 x W hx), hK _ rfl⟩
        repeat (apply wpHeld_step; (intro W hS K hK; obtain ⟨q7, q16⟩ := hS; go_simp; exact hK _ rfl))
        apply wpHeld_step
        · intro W hS K hK
          go_simp
          exact ⟨_, callQ (turn_18 x W hx), hK _ rfl⟩
        repeat (apply wpHeld_step; (intro W hS K hK; obtain ⟨q7, q16⟩ := hS; go_simp; exact hK _ rfl))
        apply wpHeld_step
        · intro W hS K hK
          go_simp
          exact ⟨_, callQ (word_any n3 W hn3l), hK _ rfl⟩
        refine wpHeld_nil ?_
        refine wpOp_step rfl (fun K' hK => ?_)
        go_simp
        refine hK _ _ ⟨HST.out _ (((Below.refl _ wr).drew).alloc (Nat.le_refl _) _), ?_⟩
        clear hK K'
        go_wp2_with (at_builtin; refine wp_nums_push _ rfl _ _ rfl w.heap.size _ (wk s k) rfl ?r1 _ _ _ [n3 % 4294967296] rfl rfl ?r2 (by omega) ?r3 ?_)
        case r1 => exact (show Nums wr.drew _ _ _ from HW.out).alloc _
        case r3 => exact Nat.le_trans hsz (by show wr.heap.size ≤ (wr.heap.push _).size; rw [Array.size_push]; omega)
        case r2 =>
          intro j u hj
          match j, hj with
          | 0, hj =>
            simp only [List.getElem?_cons_zero, Option.some.injEq] at hj
            subst hj
            exact boxed0 _ _ _ _ 0 _ rfl
        intro v' w' hn' hb'
        rw [← HN.out] at hn'
        have HN' := Lib.hid hn'
        have HL2 := Lib.hid (HL.out.trans ((((Below.refl _ wr).drew).alloc hsz _).trans hb'))
        clear hn' hb' HN hl
        go_wp2
        go_roundw
        case rel => exact ⟨k + 1, by omega, by go_num, HN', HL2⟩
        case measure => simp [RowKit.intOf]; omega
    · obtain rfl : k = 64 := by omega
      have hl := wk_length s 64
      have hsz := HL.out.size
      have hview := HW.out.view
      rw [hl] at hview
      obtain ⟨xa, cap, rfl, hsl⟩ := hview
      obtain ⟨g, off, rfl, hg, hc⟩ := hsl (by intro h; rw [h] at hl; simp at hl)
      have HWC : Hid (∀ W, Below wr.heap.size wr W → ∀ i x, (wk s 64)[i]? = some x → W.cell? ⟨g, off + i, none⟩ = some (nV x)) := fun W hW i x hx => (hW.cell (p := ⟨g, off + i, none⟩) hg).trans (hc i x hx)
      clear hc hsl hbt
      go_wp2_with (at_builtin; refine wp_nums_push _ rfl _ _ rfl wr.heap.size _ [] rfl (Nums.nil _ _) _ _ _ st.list rfl rfl ?t2 (by simp) (Nat.le_refl _) ?_)
      case t2 => intro j u hj; rw [add_plain]; exact HHC.out _ HL.out j u hj
      intro v0 w2 hn2 hb2
      obtain ⟨va, vc, rfl, hvs⟩ := hn2.view
      have HV := Lib.hid hvs
      have HL2 := Lib.hid (HL.out.trans (hb2.mono hsz))
      have HB2 := Lib.hid hb2
      have HWL := Lib.hid (wk_lt s 64)
      have HWN := Lib.hid hl
      clear hn2 hvs hb2 hl
      generalize hWK : wk s 64 = L at *
      have HWK := Lib.hid hWK
      clear hWK
      go_wp2
      rename_i hj1 hK1 hc1
      clear hj1
      go_loopw [11, 12] (fun v t wv => ∃ (k : Nat) (va : Option Addr) (vc : Nat), k ≤ 64 ∧ t = .int .i64 k ∧ Value.slice va 8 vc = v ∧ Hid (Sl wv nV va (rnds st L k).list) ∧ Hid (Below w2.heap.size w2 wv)) (fun _ t _ => 64 - (RowKit.intOf t).toNat)
      case atStart => exact ⟨0, va, vc, Nat.zero_le _, rfl, rfl, HV, Below.refl _ _⟩
      case round =>
        rename_i hkl2
        obtain ⟨k, va, vc, hk, rfl, rfl, HV, HLV⟩ := hrel
        by_cases hlt : k < 64
        · clear hkl2
          obtain ⟨vg, vo, rfl, hvg, hvc⟩ := HV.out (by simp [St.list])
          have hro := rnds_ok HOK.out L k
          have HST2 : Hid (rnds st L (k + 1) = stepS (rnds st L k) (kTab.getD k 0) (L.getD k 0)) := rfl
          have h8 := S8.of hvc
          generalize rnds st L k = r at *
          have HS8 : Hid (∀ W, Below wr.heap.size wr W → S8 vg vo r W) := fun W hW => S8.of fun i x hx => (hW.cell (p := ⟨vg, vo + i, none⟩) hvg).trans (hvc i x hx)
          have hkk : wr.cell? ⟨kB, kO + k, none⟩ = some (.int .i64 ((kTab.getD k 0 : Nat) : Int)) := by
            refine HKC.out wr (HL2.out.trans (HLV.out.mono HL2.out.size)) k _ ?_
            have : kTab.length = 64 := by decide
            rw [List.getD, List.getElem?_eq_getElem (by omega)]
            rfl
          have hww : wr.cell? ⟨g, off + k, none⟩ = some (.int .i64 ((L.getD k 0 : Nat) : Int)) := by
            refine HWC.out wr (HB2.out.trans (HLV.out.mono HB2.out.size)) k _ ?_
            have := HWN.out
            rw [List.getD, List.getElem?_eq_getElem (by omega)]
            rfl
          have kkl := getD_lt kTab_lt k
          have wwl := getD_lt HWL.out k
          generalize kTab.getD k 0 = kk at *
          generalize L.getD k 0 = ww at *
          have HKW : Hid (∀ W, Below wr.heap.size wr W → W.cell? ⟨kB, kO + k, none⟩ = some (.int .i64 (kk : Int)) ∧ W.cell? ⟨g, off + k, none⟩ = some (.int .i64 (ww : Int))) := fun W hW => ⟨(hW.cell (p := ⟨kB, kO + k, none⟩) (lt_of_cell hkk)).trans hkk, (hW.cell (p := ⟨g, off + k, none⟩) (lt_of_cell hww)).trans hww⟩
          obtain ⟨ra, rb, rc, rd, re, rf, rg, rh⟩ := r
          obtain ⟨oa, ob, oc, od, oe, of1, og, oh⟩ := hro
          simp only at oa ob oc od oe of1 og oh
          obtain ⟨ch, hch⟩ : ∃ n, chf re rf rg = n := ⟨_, rfl⟩
          obtain ⟨mj, hmj⟩ : ∃ n, majf ra rb rc = n := ⟨_, rfl⟩
          have X1 := Lib.hid (chf_i64 re rf rg oe of1 og)
          have X2 := Lib.hid (majf_i64 ra rb rc oa ob oc)
          have X3 := Lib.hid (Sig1_i64 re oe)
          have X4 := Lib.hid (Sig0_i64 ra oa)
          have chl : ch < 4294967296 := by rw [← hch]; exact Nat.or_lt_two_pow (n := 32) (and32_lt oe) (and32_lt og)
          have mjl : mj < 4294967296 := by rw [← hmj]; exact Nat.or_lt_two_pow (n := 32) (Nat.or_lt_two_pow (n := 32) (and32_lt oa) (and32_lt oa)) (and32_lt ob)
          obtain ⟨z1, hz1⟩ : ∃ n, Sig1 re = n := ⟨_, rfl⟩
          obtain ⟨z0, hz0⟩ : ∃ n, Sig0 ra = n := ⟨_, rfl⟩
          have z1l : z1 < 4294967296 := by rw [← hz1]; exact Nat.xor_lt_two_pow (n := 32) (Nat.xor_lt_two_pow (rotr_lt re 6 oe) (rotr_lt re 11 oe)) (rotr_lt re 25 oe)
          have z0l : z0 < 4294967296 := by rw [← hz0]; exact Nat.xor_lt_two_pow (n := 32) (Nat.xor_lt_two_pow (rotr_lt ra 2 oa) (rotr_lt ra 13 oa)) (rotr_lt ra 22 oa)
          rw [hch] at X1
          rw [hmj] at X2
          rw [hz1] at X3
          rw [hz0] at X4
          obtain ⟨m1, hm1⟩ : ∃ n, n = rh + z1 := ⟨_, rfl⟩
          obtain ⟨m2, hm2⟩ : ∃ n, n = m1 + ch := ⟨_, rfl⟩
          obtain ⟨m3, hm3⟩ : ∃ n, n = m2 + kk := ⟨_, rfl⟩
          obtain ⟨m4, hm4⟩ : ∃ n, n = m3 + ww := ⟨_, rfl⟩
          obtain ⟨t1, ht1⟩ : ∃ n, m4 % 4294967296 = n := ⟨_, rfl⟩
          obtain ⟨m5, hm5⟩ : ∃ n, n = z0 + mj := ⟨_, rfl⟩
          obtain ⟨t2, ht2⟩ : ∃ n, m5 % 4294967296 = n := ⟨_, rfl⟩
          obtain ⟨m6, hm6⟩ : ∃ n, n = t1 + t2 := ⟨_, rfl⟩
          obtain ⟨u1, hu1⟩ : ∃ n, m6 % 4294967296 = n := ⟨_, rfl⟩
          obtain ⟨m7, hm7⟩ : ∃ n, n = rd + t1 := ⟨_, rfl⟩
          obtain ⟨u2, hu2⟩ : ∃ n, m7 % 4294967296 = n := ⟨_, rfl⟩
          have HNX : Hid (rnds st L (k + 1) = ⟨u1, ra, rb, rc, u2, re, rf, rg⟩) := by
            show _ = _
            rw [HST2.out]
            simp only [stepS, tOne, tTwo, hch, hmj, hz1, hz0, ← hm1, ← hm2, ← hm3, ← hm4, ht1, ← hm5, ht2, ← hm6, ← hm7, hu1, hu2]
          clear hch hmj hz1 hz0 HST2 hkk hww hvc
          have t1l : t1 < 4294967296 := by omega
          have t2l : t2 < 4294967296 := by omega
          have g1 := wrap_to rh z1 m1 hm1 (by omega)
          have g2 := wrap_to m1 ch m2 hm2 (by omega)
          have g3 := wrap_to m2 kk m3 hm3 (by omega)
          have g4 := wrap_to m3 ww m4 hm4 (by omega)
          have g5 := wrap_to z0 mj m5 hm5 (by omega)
          have g6 := wrap_to t1 t2 m6 hm6 (by omega)
          have g7 := wrap_to rd t1 m7 hm7 (by omega)
          have b4 : m4 ≤ 4611686018427387904 := by omega
          have b5 : m5 ≤ 4611686018427387904 := by omega
          have b6 : m6 ≤ 4611686018427387904 := by omega
          have b7 : m7 ≤ 4611686018427387904 := by omega
          have gne : IntKind.i64.wrap (4294967295 - (re : Int)) = 4294967295 - (re : Int) := IntWalk.i64_in _ ⟨by omega, by omega⟩
          clear hm1 hm2 hm3 hm4 hm5 hm6 hm7
          have T1 := Lib.hid ht1
          have T2 := Lib.hid ht2
          have U1 := Lib.hid hu1
          have U2 := Lib.hid hu2
          clear ht1 ht2 hu1 hu2
          have x1 := X1.out
          have x2 := X2.out
          have x3 := X3.out
          have x4 := X4.out
          clear X1 X2 X3 X4 h8
          have hd64 : decide ((k : Int) < 64) = true := decide_eq_true (by omega)
          have hi64 : (k : Int) < 64 := by omega
          clear hc1
          go_wp2_with fail
          refine wp_region_held_quiet (S8 vg vo ⟨ra, rb, rc, rd, re, rf, rg, rh⟩) (by kernel_rfl) (by kernel_rfl) (HS8.out _ (((Below.refl _ wr).drew))) ?_
          repeat (apply wpHeld_step; (intro W hS K hK; obtain ⟨c0, c1, c2, c3, c4, c5, c6, c7⟩ := hS; go_simp; exact hK _ rfl))
          refine wpHeld_nil ?_
          go_wp2_with fail
          refine wp_region_held_quiet (S8 vg vo ⟨ra, rb, rc, rd, re, rf, rg, rh⟩) (by kernel_rfl) (by kernel_rfl) (HS8.out _ ((((Below.refl _ wr).drew).drew))) ?_
          repeat (apply wpHeld_step; (intro W hS K hK; obtain ⟨c0, c1, c2, c3, c4, c5, c6, c7⟩ := hS; go_simp; exact hK _ rfl))
          refine wpHeld_nil ?_
          go_wp2_with fail
          refine wp_region_held_quiet (S8 vg vo ⟨ra, rb, rc, rd, re, rf, rg, rh⟩) (by kernel_rfl) (by kernel_rfl) (HS8.out _ (((((Below.refl _ wr).drew).drew).drew))) ?_
          repeat (apply wpHeld_step; (intro W hS K hK; obtain ⟨c0, c1, c2, c3, c4, c5, c6, c7⟩ := hS; go_simp; exact hK _ rfl))
          refine wpHeld_nil ?_
          go_wp2_with fail
          refine wp_region_held_quiet (fun W => S8 vg vo ⟨ra, rb, rc, rd, re, rf, rg, rh⟩ W ∧ W.cell? ⟨kB, kO + k, none⟩ = some (.int .i64 (kk : Int)) ∧ W.cell? ⟨g, off + k, none⟩ = some (.int .i64 (ww : Int))) (by kernel_rfl) (by kernel_rfl) ⟨HS8.out _ ((((((Below.refl _ wr).drew).drew).drew).drew)), HKW.out _ ((((((Below.refl _ wr).drew).drew).drew).drew))⟩ ?_
          repeat (apply wpHeld_step; (intro W hS K hK; obtain ⟨⟨c0, c1, c2, c3, c4, c5, c6, c7⟩, ck, cw⟩ := hS; go_simp; exact hK _ rfl))
          apply wpHeld_step
          · intro W hS K hK
            go_simp
            exact ⟨_, callQ (turn_6 re W oe), hK _ rfl⟩
          repeat (apply wpHeld_step; (intro W hS K hK; obtain ⟨⟨c0, c1, c2, c3, c4, c5, c6, c7⟩, ck, cw⟩ := hS; go_simp; exact hK _ rfl))
          apply wpHeld_step
          · intro W hS K hK
            go_simp
            exact ⟨_, callQ (turn_11 re W oe), hK _ rfl⟩
          repeat (apply wpHeld_step; (intro W hS K hK; obtain ⟨⟨c0, c1, c2, c3, c4, c5, c6, c7⟩, ck, cw⟩ := hS; go_simp; exact hK _ rfl))
          apply wpHeld_step
          · intro W hS K hK
            go_simp
            exact ⟨_, callQ (turn_25 re W oe), hK _ rfl⟩
          repeat (apply wpHeld_step; (intro W hS K hK; obtain ⟨⟨c0, c1, c2, c3, c4, c5, c6, c7⟩, ck, cw⟩ := hS; go_simp; exact hK _ rfl))
          apply wpHeld_step
          · intro W hS K hK
            go_simp
            exact ⟨_, callQ (word_to m4 t1 W b4 T1.out), hK _ rfl⟩
          repeat (apply wpHeld_step; (intro W hS K hK; obtain ⟨⟨c0, c1, c2, c3, c4, c5, c6, c7⟩, ck, cw⟩ := hS; go_simp; exact hK _ rfl))
          refine wpHeld_nil ?_
          go_wp2_with fail
          refine (turn_2 ra _ oa).mono ?_
          rintro e w9 ⟨rfl, rfl⟩
          go_wp2_with fail
          refine (turn_13 ra _ oa).mono ?_
          rintro e w9 ⟨rfl, rfl⟩
          go_wp2_with fail
          refine (turn_22 ra _ oa).mono ?_
          rintro e w9 ⟨rfl, rfl⟩
          go_wp2_with fail
          refine (word_to m5 t2 _ b5 T2.out).mono ?_
          rintro e w9 ⟨rfl, rfl⟩
          go_wp2_with fail
          refine wp_region_held_tail (S8 vg vo ⟨ra, rb, rc, rd, re, rf, rg, rh⟩) 24 (by kernel_rfl) (by kernel_rfl) (HS8.out _ (((((((Below.refl _ wr).drew).drew).drew).drew).drew))) ?_
          simp only [List.take_succ_cons, List.take_zero, List.drop_succ_cons, List.drop_zero]
          repeat (apply wpHeld_step; (intro W hS K hK; obtain ⟨c0, c1, c2, c3, c4, c5, c6, c7⟩ := hS; go_simp; exact hK _ rfl))
          apply wpHeld_step
          · intro W hS K hK
            go_simp
            exact ⟨_, callQ (word_to m6 u1 W b6 U1.out), hK _ rfl⟩
          repeat (apply wpHeld_step; (intro W hS K hK; obtain ⟨c0, c1, c2, c3, c4, c5, c6, c7⟩ := hS; go_simp; exact hK _ rfl))
          apply wpHeld_step
          · intro W hS K hK
            go_simp
            exact ⟨_, callQ (word_to m7 u2 W b7 U2.out), hK _ rfl⟩
          repeat (apply wpHeld_step; (intro W hS K hK; obtain ⟨c0, c1, c2, c3, c4, c5, c6, c7⟩ := hS; go_simp; exact hK _ rfl))
          refine wpHeld_nil ?_
          refine wpOp_step rfl (fun K' hK => ?_)
          go_simp
          have HA := Lib.hid (Below.alloc (B := wr.heap.size) ((((((Below.refl _ wr).drew).drew).drew).drew).drew) (Nat.le_refl _) (.cells (([u1, ra, rb, rc, u2, re, rf, rg] : List Nat).map nV).toArray 3))
          have HN8 := Lib.hid (sl_new (((((wr.drew).drew).drew).drew).drew) 3 [u1, ra, rb, rc, u2, re, rf, rg])
          refine hK _ _ ⟨HS8.out _ HA.out, ?_⟩
          clear hK K'
          go_wp2
          go_roundw
          case rel => exact ⟨k + 1, _, _, by omega, by go_num, rfl, by show Sl _ _ _ _; rw [HNX.out]; exact HN8.out, HLV.out.trans (HA.out.mono HLV.out.size)⟩
          case measure => simp [RowKit.intOf]; omega
        · obtain rfl : k = 64 := by omega
          obtain ⟨vg, vo, rfl, hvg, hvc⟩ := HV.out (by simp [St.list])
          have HLw := Lib.hid (HL2.out.trans (HLV.out.mono HL2.out.size))
          have hro := rnds_ok HOK.out L 64
          obtain ⟨D, hD⟩ : ∃ D, D = (addS st (rnds st L 64)).list := ⟨_, rfl⟩
          have HMX : Hid ((mixS st (wk s 64)).list = D) := by show _ = _; rw [hD, HWK.out]; rfl
          have HAG : Hid (∀ i, i < 8 → D.getD i 0 = (st.list.getD i 0 + (rnds st L 64).list.getD i 0) % 4294967296) := by
            intro i hi
            rw [hD]
            exact add_get _ _ i hi
          have HAL : Hid (D.length = 8) := by show _ = _; rw [hD]; rfl
          clear hD
          generalize rnds st L 64 = r at *
          have HVC : Hid (∀ W, Below wr.heap.size wr W → ∀ i x, r.list[i]? = some x → W.cell? ⟨vg, vo + i, none⟩ = some (nV x)) := fun W hW i x hx => (hW.cell (p := ⟨vg, vo + i, none⟩) hvg).trans (hvc i x hx)
          have HRL := Lib.hid (list_lt hro)
          have HSL := Lib.hid (list_lt HOK.out)
          have HHW : Hid (∀ W, Below wr.heap.size wr W → ∀ i x, st.list[i]? = some x → W.cell? ⟨hB, hO + i, none⟩ = some (nV x)) := fun W hW => HHC.out W (HLw.out.trans (hW.mono HLw.out.size))
          clear hvc hro HV HLV HL2 HB2 HWC HHC HKC
          go_wp2
          rename_i hj2 hK2 hc2
          clear hj2
          rw [show (((64 : Nat) : Int)) = 64 from rfl]
          go_loopw [19, 20] (fun v t wv => ∃ k : Nat, k ≤ 8 ∧ t = .int .i64 k ∧ Hid (Nums wv wr.heap.size v (D.take k)) ∧ Hid (Below wr.heap.size wr wv)) (fun _ t _ => 8 - (RowKit.intOf t).toNat)
          case atStart => exact ⟨0, Nat.zero_le _, rfl, Nums.nil _ _, Below.refl _ _⟩
          case round =>
            rename_i hkl3
            obtain ⟨k, hk, rfl, HN, HLN⟩ := hrel
            have hal := HAL.out
            by_cases hlt : k < 8
            · clear hkl3
              have hd8 : decide ((k : Int) < 8) = true := decide_eq_true (by omega)
              have hi8 : (k : Int) < 8 := by omega
              have hsz := HLN.out.size
              have hx := HSL.out k
              have hy := HRL.out k
              have c1 : wr.cell? ⟨hB, hO + k, none⟩ = some (.int .i64 ((st.list.getD k 0 : Nat) : Int)) := by
                refine HHW.out wr HLN.out k _ ?_
                have : st.list.length = 8 := rfl
                rw [List.getD, List.getElem?_eq_getElem (by omega)]
                rfl
              have c2 : wr.cell? ⟨vg, vo + k, none⟩ = some (.int .i64 ((r.list.getD k 0 : Nat) : Int)) := by
                refine HVC.out wr HLN.out k _ ?_
                have : r.list.length = 8 := rfl
                rw [List.getD, List.getElem?_eq_getElem (by omega)]
                rfl
              have HNX : Hid (D.take (k + 1) = D.take k ++ [(st.list.getD k 0 + r.list.getD k 0) % 4294967296]) := by
                show _ = _
                rw [take_more (by omega), HAG.out k hlt]
              have htl : (D.take k).length ≤ 8 := by rw [List.length_take]; omega
              generalize st.list.getD k 0 = x at *
              generalize r.list.getD k 0 = y at *
              obtain ⟨n, hn⟩ : ∃ n, n = x + y := ⟨_, rfl⟩
              obtain ⟨q, hq⟩ : ∃ q, n % 4294967296 = q := ⟨_, rfl⟩
              rw [← hn, hq] at HNX
              have g1 := wrap_to x y n hn (by omega)
              have b1 : n ≤ 4611686018427387904 := by omega
              have HQ := Lib.hid hq
              have HST : Hid (∀ W, Below wr.heap.size wr W → W.cell? ⟨hB, hO + k, none⟩ = some (.int .i64 (x : Int)) ∧ W.cell? ⟨vg, vo + k, none⟩ = some (.int .i64 (y : Int))) := fun W hW => ⟨(hW.cell (p := ⟨hB, hO + k, none⟩) (lt_of_cell c1)).trans c1, (hW.cell (p := ⟨vg, vo + k, none⟩) (lt_of_cell c2)).trans c2⟩
              have HTL := Lib.hid htl
              clear hn hq c1 c2 hal htl
              go_wp2_with fail
              refine wp_region_held_tail (fun W => W.cell? ⟨hB, hO + k, none⟩ = some (.int .i64 (x : Int)) ∧ W.cell? ⟨vg, vo + k, none⟩ = some (.int .i64 (y : Int))) 11 (by kernel_rfl) (by kernel_rfl) (HST.out _ ((Below.refl _ wr).drew)) ?_
              simp only [List.take_succ_cons, List.take_zero, List.drop_succ_cons, List.drop_zero]
              repeat (apply wpHeld_step; (intro W hS K hK; obtain ⟨q1, q2⟩ := hS; go_simp; exact hK _ rfl))
              apply wpHeld_step
              · intro W hS K hK
                go_simp
                exact ⟨_, callQ (word_to n q W b1 HQ.out), hK _ rfl⟩
              refine wpHeld_nil ?_
              refine wpOp_step rfl (fun K' hK => ?_)
              go_simp
              refine hK _ _ ⟨HST.out _ (((Below.refl _ wr).drew).alloc (Nat.le_refl _) _), ?_⟩
              clear hK K'
              go_wp2_with (at_builtin; refine wp_nums_push _ rfl _ _ rfl _ _ (D.take k) rfl ((show Nums wr.drew _ _ _ from HN.out).alloc _) _ _ _ [q] rfl rfl ?u2 (by have := HTL.out; omega) ?u3 ?_)
              case u3 => exact Nat.le_trans hsz (by show wr.heap.size ≤ (wr.heap.push _).size; rw [Array.size_push]; omega)
              case u2 =>
                intro j u hj
                match j, hj with
                | 0, hj =>
                  simp only [List.getElem?_cons_zero, Option.some.injEq] at hj
                  subst hj
                  exact boxed0 _ _ _ _ 0 _ rfl
              intro v' w' hn' hb'
              rw [← HNX.out] at hn'
              have HN' := Lib.hid hn'
              have HL3 := Lib.hid (HLN.out.trans ((((Below.refl _ wr).drew).alloc hsz _).trans hb'))
              clear hn' hb' HNX
              go_wp2
              go_roundw
              case rel => exact ⟨k + 1, by omega, by go_num, HN', HL3⟩
              case measure => simp [RowKit.intOf]; omega
            · obtain rfl : k = 8 := by omega
              have hn := HN.out
              rw [List.take_of_length_le (by omega), ← HMX.out, HWK.out, ← HM.out] at hn
              have HN2 := Lib.hid (hn.base HLw.out.size)
              have HL3 := Lib.hid (HLw.out.trans (HLN.out.mono HLw.out.size))
              clear hn
              go_wp2
              go_ret
              exact ⟨_, rfl, HN2.out, HL3.out⟩
end Go.Proofs.YtljjcchdhnficaaDoor
