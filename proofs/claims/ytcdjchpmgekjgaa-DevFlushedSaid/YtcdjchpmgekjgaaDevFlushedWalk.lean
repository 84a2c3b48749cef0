/-
  The walk of DevFlushed.
-/
import Derived.Test.YtcdjchpmgekjgaaDevLive
import Derived.Test.YtcdjchpmgekjgaaDevMath2
import Derived.Test.YtcdjchpmgekjgaaDevOneS
import Derived.Deep.DeepMust
import Derived.Deep.QuietTactic
import Derived.BigQuiet
import Derived.Test.YtcdjchpmgekjgaaFrame
import Derived.Test.YtcdjchpmgekjgaaOpenDev
namespace Go.Proofs.Ytcdjchpmgekjgaa.devFlushed
open Go.RowKit

def fnd (f0 : Bool) (l : List OpD) (x : Int × Int) (a : ByteArray) (i : Nat) : Bool := f0 || (l.take i).any (fun y => (y.l.1 == x.1 && y.l.2 == x.2) && (y.s.toList == a.toList))
theorem fnd_succ (f0 : Bool) (l : List OpD) (x : Int × Int) (a : ByteArray) (i : Nat) (h : i < l.length) : fnd f0 l x a (i + 1) = (fnd f0 l x a i || ((l[i].l.1 == x.1 && l[i].l.2 == x.2) && (l[i].s.toList == a.toList))) := by
  unfold fnd
  rw [List.take_succ_eq_append_getElem h, List.any_append]
  simp [Bool.or_assoc]
theorem fnd_end (l : List OpD) (x : Int × Int) (a b : ByteArray) (h : a = b ∨ ∃ y ∈ l, y.l = x ∧ y.s = a) : fnd (a.toList == b.toList) l x a l.length = true := by
  unfold fnd
  rw [List.take_of_length_le (Nat.le_refl _)]
  rcases h with rfl | ⟨y, hy, rfl, rfl⟩
  · simp
  · rw [Bool.or_eq_true]
    right
    exact List.any_eq_true.2 ⟨y, hy, by simp⟩

set_option maxRecDepth 100000 in
set_option maxHeartbeats 2000000 in
theorem walk (w : World) (x0 : Option Addr) (c0 : Nat) (l0 : List OpD) (s0 : SlE w 5 (OpE w) x0 l0) (m0 : l0.length ≤ maxLen) (x1 : Option Addr) (c1 : Nat) (l1 : List OpD) (s1 : SlE w 5 (OpE w) x1 l1) (m1 : l1.length ≤ maxLen) (x2 : Option Addr) (c2 : Nat) (l2 : List Bool) (s2 : Sl w Value.bool x2 l2) (w2 : True) (m2 : l2.length ≤ maxLen) :
    Calls Try.prog 4 #[.slice x0 l0.length c0, .slice x1 l1.length c1, .slice x2 l2.length c2] w fun e w' => e = .returned (.bool true) ∧ Below w.heap.size w w' := by
  have S0 := Lib.hid s0
  have S1 := Lib.hid s1
  have S2 := Lib.hid s2
  clear s0 s1 s2 m0 m1 m2 w2
  by_cases hA : 30 < l0.length
  · go_enter Try.func4, Try.ntmps4
    go_wp2_with fail
    refine (live_any _).mono ?_
    rintro e wl ⟨rfl, hb⟩
    have HL := Lib.hid hb
    clear hb
    go_wp2
    go_ret
    exact ⟨rfl, HL.out⟩
  · by_cases hB : 30 < l1.length
    · go_enter Try.func4, Try.ntmps4
      go_wp2_with fail
      refine (live_any _).mono ?_
      rintro e wl ⟨rfl, hb⟩
      have HL := Lib.hid hb
      clear hb
      go_wp2
      go_ret
      exact ⟨rfl, HL.out⟩
    · by_cases hC : 100 < l2.length
      · go_enter Try.func4, Try.ntmps4
        go_wp2_with fail
        refine (live_any _).mono ?_
        rintro e wl ⟨rfl, hb⟩
        have HL := Lib.hid hb
        clear hb
        go_wp2
        go_ret
        exact ⟨rfl, HL.out⟩
      · obtain ⟨D1, hD1⟩ : ∃ D1 : Nat → DevD, D1 = devW (newD 20 20) l0 := ⟨_, rfl⟩
        have HD1 := Lib.hid hD1
        have h30 := Lib.hid (show l0.length ≤ 30 by omega)
        have h31 := Lib.hid (show l1.length ≤ 30 by omega)
        have h100 := Lib.hid (show l2.length ≤ 100000 by omega)
        clear hD1
        go_enter Try.func4, Try.ntmps4
        go_wp2_with fail
        refine (one_new w.heap.size fixed_no 20 20 _ (Nat.le_refl _) ⟨[], rfl, fun _ h => by cases h⟩ (by omega) (by omega)).mono ?_
        rintro e v1 ⟨b, rfl, ho, hb⟩
        have H : Hid (One w.heap.size NoP b (D1 0) v1) := by show One _ _ _ _ _; rw [HD1.out]; exact ho
        have L := Lib.hid hb
        clear ho hb
        go_wp2_with fail
        go_loopw [8] (fun i wr => ∃ k : Nat, k ≤ l0.length ∧ i = .int .i64 k ∧ Hid (One w.heap.size NoP b (D1 k) wr) ∧ Hid (Below w.heap.size w wr)) (fun i _ => l0.length - (intOf i).toNat)
        case atStart => exact ⟨0, Nat.zero_le _, rfl, H, L⟩
        case round =>
          clear H L
          obtain ⟨k, hk, rfl, H, L⟩ := hrel
          have hdl : Hid ((D1 k).waits.length ≤ 1000) := by
            show _ ≤ _
            rw [HD1.out]
            have := (devW_is (newD 20 20) l0 k hk).2.2.1
            have e0 : (newD 20 20).waits.length = 0 := rfl
            omega
          by_cases hlt : k < l0.length
          · obtain ⟨bb, off, rfl, hbb, hcell, _⟩ := S0.out.op k hlt
            have q1 : wr.cell? ⟨bb, off + k * 5 + 1, none⟩ = some (.int .i64 l0[k].l.1) := by rw [L.out.cell (p := ⟨bb, off + k * 5 + 1, none⟩) hbb]; exact hcell 1 _ rfl
            have q2 : wr.cell? ⟨bb, off + k * 5 + 1 + 1, none⟩ = some (.int .i64 l0[k].l.2) := by rw [L.out.cell (p := ⟨bb, off + k * 5 + 1 + 1, none⟩) hbb]; exact hcell 2 _ rfl
            have q3 : wr.cell? ⟨bb, off + k * 5 + 3, none⟩ = some (.string l0[k].s) := by rw [L.out.cell (p := ⟨bb, off + k * 5 + 3, none⟩) hbb]; exact hcell 3 _ rfl
            have hkk : (0 : Int) ≤ (k : Int) := by omega
            have hkl : (k : Int) < (l0.length : Int) := by omega
            have HO : Hid (D1 (k + 1) = writeD (D1 k) l0[k].l l0[k].s) := by show _ = _; rw [HD1.out]; exact devW_succ (newD 20 20) l0 k hlt
            generalize l0[k] = x at *
            obtain ⟨x0, ⟨y1, y2⟩, xs, _, _, _⟩ := x
            simp only at q1 q2 q3 HO
            clear hcell hbb
            go_wp2_with fail
            go_region_with ((go_at_call 20; go_must (refine (one_write fixed_no (H.out.drew fixed_no) (y1, y2) xs (Nat.le_trans hdl.out (by omega))).mono ?_; rintro e w2 ⟨rfl, ho, hb⟩; have H2 := Lib.hid ho; have L2 := Lib.hid (L.out.trans (undrew (hb.mono (Nat.le_refl _)))); clear ho hb)))
            all_goals
              rw [← HO.out] at H2
              clear q1 q2 q3 H hlt
              go_wp2
              go_roundw
              case rel => exact ⟨k + 1, by omega, by go_num, H2, L2⟩
              case measure => simp [intOf]; omega
          · have hkl : k = l0.length := by omega
            subst hkl
            clear hlt hk
            go_wp2_with fail
            refine (one_flush fixed_no H.out (Nat.le_trans hdl.out (by omega))).mono ?_
            rintro e v2 ⟨rfl, ho, hb⟩
            obtain ⟨D2, hD2⟩ : ∃ D2 : DevD, D2 = endD (D1 l0.length) (D1 l0.length).waits := ⟨_, rfl⟩
            rw [← hD2] at ho
            rw [HD1.out] at hD2
            have HD2 := Lib.hid hD2
            have hw2 : D2.waits = [] := by rw [hD2]; rfl
            have HW2 := Lib.hid hw2
            have H2 := Lib.hid ho
            have L2 := Lib.hid (L.out.trans hb)
            clear ho hb H L HD1 hdl hD2 hw2
            go_wp2_with fail
            refine (one_copy fixed_no H2.out (by rw [HW2.out]; simp)).mono ?_
            rintro e v3 ⟨b2, rfl, ho, hb⟩
            obtain ⟨D3, hD3⟩ : ∃ D3 : Nat → DevD, D3 = devW D2 l1 := ⟨_, rfl⟩
            have HD3 := Lib.hid hD3
            have H3 : Hid (One w.heap.size (Both NoP (DevF b2 D2)) b (D3 0) v3) := by show One _ _ _ _ _; rw [hD3]; exact ho.swap
            have L3 := Lib.hid (L2.out.trans hb)
            clear ho hb H2 L2 hD3
            go_wp2_with fail
            go_loopw [10] (fun i wr => ∃ k : Nat, k ≤ l1.length ∧ i = .int .i64 k ∧ Hid (One w.heap.size (Both NoP (DevF b2 D2)) b (D3 k) wr) ∧ Hid (Below w.heap.size w wr)) (fun i _ => l1.length - (intOf i).toNat)
            case atStart => exact ⟨0, Nat.zero_le _, rfl, H3, L3⟩
            case round =>
              clear H3 L3
              obtain ⟨k, hk, rfl, H, L⟩ := hrel
              have hdl : Hid ((D3 k).waits.length ≤ 1000) := by
                show _ ≤ _
                rw [HD3.out]
                have := (devW_is D2 l1 k hk).2.2.1
                have e0 : D2.waits.length = 0 := by rw [HW2.out]; rfl
                have := h31.out
                omega
              by_cases hlt : k < l1.length
              · obtain ⟨bb, off, rfl, hbb, hcell, _⟩ := S1.out.op k hlt
                have q1 : wr.cell? ⟨bb, off + k * 5 + 1, none⟩ = some (.int .i64 l1[k].l.1) := by rw [L.out.cell (p := ⟨bb, off + k * 5 + 1, none⟩) hbb]; exact hcell 1 _ rfl
                have q2 : wr.cell? ⟨bb, off + k * 5 + 1 + 1, none⟩ = some (.int .i64 l1[k].l.2) := by rw [L.out.cell (p := ⟨bb, off + k * 5 + 1 + 1, none⟩) hbb]; exact hcell 2 _ rfl
                have q3 : wr.cell? ⟨bb, off + k * 5 + 3, none⟩ = some (.string l1[k].s) := by rw [L.out.cell (p := ⟨bb, off + k * 5 + 3, none⟩) hbb]; exact hcell 3 _ rfl
                have hkk : (0 : Int) ≤ (k : Int) := by omega
                have hkl : (k : Int) < (l1.length : Int) := by omega
                have HO : Hid (D3 (k + 1) = writeD (D3 k) l1[k].l l1[k].s) := by show _ = _; rw [HD3.out]; exact devW_succ D2 l1 k hlt
                generalize l1[k] = x at *
                obtain ⟨x0, ⟨y1, y2⟩, xs, _, _, _⟩ := x
                simp only at q1 q2 q3 HO
                clear hcell hbb
                go_wp2_with fail
                go_region_with ((go_at_call 20; go_must (refine (one_write (fixed_both fixed_no (fixed_dev _ _)) (H.out.drew (fixed_both fixed_no (fixed_dev _ _))) (y1, y2) xs (Nat.le_trans hdl.out (by omega))).mono ?_; rintro e w2 ⟨rfl, ho, hb⟩; have H2 := Lib.hid ho; have L2 := Lib.hid (L.out.trans (undrew (hb.mono (Nat.le_refl _)))); clear ho hb)))
                all_goals
                  rw [← HO.out] at H2
                  clear q1 q2 q3 H hlt
                  go_wp2
                  go_roundw
                  case rel => exact ⟨k + 1, by omega, by go_num, H2, L2⟩
                  case measure => simp [intOf]; omega
              · have hkl : k = l1.length := by omega
                subst hkl
                clear hlt hk
                have hs2 : Hid (Sl wr Value.bool x2 l2) := S2.out.keep L.out
                go_wp2_with fail
                refine (one_crash (fixed_both fixed_no (fixed_dev _ _)) H.out x2 c2 l2 hs2.out (Nat.le_trans hdl.out (by omega)) h100.out).mono ?_
                rintro e v4 ⟨rfl, ho, hb⟩
                obtain ⟨D4, hD4⟩ : ∃ D4 : DevD, D4 = crashD (D3 l1.length) l2 := ⟨_, rfl⟩
                rw [← hD4] at ho
                have hw4 : D4.waits = [] := by rw [hD4]; rfl
                have HW4 := Lib.hid hw4
                have HF : Hid (∀ (dv : Int), (dv = 0 ∨ dv = 1) → ∀ at' : Nat, at' < 20 → tellD D4 (dv, at') = tellD D2 (dv, at') ∨ ∃ y ∈ l1, y.l = (dv, (at' : Int)) ∧ y.s = tellD D4 (dv, at')) := fun dv hd at' ha => by
                  rw [hD4, HD3.out, HD2.out]
                  exact flushed_tells l0 l1 l2 dv hd at' ha
                have H4 := Lib.hid ho
                have L4 := Lib.hid (L.out.trans hb)
                clear ho hb H L HD3 HD2 hdl hD4 hw4 HW2 hs2
                go_wp2_with fail
                go_loopw [11] (fun i wr => ∃ dv : Nat, dv ≤ 2 ∧ i = .int .i64 dv ∧ Hid (One w.heap.size (Both NoP (DevF b2 D2)) b D4 wr) ∧ Hid (Below w.heap.size w wr)) (fun i _ => 2 - (intOf i).toNat)
                case atStart => exact ⟨0, by omega, rfl, H4, L4⟩
                case round =>
                  clear H4 L4
                  obtain ⟨dv, hdv, rfl, H, L⟩ := hrel
                  by_cases hdt : dv < 2
                  · have hdd : (dv : Int) < 2 := by omega
                    have HDT := Lib.hid hdt
                    clear hdt
                    go_wp2_with fail
                    go_loopw [12] (fun i wr => ∃ k : Nat, k ≤ 20 ∧ i = .int .i64 k ∧ Hid (One w.heap.size (Both NoP (DevF b2 D2)) b D4 wr) ∧ Hid (Below w.heap.size w wr)) (fun i _ => 20 - (intOf i).toNat)
                    case atStart => exact ⟨0, by omega, rfl, H, L⟩
                    case round =>
                      clear H L
                      obtain ⟨k, hk, rfl, H, L⟩ := hrel
                      by_cases hal : k < 20
                      · have haa : (k : Int) < 20 := by omega
                        have HX := Lib.hid (fnd_end l1 ((dv : Int), (k : Int)) _ _ (HF.out dv (by have := HDT.out; omega) k hal))
                        have HAT := Lib.hid hal
                        clear hal
                        have ha := (Below.refl wr.heap.size wr).alloc (Nat.le_refl _) (.cells #[.int .i64 (dv : Int), .int .i64 (k : Int)] 29 (0, 0))
                        have H1 := Lib.hid (H.out.keep (fixed_both fixed_no (fixed_dev _ _)) ha)
                        have L1 := Lib.hid (L.out.trans (ha.mono H.out.1))
                        have BX := Lib.hid (Box.new wr 29 #[.int .i64 (dv : Int), .int .i64 (k : Int)])
                        clear H L ha
                        go_wp2_with fail
                        generalize World.alloc _ _ = v5 at *
                        generalize wr.heap.size = g at *
                        refine (one_readS (fixed_both fixed_no (fixed_dev _ _)) H1.out ((dv : Int), (k : Int))).mono ?_
                        rintro e v6 ⟨rfl, ho, hb⟩
                        have H6 := Lib.hid ho.swap
                        have L6 := Lib.hid (L1.out.trans (hb.mono H1.out.1))
                        have BX6 := Lib.hid (BX.out.keep hb BX.out.lt)
                        have g0 : v6.cell? ⟨g, 0, none⟩ = some (.int .i64 (dv : Int)) := BX6.out.cell 0 _ rfl
                        have g1 : v6.cell? ⟨g, 1, none⟩ = some (.int .i64 (k : Int)) := BX6.out.cell 1 _ rfl
                        clear ho hb H1 L1 BX
                        go_wp2_with fail
                        refine (one_readS (fixed_both fixed_no (fixed_dev _ _)) H6.out ((dv : Int), (k : Int))).mono ?_
                        rintro e v7 ⟨rfl, ho, hb⟩
                        have H7 := Lib.hid ho.swap
                        have L7 := Lib.hid (L6.out.trans (hb.mono H6.out.1))
                        have BX7 := Lib.hid (BX6.out.keep hb BX6.out.lt)
                        clear ho hb H6 L6 BX6 g0 g1
                        generalize tellD D4 ((dv : Int), (k : Int)) = ta at *
                        generalize tellD D2 ((dv : Int), (k : Int)) = tb at *
                        generalize chkD D4 ((dv : Int), (k : Int)) 0 = ca at *
                        generalize chkD D2 ((dv : Int), (k : Int)) 0 = cb at *
                        have hf0 : fnd (ta.toList == tb.toList) l1 ((dv : Int), (k : Int)) ta 0 = (ta.toList == tb.toList) := by unfold fnd; simp
                        have HF0 := Lib.hid hf0
                        clear hf0
                        go_wp2_with fail
                        go_loopw [18, 19] (fun t i wr => ∃ j : Nat, j ≤ l1.length ∧ i = .int .i64 j ∧ t = .bool (fnd (ta.toList == tb.toList) l1 ((dv : Int), (k : Int)) ta j) ∧ Hid (Below v7.heap.size v7 wr)) (fun _ i _ => l1.length - (intOf i).toNat)
                        case atStart => exact ⟨0, by omega, rfl, by rw [HF0.out], Lib.hid (Below.refl _ _)⟩
                        case round =>
                          obtain ⟨j, hj, rfl, rfl, LW⟩ := hrel
                          by_cases hjl : j < l1.length
                          · obtain ⟨bb, off, rfl, hbb, hcell, _⟩ := S1.out.op j hjl
                            have LL := L7.out.trans (LW.out.mono H7.out.1)
                            have BXW := BX7.out.keep LW.out BX7.out.lt
                            have g0 : wr.cell? ⟨g, 0, none⟩ = some (.int .i64 (dv : Int)) := BXW.cell 0 _ rfl
                            have g1 : wr.cell? ⟨g, 1, none⟩ = some (.int .i64 (k : Int)) := BXW.cell 1 _ rfl
                            have q1 : wr.cell? ⟨bb, off + j * 5 + 1, none⟩ = some (.int .i64 l1[j].l.1) := by rw [LL.cell (p := ⟨bb, off + j * 5 + 1, none⟩) hbb]; exact hcell 1 _ rfl
                            have q2 : wr.cell? ⟨bb, off + j * 5 + 1 + 1, none⟩ = some (.int .i64 l1[j].l.2) := by rw [LL.cell (p := ⟨bb, off + j * 5 + 1 + 1, none⟩) hbb]; exact hcell 2 _ rfl
                            have q3 : wr.cell? ⟨bb, off + j * 5 + 3, none⟩ = some (.string l1[j].s) := by rw [LL.cell (p := ⟨bb, off + j * 5 + 3, none⟩) hbb]; exact hcell 3 _ rfl
                            have hkk : (0 : Int) ≤ (j : Int) := by omega
                            have hkl : (j : Int) < (l1.length : Int) := by omega
                            have HO := Lib.hid (fnd_succ (ta.toList == tb.toList) l1 ((dv : Int), (k : Int)) ta j hjl)
                            generalize l1[j] = x at *
                            obtain ⟨x0, ⟨y1, y2⟩, xs, _, _, _⟩ := x
                            simp only at q1 q2 q3 HO
                            generalize fnd (ta.toList == tb.toList) l1 ((dv : Int), (k : Int)) ta j = fj at *
                            have hq : ∀ w, (Op.equalIn 10000 29 (.agg #[.int .i64 y1, .int .i64 y2]) (.agg #[.int .i64 (dv : Int), .int .i64 (k : Int)])).run Try.prog w = .ok (y1 == (dv : Int) && y2 == (k : Int)) w := fun w => eqLocD y1 y2 _ _ w
                            generalize (y1 == (dv : Int) && y2 == (k : Int)) = bq at *
                            clear hcell hbb LL BXW
                            have HLW : Hid (∀ nq, Below v7.heap.size v7 (wr.drewN nq)) := fun nq => ⟨LW.out.os, LW.out.tape, LW.out.output, LW.out.size, LW.out.block⟩
                            clear LW
                            cases fj
                            · cases bq
                              · go_wp2_with fail
                                go_quiet (fail)
                                go_wp2
                                go_roundw
                                case rel => exact ⟨j + 1, by omega, by go_num, by rw [HO.out]; simp, HLW.out _⟩
                                case measure => simp [intOf]; omega
                              · go_wp2_with fail
                                go_quiet (fail)
                                go_wp2
                                go_roundw
                                case rel => exact ⟨j + 1, by omega, by go_num, by rw [HO.out]; simp, HLW.out _⟩
                                case measure => simp [intOf]; omega
                            · go_wp2_with fail
                              go_quiet (fail)
                              go_wp2
                              go_roundw
                              case rel => exact ⟨j + 1, by omega, by go_num, by rw [HO.out]; simp, HLW.out _⟩
                              case measure => simp [intOf]; omega
                          · have hjl2 : j = l1.length := by omega
                            subst hjl2
                            rw [HX.out]
                            have H8 := Lib.hid (H7.out.keep (fixed_both fixed_no (fixed_dev _ _)) LW.out)
                            have L8 := Lib.hid (L7.out.trans (LW.out.mono H7.out.1))
                            have hlt := HAT.out
                            clear hjl hj
                            go_wp2
                            go_roundw
                            case rel => exact ⟨k + 1, by omega, by go_num, H8, L8⟩
                            case measure => simp [intOf]; omega
                      · have hk20 : k = 20 := by omega
                        subst hk20
                        have hlt := HDT.out
                        clear hal hk
                        go_wp2
                        go_roundw
                        case rel => exact ⟨dv + 1, by omega, by go_num, H, L⟩
                        case measure => simp [intOf]; omega
                  · have hd2 : dv = 2 := by omega
                    subst hd2
                    clear hdt hdv
                    go_wp2_with fail
                    refine (one_waits (fixed_both fixed_no (fixed_dev _ _)) H.out (by rw [HW4.out]; simp)).mono ?_
                    rintro e v5 ⟨vv, rfl, hp, ho, hb⟩
                    rw [HW4.out] at hp
                    obtain ⟨va, vc, rfl, _⟩ := hp.view
                    have L5 := Lib.hid (L.out.trans hb)
                    clear ho hb H L hp
                    go_wp2_with fail
                    refine (live_any _).mono ?_
                    rintro e wl ⟨rfl, hb⟩
                    have HL := Lib.hid (L5.out.trans (hb.mono L5.out.size))
                    clear hb
                    go_wp2
                    go_ret
                    exact ⟨rfl, HL.out⟩
end Go.Proofs.Ytcdjchpmgekjgaa.devFlushed
