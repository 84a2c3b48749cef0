/-
  The walk of UberNewest.
-/
import Derived.Test.YtcdjchpmgekjgabDoorUberLive
import Derived.Test.YtcdjchpmgekjgabDoorUberMath3
import Derived.Test.YtcdjchpmgekjgabDoorFrame
import Derived.StillTailTactics
namespace Go.Proofs.YtcdjchpmgekjgabDoor.uberNewest
open Go.RowKit

set_option maxRecDepth 100000 in
set_option maxHeartbeats 2000000 in
theorem walk (w : World) (hK : Kt w) (a0 : Int) (w0 : (Lit.int .i64 a0).wf = true) (a1 : Int) (w1 : (Lit.int .i64 a1).wf = true) :
    Calls Tryd.prog 6 #[.int .i64 a0, .int .i64 a1] w fun e w' => e = .returned (.bool true) ∧ Below w.heap.size w w' := by
  have HK := Lib.hid hK
  have HP := Lib.hid hK.pos
  clear hK w0 w1
  by_cases hA : a0 < 1
  · go_enter Tryd.func6, Tryd.ntmps6
    go_wp2_with fail
    refine (live_any _ HK.out).mono ?_
    rintro e wl ⟨rfl, hb⟩
    have HL := Lib.hid hb
    clear hb
    go_wp2
    go_ret
    exact ⟨rfl, HL.out⟩
  · by_cases hB : 12 < a0
    · go_enter Tryd.func6, Tryd.ntmps6
      go_wp2_with fail
      refine (live_any _ HK.out).mono ?_
      rintro e wl ⟨rfl, hb⟩
      have HL := Lib.hid hb
      clear hb
      go_wp2
      go_ret
      exact ⟨rfl, HL.out⟩
    · by_cases hC : a1 < 0
      · go_enter Tryd.func6, Tryd.ntmps6
        go_wp2_with fail
        refine (live_any _ HK.out).mono ?_
        rintro e wl ⟨rfl, hb⟩
        have HL := Lib.hid hb
        clear hb
        go_wp2
        go_ret
        exact ⟨rfl, HL.out⟩
      · by_cases hD : 6 < a1
        · go_enter Tryd.func6, Tryd.ntmps6
          go_wp2_with fail
          refine (live_any _ HK.out).mono ?_
          rintro e wl ⟨rfl, hb⟩
          have HL := Lib.hid hb
          clear hb
          go_wp2
          go_ret
          exact ⟨rfl, HL.out⟩
        · obtain ⟨N, rfl⟩ : ∃ N : Nat, a0 = (N : Int) := ⟨a0.toNat, by omega⟩
          obtain ⟨S, rfl⟩ : ∃ S : Nat, a1 = (S : Int) := ⟨a1.toNat, by omega⟩
          obtain ⟨M, hM⟩ : ∃ M : Nat, N = M + 1 := ⟨N - 1, by omega⟩
          have HM := Lib.hid hM
          have HM12 := Lib.hid (show M < 12 by omega)
          have HS7 := Lib.hid (show S < 7 by omega)
          obtain ⟨L, hL⟩ : ∃ L : Nat → ByteArray, ∀ i, L i = ⟨#[120]⟩ := ⟨fun _ => ⟨#[120]⟩, fun _ => rfl⟩
          have HLL := Lib.hid hL
          have HLS : Hid (∀ i, (L i).size ≤ 960) := fun i => by rw [HLL.out]; decide
          obtain ⟨J, hJ⟩ : ∃ J : ByteArray, J = ⟨#[106, 117, 110, 107]⟩ := ⟨_, rfl⟩
          have HJ := Lib.hid hJ
          have HJS : Hid (J.size < 42) := by show _ < _; rw [hJ]; decide
          clear hM hL hJ
          go_enter Tryd.func6, Tryd.ntmps6
          go_wp2_with fail
          refine (one_new w.heap.size fixed_no 9 9 _ (Nat.le_refl _) ⟨[], rfl, fun _ h => by cases h⟩ (by omega) (by omega)).mono ?_
          rintro e v1 ⟨b, rfl, ho, hb⟩
          have H : Hid (One w.heap.size NoP b (ringD L 0) v1) := ho
          have LB := Lib.hid hb
          clear ho hb
          go_wp2_with fail
          go_loopw [6] (fun i wr => ∃ k : Nat, k ≤ N ∧ i = .int .i64 k ∧ Hid (One w.heap.size NoP b (ringD L k) wr) ∧ Hid (Below w.heap.size w wr)) (fun i _ => N - (intOf i).toNat)
          case atStart => exact ⟨0, Nat.zero_le _, rfl, H, LB⟩
          case round =>
            clear H LB
            obtain ⟨k, hk, rfl, H, LB⟩ := hrel
            by_cases hlt : k < N
            · have hkl : (k : Int) < (N : Int) := by omega
              have HR : Hid (mayU ⟨(k : Int), ⟨#[120]⟩⟩ ∧ (wrU (ringD L k) ⟨(k : Int), ⟨#[120]⟩⟩).waits.length = 2) := by
                have := ring_uw L (k + 1) (by omega) (fun i _ => HLS.out i) k (by omega)
                rw [HLL.out] at this
                exact this
              have HW : Hid ((ringD L k).waits = []) := (ring_is L k (by omega) (fun i _ => HLS.out i) k (Nat.le_refl _)).2
              have HLT := Lib.hid hlt
              clear hlt
              go_wp2_with fail
              refine (uwrite_ok fixed_no H.out HP.out (HK.out.below LB.out HP.out) ⟨(k : Int), ⟨#[120]⟩⟩ HR.out.1 (by rw [HW.out]; simp)).mono ?_
              rintro e v2 ⟨rfl, ho, hb⟩
              have H2 := Lib.hid ho
              have L2 := Lib.hid (LB.out.trans hb)
              generalize uwR (ringD L k) ⟨(k : Int), ⟨#[120]⟩⟩ = rr
              clear ho hb H LB
              go_wp2_with fail
              refine (one_flush fixed_no H2.out (by rw [HR.out.2]; omega)).mono ?_
              rintro e v3 ⟨rfl, ho, hb⟩
              have H3 : Hid (One w.heap.size NoP b (ringD L (k + 1)) v3) := by
                show One _ _ _ _ _
                rw [show ringD L (k + 1) = endD (wrU (ringD L k) ⟨(k : Int), ⟨#[120]⟩⟩) (wrU (ringD L k) ⟨(k : Int), ⟨#[120]⟩⟩).waits by rw [ringD, HLL.out]]
                exact ho
              have L3 := Lib.hid (L2.out.trans hb)
              clear ho hb H2 L2
              go_wp2
              go_roundw
              case rel => exact ⟨k + 1, by have := HLT.out; omega, by go_num, H3, L3⟩
              case measure => have := HLT.out; simp [intOf]; omega
            · have hkl : k = N := by omega
              subst hkl
              have hrd : Hid (ringD L k = ringD L (M + 1)) := by show _ = _; rw [HM.out]
              rw [hrd.out] at H
              clear hlt hk hrd
              go_wp2_with fail
              go_loopw [7] (fun i wr => ∃ j : Nat, j ≤ S ∧ j ≤ M + 1 ∧ i = .int .i64 j ∧ Hid (One w.heap.size NoP b (spD (ringD L (M + 1)) M J j) wr) ∧ Hid (Below w.heap.size w wr)) (fun i _ => S - (intOf i).toNat)
              case atStart => exact ⟨0, Nat.zero_le _, Nat.zero_le _, rfl, H, LB⟩
              case round =>
                clear H LB
                obtain ⟨j, hj, hjM, rfl, H, LB⟩ := hrel
                have HW : Hid ((spD (ringD L (M + 1)) M J j).waits = []) := (sp_is L M (by have := HM12.out; omega) (fun i _ => HLS.out i) J (by have := HJS.out; omega) j hjM).2
                have hw1 : IntKind.i64.wrap ((k : Int) - 1) = (M : Int) := by rw [HM.out]; exact (i64_small _ (by omega) (by have := HM12.out; omega)).trans (by omega)
                by_cases hc : j < S ∧ j ≤ M
                · obtain ⟨hjS, hjM2⟩ := hc
                  have h1 : (j : Int) < (S : Int) := by omega
                  obtain ⟨q, hq⟩ : ∃ q, q = M - j := ⟨_, rfl⟩
                  have hw2 : IntKind.i64.wrap ((M : Int) - (j : Int)) = (q : Int) := by exact (i64_small _ (by omega) (by have := HM12.out; omega)).trans (by omega)
                  have HQ : Hid ((q : Int) % 4 = (((M - j) % 4 : Nat) : Int)) := by show _ = _; omega
                  have hq0 : (0 : Int) ≤ (q : Int) := by omega
                  have HJM := Lib.hid hjM2
                  have HJSS := Lib.hid hjS
                  clear hq hjM2 hjM hjS hj
                  go_wp2_with fail
                  refine (one_spoil fixed_no H.out (0, (q : Int) % 4) ⟨#[106, 117, 110, 107]⟩ (by rw [HW.out]; simp)).mono ?_
                  rintro e v2 ⟨rfl, ho, hb⟩
                  rw [← HJ.out, HQ.out] at ho
                  have H2 := Lib.hid ho
                  have L2 := Lib.hid (LB.out.trans hb)
                  generalize chkD _ _ _ = rr
                  clear ho hb H LB
                  have HW2 : Hid ((spoilD (spD (ringD L (M + 1)) M J j) (0, (((M - j) % 4 : Nat) : Int)) J).waits.length ≤ 100000) := by
                    have h := (sp_is L M (by have := HM12.out; omega) (fun i _ => HLS.out i) J (by have := HJS.out; omega) j (by have := HJM.out; omega)).1.spoil ((0, (((M - j) % 4 : Nat) : Int)), J) (.inl rfl) (by show (0 : Int) ≤ (((M - j) % 4 : Nat) : Int); omega) (by show (((M - j) % 4 : Nat) : Int) < 9; omega) (by have := HJS.out; show J.size ≤ 1024; omega)
                    have h2 := h.2
                    rw [HW.out] at h2
                    exact Nat.le_trans h2 (by simp)
                  go_wp2_with fail
                  refine (one_spoil fixed_no H2.out (1, (q : Int) % 4) ⟨#[106, 117, 110, 107]⟩ HW2.out).mono ?_
                  rintro e v3 ⟨rfl, ho, hb⟩
                  rw [← HJ.out, HQ.out] at ho
                  have H3 : Hid (One w.heap.size NoP b (spD (ringD L (M + 1)) M J (j + 1)) v3) := ho
                  have L3 := Lib.hid (L2.out.trans hb)
                  generalize chkD _ _ _ = rr
                  clear ho hb H2 L2 hw1 hw2
                  go_wp2
                  go_roundw
                  case rel => exact ⟨j + 1, by have := HJSS.out; omega, by have := HJM.out; omega, by go_num, H3, L3⟩
                  case measure => have := HJSS.out; simp [intOf]; omega
                · have hjm := Lib.hid (show j = min S (M + 1) by omega)
                  have HSM := Lib.hid (sp_small L M (by have := HM12.out; omega) (fun i _ => HLS.out i) J HJS.out j hjM)
                  by_cases hn : M + 1 ≤ S ∨ 3 < S
                  · by_cases hx : S ≤ j
                    · have h1 : (S : Int) ≤ (j : Int) := by omega
                      clear hx hc
                      have HBE := Lib.hid (newest_none L M HM12.out (fun i _ => HLS.out i) J HJS.out S HS7.out hn)
                      rw [← hjm.out] at HBE
                      go_wp2_with fail
                      refine (best_any fixed_no H.out HP.out (HK.out.below LB.out HP.out) HSM.out).mono ?_
                      rintro e v2 ⟨rfl, ho, hb⟩
                      rw [HBE.out, show ubV ((ub0, false) : UbD × Bool).1 = .agg #[.int .i64 0, .string ⟨#[]⟩] from rfl]
                      have LA := Lib.hid ((LB.out.trans (hb.mono H.out.1)).trans (((Below.refl v2.heap.size v2).alloc (Nat.le_refl _) (.cells #[.int .i64 0, .string ⟨#[]⟩] 31 (0, 0))).mono ho.1))
                      have q0 : ∀ w, (Op.equalIn 10000 31 (.agg #[.int .i64 0, .string ⟨#[]⟩]) (.agg #[.int .i64 0, .string ⟨#[]⟩])).run Tryd.prog w = .ok true w := fun w => by rw [eqUb]; simp
                      obtain ⟨lf, hlf⟩ : ∃ lf : Int, lf = (k : Int) - (S : Int) := ⟨_, rfl⟩
                      have hwl : IntKind.i64.wrap ((k : Int) - (S : Int)) = lf := by have := HS7.out; have := HM.out; have := HM12.out; rw [hlf]; exact IntWalk.i64_in _ ⟨by omega, by omega⟩
                      by_cases hl : lf < 1
                      all_goals
                        have h3S : ¬ lf < 1 → (3 : Int) < (S : Int) := fun h => by have := HM.out; omega
                        clear ho hb H LB hlf hw1
                        first | (have hl2 := h3S hl; clear h3S) | clear h3S
                        go_wp2_with fail
                        refine (live_any _ (HK.out.below LA.out HP.out)).mono ?_
                        rintro e wl ⟨rfl, hb⟩
                        have HL := Lib.hid (LA.out.trans (hb.mono LA.out.size))
                        clear hb LA
                        go_wp2
                        go_ret
                        exact ⟨rfl, HL.out⟩
                    · have h1 : (j : Int) < (S : Int) := by omega
                      have hj : j = M + 1 := by omega
                      have hw2 : IntKind.i64.wrap ((M : Int) - (j : Int)) = -1 := by rw [show (M : Int) - (j : Int) = -1 by omega]; exact IntWalk.i64_in (-1) ⟨by omega, by omega⟩
                      clear hx hc hj
                      have HBE := Lib.hid (newest_none L M HM12.out (fun i _ => HLS.out i) J HJS.out S HS7.out hn)
                      rw [← hjm.out] at HBE
                      go_wp2_with fail
                      refine (best_any fixed_no H.out HP.out (HK.out.below LB.out HP.out) HSM.out).mono ?_
                      rintro e v2 ⟨rfl, ho, hb⟩
                      rw [HBE.out, show ubV ((ub0, false) : UbD × Bool).1 = .agg #[.int .i64 0, .string ⟨#[]⟩] from rfl]
                      have LA := Lib.hid ((LB.out.trans (hb.mono H.out.1)).trans (((Below.refl v2.heap.size v2).alloc (Nat.le_refl _) (.cells #[.int .i64 0, .string ⟨#[]⟩] 31 (0, 0))).mono ho.1))
                      have q0 : ∀ w, (Op.equalIn 10000 31 (.agg #[.int .i64 0, .string ⟨#[]⟩]) (.agg #[.int .i64 0, .string ⟨#[]⟩])).run Tryd.prog w = .ok true w := fun w => by rw [eqUb]; simp
                      obtain ⟨lf, hlf⟩ : ∃ lf : Int, lf = (k : Int) - (S : Int) := ⟨_, rfl⟩
                      have hwl : IntKind.i64.wrap ((k : Int) - (S : Int)) = lf := by have := HS7.out; have := HM.out; have := HM12.out; rw [hlf]; exact IntWalk.i64_in _ ⟨by omega, by omega⟩
                      by_cases hl : lf < 1
                      all_goals
                        have h3S : ¬ lf < 1 → (3 : Int) < (S : Int) := fun h => by have := HM.out; omega
                        clear ho hb H LB hlf hw1 hw2
                        first | (have hl2 := h3S hl; clear h3S) | clear h3S
                        go_wp2_with fail
                        refine (live_any _ (HK.out.below LA.out HP.out)).mono ?_
                        rintro e wl ⟨rfl, hb⟩
                        have HL := Lib.hid (LA.out.trans (hb.mono LA.out.size))
                        clear hb LA
                        go_wp2
                        go_ret
                        exact ⟨rfl, HL.out⟩
                  · have hj0 : True := trivial
                    have hj : j = S := by omega
                    have HBE := Lib.hid (newest_best L M HM12.out (fun i _ => HLS.out i) J HJS.out S (by omega) (by omega))
                    rw [← hj] at HBE
                    obtain ⟨t, ht⟩ : ∃ t, t = M - j := ⟨_, rfl⟩
                    rw [← ht] at HBE
                    have hwl : IntKind.i64.wrap ((k : Int) - (S : Int)) = ((t + 1 : Nat) : Int) := by have := HM.out; have := HM12.out; have := HS7.out; rw [show (k : Int) - (S : Int) = ((t + 1 : Nat) : Int) by omega]; exact i64_small _ (by omega) (by omega)
                    obtain ⟨t1, ht1⟩ : ∃ t1, t1 = t + 1 := ⟨_, rfl⟩
                    rw [← ht1] at hwl
                    have hwt : IntKind.i64.wrap ((t1 : Int) - 1) = (t : Int) := by have := HM12.out; exact (i64_small _ (by omega) (by omega)).trans (by omega)
                    have hl1 : (1 : Int) ≤ (t1 : Int) := by omega
                    have hS3 : (S : Int) ≤ 3 := by omega
                    have h1 : (S : Int) ≤ (j : Int) := by omega
                    clear hj ht ht1 hc hjm hn hjM hj0
                    go_wp2_with fail
                    refine (best_any fixed_no H.out HP.out (HK.out.below LB.out HP.out) HSM.out).mono ?_
                    rintro e v2 ⟨rfl, ho, hb⟩
                    generalize L t = lt at *
                    rw [HBE.out, show ubV ((⟨(t : Int), lt⟩, true) : UbD × Bool).1 = .agg #[.int .i64 (t : Int), .string lt] from rfl]
                    have LA := Lib.hid ((LB.out.trans (hb.mono H.out.1)).trans (((Below.refl v2.heap.size v2).alloc (Nat.le_refl _) (.cells #[.int .i64 (t : Int), .string lt] 31 (0, 0))).mono ho.1))
                    clear ho hb H LB hw1
                    go_wp2_with fail
                    refine (live_any _ (HK.out.below LA.out HP.out)).mono ?_
                    rintro e wl ⟨rfl, hb⟩
                    have HL := Lib.hid (LA.out.trans (hb.mono LA.out.size))
                    clear hb LA
                    go_wp2
                    go_ret
                    exact ⟨rfl, HL.out⟩
end Go.Proofs.YtcdjchpmgekjgabDoor.uberNewest
