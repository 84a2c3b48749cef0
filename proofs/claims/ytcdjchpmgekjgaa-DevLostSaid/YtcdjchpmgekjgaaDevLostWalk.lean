/-
  The walk of DevLost.
-/
import Derived.Test.YtcdjchpmgekjgaaDevLive
import Derived.Test.YtcdjchpmgekjgaaDevMath2
import Derived.Deep.DeepMust
import Derived.Test.YtcdjchpmgekjgaaFrame
import Derived.Test.YtcdjchpmgekjgaaOpenDev
namespace Go.Proofs.Ytcdjchpmgekjgaa.devLost
open Go.RowKit

set_option maxRecDepth 100000 in
set_option maxHeartbeats 4000000 in
theorem walk (w : World) (x0 : Option Addr) (c0 : Nat) (l0 : List OpD) (s0 : SlE w 5 (OpE w) x0 l0) (m0 : l0.length ≤ maxLen) (a1 : Int) (w1 : (Lit.int .i64 a1).wf = true) :
    Calls Try.prog 5 #[.slice x0 l0.length c0, .int .i64 a1] w fun e w' => e = .returned (.bool true) ∧ Below w.heap.size w w' := by
  have S0 := Lib.hid s0
  clear s0 w1 m0
  generalize a1 = q at *
  by_cases hA : 30 < l0.length
  · go_enter Try.func5, Try.ntmps5
    go_wp2_with fail
    refine (live_any _).mono ?_
    rintro e wl ⟨rfl, hb⟩
    have HL := Lib.hid hb
    clear hb
    go_wp2
    go_ret
    exact ⟨rfl, HL.out⟩
  · by_cases hB : q < 0
    · go_enter Try.func5, Try.ntmps5
      go_wp2_with fail
      refine (live_any _).mono ?_
      rintro e wl ⟨rfl, hb⟩
      have HL := Lib.hid hb
      clear hb
      go_wp2
      go_ret
      exact ⟨rfl, HL.out⟩
    · by_cases hC : 1 < q
      · go_enter Try.func5, Try.ntmps5
        go_wp2_with fail
        refine (live_any _).mono ?_
        rintro e wl ⟨rfl, hb⟩
        have HL := Lib.hid hb
        clear hb
        go_wp2
        go_ret
        exact ⟨rfl, HL.out⟩
      · have hq : q = 0 ∨ q = 1 := by omega
        have HQ := Lib.hid hq
        have hq0 : 0 ≤ q := by omega
        have hq1 : q ≤ 1 := by omega
        clear hB hC hq
        go_enter Try.func5, Try.ntmps5
        go_wp2_with fail
        refine (one_new w.heap.size fixed_no 20 20 _ (Nat.le_refl _) ⟨[], rfl, fun _ h => by cases h⟩ (by omega) (by omega)).mono ?_
        rintro e v1 ⟨b, rfl, ho, hb⟩
        have H : Hid (One w.heap.size NoP b (devW (newD 20 20) l0 0) v1) := ho
        have L := Lib.hid hb
        clear ho hb
        go_wp2_with fail
        go_loopw [6] (fun i wr => ∃ k : Nat, k ≤ l0.length ∧ i = .int .i64 k ∧ Hid (One w.heap.size NoP b (devW (newD 20 20) l0 k) wr) ∧ Hid (Below w.heap.size w wr)) (fun i _ => l0.length - (intOf i).toNat)
        case atStart => exact ⟨0, Nat.zero_le _, rfl, H, L⟩
        case round =>
          clear H L
          obtain ⟨k, hk, rfl, H, L⟩ := hrel
          have hdl : Hid ((devW (newD 20 20) l0 k).waits.length ≤ 100000) := by
            show _ ≤ _
            have := (devW_is (newD 20 20) l0 k hk).2.2.1
            have e0 : (newD 20 20).waits.length = 0 := rfl
            omega
          by_cases hlt : k < l0.length
          · obtain ⟨bb, off, rfl, hbb, hcell, _⟩ := S0.out.op k hlt
            have q1 : wr.cell? ⟨bb, off + k * 5 + 1, none⟩ = some (.int .i64 l0[k].l.1) := by rw [L.out.cell (p := ⟨bb, off + k * 5 + 1, none⟩) hbb]; exact hcell 1 _ rfl
            have q2 : wr.cell? ⟨bb, off + k * 5 + 1 + 1, none⟩ = some (.int .i64 l0[k].l.2) := by rw [L.out.cell (p := ⟨bb, off + k * 5 + 1 + 1, none⟩) hbb]; exact hcell 2 _ rfl
            have q3 : wr.cell? ⟨bb, off + k * 5 + 3, none⟩ = some (.string l0[k].s) := by rw [L.out.cell (p := ⟨bb, off + k * 5 + 3, none⟩) hbb]; exact hcell 3 _ rfl
            have hkk : (0 : Int) ≤ (k : Int) := by omega
            have hkl : (k : Int) < (l0.length : Int) := by omega
            have HO := Lib.hid (devW_succ (newD 20 20) l0 k hlt)
            generalize l0[k] = x at *
            obtain ⟨x0, ⟨y1, y2⟩, xs, _, _, _⟩ := x
            simp only at q1 q2 q3 HO
            clear hcell hbb
            go_wp2_with fail
            go_region_with ((go_at_call 20; go_must (refine (one_write fixed_no (H.out.drew fixed_no) (y1, y2) xs hdl.out).mono ?_; rintro e w2 ⟨rfl, ho, hb⟩; have H2 := Lib.hid ho; have L2 := Lib.hid (L.out.trans (undrew (hb.mono (Nat.le_refl _)))); clear ho hb)))
            all_goals
              rw [← HO.out] at H2
              clear q1 q2 q3 H hlt
              go_wp2
              go_roundw
              case rel => exact ⟨k + 1, by omega, by go_num, H2, L2⟩
              case measure => simp [intOf]; omega
          · have hkl : k = l0.length := by omega
            subst hkl
            clear hlt hk
            go_wp2_with fail
            refine (one_copy fixed_no H.out hdl.out).mono ?_
            rintro e v2 ⟨b2, rfl, ho, hb⟩
            have H2 := Lib.hid ho.swap
            have L2 := Lib.hid (L.out.trans hb)
            clear ho hb H L
            go_wp2_with fail
            refine (one_lose (fixed_both fixed_no (fixed_dev _ _)) H2.out q hdl.out).mono ?_
            rintro e v3 ⟨rfl, ho, hb⟩
            have H3 := Lib.hid ho
            have L3 := Lib.hid (L2.out.trans hb)
            have hll : Hid ((loseD (devW (newD 20 20) l0 l0.length) q).waits.length ≤ 10000) := by
              have := (loseD_is (devW (newD 20 20) l0 l0.length) q HQ.out).2.2.2.1
              have := (devW_is (newD 20 20) l0 l0.length (Nat.le_refl _)).2.2.1
              have e0 : (newD 20 20).waits.length = 0 := rfl
              show _ ≤ _
              omega
            clear ho hb H2 L2
            go_wp2_with fail
            go_loopw [8] (fun i wr => ∃ k : Nat, k ≤ 20 ∧ i = .int .i64 k ∧ Hid (One w.heap.size (Both NoP (DevF b2 (devW (newD 20 20) l0 l0.length))) b (loseD (devW (newD 20 20) l0 l0.length) q) wr) ∧ Hid (Below w.heap.size w wr)) (fun i _ => 20 - (intOf i).toNat)
            case atStart => exact ⟨0, Nat.zero_le _, rfl, H3, L3⟩
            case round =>
              clear H3 L3
              obtain ⟨k, hk, rfl, H, L⟩ := hrel
              by_cases hlt : k < 20
              · have HT := Lib.hid (lost_tells l0 q HQ.out k hlt)
                have hkk : (k : Int) < 20 := by omega
                go_wp2_with fail
                refine (one_read (fixed_both fixed_no (fixed_dev _ _)) H.out (q, (k : Int))).mono ?_
                rintro e v4 ⟨rfl, ho, hb⟩
                rw [HT.out.1, HT.out.2.1]
                have H4 := Lib.hid ho
                have L4 := Lib.hid (L.out.trans hb)
                clear ho hb H L
                go_wp2_with fail
                refine (one_read (fixed_both fixed_no (fixed_dev _ _)) H4.out (1 - q, (k : Int))).mono ?_
                rintro e v5 ⟨rfl, ho, hb⟩
                rw [HT.out.2.2.1, HT.out.2.2.2]
                have H5 := Lib.hid ho.swap
                have L5 := Lib.hid (L4.out.trans hb)
                clear ho hb H4 L4
                go_wp2_with fail
                refine (one_read (fixed_both fixed_no (fixed_dev _ _)) H5.out (1 - q, (k : Int))).mono ?_
                rintro e v6 ⟨rfl, ho, hb⟩
                have H6 := Lib.hid ho.swap
                have L6 := Lib.hid (L5.out.trans hb)
                generalize tellD (devW (newD 20 20) l0 l0.length) (1 - q, (k : Int)) = ans at *
                generalize chkD (devW (newD 20 20) l0 l0.length) (1 - q, (k : Int)) 0 = ee at *
                clear ho hb H5 L5 HT
                go_wp2
                go_roundw
                case rel => exact ⟨k + 1, by omega, by go_num, H6, L6⟩
                case measure => simp [intOf]; omega
              · have hk20 : k = 20 := by omega
                subst hk20
                have HE := Lib.hid (lost_end l0 q HQ.out)
                have hll2 : Hid ((writeD (loseD (devW (newD 20 20) l0 l0.length) q) (q, 0) ⟨#[]⟩).waits.length ≤ 100000) := by
                  have := writeD_len (loseD (devW (newD 20 20) l0 l0.length) q) (q, 0) ⟨#[]⟩
                  have := hll.out
                  show _ ≤ _
                  omega
                clear hlt hk
                go_wp2_with fail
                refine (one_write (fixed_both fixed_no (fixed_dev _ _)) H.out (q, 0) ⟨#[]⟩ (Nat.le_trans hll.out (by omega))).mono ?_
                rintro e v4 ⟨rfl, ho, hb⟩
                rw [show chkD (loseD (devW (newD 20 20) l0 l0.length) q) (q, 0) (⟨#[]⟩ : ByteArray).size = 5 from HE.out.1]
                have H4 := Lib.hid ho
                have L4 := Lib.hid (L.out.trans hb)
                clear ho hb H L
                go_wp2_with fail
                refine (one_spoil (fixed_both fixed_no (fixed_dev _ _)) H4.out (q, 0) ⟨#[]⟩ hll2.out).mono ?_
                rintro e v5 ⟨rfl, ho, hb⟩
                rw [show chkD (writeD (loseD (devW (newD 20 20) l0 l0.length) q) (q, 0) ⟨#[]⟩) (q, 0) (⟨#[]⟩ : ByteArray).size = 5 from HE.out.2]
                have L5 := Lib.hid (L4.out.trans hb)
                clear ho hb H4 L4
                go_wp2_with fail
                refine (live_any _).mono ?_
                rintro e wl ⟨rfl, hb⟩
                have HL := Lib.hid (L5.out.trans (hb.mono L5.out.size))
                clear hb
                go_wp2
                go_ret
                exact ⟨rfl, HL.out⟩
end Go.Proofs.Ytcdjchpmgekjgaa.devLost
