/-
  The walk of UberLoss.
-/
import Derived.Test.YtcdjchpmgekjgabDoorUberLive
import Derived.Test.YtcdjchpmgekjgabDoorFrame
import Derived.StillTailTactics
namespace Go.Proofs.YtcdjchpmgekjgabDoor.uberLoss
open Go.RowKit

set_option maxRecDepth 100000 in
set_option maxHeartbeats 1000000 in
theorem walk (w : World) (hK : Kt w) (x0 : Option Addr) (c0 : Nat) (l0 : List ByteArray) (s0 : Sl w Value.string x0 l0) (w0 : ∀ s ∈ l0, s.size ≤ maxLen) (m0 : l0.length ≤ maxLen) (a1 : Int) (w1 : (Lit.int .i64 a1).wf = true) :
    Calls Tryd.prog 4 #[.slice x0 l0.length c0, .int .i64 a1] w fun e w' => e = .returned (.bool true) ∧ Below w.heap.size w w' := by
  have S0 := Lib.hid s0
  have HK := Lib.hid hK
  have HP := Lib.hid hK.pos
  clear hK s0 w0 w1 m0
  generalize a1 = q at *
  by_cases hA : l0.length < 1
  · go_enter Tryd.func4, Tryd.ntmps4
    go_wp2_with fail
    refine (live_any _ HK.out).mono ?_
    rintro e wl ⟨rfl, hb⟩
    have HL := Lib.hid hb
    clear hb
    go_wp2
    go_ret
    exact ⟨rfl, HL.out⟩
  · by_cases hB : 10 < l0.length
    · go_enter Tryd.func4, Tryd.ntmps4
      go_wp2_with fail
      refine (live_any _ HK.out).mono ?_
      rintro e wl ⟨rfl, hb⟩
      have HL := Lib.hid hb
      clear hb
      go_wp2
      go_ret
      exact ⟨rfl, HL.out⟩
    · by_cases hC : q < 0
      · go_enter Tryd.func4, Tryd.ntmps4
        go_wp2_with fail
        refine (live_any _ HK.out).mono ?_
        rintro e wl ⟨rfl, hb⟩
        have HL := Lib.hid hb
        clear hb
        go_wp2
        go_ret
        exact ⟨rfl, HL.out⟩
      · by_cases hD : 1 < q
        · go_enter Tryd.func4, Tryd.ntmps4
          go_wp2_with fail
          refine (live_any _ HK.out).mono ?_
          rintro e wl ⟨rfl, hb⟩
          have HL := Lib.hid hb
          clear hb
          go_wp2
          go_ret
          exact ⟨rfl, HL.out⟩
        · have HQ : Hid (two q) := by show q = 0 ∨ q = 1; omega
          have h10 := Lib.hid (show l0.length ≤ 10 by omega)
          have h01 := Lib.hid (show 1 ≤ l0.length by omega)
          obtain ⟨L, hL⟩ : ∃ L : Nat → ByteArray, ∀ k (h : k < l0.length), l0[k] = L k := ⟨fun i => l0.getD i ⟨#[]⟩, fun k h => by show l0[k] = l0.getD k ⟨#[]⟩; rw [List.getD, List.getElem?_eq_getElem h]; rfl⟩
          have HLL := Lib.hid hL
          clear hL
          go_enter Tryd.func4, Tryd.ntmps4
          go_wp2_with fail
          refine (one_new w.heap.size fixed_no 9 9 _ (Nat.le_refl _) ⟨[], rfl, fun _ h => by cases h⟩ (by omega) (by omega)).mono ?_
          rintro e v1 ⟨b, rfl, ho, hb⟩
          have H : Hid (One w.heap.size NoP b (ringD L 0) v1) := ho
          have LB := Lib.hid hb
          clear ho hb
          go_wp2_with fail
          go_loopw [6] (fun i wr => ∃ k : Nat, k ≤ l0.length ∧ i = .int .i64 k ∧ Hid (One w.heap.size NoP b (ringD L k) wr) ∧ Hid (Below w.heap.size w wr) ∧ Hid (∀ i, i < k → (L i).size ≤ 900)) (fun i _ => l0.length - (intOf i).toNat)
          case atStart => exact ⟨0, Nat.zero_le _, rfl, H, LB, Lib.hid (fun i hi => by omega)⟩
          case round =>
            clear H LB
            obtain ⟨k, hk, rfl, H, LB, HS⟩ := hrel
            have HK10 := Lib.hid hk
            by_cases hlt : k < l0.length
            · obtain ⟨bb, off, rfl, hbb, hcell⟩ := S0.out (by intro e; rw [e] at hlt; simp at hlt)
              have hc0 : wr.cell? ⟨bb, off + k, none⟩ = some (.string (L k)) := by rw [LB.out.cell (p := ⟨bb, off + k, none⟩) hbb]; exact hcell k _ (by rw [List.getElem?_eq_getElem hlt, HLL.out])
              have hkk : (0 : Int) ≤ (k : Int) := by omega
              have hkl : (k : Int) < (l0.length : Int) := by omega
              clear hcell hbb
              by_cases hbig : 900 < (L k).size
              · have hbi : (900 : Int) < ((L k).size : Int) := by omega
                clear hbig hlt
                go_wp2_with fail
                refine (live_any _ (HK.out.below LB.out HP.out)).mono ?_
                rintro e wl ⟨rfl, hb⟩
                have HL := Lib.hid (LB.out.trans (hb.mono LB.out.size))
                clear hb hc0
                go_wp2
                go_ret
                exact ⟨rfl, HL.out⟩
              · have hbi : ((L k).size : Int) ≤ 900 := by omega
                have HS2 : Hid (∀ i, i < k + 1 → (L i).size ≤ 900) := fun i hi => by
                  by_cases e : i = k
                  · rw [e]; omega
                  · exact HS.out i (by omega)
                have HR := Lib.hid (ring_uw L (k + 1) (by omega) (fun i hi => by have := HS2.out i hi; omega) k (by omega))
                have HW : Hid ((ringD L k).waits = []) := (ring_is L k (by omega) (fun i hi => by have := HS.out i hi; omega) k (Nat.le_refl _)).2
                clear hbig hlt
                go_wp2_with fail
                refine (uwrite_ok fixed_no H.out HP.out (HK.out.below LB.out HP.out) ⟨(k : Int), L k⟩ HR.out.1 (by rw [HW.out]; simp)).mono ?_
                rintro e v2 ⟨rfl, ho, hb⟩
                have H2 := Lib.hid ho
                have L2 := Lib.hid (LB.out.trans hb)
                generalize uwR (ringD L k) ⟨(k : Int), L k⟩ = rr
                clear ho hb hc0 H LB
                go_wp2_with fail
                refine (one_flush fixed_no H2.out (by rw [HR.out.2]; omega)).mono ?_
                rintro e v3 ⟨rfl, ho, hb⟩
                have H3 : Hid (One w.heap.size NoP b (ringD L (k + 1)) v3) := ho
                have L3 := Lib.hid (L2.out.trans hb)
                clear ho hb H2 L2
                go_wp2
                go_roundw
                case rel => exact ⟨k + 1, by have := HK10.out; omega, by go_num, H3, L3, HS2⟩
                case measure => simp [intOf]; omega
            · have hkl : k = l0.length := by omega
              subst hkl
              have HW : Hid ((ringD L l0.length).waits = []) := (ring_is L l0.length (by have := h10.out; omega) (fun i hi => by have := HS.out i hi; omega) l0.length (Nat.le_refl _)).2
              have HB := Lib.hid (loss_best L l0.length h01.out (by have := h10.out; omega) (fun i hi => by have := HS.out i hi; omega) q HQ.out)
              clear hlt hk
              go_wp2_with fail
              refine (one_lose fixed_no H.out q (by rw [HW.out]; simp)).mono ?_
              rintro e v2 ⟨rfl, ho, hb⟩
              have H2 := Lib.hid ho
              have L2 := Lib.hid (LB.out.trans hb)
              generalize loseE q = rr
              clear ho hb H LB
              go_wp2_with fail
              refine (best_any fixed_no H2.out HP.out (HK.out.below L2.out HP.out) HB.out.2).mono ?_
              rintro e v3 ⟨rfl, ho, hb⟩
              obtain ⟨m, hm⟩ : ∃ m, l0.length = m + 1 := ⟨l0.length - 1, by have := h01.out; omega⟩
              have hmi : (l0.length : Int) - 1 = (m : Int) := by omega
              rw [HB.out.1, show ubV ((⟨(l0.length : Int) - 1, L (l0.length - 1)⟩, true) : UbD × Bool).1 = .agg #[.int .i64 (m : Int), .string (L m)] by rw [hmi, hm]; rfl]
              obtain ⟨bb, off, rfl, hbb, hcell⟩ := S0.out (by intro e; rw [e] at hm; simp at hm)
              have hml : m < l0.length := by omega
              have hc0 : v3.cell? ⟨bb, off + m, none⟩ = some (.string (L m)) := by
                rw [(L2.out.trans (hb.mono H2.out.1)).cell (p := ⟨bb, off + m, none⟩) hbb]; exact hcell m _ (by rw [List.getElem?_eq_getElem hml, HLL.out])
              have hw1 : IntKind.i64.wrap ((l0.length : Int) - 1) = (m : Int) := by rw [hmi]; exact i64_small _ (by omega) (by have := h10.out; omega)
              have hkk : (0 : Int) ≤ (m : Int) := by omega
              have hkl : (m : Int) < (l0.length : Int) := by omega
              have ha := (Below.refl v3.heap.size v3).alloc (Nat.le_refl _) (.cells #[.int .i64 (m : Int), .string (L m)] 31 (0, 0))
              have LA := Lib.hid ((L2.out.trans (hb.mono H2.out.1)).trans (ha.mono ho.1))
              have BX := Lib.hid (Box.new v3 31 #[.int .i64 (m : Int), .string (L m)])
              have q7 : ∀ w, (Op.equalIn 10000 31 (.agg #[.int .i64 (m : Int), .string (L m)]) (.agg #[.int .i64 (m : Int), .string (L m)])).run Tryd.prog w = .ok true w := fun w => by rw [eqUb]; simp
              have HC := Lib.hid hcell
              have HBB := Lib.hid hbb
              have HML := Lib.hid hml
              clear ha ho hb hcell hbb hm hmi hml hc0
              go_wp2_with fail
              generalize World.alloc _ _ = v4 at *
              generalize v3.heap.size = g at *
              have c0 : v4.cell? ⟨g, 0, none⟩ = some (.int .i64 (m : Int)) := BX.out.cell 0 _ rfl
              have c1 : v4.cell? ⟨g, 1, none⟩ = some (.string (L m)) := BX.out.cell 1 _ rfl
              have c2 : v4.cell? ⟨bb, off + m, none⟩ = some (.string (L m)) := by
                rw [LA.out.cell (p := ⟨bb, off + m, none⟩) HBB.out]; exact HC.out m _ (by rw [List.getElem?_eq_getElem HML.out, HLL.out])
              go_still_tail 16, (by kernel_rfl)
              go_wp2_with fail
              refine (live_any _ (HK.out.below (by exact LA.out.drew) HP.out)).mono ?_
              rintro e wl ⟨rfl, hb⟩
              have HL := Lib.hid (LA.out.trans (undrew' (hb.mono LA.out.size)))
              clear hb c0 c1 c2 q7 LA
              go_wp2
              go_ret
              exact ⟨rfl, HL.out⟩
end Go.Proofs.YtcdjchpmgekjgabDoor.uberLoss
