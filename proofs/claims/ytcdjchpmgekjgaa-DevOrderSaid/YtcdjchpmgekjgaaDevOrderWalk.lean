/-
  The walk of DevOrder.
-/
import Derived.Test.YtcdjchpmgekjgaaDevLive
import Derived.Test.YtcdjchpmgekjgaaDevMath
import Derived.Test.YtcdjchpmgekjgaaOpenDev
import Derived.Test.YtcdjchpmgekjgaaFrame
namespace Go.Proofs.Ytcdjchpmgekjgaa.devOrder
open Go.RowKit

set_option maxRecDepth 100000 in
set_option maxHeartbeats 4000000 in
theorem walk (w : World) (x0 : Option Addr) (c0 : Nat) (l0 : List ByteArray) (s0 : Sl w Value.string x0 l0) (w0 : ∀ s ∈ l0, s.size ≤ maxLen) (m0 : l0.length ≤ maxLen) (x1 : Option Addr) (c1 : Nat) (l1 : List Bool) (s1 : Sl w Value.bool x1 l1) (w1 : True) (m1 : l1.length ≤ maxLen) :
    Calls Try.prog 8 #[.slice x0 l0.length c0, .slice x1 l1.length c1] w fun e w' => e = .returned (.bool true) ∧ Below w.heap.size w w' := by
  have S0 := Lib.hid s0
  have S1 := Lib.hid s1
  clear s0 s1 w0 w1 m0 m1
  by_cases hA : 20 < l0.length
  · go_enter Try.func8, Try.ntmps8
    go_wp2_with fail
    refine (live_any _).mono ?_
    rintro e wl ⟨rfl, hb⟩
    have HL := Lib.hid hb
    clear hb
    go_wp2
    go_ret
    exact ⟨rfl, HL.out⟩
  · by_cases hB : 100 < l1.length
    · go_enter Try.func8, Try.ntmps8
      go_wp2_with fail
      refine (live_any _).mono ?_
      rintro e wl ⟨rfl, hb⟩
      have HL := Lib.hid hb
      clear hb
      go_wp2
      go_ret
      exact ⟨rfl, HL.out⟩
    · go_enter Try.func8, Try.ntmps8
      go_wp2_with fail
      refine (one_new w.heap.size fixed_no 5 5 _ (Nat.le_refl _) ⟨[], rfl, fun _ h => by cases h⟩ (by omega) (by omega)).mono ?_
      rintro e v1 ⟨b, rfl, ho, hb⟩
      have H : Hid (One w.heap.size NoP b (ordD l0 0) v1) := ho
      have L := Lib.hid hb
      clear ho hb
      go_wp2_with fail
      go_loopw [6, 7] (fun t i wr => ∃ k : Nat, k ≤ l0.length ∧ i = .int .i64 k ∧ t = .string (wantL l0 l1 k) ∧ Hid (One w.heap.size NoP b (ordD l0 k) wr) ∧ Hid (Below w.heap.size w wr) ∧ Hid (∀ s ∈ l0.take k, s.size ≤ 1024)) (fun _ i _ => l0.length - (intOf i).toNat)
      case atStart => exact ⟨0, Nat.zero_le _, rfl, rfl, H, L, Lib.hid (fun s hs => by simp at hs)⟩
      case round =>
        clear H L
        obtain ⟨k, hk, rfl, rfl, H, L, HS⟩ := hrel
        have hdl : Hid ((ordD l0 k).waits.length ≤ 100000) := by
          show _ ≤ _
          rw [(ordD_is l0 k hk HS.out).2.2.2.2, List.length_map, List.length_take]
          omega
        by_cases hlt : k < l0.length
        · obtain ⟨bb, off, rfl, hbb, hcell⟩ := S0.out (by intro e; rw [e] at hlt; simp at hlt)
          have hc0 : wr.cell? ⟨bb, off + k, none⟩ = some (.string l0[k]) := by rw [L.out.cell (p := ⟨bb, off + k, none⟩) hbb]; exact hcell k _ (List.getElem?_eq_getElem hlt)
          have hkk : (0 : Int) ≤ (k : Int) := by omega
          have hkl : (k : Int) < (l0.length : Int) := by omega
          have HT := Lib.hid (List.take_succ_eq_append_getElem hlt)
          have HO := Lib.hid (ordD_succ l0 k hlt)
          have HW : Hid (wantL l0 l1 (k + 1) = if l1.getD k false = true then l0[k] else wantL l0 l1 k) := by
            show _ = _
            rw [wantL, List.getD, List.getD, List.getElem?_eq_getElem hlt]
            rfl
          have HB := Lib.hid hbb
          have HLT := Lib.hid hlt
          generalize hx : l0[k] = x at *
          have HX := Lib.hid hx
          clear hx hcell hbb
          by_cases hbig : 1024 < x.size
          · have hbi : (1024 : Int) < (x.size : Int) := by omega
            clear hbig hlt
            go_wp2_with fail
            refine (live_any _).mono ?_
            rintro e wl ⟨rfl, hb⟩
            have HL := Lib.hid (L.out.trans (hb.mono L.out.size))
            clear hb hc0
            go_wp2
            go_ret
            exact ⟨rfl, HL.out⟩
          · have hbi : (x.size : Int) ≤ 1024 := by omega
            have HBG := Lib.hid hbig
            clear hbig hlt
            go_wp2_with fail
            refine (one_write fixed_no H.out (0, 2) x hdl.out).mono ?_
            rintro e v2 ⟨rfl, ho, hb⟩
            rw [← HO.out] at ho
            have H2 := Lib.hid ho
            have L2 := Lib.hid (L.out.trans hb)
            have hc2 : v2.cell? ⟨bb, off + k, none⟩ = some (.string x) := by rw [hb.cell (p := ⟨bb, off + k, none⟩) HB.out]; exact hc0
            have HS2 : Hid (∀ s ∈ l0.take (k + 1), s.size ≤ 1024) := by
              show ∀ s ∈ _, _
              rw [HT.out]
              intro s hs
              rcases List.mem_append.1 hs with h1 | h1
              · exact HS.out s h1
              · rw [List.mem_singleton] at h1; rw [h1]; have := HBG.out; omega
            have hlt := HLT.out
            clear ho hb hc0 H
            by_cases hin : k < l1.length
            · obtain ⟨kb, ko, rfl, hkb, hcl⟩ := S1.out (by intro e; rw [e] at hin; simp at hin)
              have hc1 : v2.cell? ⟨kb, ko + k, none⟩ = some (.bool l1[k]) := by rw [L2.out.cell (p := ⟨kb, ko + k, none⟩) hkb]; exact hcl k _ (List.getElem?_eq_getElem hin)
              have hin2 : (k : Int) < (l1.length : Int) := by omega
              have hgd : l1.getD k false = l1[k] := by rw [List.getD, List.getElem?_eq_getElem hin]; rfl
              rw [hgd] at HW
              generalize l1[k] = kp at *
              clear hcl hgd hkb
              cases kp
              · have HW2 : Hid (wantL l0 l1 (k + 1) = wantL l0 l1 k) := by have := HW.out; rw [if_neg (by decide)] at this; exact this
                clear HW
                go_wp2
                go_roundw
                case rel => exact ⟨k + 1, by omega, by go_num, by rw [HW2.out], H2, L2, HS2⟩
                case measure => simp [intOf]; omega
              · have HW2 : Hid (wantL l0 l1 (k + 1) = x) := by have := HW.out; rw [if_pos rfl] at this; exact this
                clear HW
                go_wp2
                go_roundw
                case rel => exact ⟨k + 1, by omega, by go_num, by rw [HW2.out], H2, L2, HS2⟩
                case measure => simp [intOf]; omega
            · have hin2 : (l1.length : Int) ≤ (k : Int) := by omega
              have hgd : l1.getD k false = false := by rw [List.getD, List.getElem?_eq_none (by omega)]; rfl
              have HW2 : Hid (wantL l0 l1 (k + 1) = wantL l0 l1 k) := by have := HW.out; rw [hgd, if_neg (by decide)] at this; exact this
              clear HW hgd hin
              go_wp2
              go_roundw
              case rel => exact ⟨k + 1, by omega, by go_num, by rw [HW2.out], H2, L2, HS2⟩
              case measure => simp [intOf]; omega
        · have hkl : k = l0.length := by omega
          subst hkl
          rw [List.take_of_length_le (Nat.le_refl _)] at HS
          have HT := Lib.hid (ord_tell l0 l1 HS.out)
          have hs1 : Hid (Sl wr Value.bool x1 l1) := S1.out.keep L.out
          have hl1 : l1.length ≤ 100000 := by omega
          go_wp2_with fail
          refine (one_crash fixed_no H.out x1 c1 l1 hs1.out hdl.out hl1).mono ?_
          rintro e v2 ⟨rfl, ho, hb⟩
          have H2 := Lib.hid ho
          have L2 := Lib.hid (L.out.trans hb)
          clear ho hb H L
          go_wp2_with fail
          refine (one_read fixed_no H2.out (0, 2)).mono ?_
          rintro e v3 ⟨rfl, ho, hb⟩
          rw [HT.out.1, HT.out.2]
          have L3 := Lib.hid (L2.out.trans hb)
          clear ho hb H2 L2
          generalize wantL l0 l1 l0.length = ans
          go_wp2_with fail
          refine (live_any _).mono ?_
          rintro e wl ⟨rfl, hb⟩
          have HL := Lib.hid (L3.out.trans (hb.mono L3.out.size))
          clear hb
          go_wp2
          go_ret
          exact ⟨rfl, HL.out⟩
end Go.Proofs.Ytcdjchpmgekjgaa.devOrder
