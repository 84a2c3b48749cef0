/-
  The walk of SpaceFirst.
-/
import Derived.Test.YtpfcbeadoeijjaaSpaceLive
import Derived.Test.YtpfcbeadoeijjaaFrame
import Derived.Test.YtpfcbeadoeijjaaOpenSpace
import Derived.Test.YtpfcbeadoeijjaaSpaceMath
namespace Go.Proofs.Ytpfcbeadoeijjaa.spaceFirst
open Go.RowKit

set_option maxRecDepth 100000 in
set_option maxHeartbeats 2000000 in
theorem walk (w : World) (x0 : Option Addr) (c0 : Nat) (l0 : List (Int × Int)) (s0 : SlP w x0 l0) (m0 : l0.length ≤ maxLen) (f0 : WfP l0) (a1 : Int) (_w1 : (Lit.int .i64 a1).wf = true) :
    Calls Try.prog 6 #[.slice x0 l0.length c0, .int .i64 a1] w fun e w' => e = .returned (.bool true) ∧ Below w.heap.size w w' := by
  have S0 := Lib.hid s0
  have HW := Lib.hid f0
  unfold maxLen at m0
  clear s0 f0
  clear _w1
  generalize a1 = n at *
  by_cases hA : 100 < l0.length
  · go_enter Try.func6, Try.ntmps6
    go_wp2_with fail
    refine (live_any _).mono ?_
    rintro e wl ⟨rfl, hb⟩
    have HLL := Lib.hid ((Below.refl w.heap.size w).trans (hb.mono (Below.refl w.heap.size w).size))
    clear hb
    go_wp2
    go_ret
    exact ⟨rfl, HLL.out⟩
  · have S00 := Lib.hid S0.out
    cases htk : (takeL l0 n).2.2
    · have HQ : Hid (takeL l0 n = (0, [], false)) := by
        show _ = _
        unfold takeL at htk ⊢
        split
        · next hc =>
          rw [if_pos hc] at htk
          cases hf : l0.findIdx? (longB n) with
          | none => rfl
          | some i => rw [hf] at htk; cases htk
        · rfl
      have HNO : Hid (mayL l0 = true → 1 ≤ n → ∀ x ∈ l0, x.2 < n) := by
        intro h1 h2 x hx
        unfold takeL at htk
        rw [if_pos ⟨h1, h2⟩] at htk
        cases hf : l0.findIdx? (longB n) with
        | none =>
          rw [List.findIdx?_eq_none_iff] at hf
          have := hf x hx
          unfold longB at this
          simpa using this
        | some i => rw [hf] at htk; cases htk
      clear htk
      cases hm : mayL l0
      · have HM := Lib.hid hm
        clear hm
        go_enter Try.func6, Try.ntmps6
        go_wp2_with fail
        refine (own_any x0 c0 l0 _ S0.out (by omega)).mono ?_
        rintro e v1 ⟨lv, rfl, hp, hb⟩
        have P1 := Lib.hid hp
        have L1 := Lib.hid hb
        have S1 := Lib.hid (S0.out.keep hb)
        clear hp hb S0
        go_wp2_with fail
        refine (take_any _ l0 n _ _ P1.out (by omega) HW.out).mono ?_
        rintro e v2 ⟨tv, rfl, hp, hb⟩
        have L2 := Lib.hid (L1.out.trans (hb.mono L1.out.size))
        have S1 := Lib.hid (S1.out.keep hb)
        have P2 := Lib.hid hp
        clear hp hb L1 P1
        have h2 := P2.out
        rw [HQ.out] at h2 ⊢
        obtain ⟨ga, gc, e2, _⟩ := h2.slP'
        subst e2
        clear P2 h2
        simp only [List.length_nil]
        go_wp2
        go_loopw [8] (fun i wr => ∃ k : Nat, k ≤ l0.length ∧ i = .int .i64 k ∧ Hid (Below w.heap.size w wr)) (fun i _ => l0.length - (intOf i).toNat)
        case atStart => exact ⟨0, Nat.zero_le _, rfl, L2⟩
        case round =>
          obtain ⟨k, hk, rfl, HL⟩ := hrel
          by_cases hlt : k < l0.length
          · go_wp2_with fail
            refine (rmay_any x0 c0 l0 _ (S00.out.keep HL.out) (by omega) HW.out).mono ?_
            rintro e w1 ⟨rfl, hb⟩
            rw [HM.out]
            have HL := Lib.hid (HL.out.trans (hb.mono HL.out.size))
            clear hb
            go_wp2_with fail
            refine (live_any _).mono ?_
            rintro e wl ⟨rfl, hb⟩
            have HLL := Lib.hid (HL.out.trans (hb.mono HL.out.size))
            clear hb
            go_wp2
            go_ret
            exact ⟨rfl, HLL.out⟩
          · have hd1 : decide ((k : Int) < (l0.length : Int)) = false := by simp; omega
            have hd2 : decide (k < l0.length) = false := by simp; omega
            go_wp2_with fail
            refine (live_any _).mono ?_
            rintro e wl ⟨rfl, hb⟩
            have HLL := Lib.hid (HL.out.trans (hb.mono HL.out.size))
            clear hb
            go_wp2
            go_ret
            exact ⟨rfl, HLL.out⟩
      · have HM := Lib.hid hm
        clear hm
        by_cases hn1 : 1 ≤ n
        · by_cases hn2 : n ≤ 1073741824
          · have HALL := Lib.hid (HNO.out HM.out hn1)
            go_enter Try.func6, Try.ntmps6
            go_wp2_with fail
            refine (own_any x0 c0 l0 _ S0.out (by omega)).mono ?_
            rintro e v1 ⟨lv, rfl, hp, hb⟩
            have P1 := Lib.hid hp
            have L1 := Lib.hid hb
            have S1 := Lib.hid (S0.out.keep hb)
            clear hp hb S0
            go_wp2_with fail
            refine (take_any _ l0 n _ _ P1.out (by omega) HW.out).mono ?_
            rintro e v2 ⟨tv, rfl, hp, hb⟩
            have L2 := Lib.hid (L1.out.trans (hb.mono L1.out.size))
            have S1 := Lib.hid (S1.out.keep hb)
            have P2 := Lib.hid hp
            clear hp hb L1 P1
            have h2 := P2.out
            rw [HQ.out] at h2 ⊢
            obtain ⟨ga, gc, e2, _⟩ := h2.slP'
            subst e2
            clear P2 h2
            simp only [List.length_nil]
            go_wp2
            go_loopw [8] (fun i wr => ∃ k : Nat, k ≤ l0.length ∧ i = .int .i64 k ∧ Hid (Below w.heap.size w wr)) (fun i _ => l0.length - (intOf i).toNat)
            case atStart => exact ⟨0, Nat.zero_le _, rfl, L2⟩
            case round =>
              obtain ⟨k, hk, rfl, HL⟩ := hrel
              by_cases hlt : k < l0.length
              · have HXL := Lib.hid (HALL.out _ (List.getElem_mem hlt))
                go_wp2_with fail
                refine (rmay_any x0 c0 l0 _ (S00.out.keep HL.out) (by omega) HW.out).mono ?_
                rintro e w1 ⟨rfl, hb⟩
                rw [HM.out]
                have HL := Lib.hid (HL.out.trans (hb.mono HL.out.size))
                clear hb
                obtain ⟨b, off, rfl, hbb, hc0, hc1⟩ := (S00.out.keep HL.out).get k hlt
                generalize l0[k] = x at *
                obtain ⟨xa, xn⟩ := x
                have hxl : xn < n := HXL.out
                have hdx : decide (n ≤ xn) = false := decide_eq_false (by omega)
                simp only at hc0 hc1
                clear hbb
                go_wp2
                go_roundw
                case rel => exact ⟨k + 1, by omega, by go_num, HL⟩
                case measure => simp [intOf]; omega
              · have hd1 : decide ((k : Int) < (l0.length : Int)) = false := by simp; omega
                have hd2 : decide (k < l0.length) = false := by simp; omega
                go_wp2_with fail
                refine (live_any _).mono ?_
                rintro e wl ⟨rfl, hb⟩
                have HLL := Lib.hid (HL.out.trans (hb.mono HL.out.size))
                clear hb
                go_wp2
                go_ret
                exact ⟨rfl, HLL.out⟩
          · have hdn : decide (n ≤ 1073741824) = false := decide_eq_false hn2
            go_enter Try.func6, Try.ntmps6
            go_wp2_with fail
            refine (own_any x0 c0 l0 _ S0.out (by omega)).mono ?_
            rintro e v1 ⟨lv, rfl, hp, hb⟩
            have P1 := Lib.hid hp
            have L1 := Lib.hid hb
            have S1 := Lib.hid (S0.out.keep hb)
            clear hp hb S0
            go_wp2_with fail
            refine (take_any _ l0 n _ _ P1.out (by omega) HW.out).mono ?_
            rintro e v2 ⟨tv, rfl, hp, hb⟩
            have L2 := Lib.hid (L1.out.trans (hb.mono L1.out.size))
            have S1 := Lib.hid (S1.out.keep hb)
            have P2 := Lib.hid hp
            clear hp hb L1 P1
            have h2 := P2.out
            rw [HQ.out] at h2 ⊢
            obtain ⟨ga, gc, e2, _⟩ := h2.slP'
            subst e2
            clear P2 h2
            simp only [List.length_nil]
            go_wp2
            go_loopw [8] (fun i wr => ∃ k : Nat, k ≤ l0.length ∧ i = .int .i64 k ∧ Hid (Below w.heap.size w wr)) (fun i _ => l0.length - (intOf i).toNat)
            case atStart => exact ⟨0, Nat.zero_le _, rfl, L2⟩
            case round =>
              obtain ⟨k, hk, rfl, HL⟩ := hrel
              by_cases hlt : k < l0.length
              · go_wp2_with fail
                refine (rmay_any x0 c0 l0 _ (S00.out.keep HL.out) (by omega) HW.out).mono ?_
                rintro e w1 ⟨rfl, hb⟩
                rw [HM.out]
                have HL := Lib.hid (HL.out.trans (hb.mono HL.out.size))
                clear hb
                go_wp2_with fail
                refine (live_any _).mono ?_
                rintro e wl ⟨rfl, hb⟩
                have HLL := Lib.hid (HL.out.trans (hb.mono HL.out.size))
                clear hb
                go_wp2
                go_ret
                exact ⟨rfl, HLL.out⟩
              · have hd1 : decide ((k : Int) < (l0.length : Int)) = false := by simp; omega
                have hd2 : decide (k < l0.length) = false := by simp; omega
                go_wp2_with fail
                refine (live_any _).mono ?_
                rintro e wl ⟨rfl, hb⟩
                have HLL := Lib.hid (HL.out.trans (hb.mono HL.out.size))
                clear hb
                go_wp2
                go_ret
                exact ⟨rfl, HLL.out⟩
        · have hdn : decide (1 ≤ n) = false := decide_eq_false hn1
          go_enter Try.func6, Try.ntmps6
          go_wp2_with fail
          refine (own_any x0 c0 l0 _ S0.out (by omega)).mono ?_
          rintro e v1 ⟨lv, rfl, hp, hb⟩
          have P1 := Lib.hid hp
          have L1 := Lib.hid hb
          have S1 := Lib.hid (S0.out.keep hb)
          clear hp hb S0
          go_wp2_with fail
          refine (take_any _ l0 n _ _ P1.out (by omega) HW.out).mono ?_
          rintro e v2 ⟨tv, rfl, hp, hb⟩
          have L2 := Lib.hid (L1.out.trans (hb.mono L1.out.size))
          have S1 := Lib.hid (S1.out.keep hb)
          have P2 := Lib.hid hp
          clear hp hb L1 P1
          have h2 := P2.out
          rw [HQ.out] at h2 ⊢
          obtain ⟨ga, gc, e2, _⟩ := h2.slP'
          subst e2
          clear P2 h2
          simp only [List.length_nil]
          go_wp2
          go_loopw [8] (fun i wr => ∃ k : Nat, k ≤ l0.length ∧ i = .int .i64 k ∧ Hid (Below w.heap.size w wr)) (fun i _ => l0.length - (intOf i).toNat)
          case atStart => exact ⟨0, Nat.zero_le _, rfl, L2⟩
          case round =>
            obtain ⟨k, hk, rfl, HL⟩ := hrel
            by_cases hlt : k < l0.length
            · go_wp2_with fail
              refine (rmay_any x0 c0 l0 _ (S00.out.keep HL.out) (by omega) HW.out).mono ?_
              rintro e w1 ⟨rfl, hb⟩
              rw [HM.out]
              have HL := Lib.hid (HL.out.trans (hb.mono HL.out.size))
              clear hb
              go_wp2_with fail
              refine (live_any _).mono ?_
              rintro e wl ⟨rfl, hb⟩
              have HLL := Lib.hid (HL.out.trans (hb.mono HL.out.size))
              clear hb
              go_wp2
              go_ret
              exact ⟨rfl, HLL.out⟩
            · have hd1 : decide ((k : Int) < (l0.length : Int)) = false := by simp; omega
              have hd2 : decide (k < l0.length) = false := by simp; omega
              go_wp2_with fail
              refine (live_any _).mono ?_
              rintro e wl ⟨rfl, hb⟩
              have HLL := Lib.hid (HL.out.trans (hb.mono HL.out.size))
              clear hb
              go_wp2
              go_ret
              exact ⟨rfl, HLL.out⟩
    · have hx : ∃ i, l0.findIdx? (longB n) = some i ∧ mayL l0 = true ∧ 1 ≤ n := by
        unfold takeL at htk
        split at htk
        · next hc =>
          cases hf : l0.findIdx? (longB n) with
          | none => rw [hf] at htk; cases htk
          | some i => exact ⟨i, rfl, hc.1, hc.2⟩
        · cases htk
      obtain ⟨i, hf, hm, hn1⟩ := hx
      have hts := take_some hm hn1 hf
      obtain ⟨hi, hp, hbf⟩ := (List.findIdx?_eq_some_iff_getElem).1 hf
      have hge : l0.getD i (0, 0) = l0[i] := by simp [List.getD, List.getElem?_eq_getElem hi]
      rw [hge] at hts
      obtain ⟨res, hres⟩ : ∃ res, (l0.take i ++ (if l0[i].2 = n then [] else [(l0[i].1 + n, l0[i].2 - n)]) ++ l0.drop (i + 1)) = res := ⟨_, rfl⟩
      rw [hres] at hts
      have HQ := Lib.hid hts
      have HI := Lib.hid (show n ≤ l0[i].2 by unfold longB at hp; simpa using hp)
      have HBF : Hid (∀ j (hj : j < i), l0[j].2 < n ∧ l0[j].1 ≠ l0[i].1) := by
        intro j hj
        have h1 := hbf j hj
        have h2 := may_lt (m := 0) (by omega) hm j i hj hi
        exact ⟨by unfold longB at h1; simpa using h1, by omega⟩
      clear htk hf hge hts hres hp hbf
      obtain ⟨p, hpp⟩ : ∃ p, l0[i] = p := ⟨_, rfl⟩
      have HPP := Lib.hid hpp
      rw [hpp] at HQ
      go_enter Try.func6, Try.ntmps6
      go_wp2_with fail
      refine (own_any x0 c0 l0 _ S0.out (by omega)).mono ?_
      rintro e v1 ⟨lv, rfl, hp, hb⟩
      have P1 := Lib.hid hp
      have L1 := Lib.hid hb
      have S1 := Lib.hid (S0.out.keep hb)
      clear hp hb S0
      go_wp2_with fail
      refine (take_any _ l0 n _ _ P1.out (by omega) HW.out).mono ?_
      rintro e v2 ⟨tv, rfl, hp, hb⟩
      have L2 := Lib.hid (L1.out.trans (hb.mono L1.out.size))
      have S1 := Lib.hid (S1.out.keep hb)
      have P2 := Lib.hid hp
      clear hp hb L1 P1
      rw [HQ.out]
      dsimp only
      clear P2
      go_wp2
      go_loopw [9] (fun s wr => ∃ k : Nat, k ≤ i ∧ s = .int .i64 k ∧ Hid (Below w.heap.size w wr)) (fun s _ => i - (intOf s).toNat)
      case atStart => exact ⟨0, Nat.zero_le _, rfl, L2⟩
      case round =>
        obtain ⟨k, hk, rfl, HL⟩ := hrel
        have hkl : k < l0.length := by omega
        have hdk : decide ((k : Int) < (l0.length : Int)) = true := by simp; omega
        obtain ⟨b, off, rfl, hbb, hc0, hc1⟩ := (S00.out.keep HL.out).get k hkl
        by_cases hki : k < i
        · have h3 := HBF.out k hki
          rw [HPP.out] at h3
          generalize l0[k] = x at *
          obtain ⟨xa, xn⟩ := x
          simp only at h3 hc0 hc1
          have he : (xa == p.1) = false := by simp [h3.2]
          have hdx : decide (n ≤ xn) = false := decide_eq_false (by omega)
          clear h3 hbb
          go_wp2
          go_roundw
          case rel => exact ⟨k + 1, by omega, by go_num, HL⟩
          case measure => simp [intOf]; omega
        · obtain rfl : k = i := by omega
          have h4 := HI.out
          rw [HPP.out] at h4
          rw [hpp] at hc0 hc1
          have he : (p.1 == p.1) = true := by simp
          have hdx : decide (n ≤ p.2) = true := decide_eq_true h4
          clear hbb hpp
          go_wp2_with fail
          refine (live_any _).mono ?_
          rintro e wl ⟨rfl, hb⟩
          have HLL := Lib.hid (HL.out.trans (hb.mono HL.out.size))
          clear hb
          go_wp2
          go_ret
          exact ⟨rfl, HLL.out⟩
end Go.Proofs.Ytpfcbeadoeijjaa.spaceFirst
