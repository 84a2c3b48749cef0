/-
  The walk of SpaceAll.
-/
import Derived.Test.YtpfcbeadoeijjaaSpaceLive
import Derived.Test.YtpfcbeadoeijjaaFrame
import Derived.Test.YtpfcbeadoeijjaaOpenSpace
import Derived.Test.YtpfcbeadoeijjaaSpaceMath
import Derived.Test.YtpfcbeadoeijjaaSpaceMath6
namespace Go.Proofs.Ytpfcbeadoeijjaa.spaceAll
open Go.RowKit
/-- A cell of a row of bools. -/
abbrev S1 (b j : Nat) (z : Bool) (w' : World) : Prop := w'.cell? ⟨b, j, none⟩ = some (.bool z)
theorem S1.below {b j : Nat} {z : Bool} {u v : World} (h : S1 b j z u) (hb : Below u.heap.size u v) : S1 b j z v := (hb.cell (p := ⟨b, j, none⟩) (lt_of_cell h)).trans h

set_option maxRecDepth 100000 in
set_option maxHeartbeats 2000000 in
theorem walk (w : World) (x0 : Option Addr) (c0 : Nat) (l0 : List Bool) (s0 : Sl w Value.bool x0 l0) (_w0 : True) (m0 : l0.length ≤ maxLen) (a1 : Int) (_w1 : (Lit.int .i64 a1).wf = true) :
    Calls Try.prog 5 #[.slice x0 l0.length c0, .int .i64 a1] w fun e w' => e = .returned (.bool true) ∧ Below w.heap.size w w' := by
  have S0 := Lib.hid s0
  unfold maxLen at m0
  clear s0 _w0 _w1
  by_cases hA : 200 < l0.length
  · go_enter Try.func5, Try.ntmps5
    go_wp2_with fail
    refine (live_any _).mono ?_
    rintro e wl ⟨rfl, hb⟩
    have HLL := Lib.hid ((Below.refl w.heap.size w).trans (hb.mono (Below.refl w.heap.size w).size))
    clear hb
    go_wp2
    go_ret
    exact ⟨rfl, HLL.out⟩
  · by_cases hB : l0.length = 0
    · have hz : ((l0.length : Int) == 0) = true := by simp [hB]
      go_enter Try.func5, Try.ntmps5
      go_wp2_with fail
      refine (live_any _).mono ?_
      rintro e wl ⟨rfl, hb⟩
      have HLL := Lib.hid ((Below.refl w.heap.size w).trans (hb.mono (Below.refl w.heap.size w).size))
      clear hb
      go_wp2
      go_ret
      exact ⟨rfl, HLL.out⟩
    · have hz : ((l0.length : Int) == 0) = false := by simp [hB]
      by_cases hC : a1 < 0
      · go_enter Try.func5, Try.ntmps5
        go_wp2_with fail
        refine (live_any _).mono ?_
        rintro e wl ⟨rfl, hb⟩
        have HLL := Lib.hid ((Below.refl w.heap.size w).trans (hb.mono (Below.refl w.heap.size w).size))
        clear hb
        go_wp2
        go_ret
        exact ⟨rfl, HLL.out⟩
      · obtain ⟨T, rfl⟩ : ∃ T : Nat, a1 = (T : Int) := ⟨a1.toNat, by omega⟩
        have hn : 0 < l0.length := by omega
        have hn2 : l0.length ≤ 200 := by omega
        have ht := Nat.mod_lt T hn
        have g1 : (T : Int).tmod (l0.length : Int) = ((T % l0.length : Nat) : Int) := by rw [Int.tmod_eq_emod_of_nonneg (by omega)]; rfl
        have g2 : IntKind.i64.wrap ((T % l0.length : Nat) : Int) = ((T % l0.length : Nat) : Int) := IntWalk.i64_in _ ⟨by omega, by omega⟩
        have HAT : Hid (∀ k : Nat, k < l0.length → IntKind.i64.wrap ((k : Int) + ((T % l0.length : Nat) : Int)) = ((k + T % l0.length : Nat) : Int)) := by
          intro k hk
          rw [IntWalk.i64_in _ ⟨by omega, by omega⟩]
          omega
        have HREM : Hid (∀ k : Nat, ((k : Int) + ((T % l0.length : Nat) : Int)) % (l0.length : Int) = (((k + T % l0.length) % l0.length : Nat) : Int)) := by
          intro k
          rfl
        have HI0 := Lib.hid (AllI.zero l0 (T % l0.length))
        have HMO := Lib.hid (may_of l0 hn2)
        have HWO := Lib.hid (wf_may HMO.out)
        have HLEN := Lib.hid (show (ofL l0).length ≤ 1000 by have := (ofTo_low l0 l0.length).2; unfold ofL; omega)
        obtain ⟨ub, uo, rfl, hub, huc⟩ := S0.out (by intro h; rw [h] at hn; simp at hn)
        have HUC : Hid (∀ W, Below w.heap.size w W → ∀ i x, l0[i]? = some x → W.cell? ⟨ub, uo + i, none⟩ = some (Value.bool x)) := fun W hW i x hx => (hW.cell (p := ⟨ub, uo + i, none⟩) hub).trans (huc i x hx)
        have HNZ := Lib.hid (show (l0.length : Int) ≠ 0 by omega)
        generalize T % l0.length = t at *
        clear ht hub huc
        go_enter Try.func5, Try.ntmps5
        go_wp2_with fail
        refine (of_any _ c0 l0 _ S0.out (by omega)).mono ?_
        rintro e v1 ⟨lv, rfl, hp, hb⟩
        have L1 := Lib.hid hb
        obtain ⟨ya, yc, e1, hsy⟩ := hp.slP'
        subst e1
        have SY := Lib.hid hsy
        clear hsy hp hb S0
        go_wp2
        go_loopw [6, 7] (fun s i wr => ∃ (k : Nat) (v : Value) (xl : List (Int × Int)), k ≤ l0.length ∧ i = .int .i64 k ∧ v = s ∧ Hid (Prs 46 wr w.heap.size v xl) ∧ Hid (AllI l0 t k xl) ∧ Hid (SlP wr ya (ofL l0)) ∧ Hid (Below w.heap.size w wr)) (fun _ i _ => l0.length - (intOf i).toNat)
        case atStart => exact ⟨0, _, [], Nat.zero_le _, rfl, rfl, Prs.nil _ _ _, HI0, SY, L1⟩
        case round =>
          obtain ⟨k, v, xl, hk, rfl, rfl, HP, HI, SY, HL⟩ := hrel
          by_cases hlt : k < l0.length
          · have hp := Nat.mod_lt (k + t) hn
            have g3 := HAT.out k hlt
            have g4 := HREM.out k
            have HXL := Lib.hid (HI.out.len hn)
            have HF := Lib.hid (HI.out.free hn2 hlt)
            have HU := Lib.hid (HI.out.used (k := k))
            obtain ⟨p, hpp⟩ : ∃ p, (k + t) % l0.length = p := ⟨_, rfl⟩
            rw [hpp] at g4 hp HF HU
            have hp0 : (0 : Int) ≤ (p : Int) := by omega
            have hp1 : (p : Int) < (l0.length : Int) := by omega
            have g5 : IntKind.i64.wrap (p : Int) = (p : Int) := IntWalk.i64_in _ ⟨by omega, by omega⟩
            have HH := Lib.hid (has_of l0 hn2 p hp)
            have HC := Lib.hid (fun W hW => HUC.out W hW p _ (List.getElem?_eq_getElem hp))
            have HGD := Lib.hid (show l0.getD p true = l0[p] by simp [List.getD, List.getElem?_eq_getElem hp])
            have SYD : Hid (SlP wr.drew ya (ofL l0)) := SY.out.keep ((Below.refl _ _).drew)
            clear hpp
            generalize l0[p] = z at *
            have HS : Hid (S1 ub (uo + p) z wr.drew) := HC.out _ HL.out.drew
            have HB := Lib.hid (HL.out.drew)
            cases z
            · go_wp2_with fail
              go_region_held3 (fun w' => w'.cell? ⟨ub, uo + p, none⟩ = some (Value.bool false)) (with_reducible exact HS.out)
                (first | (go_at_call 14; refine (has_any ya yc (ofL l0) p _ SYD.out HLEN.out HWO.out).mono ?_; rintro e w2 ⟨rfl, hb⟩; rw [HH.out]; have HS := Lib.hid (HS.out.below hb); have HB := Lib.hid (HB.out.trans (hb.mono HB.out.size)); have SY2 := Lib.hid (SYD.out.keep hb); have HP2 := Lib.hid ((show Prs 46 wr.drew w.heap.size v xl from HP.out).keep hb); clear hb; dsimp only))
              have HW2 := Lib.hid (wf_may HI.out.1)
              obtain ⟨hg1, hg2⟩ := HF.out HGD.out
              have HG1 := Lib.hid hg1
              have HI2 := Lib.hid hg2
              clear hg1 hg2
              have HWR : Hid (WfP [((p : Int), (1 : Int))]) := wf_may (by unfold mayL; rw [mayF, Bool.and_eq_true, decide_eq_true_eq]; exact ⟨⟨by simp only; omega, by simp only; omega, by simp only; omega⟩, rfl⟩)
              obtain ⟨q1, hq1⟩ : ∃ q, giveL xl ((p : Int), 1) = q := ⟨_, rfl⟩
              have HQ1 := Lib.hid hq1
              rw [hq1] at HG1 HI2
              clear hq1
              go_wp2_with fail
              refine (give_any _ xl ((p : Int), 1) _ _ HP2.out (by have := HXL.out; omega) HW2.out HWR.out).mono ?_
              rintro e w3 ⟨gv, rfl, hpp, hb⟩
              rw [HQ1.out] at hpp ⊢
              rw [HG1.out]
              have HP3 := Lib.hid (hpp.base HB.out.size)
              have SY3 := Lib.hid (SY2.out.keep hb)
              have HL2 := Lib.hid (HB.out.trans (hb.mono HB.out.size))
              clear hpp hb
              go_wp2
              go_roundw
              case rel => exact ⟨k + 1, gv, q1.1, by omega, by go_num, rfl, HP3, HI2, SY3, HL2⟩
              case measure => simp [intOf]; omega
            · go_wp2_with fail
              go_region_held3 (fun w' => w'.cell? ⟨ub, uo + p, none⟩ = some (Value.bool true)) (with_reducible exact HS.out)
                (first | (go_at_call 14; refine (has_any ya yc (ofL l0) p _ SYD.out HLEN.out HWO.out).mono ?_; rintro e w2 ⟨rfl, hb⟩; rw [HH.out]; have HS := Lib.hid (HS.out.below hb); have HB := Lib.hid (HB.out.trans (hb.mono HB.out.size)); have SY2 := Lib.hid (SYD.out.keep hb); have HP2 := Lib.hid ((show Prs 46 wr.drew w.heap.size v xl from HP.out).keep hb); clear hb; dsimp only))
              have HI2 := Lib.hid (HU.out HGD.out)
              have kc := HC.out _ HB.out
              go_wp2
              go_roundw
              case rel => exact ⟨k + 1, v, xl, by omega, by go_num, rfl, HP2, HI2, SY2, HB⟩
              case measure => simp [intOf]; omega
          · obtain rfl : k = l0.length := by omega
            have HX : Hid (xl = ofL l0) := HI.out.done hn2
            have HXL := Lib.hid (HI.out.len hn)
            obtain ⟨za, zc, ez, hsz⟩ := HP.out.slP'
            have SZ := Lib.hid hsz
            subst ez
            clear hsz HP
            go_wp2_with fail
            refine (told_any za zc xl _ SZ.out (by have := HXL.out; omega)).mono ?_
            rintro e w2 ⟨t1, rfl, hpp, hb⟩
            have HP3 := Lib.hid hpp
            have HL2 := Lib.hid (HL.out.trans (hb.mono HL.out.size))
            have SY2 := Lib.hid (SY.out.keep hb)
            clear hpp hb SZ SY
            go_wp2_with fail
            refine (told_any ya yc (ofL l0) _ SY2.out HLEN.out).mono ?_
            rintro e w3 ⟨t2, rfl, hpp, hb⟩
            have HP4 := Lib.hid hpp
            have HP3 := Lib.hid (HP3.out.keep hb)
            have HL3 := Lib.hid (HL2.out.trans (hb.mono HL2.out.size))
            have SY3 := Lib.hid (SY2.out.keep hb)
            clear hpp hb SY2
            obtain ⟨ga, gc, eg, hsg⟩ := HP3.out.slP'
            obtain ⟨fa, fc, ef, hsf⟩ := HP4.out.slP'
            subst eg ef
            have SG := Lib.hid hsg
            have SF := Lib.hid hsf
            clear hsg hsf HP3 HP4
            go_wp2_with fail
            refine (same_any ga fa gc fc xl (ofL l0) _ (by have := HXL.out; omega) HLEN.out SG.out SF.out).mono ?_
            rintro e w4 ⟨rfl, hb⟩
            rw [show decide (xl = ofL l0) = true from decide_eq_true HX.out]
            have HL4 := Lib.hid (HL3.out.trans (hb.mono HL3.out.size))
            have SY4 := Lib.hid (SY3.out.keep hb)
            clear hb
            go_wp2_with fail
            refine (may_any ya yc (ofL l0) _ SY4.out HLEN.out HWO.out).mono ?_
            rintro e w5 ⟨rfl, hb⟩
            rw [HMO.out]
            have HL5 := Lib.hid (HL4.out.trans (hb.mono HL4.out.size))
            clear hb
            go_wp2_with fail
            refine (live_any _).mono ?_
            rintro e wl ⟨rfl, hb⟩
            have HLL := Lib.hid (HL5.out.trans (hb.mono HL5.out.size))
            clear hb
            go_wp2
            go_ret
            exact ⟨rfl, HLL.out⟩
end Go.Proofs.Ytpfcbeadoeijjaa.spaceAll
