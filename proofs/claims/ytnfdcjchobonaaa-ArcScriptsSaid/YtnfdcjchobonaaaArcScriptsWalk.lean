/-
  The walk of ArcScripts.
-/
import Derived.Test.YtnfdcjchobonaaaArcRun
import Derived.Test.YtnfdcjchobonaaaArcW
import Derived.Test.YtnfdcjchobonaaaArcX
import Derived.Test.YtnfdcjchobonaaaArcBoundsWalk
namespace Go.Proofs.Ytnfdcjchobonaaa.arcScripts
open Go.RowKit Go.ChangeShapes Go.WideShapes Go.ChangeAt
open arcBounds (AllA all_new all_ask all_drop)

section
variable {B : Nat} {P : List Nat → World → Prop} (hP : Fixed P) {b : Nat} {d : ArcD} {w : World} (h : Sep B P (RefF b d) w)
include hP h
theorem one_rask (k : ByteArray) (hlen : d.len ≤ 7000) (hv : InvA d) (hok : OkA d) (hbd : BndA d) : Calls Try.prog 13 #[.pointer (some ⟨b, 0, none⟩), .string k] w fun e w' => e = .returned (.tuple #[.bool (askA d k).2.1, .string (askA d k).2.2]) ∧ Sep B P (RefF b (askA d k).1) w' ∧ Below B w w' := by
  obtain ⟨hz, G, F, h1, h2, h3, h4⟩ := id h
  refine (rask b F d k w h2 hlen hv hok hbd).mono ?_
  rintro e w' ⟨rfl, F', k1, k2, k3⟩
  refine ⟨rfl, ⟨Nat.le_trans hz k2.size, G, F', hP.keep _ _ _ _ h1 k2 (fun i hi hf => (h3 i hf).2 hi), k1, fun i hi => ?_, h4⟩, k2.below hz (fun i hi => (h3 i hi).1)⟩
  rcases k3 i hi with h5 | h5
  · exact h3 i h5
  · exact ⟨Nat.le_trans hz h5, fun hg => by have := hP.lt _ _ h1 i hg; omega⟩
theorem one_rdrop (k : ByteArray) (hlen : d.len ≤ 7000) (hv : InvA d) : Calls Try.prog 15 #[.pointer (some ⟨b, 0, none⟩), .string k] w fun e w' => e = .returned (.bool (dropA d k).2) ∧ Sep B P (RefF b (dropA d k).1) w' ∧ Below B w w' := by
  obtain ⟨hz, G, F, h1, h2, h3, h4⟩ := id h
  obtain ⟨e1, e2⟩ := rdrop_drop hv k
  rw [← e1, ← e2]
  refine (rdrop_any b F d k w h2 (by omega) hv).mono ?_
  rintro e w' ⟨rfl, F', k1, k2, k3⟩
  refine ⟨rfl, ⟨Nat.le_trans hz k2.size, G, F', hP.keep _ _ _ _ h1 k2 (fun i hi hf => (h3 i hf).2 hi), k1, fun i hi => ?_, h4⟩, k2.below hz (fun i hi => (h3 i hi).1)⟩
  rcases k3 i hi with h5 | h5
  · exact h3 i h5
  · exact ⟨Nat.le_trans hz h5, fun hg => by have := hP.lt _ _ h1 i hg; omega⟩
end
/-- The two, side by side. -/
def Two (B ba bb : Nat) (d : ArcD) (w : World) : Prop := OneA B (Both NoP (RefF bb d)) ba d w
theorem Two.ats {B ba bb : Nat} {d : ArcD} {w : World} (h : Two B ba bb d w) : (∃ va, ArcAt w ba va d) ∧ ∃ vb, RefAt w bb vb d := by
  obtain ⟨_, _, _, ⟨_, _, _, _, ⟨vb, h2, _⟩, _⟩, ⟨va, h3, _⟩, _⟩ := h
  exact ⟨⟨va, h3⟩, vb, h2⟩
theorem Two.keep {B ba bb : Nat} {d : ArcD} {w w' : World} (h : Two B ba bb d w) (hb : Below w.heap.size w w') : Two B ba bb d w' := OneA.keep (fixed_both fixed_no (fixed_ref bb d)) h hb

set_option maxRecDepth 100000 in
set_option maxHeartbeats 8000000 in
theorem walk (w : World) (a0 : Int) (_w0 : (Lit.int .i64 a0).wf = true) (x1 : Option Addr) (c1 : Nat) (l1 : List OpA) (s1 : SlE w 2 OpK x1 l1) (_m1 : l1.length ≤ maxLen) :
    Calls Try.prog 3 #[.int .i64 a0, .slice x1 l1.length c1] w fun e w' => e = .returned (.bool true) ∧ Below w.heap.size w w' := by
  have HLV := Lib.hid (live_any w)
  have HS := Lib.hid s1
  clear s1
  by_cases hc0 : 200 < l1.length
  · have e1 : decide ((200 : Int) < (l1.length : Int)) = true := decide_eq_true (by omega)
    go_enter Try.func3, Try.ntmps3
    go_wp2_with fail
    refine HLV.out.mono ?_
    rintro e w2 ⟨rfl, hb⟩
    have HB2 := Lib.hid hb
    clear hb
    go_wp2
    go_ret
    exact ⟨rfl, HB2.out⟩
  · have e1 : decide ((200 : Int) < (l1.length : Int)) = false := decide_eq_false (by omega)
    by_cases hc1 : a0 < 1 ∨ 64 < a0
    · have HN := Lib.hid (arc_new_none a0 w hc1)
      have HN2 := Lib.hid (rnew_none a0 w hc1)
      go_enter Try.func3, Try.ntmps3
      go_wp2_with fail
      refine HN.out.mono ?_
      rintro e w1 ⟨rfl, rfl⟩
      go_wp2_with fail
      refine HN2.out.mono ?_
      rintro e w1 ⟨rfl, rfl⟩
      go_wp2_with fail
      refine HLV.out.mono ?_
      rintro e w2 ⟨rfl, hb⟩
      have HB2 := Lib.hid hb
      clear hb
      go_wp2
      go_ret
      exact ⟨rfl, HB2.out⟩
    · have h2 : 1 ≤ a0 := by omega
      have h3 : a0 ≤ 64 := by omega
      have HLL : Hid (l1.length ≤ 200) := by show _ ≤ _; omega
      have HN := Lib.hid (one_new w.heap.size a0 w (Nat.le_refl _) h2 h3)
      have HN2 : Hid (∀ u, Calls Try.prog 11 #[.int .i64 a0] u fun e w' => e = .returned (.pointer (some ⟨u.heap.size, 0, none⟩)) ∧ RefF u.heap.size (newD a0) [u.heap.size] w' ∧ Below u.heap.size u w') := fun u => rnew a0 u h2 h3
      have HA0 := Lib.hid (all_new h2 h3)
      clear HLV hc0 hc1
      go_enter Try.func3, Try.ntmps3
      go_wp2_with fail
      refine HN.out.mono ?_
      rintro e w1 ⟨ba, rfl, ho, hb⟩
      have HO := Lib.hid ho
      have HB := Lib.hid hb
      clear ho hb HN e1
      go_wp2_with fail
      refine (HN2.out w1).mono ?_
      rintro e w2 ⟨rfl, hr, hb⟩
      have HO : Hid (Two w.heap.size ba w1.heap.size (newD a0) w2) := Sep.more fixed_no (fixed_arc ba (newD a0)) HO.out hb hr (fun k hk => by rw [List.mem_singleton] at hk; omega)
      have HB := Lib.hid (HB.out.trans (hb.mono HB.out.size))
      generalize w1.heap.size = bb at *
      clear hr hb HN2
      go_wp2_with fail
      go_loopw [7] (fun s wr => ∃ j : Nat, j ≤ l1.length ∧ s = .int .i64 j ∧ Hid (∃ d, Two w.heap.size ba bb d wr ∧ AllA a0 j d) ∧ Hid (Below w.heap.size w wr)) (fun s _ => l1.length - (intOf s).toNat)
      case atStart => exact ⟨0, Nat.zero_le _, rfl, ⟨_, HO.out, HA0.out⟩, HB⟩
      case round =>
        clear HO HB HA0
        rename_i hkl1
        obtain ⟨j, hj, rfl, HD, HB⟩ := hrel
        obtain ⟨d, ho, ha⟩ := HD.out
        have HO := Lib.hid ho
        have HA := Lib.hid ha
        clear ho ha HD
        by_cases hlt : j < l1.length
        · clear hkl1
          obtain ⟨b1, off, rfl, hbl, q0, q1⟩ := HS.out.aop HB.out j hlt
          have h0 : (0 : Int) ≤ (j : Int) := by omega
          have hj1 : (j : Int) < (l1.length : Int) := by omega
          have hjl : l1.length ≤ 200 := HLL.out
          have HLT := Lib.hid hlt
          generalize l1[j] = x at *
          obtain ⟨xd, xk⟩ := x
          dsimp only at q0 q1
          clear hlt hbl
          by_cases hxs : 100 < xk.size
          · have exs : decide ((100 : Int) < (xk.size : Int)) = true := decide_eq_true (by omega)
            have HLV2 := Lib.hid (live_any wr)
            go_wp2_with fail
            refine HLV2.out.mono ?_
            rintro e w5 ⟨rfl, hb⟩
            have HB5 := Lib.hid (HB.out.trans (hb.mono HB.out.size))
            clear hb
            go_wp2
            go_ret
            exact ⟨rfl, HB5.out⟩
          · have exs : decide ((100 : Int) < (xk.size : Int)) = false := decide_eq_false (by omega)
            by_cases hx : xd = 0
            · subst hx
              have HAK := Lib.hid (one_ask (fixed_both fixed_no (fixed_ref bb d)) HO.out xk (by have := HA.out.len; omega) HA.out.ok)
              have HRK : Hid (∀ u, OneA w.heap.size (Both NoP (RefF bb d)) ba (askA d xk).1 u → Calls Try.prog 13 #[.pointer (some ⟨bb, 0, none⟩), .string xk] u fun e w' => e = .returned (.tuple #[.bool (askA d xk).2.1, .string (askA d xk).2.2]) ∧ Two w.heap.size ba bb (askA d xk).1 w' ∧ Below w.heap.size u w') := by
                intro u hu
                refine (one_rask (fixed_both fixed_no (fixed_arc ba _)) (Sep.swap hu) xk (by have := HA.out.len; omega) HA.out.inv HA.out.ok HA.out.bnd).mono ?_
                rintro e w' ⟨rfl, hs, hb⟩
                exact ⟨rfl, Sep.swap hs, hb⟩
              have HA2 := Lib.hid (all_ask HA.out xk)
              generalize (askA d xk).2.1 = g1 at *
              generalize (askA d xk).2.2 = g2 at *
              generalize (askA d xk).1 = d2 at *
              have eg1 : (g1 != g1) = false := by cases g1 <;> rfl
              have eg2 : (g2.toList == g2.toList) = true := by simp
              clear HA HO
              go_wp2_with fail
              refine HAK.out.mono ?_
              rintro e w3 ⟨rfl, ho, hb⟩
              have HB3 := Lib.hid (HB.out.trans hb)
              have HRK := Lib.hid (HRK.out w3 ho)
              clear ho hb HAK HB q0 q1
              go_wp2_with fail
              refine HRK.out.mono ?_
              rintro e w4 ⟨rfl, ho, hb⟩
              have HO2 : Hid (Two w.heap.size ba bb d2 w4) := ho
              have HB2 := Lib.hid (HB3.out.trans hb)
              clear ho hb HRK HB3
              have HHA := Lib.hid (one_has (fixed_both fixed_no (fixed_ref bb d2)) HO2.out xk (by have := HA2.out.len; omega) HA2.out.ok)
              have HSM : Hid (Calls Try.prog 16 #[.pointer (some ⟨ba, 0, none⟩), .pointer (some ⟨bb, 0, none⟩)] w4 fun e w' => e = .returned (.bool true) ∧ Below w4.heap.size w4 w') := by
                obtain ⟨⟨va, h1⟩, vb, h2⟩ := Two.ats HO2.out
                exact same_any ba bb va vb d2 w4 h1 h2 (by have := HA2.out.len; omega) HA2.out.ok
              go_wp2_with fail
              refine HSM.out.mono ?_
              rintro e w5 ⟨rfl, hb⟩
              have HO5 : Hid (Two w.heap.size ba bb d2 w5) := Two.keep HO2.out hb
              have HB5 := Lib.hid (HB2.out.trans (hb.mono HB2.out.size))
              clear hb HSM HHA HO2 HB2
              have HHA := Lib.hid (one_has (fixed_both fixed_no (fixed_ref bb d2)) HO5.out xk (by have := HA2.out.len; omega) HA2.out.ok)
              go_wp2_with fail
              refine HHA.out.mono ?_
              rintro e w6 ⟨rfl, ho, hb⟩
              have HO6 : Hid (Two w.heap.size ba bb d2 w6) := ho
              have HB6 := Lib.hid (HB5.out.trans (hb.mono HB5.out.size))
              clear ho hb HHA HO5 HB5
              have HRH : Hid (Calls Try.prog 18 #[.pointer (some ⟨bb, 0, none⟩), .string xk] w6 fun e w' => e = .returned (.bool (hasA d2 2 xk || hasA d2 3 xk)) ∧ w6 = w') := by
                obtain ⟨⟨va, h1⟩, vb, h2⟩ := Two.ats HO6.out
                exact rhas bb vb d2 xk w6 h2 (by have := HA2.out.len; omega)
              generalize (hasA d2 2 xk || hasA d2 3 xk) = hb7 at *
              have eb7 : (hb7 != hb7) = false := by cases hb7 <;> rfl
              go_wp2_with fail
              refine HRH.out.mono ?_
              rintro e w7 ⟨rfl, rfl⟩
              go_wp2
              go_roundw
              case rel => exact ⟨j + 1, HLT.out, by go_num, ⟨d2, HO6.out, HA2.out⟩, HB6⟩
              case measure => have := HLT.out; simp [intOf]; omega
            · have ex : (xd == 0) = false := by simpa using hx
              have HAK := Lib.hid (one_drop (fixed_both fixed_no (fixed_ref bb d)) HO.out xk (by have := HA.out.len; omega) HA.out.ok)
              have HRK : Hid (∀ u, OneA w.heap.size (Both NoP (RefF bb d)) ba (dropA d xk).1 u → Calls Try.prog 15 #[.pointer (some ⟨bb, 0, none⟩), .string xk] u fun e w' => e = .returned (.bool (dropA d xk).2) ∧ Two w.heap.size ba bb (dropA d xk).1 w' ∧ Below w.heap.size u w') := by
                intro u hu
                refine (one_rdrop (fixed_both fixed_no (fixed_arc ba _)) (Sep.swap hu) xk (by have := HA.out.len; omega) HA.out.inv).mono ?_
                rintro e w' ⟨rfl, hs, hb⟩
                exact ⟨rfl, Sep.swap hs, hb⟩
              have HA2 := Lib.hid (all_drop HA.out xk)
              generalize (dropA d xk).2 = g1 at *
              generalize (dropA d xk).1 = d2 at *
              have eg1 : (g1 != g1) = false := by cases g1 <;> rfl
              clear HA HO hx
              go_wp2_with fail
              refine HAK.out.mono ?_
              rintro e w3 ⟨rfl, ho, hb⟩
              have HB3 := Lib.hid (HB.out.trans hb)
              have HRK := Lib.hid (HRK.out w3 ho)
              clear ho hb HAK HB q0 q1 ex
              go_wp2_with fail
              refine HRK.out.mono ?_
              rintro e w4 ⟨rfl, ho, hb⟩
              have HO2 : Hid (Two w.heap.size ba bb d2 w4) := ho
              have HB2 := Lib.hid (HB3.out.trans hb)
              clear ho hb HRK HB3
              have HHA := Lib.hid (one_has (fixed_both fixed_no (fixed_ref bb d2)) HO2.out xk (by have := HA2.out.len; omega) HA2.out.ok)
              have HSM : Hid (Calls Try.prog 16 #[.pointer (some ⟨ba, 0, none⟩), .pointer (some ⟨bb, 0, none⟩)] w4 fun e w' => e = .returned (.bool true) ∧ Below w4.heap.size w4 w') := by
                obtain ⟨⟨va, h1⟩, vb, h2⟩ := Two.ats HO2.out
                exact same_any ba bb va vb d2 w4 h1 h2 (by have := HA2.out.len; omega) HA2.out.ok
              go_wp2_with fail
              refine HSM.out.mono ?_
              rintro e w5 ⟨rfl, hb⟩
              have HO5 : Hid (Two w.heap.size ba bb d2 w5) := Two.keep HO2.out hb
              have HB5 := Lib.hid (HB2.out.trans (hb.mono HB2.out.size))
              clear hb HSM HHA HO2 HB2
              have HHA := Lib.hid (one_has (fixed_both fixed_no (fixed_ref bb d2)) HO5.out xk (by have := HA2.out.len; omega) HA2.out.ok)
              go_wp2_with fail
              refine HHA.out.mono ?_
              rintro e w6 ⟨rfl, ho, hb⟩
              have HO6 : Hid (Two w.heap.size ba bb d2 w6) := ho
              have HB6 := Lib.hid (HB5.out.trans (hb.mono HB5.out.size))
              clear ho hb HHA HO5 HB5
              have HRH : Hid (Calls Try.prog 18 #[.pointer (some ⟨bb, 0, none⟩), .string xk] w6 fun e w' => e = .returned (.bool (hasA d2 2 xk || hasA d2 3 xk)) ∧ w6 = w') := by
                obtain ⟨⟨va, h1⟩, vb, h2⟩ := Two.ats HO6.out
                exact rhas bb vb d2 xk w6 h2 (by have := HA2.out.len; omega)
              generalize (hasA d2 2 xk || hasA d2 3 xk) = hb7 at *
              have eb7 : (hb7 != hb7) = false := by cases hb7 <;> rfl
              go_wp2_with fail
              refine HRH.out.mono ?_
              rintro e w7 ⟨rfl, rfl⟩
              go_wp2
              go_roundw
              case rel => exact ⟨j + 1, HLT.out, by go_num, ⟨d2, HO6.out, HA2.out⟩, HB6⟩
              case measure => have := HLT.out; simp [intOf]; omega
        · have hjl : j = l1.length := by omega
          subst hjl
          have HLV2 := Lib.hid (live_any wr)
          go_wp2_with fail
          refine HLV2.out.mono ?_
          rintro e w5 ⟨rfl, hb⟩
          have HB5 := Lib.hid (HB.out.trans (hb.mono HB.out.size))
          clear hb
          go_wp2
          go_ret
          exact ⟨rfl, HB5.out⟩
end Go.Proofs.Ytnfdcjchobonaaa.arcScripts
