/-
  The walk of PathWithin.
-/
import Derived.Test.YtjimjaimfejonaaDoorPathLive
import Derived.Test.YtjimjaimfejonaaDoorFrame
namespace Go.Proofs.YtjimjaimfejonaaDoor.pathWithin
open Go Go.RowKit

theorem wit_iff {a b : ByteArray} : witD a b = true ↔ (splitD a).2 = 0 ∧ (splitD b).2 = 0 ∧ (splitD a).1 <+: (splitD b).1 := decide_eq_true_iff
theorem wit_trans {a b c : ByteArray} (h1 : witD a b = true) (h2 : witD b c = true) : witD a c = true :=
  wit_iff.2 ⟨(wit_iff.1 h1).1, (wit_iff.1 h2).2.1, (wit_iff.1 h1).2.2.trans (wit_iff.1 h2).2.2⟩
theorem wit_anti {a b : ByteArray} (h1 : witD a b = true) (h2 : witD b a = true) : a = b := by
  obtain ⟨p1, p2, p3⟩ := wit_iff.1 h1
  obtain ⟨q1, q2, q3⟩ := wit_iff.1 h2
  have e : (splitD a).1 = (splitD b).1 := p3.eq_of_length (Nat.le_antisymm p3.length_le q3.length_le)
  rw [← join_split p1, ← join_split p2, e]

set_option maxRecDepth 100000 in
set_option maxHeartbeats 2000000 in
theorem walk (w : World) (a0 : ByteArray) (_ : a0.size ≤ 140737488351232) (a1 : ByteArray) (_ : a1.size ≤ 140737488351232) (a2 : ByteArray) (_ : a2.size ≤ 140737488351232) : Calls Tryd.prog 6 #[.string a0, .string a1, .string a2] w fun e w' => e = .returned (.bool true) ∧ Below w.heap.size w w' := by
  by_cases h0 : a0.size ≤ 500
  · have d0 : ((500 : Int) < (a0.size : Int)) = False := eq_false (by omega)
    by_cases h1 : a1.size ≤ 500
    · have d1 : ((500 : Int) < (a1.size : Int)) = False := eq_false (by omega)
      by_cases h2 : a2.size ≤ 500
      · have d2 : ((500 : Int) < (a2.size : Int)) = False := eq_false (by omega)
        have H0 := Lib.hid (show a0.size ≤ 5000 by omega)
        have H1 := Lib.hid (show a1.size ≤ 5000 by omega)
        have H2 := Lib.hid (show a2.size ≤ 5000 by omega)
        clear h0 h1 h2
        cases hab : witD a0 a1
        · skip
          go_enter Tryd.func6, Tryd.ntmps6
          go_wp2_with fail
          refine (within_any a0 a1 H0.out H1.out _).mono ?_
          rintro e w1 ⟨rfl, hb⟩
          have HB1 := Lib.hid hb
          rw [hab]
          clear hb
          go_wp2_with fail
          refine (within_any a0 a1 H0.out H1.out _).mono ?_
          rintro e w2 ⟨rfl, hb⟩
          have HB2 := Lib.hid (HB1.out.trans (hb.mono HB1.out.size))
          rw [hab]
          clear hb HB1
          go_wp2_with fail
          refine (live_any _).mono ?_
          rintro e wl ⟨rfl, hb⟩
          have HL := Lib.hid (HB2.out.trans (hb.mono HB2.out.size))
          clear hb
          go_wp2
          go_ret
          exact ⟨rfl, HL.out⟩
        · cases hbc : witD a1 a2
          · skip
            go_enter Tryd.func6, Tryd.ntmps6
            go_wp2_with fail
            refine (within_any a0 a1 H0.out H1.out _).mono ?_
            rintro e w1 ⟨rfl, hb⟩
            have HB1 := Lib.hid hb
            rw [hab]
            clear hb
            go_wp2_with fail
            refine (within_any a1 a2 H1.out H2.out _).mono ?_
            rintro e w2 ⟨rfl, hb⟩
            have HB2 := Lib.hid (HB1.out.trans (hb.mono HB1.out.size))
            rw [hbc]
            clear hb HB1
            go_wp2_with fail
            refine (within_any a0 a1 H0.out H1.out _).mono ?_
            rintro e w3 ⟨rfl, hb⟩
            have HB3 := Lib.hid (HB2.out.trans (hb.mono HB2.out.size))
            rw [hab]
            clear hb HB2
            cases hba : witD a1 a0
            · skip
              go_wp2_with fail
              refine (within_any a1 a0 H1.out H0.out _).mono ?_
              rintro e w4 ⟨rfl, hb⟩
              have HB4 := Lib.hid (HB3.out.trans (hb.mono HB3.out.size))
              rw [hba]
              clear hb HB3
              go_wp2_with fail
              refine (live_any _).mono ?_
              rintro e wl ⟨rfl, hb⟩
              have HL := Lib.hid (HB4.out.trans (hb.mono HB4.out.size))
              clear hb
              go_wp2
              go_ret
              exact ⟨rfl, HL.out⟩
            · obtain rfl := wit_anti hab hba
              go_wp2_with fail
              refine (within_any a0 a0 H0.out H0.out _).mono ?_
              rintro e w4 ⟨rfl, hb⟩
              have HB4 := Lib.hid (HB3.out.trans (hb.mono HB3.out.size))
              rw [hba]
              clear hb HB3
              go_wp2_with fail
              refine (live_any _).mono ?_
              rintro e wl ⟨rfl, hb⟩
              have HL := Lib.hid (HB4.out.trans (hb.mono HB4.out.size))
              clear hb
              go_wp2
              go_ret
              exact ⟨rfl, HL.out⟩
          · have hac := wit_trans hab hbc
            go_enter Tryd.func6, Tryd.ntmps6
            go_wp2_with fail
            refine (within_any a0 a1 H0.out H1.out _).mono ?_
            rintro e w1 ⟨rfl, hb⟩
            have HB1 := Lib.hid hb
            rw [hab]
            clear hb
            go_wp2_with fail
            refine (within_any a1 a2 H1.out H2.out _).mono ?_
            rintro e w2 ⟨rfl, hb⟩
            have HB2 := Lib.hid (HB1.out.trans (hb.mono HB1.out.size))
            rw [hbc]
            clear hb HB1
            go_wp2_with fail
            refine (within_any a0 a2 H0.out H2.out _).mono ?_
            rintro e w3 ⟨rfl, hb⟩
            have HB3 := Lib.hid (HB2.out.trans (hb.mono HB2.out.size))
            rw [hac]
            clear hb HB2
            go_wp2_with fail
            refine (within_any a0 a1 H0.out H1.out _).mono ?_
            rintro e w4 ⟨rfl, hb⟩
            have HB4 := Lib.hid (HB3.out.trans (hb.mono HB3.out.size))
            rw [hab]
            clear hb HB3
            cases hba : witD a1 a0
            · skip
              go_wp2_with fail
              refine (within_any a1 a0 H1.out H0.out _).mono ?_
              rintro e w5 ⟨rfl, hb⟩
              have HB5 := Lib.hid (HB4.out.trans (hb.mono HB4.out.size))
              rw [hba]
              clear hb HB4
              go_wp2_with fail
              refine (live_any _).mono ?_
              rintro e wl ⟨rfl, hb⟩
              have HL := Lib.hid (HB5.out.trans (hb.mono HB5.out.size))
              clear hb
              go_wp2
              go_ret
              exact ⟨rfl, HL.out⟩
            · obtain rfl := wit_anti hab hba
              go_wp2_with fail
              refine (within_any a0 a0 H0.out H0.out _).mono ?_
              rintro e w5 ⟨rfl, hb⟩
              have HB5 := Lib.hid (HB4.out.trans (hb.mono HB4.out.size))
              rw [hba]
              clear hb HB4
              go_wp2_with fail
              refine (live_any _).mono ?_
              rintro e wl ⟨rfl, hb⟩
              have HL := Lib.hid (HB5.out.trans (hb.mono HB5.out.size))
              clear hb
              go_wp2
              go_ret
              exact ⟨rfl, HL.out⟩
      · have d2 : ((500 : Int) < (a2.size : Int)) = True := eq_true (by omega)
        clear h0 h1 h2
        go_enter Tryd.func6, Tryd.ntmps6
        go_wp2_with fail
        refine (live_any _).mono ?_
        rintro e wl ⟨rfl, hb⟩
        have HL := Lib.hid hb
        clear hb
        go_wp2
        go_ret
        exact ⟨rfl, HL.out⟩
    · have d1 : ((500 : Int) < (a1.size : Int)) = True := eq_true (by omega)
      clear h0 h1
      go_enter Tryd.func6, Tryd.ntmps6
      go_wp2_with fail
      refine (live_any _).mono ?_
      rintro e wl ⟨rfl, hb⟩
      have HL := Lib.hid hb
      clear hb
      go_wp2
      go_ret
      exact ⟨rfl, HL.out⟩
  · have d0 : ((500 : Int) < (a0.size : Int)) = True := eq_true (by omega)
    clear h0
    go_enter Tryd.func6, Tryd.ntmps6
    go_wp2_with fail
    refine (live_any _).mono ?_
    rintro e wl ⟨rfl, hb⟩
    have HL := Lib.hid hb
    clear hb
    go_wp2
    go_ret
    exact ⟨rfl, HL.out⟩
end Go.Proofs.YtjimjaimfejonaaDoor.pathWithin
