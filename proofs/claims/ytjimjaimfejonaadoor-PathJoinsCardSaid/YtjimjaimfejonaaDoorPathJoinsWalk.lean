/-
  The walk of PathJoins.
-/
import Derived.Test.YtjimjaimfejonaaDoorPathLive
import Derived.Test.YtjimjaimfejonaaDoorFrame
import Derived.Test.YtjimjaimfejonaaDoorPathV
namespace Go.Proofs.YtjimjaimfejonaaDoor.pathJoins
open Go Go.RowKit

set_option maxRecDepth 100000 in
set_option maxHeartbeats 2000000 in
theorem walk (w : World) (x0 : Option Addr) (c0 : Nat) (l0 : List ByteArray) (s0 : Sl w Value.string x0 l0) (w0 : l0.length ≤ c0 ∧ ∀ s ∈ l0, s.size ≤ maxLen) (_ : l0.length ≤ maxLen) (a1 : ByteArray) (_ : a1.size ≤ 140737488351232) : Calls Tryd.prog 4 #[.slice x0 l0.length c0, .string a1] w fun e w' => e = .returned (.bool true) ∧ Below w.heap.size w w' := by
  have HC := Lib.hid w0.1
  have HS := Lib.hid s0
  clear s0 w0
  by_cases h1 : l0.length ≤ 30
  · have d1 : ((30 : Int) < (l0.length : Int)) = False := eq_false (by omega)
    have H1 := Lib.hid h1
    by_cases h2 : a1.size ≤ 2000
    · have d2 : ((2000 : Int) < (a1.size : Int)) = False := eq_false (by omega)
      have H2 := Lib.hid h2
      clear h1 h2
      go_enter Tryd.func4, Tryd.ntmps4
      go_wp2
      go_loop [5] (fun i => ∃ k : Nat, k ≤ l0.length ∧ i = .int .i64 k ∧ Hid (∀ x ∈ l0.take k, x.size ≤ 300)) (fun i => l0.length - (intOf i).toNat)
      case atStart => exact ⟨0, Nat.zero_le _, rfl, fun x hx => by cases hx⟩
      case round =>
        obtain ⟨k, hk, rfl, HT⟩ := hrel
        by_cases hlt : k < l0.length
        · obtain ⟨b, off, rfl, hb, hcell⟩ := HS.out (by intro e; rw [e] at hlt; cases hlt)
          have q1 : w.cell? ⟨b, off + k, none⟩ = some (.string l0[k]) := hcell k _ (List.getElem?_eq_getElem hlt)
          have HN : Hid (l0[k].size ≤ 300 → ∀ x ∈ l0.take (k + 1), x.size ≤ 300) := fun e => take_all hlt HT.out e
          clear hcell hb
          generalize l0[k] = x at *
          by_cases h3 : x.size ≤ 300
          · have d3 : ((300 : Int) < (x.size : Int)) = False := eq_false (by omega)
            have HN := Lib.hid (HN.out h3)
            have hkk : k ≤ 30 := Nat.le_trans hk H1.out
            clear h3
            go_wp2
            go_round
            case rel => exact ⟨k + 1, by omega, by go_num, HN⟩
            case measure => simp [intOf]; omega
          · have d3 : ((300 : Int) < (x.size : Int)) = True := eq_true (by omega)
            clear h3 HN
            go_wp2_with fail
            refine (live_any _).mono ?_
            rintro e wl ⟨rfl, hb⟩
            have HL := Lib.hid hb
            clear hb
            go_wp2
            go_ret
            exact ⟨rfl, HL.out⟩
        · have hke : k = l0.length := by omega
          have HZ := Lib.hid (join_le (m := 300) (l := l0) (by have := HT.out; rwa [hke, List.take_length] at this))
          have HZ : Hid ((joinD l0).size ≤ 1000000) := by show _ ≤ _; have := HZ.out; have := H1.out; omega
          have H10 : Hid (l0.length ≤ 1000000) := Nat.le_trans H1.out (by decide)
          clear HT
          subst hke
          go_wp2_with fail
          refine (split_any a1 (Nat.le_trans H2.out (by decide)) _).mono ?_
          rintro e w1 ⟨v, rfl, hk1, hb⟩
          have HB1 := Lib.hid hb
          obtain ⟨xa, xc, rfl, hs1, hc1⟩ := hk1.shape
          have HS1 := Lib.hid hs1
          have HC1 := Lib.hid hc1
          have HS := Lib.hid (HS.out.keepB hb)
          clear hk1 hs1 hc1
          clear hb
          go_wp2_with fail
          refine (join_any x0 c0 l0 _ HS.out HC.out HZ.out).mono ?_
          rintro e w2 ⟨rfl, hb⟩
          have HB2 := Lib.hid (HB1.out.trans (hb.mono HB1.out.size))
          have HS1 := Lib.hid (HS1.out.keepB hb)
          have HS := Lib.hid (HS.out.keepB hb)
          clear hb HB1
          go_wp2_with fail
          refine (rjoin_any x0 c0 l0 _ HS.out HZ.out H10.out).mono ?_
          rintro e w3 ⟨rfl, rfl⟩
          by_cases hea : (splitD a1).2 = 0
          · skip
            have HJ := Lib.hid (join_split hea)
            have HZ1 : Hid ((joinD (splitD a1).1).size ≤ 1000000) := by show _ ≤ _; rw [HJ.out]; exact Nat.le_trans H2.out (by decide)
            have HEQ : (joinD (splitD a1).1 : ByteArray) = a1 := HJ.out
            rw [hea]
            clear hea
            go_wp2_with fail
            refine (join_any xa xc (splitD a1).1 _ HS1.out HC1.out HZ1.out).mono ?_
            rintro e w3 ⟨rfl, hb⟩
            have HB3 := Lib.hid (HB2.out.trans (hb.mono HB2.out.size))
            rw [HEQ]
            clear HEQ
            clear hb HB2
            go_wp2_with fail
            refine (live_any _).mono ?_
            rintro e wl ⟨rfl, hb⟩
            have HL := Lib.hid (HB3.out.trans (hb.mono HB3.out.size))
            clear hb
            go_wp2
            go_ret
            exact ⟨rfl, HL.out⟩
          · have hne : ((splitD a1).2 != 0) = true := by simpa using hea
            clear hea
            go_wp2_with fail
            refine (live_any _).mono ?_
            rintro e wl ⟨rfl, hb⟩
            have HL := Lib.hid (HB2.out.trans (hb.mono HB2.out.size))
            clear hb
            go_wp2
            go_ret
            exact ⟨rfl, HL.out⟩
    · have d2 : ((2000 : Int) < (a1.size : Int)) = True := eq_true (by omega)
      clear h2 h1
      go_enter Tryd.func4, Tryd.ntmps4
      go_wp2_with fail
      refine (live_any _).mono ?_
      rintro e wl ⟨rfl, hb⟩
      have HL := Lib.hid hb
      clear hb
      go_wp2
      go_ret
      exact ⟨rfl, HL.out⟩
  · have d1 : ((30 : Int) < (l0.length : Int)) = True := eq_true (by omega)
    clear h1
    go_enter Tryd.func4, Tryd.ntmps4
    go_wp2_with fail
    refine (live_any _).mono ?_
    rintro e wl ⟨rfl, hb⟩
    have HL := Lib.hid hb
    clear hb
    go_wp2
    go_ret
    exact ⟨rfl, HL.out⟩
end Go.Proofs.YtjimjaimfejonaaDoor.pathJoins
