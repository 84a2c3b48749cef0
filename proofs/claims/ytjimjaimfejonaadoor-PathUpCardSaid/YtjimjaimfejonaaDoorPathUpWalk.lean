/-
  The walk of PathUp.
-/
import Derived.Test.YtjimjaimfejonaaDoorPathLive
import Derived.Test.YtjimjaimfejonaaDoorFrame
import Derived.Test.YtjimjaimfejonaaDoorPathV
namespace Go.Proofs.YtjimjaimfejonaaDoor.pathUp
open Go Go.RowKit

set_option maxRecDepth 100000 in
set_option maxHeartbeats 2000000 in
theorem walk (w : World) (a0 : ByteArray) (_ : a0.size ≤ 140737488351232) : Calls Tryd.prog 7 #[.string a0] w fun e w' => e = .returned (.bool true) ∧ Below w.heap.size w w' := by
  by_cases h1 : a0.size ≤ 500
  · have d1 : ((500 : Int) < (a0.size : Int)) = False := eq_false (by omega)
    have H1 := Lib.hid (show a0.size ≤ 100000 by omega)
    have HLN := Lib.hid (show (splitD a0).1.length ≤ 501 from Nat.le_trans (split_len a0) (by omega))
    by_cases hea : (splitD a0).2 = 0
    · have HJ := Lib.hid (join_split hea)
      have HNM := Lib.hid (names_ok hea)
      have HJS : Hid ((joinD (splitD a0).1).size ≤ 500) := by show _ ≤ _; rw [HJ.out]; exact h1
      have HE := Lib.hid hea
      clear h1 hea
      go_enter Tryd.func7, Tryd.ntmps7
      go_wp2_with fail
      refine (split_any a0 H1.out _).mono ?_
      rintro e w1 ⟨v, rfl, hk1, hb⟩
      obtain ⟨xa, xc, rfl, hs1, _⟩ := hk1.shape
      have HS := Lib.hid hs1
      have HB := Lib.hid hb
      rw [HE.out]
      clear hk1 hs1 hb HE
      generalize (splitD a0).1 = l at *
      rw [← HJ.out]
      clear d1 HJ H1
      have hl5 : l.length ≤ 501 := HLN.out
      go_wp2
      go_loopw [5, 6, 7, 8, 9] (fun at_ i _ _ _ wr => ∃ k : Nat, k ≤ l.length ∧ i = .int .i64 k ∧ at_ = .string (joinD (l.take (l.length - k))) ∧ Hid (Below w.heap.size w wr) ∧ Hid (Below w1.heap.size w1 wr)) (fun _ i _ _ _ _ => l.length - (intOf i).toNat)
      case atStart => exact ⟨0, Nat.zero_le _, rfl, by rw [Nat.sub_zero, List.take_length], HB.out, Below.refl _ _⟩
      case round =>
        obtain ⟨k, hk, rfl, rfl, HL, HL1⟩ := hrel
        by_cases hlt : k < l.length
        · obtain ⟨m, hm⟩ : ∃ m, l.length - k = m + 1 := ⟨l.length - k - 1, by omega⟩
          have hml : m < l.length := by omega
          have HSk := Lib.hid (HS.out.keepB HL1.out)
          obtain ⟨b, off, rfl, hb, hcell⟩ := HSk.out (by intro e; rw [e] at hlt; cases hlt)
          have q1 : wr.cell? ⟨b, off + m, none⟩ = some (.string l[m]) := hcell m _ (List.getElem?_eq_getElem hml)
          have HP := Lib.hid (up_parent HNM.out hml)
          have HZ : Hid ((joinD (l.take (m + 1))).size ≤ 5000) := Nat.le_trans (join_take_le l (m + 1)) (Nat.le_trans HJS.out (by decide))
          have HEQ : Hid (l.length - (k + 1) = m) := by show _ = _; omega
          have hw1 : IntKind.i64.wrap ((l.length : Int) - 1) = (l.length : Int) - 1 := i64_small _ (by omega) (by omega)
          have hw2 : IntKind.i64.wrap ((l.length : Int) - 1 - (k : Int)) = (m : Int) := by rw [show (l.length : Int) - 1 - (k : Int) = m by omega]; exact i64_small _ (by omega) (by omega)
          have hmi : (m : Int) < (l.length : Int) := by omega
          have hmz : (0 : Int) ≤ (m : Int) := by omega
          rw [hm]
          clear hcell
          go_wp2_with fail
          refine (parent_any _ HZ.out _).mono ?_
          rintro e w2 ⟨rfl, hbb⟩
          rw [HP.out]
          unfold parV
          dsimp only
          have q1 : w2.cell? ⟨b, off + m, none⟩ = some (.string l[m]) := (hbb.cell (p := ⟨b, off + m, none⟩) hb).trans q1
          have HL2 := Lib.hid (HL.out.trans (hbb.mono HL.out.size))
          have HL3 := Lib.hid (HL1.out.trans (hbb.mono HL1.out.size))
          clear hbb
          generalize l[m] = x at *
          go_wp2
          go_roundw
          case rel => exact ⟨k + 1, by omega, by go_num, by rw [HEQ.out], HL2, HL3⟩
          case measure => simp [intOf]; omega
        · have hke : k = l.length := by omega
          subst hke
          rw [Nat.sub_self, List.take_zero, pJ]
          go_wp2_with fail
          refine (live_any _).mono ?_
          rintro e wl ⟨rfl, hb⟩
          have HL := Lib.hid (HL.out.trans (hb.mono HL.out.size))
          clear hb
          go_wp2
          go_ret
          exact ⟨rfl, HL.out⟩
    · have hne : ((splitD a0).2 != 0) = true := by simpa using hea
      clear h1 hea
      go_enter Tryd.func7, Tryd.ntmps7
      go_wp2_with fail
      refine (split_any a0 H1.out _).mono ?_
      rintro e w1 ⟨v, rfl, hk1, hb⟩
      obtain ⟨xa, xc, rfl, _, _⟩ := hk1.shape
      have HB := Lib.hid hb
      clear hk1 hb
      go_wp2_with fail
      refine (live_any _).mono ?_
      rintro e wl ⟨rfl, hb⟩
      have HL := Lib.hid (HB.out.trans (hb.mono HB.out.size))
      clear hb
      go_wp2
      go_ret
      exact ⟨rfl, HL.out⟩
  · have d1 : ((500 : Int) < (a0.size : Int)) = True := eq_true (by omega)
    clear h1
    go_enter Tryd.func7, Tryd.ntmps7
    go_wp2_with fail
    refine (live_any _).mono ?_
    rintro e wl ⟨rfl, hb⟩
    have HL := Lib.hid hb
    clear hb
    go_wp2
    go_ret
    exact ⟨rfl, HL.out⟩
end Go.Proofs.YtjimjaimfejonaaDoor.pathUp
