/-
  The reference's Locs.
-/
import Derived.Test.YtflobdhhjfpcdaaRfL
namespace Go.Proofs.Ytflobdhhjfpcdaa
open Go.RowKit

def sameR (a b : List (Int × Int)) : Bool := decide (a = b)
set_option maxHeartbeats 1000000 in
theorem rflocs_any (x y : Option Addr) (cx cy : Nat) (a b : List (Int × Int)) (w : World) (ha : SlP w x a) (hb : SlP w y b) (la : a.length ≤ 1000) (_lb : b.length ≤ 1000) :
    Calls Try.prog 9 #[.slice x a.length cx, .slice y b.length cy] w fun e w' => e = .returned (.bool (sameR a b)) ∧ Below w.heap.size w w' := by
  have HA := Lib.hid ha
  have HB := Lib.hid hb
  clear ha hb
  by_cases hlen : a.length = b.length
  · go_enter Try.func9, Try.ntmps9
    go_wp2
    go_loopw [5] (fun i wr => ∃ k : Nat, k ≤ a.length ∧ i = .int .i64 k ∧ Hid (a.take k = b.take k) ∧ Hid (Below w.heap.size w wr)) (fun i _ => a.length - (RowKit.intOf i).toNat)
    case atStart => exact ⟨0, Nat.zero_le _, rfl, Lib.hid rfl, Below.refl _ _⟩
    case round =>
      obtain ⟨k, hk, rfl, HN, HL⟩ := hrel
      by_cases hlt : k < a.length
      · have hltb : k < b.length := by omega
        obtain ⟨b1, o1, rfl, hb1, hc0, hc1⟩ := (HA.out.keep HL.out).get k hlt
        obtain ⟨b2, o2, rfl, hb2, hd0, hd1⟩ := (HB.out.keep HL.out).get k hltb
        have T1 := Lib.hid (List.take_succ_eq_append_getElem hlt)
        have T2 := Lib.hid (List.take_succ_eq_append_getElem hltb)
        have G1 := Lib.hid (List.getElem?_eq_getElem hlt)
        have G2 := Lib.hid (List.getElem?_eq_getElem hltb)
        generalize a[k] = u at *
        generalize b[k] = v at *
        obtain ⟨u1, u2⟩ := u
        obtain ⟨v1, v2⟩ := v
        simp only at hc0 hc1 hd0 hd1
        by_cases huv : u1 = v1 ∧ u2 = v2
        · obtain ⟨rfl, rfl⟩ := huv
          have hq : ∀ w, (Op.equalIn 10000 29 (.agg #[.int .i64 u1, .int .i64 u2]) (.agg #[.int .i64 u1, .int .i64 u2])).run Try.prog w = .ok true w := fun w => by rw [eqLocD]; simp
          go_wp2_with fail
          go_region
          clear hq hc0 hc1 hd0 hd1
          go_wp2
          go_roundw
          case rel => exact ⟨k + 1, by omega, by go_num, Lib.hid (by rw [T1.out, T2.out, HN.out]), HL.out.drew⟩
          case measure => simp [RowKit.intOf]; omega
        · have hq : ∀ w, (Op.equalIn 10000 29 (.agg #[.int .i64 u1, .int .i64 u2]) (.agg #[.int .i64 v1, .int .i64 v2])).run Try.prog w = .ok false w := fun w => by
            rw [eqLocD]
            congr 1
            cases h : (u1 == v1 && u2 == v2)
            · rfl
            · simp at h; exact absurd h huv
          have HU := Lib.hid huv
          clear huv
          go_wp2_with fail
          go_region
          clear hq hc0 hc1 hd0 hd1
          go_wp2
          go_ret
          refine ⟨ret_bool (Eq.symm (decide_eq_false fun h => ?_)), HL.out.drew⟩
          have h1 := G1.out
          rw [h, G2.out] at h1
          injection h1 with h1
          injection h1 with h1 h2
          exact HU.out ⟨h1.symm, h2.symm⟩
      · have hkl : k = a.length := by omega
        subst hkl
        have HE : Hid (a = b) := by
          have := HN.out
          rw [hlen, List.take_length, ← hlen, List.take_length] at this
          exact this
        go_wp2
        go_ret
        exact ⟨ret_bool (Eq.symm (decide_eq_true HE.out)), HL.out⟩
  · have HE : Hid (sameR a b = false) := decide_eq_false fun h => hlen (by rw [h])
    have hq : ((a.length : Int) != (b.length : Int)) = true := by rw [bne_iff_ne]; omega
    rw [HE.out]
    clear HE hlen
    go_enter Try.func9, Try.ntmps9
    go_wp2
    go_ret
    exact ⟨rfl, Below.refl _ _⟩

end Go.Proofs.Ytflobdhhjfpcdaa
