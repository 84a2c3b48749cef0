/-
  The contract of Ints (permafrostref01).
-/
import Derived.Test.YtjacogadmdjfcaaPlain
import Derived.Test.YtjacogadmdjfcaaFrame
import Derived.Lib.Hide
import Derived.Deep.QuietTactic
import Derived.BigQuiet
namespace Go.Proofs.Ytjacogadmdjfcaa
open Go.RowKit

theorem take_eq_succ {l m : List Int} {k : Nat} (h : l.take k = m.take k) (h1 : k < l.length) (h2 : k < m.length) (e : l[k] = m[k]) : l.take (k + 1) = m.take (k + 1) := by
  rw [List.take_succ_eq_append_getElem h1, List.take_succ_eq_append_getElem h2, h, e]

set_option maxRecDepth 100000 in
set_option maxHeartbeats 1000000 in
theorem ints_any (xa xb : Option Addr) (ca cb : Nat) (l m : List Int) (w : World) (hl : l.length ≤ maxLen) (hm : m.length ≤ maxLen) (h1 : Sl w (Value.int .i64) xa l) (h2 : Sl w (Value.int .i64) xb m) :
    Calls Try.prog 19 #[.slice xa l.length ca, .slice xb m.length cb] w fun e w' => e = .returned (.bool (decide (l = m))) ∧ Below w.heap.size w w' := by
  unfold maxLen at hl hm
  have H1 := Lib.hid h1
  have H2 := Lib.hid h2
  clear h1 h2
  by_cases hlen : l.length = m.length
  · have HLEN := Lib.hid hlen
    rw [hlen] at hl ⊢
    clear hlen
    go_enter Try.func19, Try.ntmps19
    go_wp2
    go_loopw [5] (fun i wr => ∃ k : Nat, k ≤ m.length ∧ i = .int .i64 k ∧ Hid (l.take k = m.take k) ∧ Hid (Below w.heap.size w wr)) (fun i _ => m.length - (intOf i).toNat)
    case atStart => exact ⟨0, Nat.zero_le _, rfl, rfl, Below.refl _ _⟩
    case round =>
      obtain ⟨k, hk, rfl, HT, HL⟩ := hrel
      by_cases hlt : k < m.length
      · have hltl : k < l.length := by rw [HLEN.out]; exact hlt
        obtain ⟨b1, o1, rfl, hb1, hc1⟩ := H1.out (by intro e; rw [e] at hltl; simp at hltl)
        obtain ⟨b2, o2, rfl, hb2, hc2⟩ := H2.out (by intro e; rw [e] at hlt; simp at hlt)
        have q1 : wr.cell? ⟨b1, o1 + k, none⟩ = some (.int .i64 l[k]) := by rw [HL.out.cell (p := ⟨b1, o1 + k, none⟩) hb1]; exact hc1 k _ (List.getElem?_eq_getElem hltl)
        have q2 : wr.cell? ⟨b2, o2 + k, none⟩ = some (.int .i64 m[k]) := by rw [HL.out.cell (p := ⟨b2, o2 + k, none⟩) hb2]; exact hc2 k _ (List.getElem?_eq_getElem hlt)
        have HS := Lib.hid (fun e : l[k] = m[k] => take_eq_succ HT.out hltl hlt e)
        have HN := Lib.hid (show l[k] ≠ m[k] → l ≠ m from fun h e => h (by subst e; rfl))
        have HDN : Hid (∀ nq, Below w.heap.size w (wr.drewN nq)) := fun nq => ⟨HL.out.os, HL.out.tape, HL.out.output, HL.out.size, HL.out.block⟩
        clear hc1 hc2
        generalize l[k] = x at *
        generalize m[k] = y at *
        clear hltl
        have hki : (0 : Int) ≤ (k : Int) := by omega
        have hkl : (k : Int) < (m.length : Int) := by omega
        by_cases hxy : x = y
        · subst hxy
          have HS2 := Lib.hid (HS.out rfl)
          go_wp2_with fail
          go_quiet (fail)
          go_wp2
          go_roundw
          case rel => exact ⟨k + 1, by omega, by go_num, HS2, HDN.out _⟩
          case measure => simp [intOf]; omega
        · have hb : (x != y) = true := by simp [hxy]
          have HF := Lib.hid (show decide (l = m) = false by simp [HN.out hxy])
          clear hxy
          go_wp2_with fail
          go_quiet (fail)
          go_wp2
          go_ret
          exact ⟨ret_bool HF.out.symm, HDN.out _⟩
      · have hkl : k = m.length := by omega
        subst hkl
        have HE : Hid (l = m) := by
          show l = m
          have := HT.out
          rw [List.take_length, List.take_of_length_le (by rw [HLEN.out]; exact Nat.le_refl _)] at this
          exact this
        clear hk
        go_wp2
        go_ret
        exact ⟨ret_bool (by simp [HE.out]), HL.out⟩
  · have hb : ((l.length : Int) != (m.length : Int)) = true := by simp; omega
    have HF := Lib.hid (show decide (l = m) = false by simp; intro e; exact hlen (by rw [e]))
    go_enter Try.func19, Try.ntmps19
    go_wp2
    go_ret
    exact ⟨ret_bool HF.out.symm, Below.refl _ _⟩
end Go.Proofs.Ytjacogadmdjfcaa
