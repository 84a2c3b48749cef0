/-
  The contract of ptr.Check.
-/
import Derived.Test.YtbdnkmkagglmhaaPtrPlain
namespace Go.Proofs.Ytbdnkmkagglmhaa
open Go.RowKit

theorem within_any (n most : Int) (w : World) : Calls Try.prog 65 #[.int .i64 n, .int .i64 most] w fun e w' => e = .returned (.bool (decide (0 ≤ n ∧ n ≤ most))) ∧ w = w' := by
  by_cases h : 0 ≤ n
  · have e : decide (0 ≤ n ∧ n ≤ most) = decide (n ≤ most) := by simp [h]
    rw [e]
    clear e
    go_enter Try.func65, Try.ntmps65
    go_wp2
    go_ret
    exact ⟨rfl, rfl⟩
  · have e : decide (0 ≤ n ∧ n ≤ most) = false := by simp; omega
    rw [e]
    clear e
    go_enter Try.func65, Try.ntmps65
    go_wp2
    go_ret
    exact ⟨rfl, rfl⟩

theorem some_any (n : Int) (w : World) : Calls Try.prog 62 #[.int .i64 n] w fun e w' => e = .returned (.bool (decide (1 ≤ n ∧ n ≤ 2))) ∧ w = w' := by
  by_cases h : 1 ≤ n
  · have e : decide (1 ≤ n ∧ n ≤ 2) = decide (n ≤ 2) := by simp [h]
    rw [e]
    clear e
    go_enter Try.func62, Try.ntmps62
    go_wp2
    go_ret
    exact ⟨rfl, rfl⟩
  · have e : decide (1 ≤ n ∧ n ≤ 2) = false := by simp; omega
    rw [e]
    clear e
    go_enter Try.func62, Try.ntmps62
    go_wp2
    go_ret
    exact ⟨rfl, rfl⟩

theorem nowhere_any (x : Int × Int) (w : World) : Calls Try.prog 64 #[.agg #[.int .i64 x.1, .int .i64 x.2]] w fun e w' => e = .returned (.bool (decide (nowhereP x))) ∧ Below w.heap.size w w' := by
  obtain ⟨d, at'⟩ := x
  by_cases h : d ≠ 0 ∧ d ≠ 1
  · have e : decide (nowhereP (d, at')) = true := by unfold nowhereP; simp [h]
    obtain ⟨h0, h1⟩ := h
    have h0' : (d != 0) = true := by simp [h0]
    have h1' : (d != 1) = true := by simp [h1]
    rw [e]
    clear e h0 h1
    go_enter Try.func64, Try.ntmps64
    go_wp2
    go_ret
    exact ⟨rfl, (Below.refl _ _).alloc (Nat.le_refl _) _⟩
  · have e : decide (nowhereP (d, at')) = !decide (0 ≤ at' ∧ at' ≤ 511) := by unfold nowhereP; simp only [h, false_or, decide_not]
    rw [e]
    clear e
    have hd : d = 0 ∨ d = 1 := by omega
    clear h
    rcases hd with rfl | rfl
    all_goals
      go_enter Try.func64, Try.ntmps64
      go_wp2_with fail
      refine (within_any at' 511 _).mono ?_
      rintro e w' ⟨rfl, rfl⟩
      go_wp2
      go_ret
      exact ⟨ret_bool (by rw [Bool.decide_and, Bool.not_and]), (Below.refl _ _).alloc (Nat.le_refl _) _⟩

theorem index_nowhere (a : Option Addr) (cap : Nat) (l : List (Int × Int)) (w : World) (h : SlP w a l) (hl : l.length ≤ 1000) :
    Calls Try.prog 80 #[.slice a l.length cap, .func (.func 64) #[] #[]] w fun e w' =>
      ∃ r : Int, e = .returned (.int .i64 r) ∧ (0 ≤ r ↔ ∃ x ∈ l, nowhereP x) ∧ Below w.heap.size w w' := by
  have H := Lib.hid h
  clear h
  go_enter Try.func80, Try.ntmps80
  go_wp2
  go_loopw [5, 8] (fun _ i wr => ∃ k : Nat, k ≤ l.length ∧ i = .int .i64 k ∧ Hid (∀ x ∈ l.take k, ¬ nowhereP x) ∧ Hid (Below w.heap.size w wr)) (fun _ i _ => l.length - (intOf i).toNat)
  case atStart => exact ⟨0, Nat.zero_le _, rfl, Lib.hid (fun x hx => by simp at hx), Below.refl _ _⟩
  case round =>
    obtain ⟨k, hk, rfl, HN, HL⟩ := hrel
    by_cases hlt : k < l.length
    · obtain ⟨b, off, rfl, hb, hc0, hc1⟩ := (H.out.keep HL.out).get k hlt
      have HT := Lib.hid (List.take_succ_eq_append_getElem hlt)
      have HM := Lib.hid (List.getElem_mem hlt)
      generalize l[k] = x at *
      by_cases hx : nowhereP x
      · have Hx := Lib.hid hx
        have hd : decide (nowhereP x) = true := decide_eq_true hx
        go_wp2_with fail
        refine (nowhere_any x _).mono ?_
        rintro e w1 ⟨rfl, hb1⟩
        rw [hd]
        have HB := Lib.hid (HL.out.trans (hb1.mono HL.out.size))
        clear hx hb1 hc0 hc1 hd
        go_wp2
        go_ret
        exact ⟨k, rfl, ⟨fun _ => ⟨x, HM.out, Hx.out⟩, fun _ => by omega⟩, HB.out⟩
      · have Hx := Lib.hid hx
        have hd : decide (nowhereP x) = false := decide_eq_false hx
        go_wp2_with fail
        refine (nowhere_any x _).mono ?_
        rintro e w1 ⟨rfl, hb1⟩
        rw [hd]
        have HB := Lib.hid (HL.out.trans (hb1.mono HL.out.size))
        clear hx hb1 hc0 hc1 hd
        go_wp2
        go_roundw
        case rel => exact ⟨k + 1, by omega, by go_num, by show ∀ y ∈ _, _; rw [HT.out]; intro y hy; rcases List.mem_append.1 hy with hy | hy; exact HN.out y hy; rw [List.mem_singleton.1 hy]; exact Hx.out, HB⟩
        case measure => simp [intOf]; omega
    · have hkl : k = l.length := by omega
      subst hkl
      rw [List.take_length] at HN
      go_wp2
      go_ret
      exact ⟨-1, rfl, ⟨fun h => absurd h (by decide), fun ⟨x, hx, hn⟩ => absurd hn (HN.out x hx)⟩, HL.out⟩

theorem contains_nowhere (a : Option Addr) (cap : Nat) (l : List (Int × Int)) (w : World) (h : SlP w a l) (hl : l.length ≤ 1000) :
    Calls Try.prog 63 #[.slice a l.length cap, .func (.func 64) #[] #[]] w fun e w' =>
      e = .returned (.bool (decide (∃ x ∈ l, nowhereP x))) ∧ Below w.heap.size w w' := by
  have H := Lib.hid h
  clear h
  go_enter Try.func63, Try.ntmps63
  go_wp2_with fail
  refine (index_nowhere a cap l _ H.out hl).mono ?_
  rintro e w1 ⟨r, rfl, hr, hb⟩
  have HR := Lib.hid hr
  have HB := Lib.hid hb
  clear hr hb
  go_wp2
  go_ret
  exact ⟨ret_bool (decide_eq_decide.2 HR.out), HB.out⟩
end Go.Proofs.Ytbdnkmkagglmhaa
