/-
  Contracts of package dev: check.
-/
import Derived.Test.YtflobdhhjfpcdaaDevA
import Derived.Deep.QuietTactic
namespace Go.Proofs.Ytflobdhhjfpcdaa
open Go.RowKit

def locV (l : Int × Int) : Value := .agg #[.int .i64 l.1, .int .i64 l.2]
def chkD (d : DevD) (l : Int × Int) (n : Nat) : Int :=
  if l.2 < 0 ∨ (devSize d l.1 : Int) ≤ l.2 ∨ 1024 < n then 1 else if devLost d l.1 then 5 else 0

theorem dcheck_nil (l : Int × Int) (s : ByteArray) (w : World) : Calls Try.prog 29 #[.pointer none, locV l, .string s] w fun e w' => e = .returned (.int .i64 1) ∧ Below w.heap.size w w' := by
  obtain ⟨a, b⟩ := l
  have hx := Lib.hid ((Below.refl w.heap.size w).alloc (Nat.le_refl _) (.cells #[.int .i64 a, .int .i64 b] 29 (0, 0)))
  have k0 : (w.alloc (.cells #[.int .i64 a, .int .i64 b] 29 (0, 0))).cell? ⟨w.heap.size, 0, none⟩ = some (.int .i64 a) := boxed0 _ _ _ _ 0 _ rfl
  have k1 : (w.alloc (.cells #[.int .i64 a, .int .i64 b] 29 (0, 0))).cell? ⟨w.heap.size, 1, none⟩ = some (.int .i64 b) := boxed0 _ _ _ _ 1 _ rfl
  unfold locV
  by_cases h : b < 0
  · have hd : decide (b < 0) = true := decide_eq_true h
    clear h
    go_enter Try.func29, Try.ntmps29
    go_wp2_with fail
    generalize World.alloc _ _ = wx at *
    go_region
    go_wp2
    go_ret
    exact ⟨rfl, hx.out.drew⟩
  · have hd : decide (b < 0) = false := decide_eq_false h
    have hd2 : decide (0 ≤ b) = true := decide_eq_true (by omega)
    clear h
    go_enter Try.func29, Try.ntmps29
    go_wp2_with fail
    generalize World.alloc _ _ = wx at *
    go_quiet ((go_at_call 14; exact Calls.quiet_of_same ((dsize_nil _ _).mono fun e w' h => ⟨h.1, h.2.symm⟩)))
    go_wp2
    go_ret
    exact ⟨rfl, ⟨hx.out.os, hx.out.tape, hx.out.output, hx.out.size, hx.out.block⟩⟩

set_option maxRecDepth 100000 in
set_option maxHeartbeats 1000000 in
theorem dcheck_any (p : DevP) (d : DevD) (l : Int × Int) (s : ByteArray) (w : World) (h : DevAt w p d) : Calls Try.prog 29 #[.pointer (some ⟨p.b, 0, none⟩), locV l, .string s] w fun e w' => e = .returned (.int .i64 (chkD d l s.size)) ∧ Below w.heap.size w w' := by
  obtain ⟨a, b⟩ := l
  have hx := Lib.hid ((Below.refl w.heap.size w).alloc (Nat.le_refl _) (.cells #[.int .i64 a, .int .i64 b] 29 (0, 0)))
  have k0 : (w.alloc (.cells #[.int .i64 a, .int .i64 b] 29 (0, 0))).cell? ⟨w.heap.size, 0, none⟩ = some (.int .i64 a) := boxed0 _ _ _ _ 0 _ rfl
  have k1 : (w.alloc (.cells #[.int .i64 a, .int .i64 b] 29 (0, 0))).cell? ⟨w.heap.size, 1, none⟩ = some (.int .i64 b) := boxed0 _ _ _ _ 1 _ rfl
  have HX := Lib.hid (h.chg (Chg.of (S := []) hx.out (Nat.le_refl _)) (fun _ _ hm => by cases hm))
  have HU : Hid (chkD d (a, b) s.size = if b < 0 ∨ (devSize d a : Int) ≤ b ∨ 1024 < s.size then 1 else if devLost d a then 5 else 0) := rfl
  clear h
  unfold locV
  by_cases h0 : b < 0
  · rw [HU.out, if_pos (Or.inl h0)]
    have hd : decide (b < 0) = true := decide_eq_true h0
    clear h0
    go_enter Try.func29, Try.ntmps29
    go_wp2_with fail
    generalize World.alloc _ _ = wx at *
    go_region
    go_wp2
    go_ret
    exact ⟨rfl, ⟨hx.out.os, hx.out.tape, hx.out.output, hx.out.size, hx.out.block⟩⟩
  · by_cases h1 : (devSize d a : Int) ≤ b
    · rw [HU.out, if_pos (Or.inr (Or.inl h1))]
      have hd : decide (b < 0) = false := decide_eq_false h0
      have hd2 : decide ((devSize d a : Int) ≤ b) = true := decide_eq_true h1
      obtain ⟨n, hn⟩ : ∃ n, n = devSize d a := ⟨_, rfl⟩
      clear h0 h1 hn
      go_enter Try.func29, Try.ntmps29
      go_wp2_with fail
      generalize World.alloc _ _ = wx at *
      go_quiet ((go_at_call 14; exact Calls.quiet_of_same ((dsize_any p d _ _ (by exact HX.out.drewN _)).mono fun e w' h => ⟨h.1, h.2.symm⟩)))
      go_wp2
      go_ret
      exact ⟨rfl, ⟨hx.out.os, hx.out.tape, hx.out.output, hx.out.size, hx.out.block⟩⟩
    · by_cases h2 : 1024 < s.size
      · rw [HU.out, if_pos (Or.inr (Or.inr h2))]
        have hd : decide (b < 0) = false := decide_eq_false h0
        have hd2 : decide ((devSize d a : Int) ≤ b) = false := decide_eq_false h1
        have hd3 : (1024 : Int) < s.size := by omega
        clear h0 h1 h2
        go_enter Try.func29, Try.ntmps29
        go_wp2_with fail
        generalize World.alloc _ _ = wx at *
        go_quiet ((go_at_call 14; exact Calls.quiet_of_same ((dsize_any p d _ _ (by exact HX.out.drewN _)).mono fun e w' h => ⟨h.1, h.2.symm⟩)))
        go_wp2
        go_ret
        exact ⟨rfl, ⟨hx.out.os, hx.out.tape, hx.out.output, hx.out.size, hx.out.block⟩⟩
      · rw [HU.out, if_neg (by omega)]
        have hd : decide (b < 0) = false := decide_eq_false h0
        have hd2 : decide ((devSize d a : Int) ≤ b) = false := decide_eq_false h1
        have hd3 : (s.size : Int) ≤ 1024 := by omega
        have ha : a = 0 ∨ a = 1 := by
          by_cases h3 : a = 0 ∨ a = 1
          · exact h3
          · unfold devSize at h1
            rw [if_neg (by omega), if_neg (by omega)] at h1
            simp at h1; omega
        have c2 : (w.alloc (.cells #[.int .i64 a, .int .i64 b] 29 (0, 0))).cell? ⟨p.b, 2, none⟩ = some (.bool d.s0.lost) := HX.out.box.cell 2 _ rfl
        have c5 : (w.alloc (.cells #[.int .i64 a, .int .i64 b] 29 (0, 0))).cell? ⟨p.b, 5, none⟩ = some (.bool d.s1.lost) := HX.out.box.cell 5 _ rfl
        clear h0 h1 h2
        rcases ha with rfl | rfl
        · rw [show devLost d 0 = d.s0.lost from rfl]
          cases hl : d.s0.lost
          all_goals
            rw [hl] at c2
            have HLo := Lib.hid hl
            clear hl c5
            go_enter Try.func29, Try.ntmps29
            go_wp2_with fail
            generalize World.alloc _ _ = wx at *
            go_quiet ((go_at_call 14; exact Calls.quiet_of_same ((dsize_any p d _ _ (by exact HX.out.drewN _)).mono fun e w' h => ⟨h.1, h.2.symm⟩)))
            go_wp2_with fail
            go_region
            go_wp2
            go_ret
            exact ⟨rfl, ⟨hx.out.os, hx.out.tape, hx.out.output, hx.out.size, hx.out.block⟩⟩
        · rw [show devLost d 1 = d.s1.lost from rfl]
          cases hl : d.s1.lost
          all_goals
            rw [hl] at c5
            have HLo := Lib.hid hl
            clear hl c2
            go_enter Try.func29, Try.ntmps29
            go_wp2_with fail
            generalize World.alloc _ _ = wx at *
            go_quiet ((go_at_call 14; exact Calls.quiet_of_same ((dsize_any p d _ _ (by exact HX.out.drewN _)).mono fun e w' h => ⟨h.1, h.2.symm⟩)))
            go_wp2_with fail
            go_region
            go_wp2
            go_ret
            exact ⟨rfl, ⟨hx.out.os, hx.out.tape, hx.out.output, hx.out.size, hx.out.block⟩⟩
end Go.Proofs.Ytflobdhhjfpcdaa
