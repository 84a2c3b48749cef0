/-
  Contracts of package space's statements: own, told.
-/
import Derived.Test.YtmndeohhanbjkaaPairs
import Derived.Deep.RegionHeld3
import Derived.Deep.QuietTactic
import Derived.BigQuiet
import Derived.Lib.Hide
namespace Go.Proofs.Ytmndeohhanbjkaa
open Go.RowKit Go.ChangeShapes Go.WideShapes Go.ChangeAt
theorem two_S : Two 46 := by unfold Two; kernel_rfl
theorem two_R : Two 39 := by unfold Two; kernel_rfl
theorem snoc_take {α : Type} (l : List α) (k : Nat) (h : k < l.length) : l.take (k + 1) = l.take k ++ [l[k]] := List.take_succ_eq_append_getElem h

set_option maxRecDepth 100000 in
set_option maxHeartbeats 1000000 in
theorem own_any (a : Option Addr) (cap : Nat) (l : List (Int × Int)) (w : World) (h : SlP w a l) (hl : l.length ≤ 1000) :
    Calls Try.prog 9 #[.slice a l.length cap] w fun e w' => ∃ v, e = .returned v ∧ Prs 46 w' w.heap.size v l ∧ Below w.heap.size w w' := by
  have H := Lib.hid h
  clear h
  go_enter Try.func9, Try.ntmps9
  go_wp2
  go_loopw [3, 4] (fun s i wr => ∃ (k : Nat) (v : Value), k ≤ l.length ∧ i = .int .i64 k ∧ s = v ∧ Hid (Prs 46 wr w.heap.size v (l.take k)) ∧ Hid (Below w.heap.size w wr)) (fun _ i _ => l.length - (intOf i).toNat)
  case atStart => exact ⟨0, _, Nat.zero_le _, rfl, rfl, Prs.nil _ _ _, Below.refl _ _⟩
  case round =>
    obtain ⟨k, v, hk, rfl, rfl, HP, HL⟩ := hrel
    by_cases hlt : k < l.length
    · obtain ⟨b, off, rfl, hb, hc0, hc1⟩ := H.out.get k hlt
      have HT := Lib.hid (snoc_take l k hlt)
      have hlk : (l.take k).length ≤ 1000 := by rw [List.length_take]; omega
      generalize l.take k = p at *
      generalize l[k] = x at *
      have hk0 : (0 : Int) ≤ (k : Int) := by omega
      have hkl : (k : Int) < (l.length : Int) := by omega
      have ha : Below wr.heap.size wr (wr.alloc (.cells #[.int .i64 x.1, .int .i64 x.2] 46 (0, 0))).drew := ((Below.refl _ _).alloc (Nat.le_refl _) _).drew
      have BX : Hid (Box (wr.alloc (.cells #[.int .i64 x.1, .int .i64 x.2] 46 (0, 0))).drew wr.heap.size 46 #[.int .i64 x.1, .int .i64 x.2]) := Box.new wr 46 #[.int .i64 x.1, .int .i64 x.2]
      have HP2 := Lib.hid (HP.out.keep ha)
      have HL2 := Lib.hid (HL.out.trans (ha.mono HL.out.size))
      have HAT : Hid (∀ W, Below w.heap.size w W → W.cell? ⟨b, off + k * 2, none⟩ = some (.int .i64 x.1) ∧ W.cell? ⟨b, off + k * 2 + 1, none⟩ = some (.int .i64 x.2)) := fun W hW => ⟨(hW.cell (p := ⟨b, _, none⟩) hb).trans hc0, (hW.cell (p := ⟨b, _, none⟩) hb).trans hc1⟩
      have HC := Lib.hid (HAT.out wr.drew HL.out.drew)
      have HC2 := Lib.hid (HAT.out _ HL2.out)
      clear ha hb HP HL hc0 hc1
      go_wp2_with fail
      go_region_held3 (fun w' => w'.cell? ⟨b, off + k * 2, none⟩ = some (.int .i64 x.1) ∧ w'.cell? ⟨b, off + k * 2 + 1, none⟩ = some (.int .i64 x.2)) (first | with_reducible exact HC.out | with_reducible exact HC2.out)
        ((refine step_prs_app Try.underlying25 two_S (by rfl) (.tmp 11) (.tmp 23) (by rfl) w.heap.size _ p (by rfl) (by exact HP2.out) ⟨wr.heap.size, 0, none⟩ 1 [x] (by rfl) (by intro j u hj; rw [add_plain, Nat.zero_add]; exact BX.out.cell j u (by simpa [PrV] using hj)) (by simp; omega) (by exact HL2.out.size) ?_; intro v' w2 hp hg; have HP3 := Lib.hid hp; have HL3 := Lib.hid (below_grow HL2.out hg HP2.out HL2.out.size); have HC2 := Lib.hid (HAT.out w2 HL3.out); clear hp hg HP2 HL2 BX))
      go_wp2
      go_roundw
      case rel => exact ⟨k + 1, _, by omega, by go_num, rfl, by show Prs _ _ _ _ _; rw [HT.out]; exact HP3.out, HL3⟩
      case measure => simp [intOf]; omega
    · obtain rfl : k = l.length := by omega
      rw [List.take_length] at HP
      go_wp2
      go_ret
      exact ⟨_, rfl, HP.out, HL.out⟩

set_option maxRecDepth 100000 in
set_option maxHeartbeats 1000000 in
theorem told_any (a : Option Addr) (cap : Nat) (l : List (Int × Int)) (w : World) (h : SlP w a l) (hl : l.length ≤ 1000) :
    Calls Try.prog 17 #[.slice a l.length cap] w fun e w' => ∃ v, e = .returned v ∧ Prs 39 w' w.heap.size v l ∧ Below w.heap.size w w' := by
  have H := Lib.hid h
  clear h
  go_enter Try.func17, Try.ntmps17
  go_wp2
  go_loopw [3, 4] (fun s i wr => ∃ (k : Nat) (v : Value), k ≤ l.length ∧ i = .int .i64 k ∧ s = v ∧ Hid (Prs 39 wr w.heap.size v (l.take k)) ∧ Hid (Below w.heap.size w wr)) (fun _ i _ => l.length - (intOf i).toNat)
  case atStart => exact ⟨0, _, Nat.zero_le _, rfl, rfl, Prs.nil _ _ _, Below.refl _ _⟩
  case round =>
    obtain ⟨k, v, hk, rfl, rfl, HP, HL⟩ := hrel
    by_cases hlt : k < l.length
    · obtain ⟨b, off, rfl, hb, hc0, hc1⟩ := H.out.get k hlt
      have HT := Lib.hid (snoc_take l k hlt)
      have hlk : (l.take k).length ≤ 1000 := by rw [List.length_take]; omega
      generalize l.take k = p at *
      generalize l[k] = x at *
      have hk0 : (0 : Int) ≤ (k : Int) := by omega
      have hkl : (k : Int) < (l.length : Int) := by omega
      have ha : Below wr.heap.size wr (wr.alloc (.cells #[.int .i64 x.1, .int .i64 x.2] 39 (0, 0))).drew := ((Below.refl _ _).alloc (Nat.le_refl _) _).drew
      have BX : Hid (Box (wr.alloc (.cells #[.int .i64 x.1, .int .i64 x.2] 39 (0, 0))).drew wr.heap.size 39 #[.int .i64 x.1, .int .i64 x.2]) := Box.new wr 39 #[.int .i64 x.1, .int .i64 x.2]
      have HP2 := Lib.hid (HP.out.keep ha)
      have HL2 := Lib.hid (HL.out.trans (ha.mono HL.out.size))
      have HAT : Hid (∀ W, Below w.heap.size w W → W.cell? ⟨b, off + k * 2, none⟩ = some (.int .i64 x.1) ∧ W.cell? ⟨b, off + k * 2 + 1, none⟩ = some (.int .i64 x.2)) := fun W hW => ⟨(hW.cell (p := ⟨b, _, none⟩) hb).trans hc0, (hW.cell (p := ⟨b, _, none⟩) hb).trans hc1⟩
      have HC := Lib.hid (HAT.out wr.drew HL.out.drew)
      have HC2 := Lib.hid (HAT.out _ HL2.out)
      clear ha hb HP HL hc0 hc1
      go_wp2_with fail
      go_region_held3 (fun w' => w'.cell? ⟨b, off + k * 2, none⟩ = some (.int .i64 x.1) ∧ w'.cell? ⟨b, off + k * 2 + 1, none⟩ = some (.int .i64 x.2)) (first | with_reducible exact HC.out | with_reducible exact HC2.out)
        ((refine step_prs_app Try.underlying22 two_R (by rfl) (.tmp 11) (.tmp 23) (by rfl) w.heap.size _ p (by rfl) (by exact HP2.out) ⟨wr.heap.size, 0, none⟩ 1 [x] (by rfl) (by intro j u hj; rw [add_plain, Nat.zero_add]; exact BX.out.cell j u (by simpa [PrV] using hj)) (by simp; omega) (by exact HL2.out.size) ?_; intro v' w2 hp hg; have HP3 := Lib.hid hp; have HL3 := Lib.hid (below_grow HL2.out hg HP2.out HL2.out.size); have HC2 := Lib.hid (HAT.out w2 HL3.out); clear hp hg HP2 HL2 BX))
      go_wp2
      go_roundw
      case rel => exact ⟨k + 1, _, by omega, by go_num, rfl, by show Prs _ _ _ _ _; rw [HT.out]; exact HP3.out, HL3⟩
      case measure => simp [intOf]; omega
    · obtain rfl : k = l.length := by omega
      rw [List.take_length] at HP
      go_wp2
      go_ret
      exact ⟨_, rfl, HP.out, HL.out⟩
end Go.Proofs.Ytmndeohhanbjkaa
