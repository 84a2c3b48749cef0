/-
  Contracts of package space's statements: Total.
-/
import Derived.Test.YtmndeohhanbjkaaSpaceRMay
import Derived.Deep.RegionHeld3
import Derived.Deep.QuietTactic
import Derived.BigQuiet
import Derived.Lib.Hide
namespace Go.Proofs.Ytmndeohhanbjkaa
open Go.RowKit Go.ChangeShapes Go.WideShapes Go.ChangeAt

def sumN : List (Int × Int) → Int
  | [] => 0
  | x :: r => x.2 + sumN r
def totL (l : List (Int × Int)) : Int := if mayL l = true then sumN l else 0
/-- A run that may be. -/
def MayR (x : Int × Int) : Prop := 0 ≤ x.1 ∧ 1 ≤ x.2 ∧ x.1 + x.2 ≤ 1073741824
theorem sumN_snoc (l : List (Int × Int)) (x : Int × Int) : sumN (l ++ [x]) = sumN l + x.2 := by
  induction l with
  | nil => simp [sumN]
  | cons y r ih => simp only [List.cons_append, sumN, ih]; omega
theorem may_mem {l : List (Int × Int)} : ∀ {m : Int}, 0 ≤ m → mayF m l = true → ∀ x ∈ l, MayR x ∧ m ≤ x.1 := by
  induction l with
  | nil => intro m _ _ x hx; cases hx
  | cons y r ih =>
    intro m hm h x hx
    rw [mayF, Bool.and_eq_true, decide_eq_true_eq] at h
    rcases List.mem_cons.1 hx with rfl | hx
    · unfold MayR; omega
    · have := ih (m := y.1 + y.2 + 1) (by omega) h.2 x hx
      unfold MayR at *
      omega
theorem sumN_bd {l : List (Int × Int)} (h : ∀ x ∈ l, MayR x) : 0 ≤ sumN l ∧ sumN l ≤ l.length * 1073741824 := by
  induction l with
  | nil => simp [sumN]
  | cons y r ih =>
    have h1 := ih fun x hx => h x (List.mem_cons_of_mem _ hx)
    have h2 := h y (List.mem_cons_self ..)
    unfold MayR at h2
    simp only [sumN, List.length_cons]
    omega

set_option maxRecDepth 100000 in
set_option maxHeartbeats 1000000 in
theorem total_any (a : Option Addr) (cap : Nat) (l : List (Int × Int)) (w : World) (h : SlP w a l) (hl : l.length ≤ 1000) (hw : WfP l) :
    Calls Try.prog 12 #[.slice a l.length cap] w fun e w' => e = .returned (.int .i64 (totL l)) ∧ Below w.heap.size w w' := by
  have H := Lib.hid h
  have HW := Lib.hid hw
  clear h hw
  cases hm : mayL l
  · have HT := Lib.hid (show totL l = 0 by unfold totL; rw [hm]; rfl)
    go_enter Try.func12, Try.ntmps12
    go_wp2_with fail
    refine (may_any a cap l _ H.out hl HW.out).mono ?_
    rintro e w1 ⟨rfl, hb⟩
    rw [hm]
    have HB := Lib.hid hb
    clear hb hm
    go_wp2
    go_ret
    exact ⟨ret_int HT.out.symm, HB.out⟩
  · have HT := Lib.hid (show totL l = sumN l by unfold totL; rw [hm]; rfl)
    have HR := Lib.hid (fun x hx => (may_mem (l := l) (m := 0) (by omega) hm x hx).1)
    go_enter Try.func12, Try.ntmps12
    go_wp2_with fail
    refine (may_any a cap l _ H.out hl HW.out).mono ?_
    rintro e w1 ⟨rfl, hb⟩
    rw [hm]
    have HB := Lib.hid hb
    clear hb hm
    go_wp2
    go_loopw [3, 11] (fun s i wr => ∃ k : Nat, k ≤ l.length ∧ i = .int .i64 k ∧ s = .int .i64 (sumN (l.take k)) ∧ Hid (Below w.heap.size w wr)) (fun _ i _ => l.length - (intOf i).toNat)
    case atStart => exact ⟨0, Nat.zero_le _, rfl, rfl, HB⟩
    case round =>
      obtain ⟨k, hk, rfl, rfl, HL⟩ := hrel
      by_cases hlt : k < l.length
      · obtain ⟨b, off, rfl, hb, hc0, hc1⟩ := (H.out.keep HL.out).get k hlt
        have HX := Lib.hid (HR.out _ (List.getElem_mem hlt))
        have HS := Lib.hid (show sumN (l.take (k + 1)) = sumN (l.take k) + l[k].2 by rw [snoc_take l k hlt, sumN_snoc])
        have hsb := sumN_bd (l := l.take k) fun x hx => HR.out x (List.mem_of_mem_take hx)
        have hlk : (l.take k).length ≤ 1000 := by rw [List.length_take]; omega
        generalize l[k] = x at *
        obtain ⟨xa, xn⟩ := x
        generalize sumN (l.take k) = s at *
        have hx := HX.out
        unfold MayR at hx
        simp only at hx hc0 hc1
        obtain ⟨x0, x1, x2⟩ := hx
        obtain ⟨s0, s1⟩ := hsb
        have s2 : s ≤ 1073741824000 := by omega
        have BX := Box.new wr 46 #[.int .i64 xa, .int .i64 xn]
        have ha := (Below.refl wr.heap.size wr).alloc (Nat.le_refl _) (.cells #[.int .i64 xa, .int .i64 xn] 46 (0, 0))
        have HL2 := Lib.hid (HL.out.trans (ha.mono HL.out.size))
        have k0 := BX.cell 0 _ rfl
        have k1 := BX.cell 1 _ rfl
        have x3 : xn ≤ 1073741824 := by omega
        clear ha BX HL hb hlk s1 x2
        go_wp2
        go_roundw
        case rel => exact ⟨k + 1, by omega, by go_num, by rw [HS.out], HL2⟩
        case measure => simp [intOf]; omega
      · obtain rfl : k = l.length := by omega
        rw [List.take_length]
        go_wp2
        go_ret
        exact ⟨ret_int HT.out.symm, HL.out⟩

set_option maxRecDepth 100000 in
set_option maxHeartbeats 1000000 in
theorem rtotal_any (a : Option Addr) (cap : Nat) (l : List (Int × Int)) (w : World) (h : SlP w a l) (hl : l.length ≤ 1000) (hw : WfP l) :
    Calls Try.prog 13 #[.slice a l.length cap] w fun e w' => e = .returned (.int .i64 (totL l)) ∧ Below w.heap.size w w' := by
  have H := Lib.hid h
  have HW := Lib.hid hw
  clear h hw
  cases hm : mayL l
  · have HT := Lib.hid (show totL l = 0 by unfold totL; rw [hm]; rfl)
    go_enter Try.func13, Try.ntmps13
    go_wp2
    go_loopw [3, 4] (fun s i wr => s = .int .i64 0 ∧ i = .int .i64 0 ∧ Hid (Below w.heap.size w wr)) (fun _ i _ => 0)
    case atStart => exact ⟨rfl, rfl, Below.refl _ _⟩
    case round =>
      obtain ⟨rfl, rfl, HL⟩ := hrel
      by_cases hlt : 0 < l.length
      · go_wp2_with fail
        refine (rmay_any a cap l _ (H.out.keep HL.out) hl HW.out).mono ?_
        rintro e w1 ⟨rfl, hb⟩
        rw [hm]
        have HB := Lib.hid (HL.out.trans (hb.mono HL.out.size))
        clear hb hm
        go_wp2
        go_ret
        exact ⟨ret_int HT.out.symm, HB.out⟩
      · have h0 : l.length = 0 := by omega
        have hd : decide ((0 : Int) < (l.length : Int)) = false := by simp [h0]
        clear hm
        go_wp2
        go_ret
        exact ⟨ret_int HT.out.symm, HL.out⟩
  · have HT := Lib.hid (show totL l = sumN l by unfold totL; rw [hm]; rfl)
    have HR := Lib.hid (fun x hx => (may_mem (l := l) (m := 0) (by omega) hm x hx).1)
    have HM := Lib.hid hm
    clear hm
    go_enter Try.func13, Try.ntmps13
    go_wp2
    go_loopw [3, 4] (fun s i wr => ∃ k : Nat, k ≤ l.length ∧ i = .int .i64 k ∧ s = .int .i64 (sumN (l.take k)) ∧ Hid (Below w.heap.size w wr)) (fun _ i _ => l.length - (intOf i).toNat)
    case atStart => exact ⟨0, Nat.zero_le _, rfl, rfl, Below.refl _ _⟩
    case round =>
      obtain ⟨k, hk, rfl, rfl, HL⟩ := hrel
      by_cases hlt : k < l.length
      · have HX := Lib.hid (HR.out _ (List.getElem_mem hlt))
        have HS := Lib.hid (show sumN (l.take (k + 1)) = sumN (l.take k) + l[k].2 by rw [snoc_take l k hlt, sumN_snoc])
        have hsb := sumN_bd (l := l.take k) fun x hx => HR.out x (List.mem_of_mem_take hx)
        have hlk : (l.take k).length ≤ 1000 := by rw [List.length_take]; omega
        go_wp2_with fail
        refine (rmay_any a cap l _ (H.out.keep HL.out) hl HW.out).mono ?_
        rintro e w1 ⟨rfl, hb⟩
        rw [HM.out]
        have HB := Lib.hid (HL.out.trans (hb.mono HL.out.size))
        obtain ⟨b, off, rfl, hb, hc0, hc1⟩ := (H.out.keep HB.out).get k hlt
        generalize l[k] = x at *
        obtain ⟨xa, xn⟩ := x
        generalize sumN (l.take k) = s at *
        have hx := HX.out
        unfold MayR at hx
        simp only at hx hc0 hc1
        obtain ⟨x0, x1, x2⟩ := hx
        obtain ⟨s0, s1⟩ := hsb
        have s2 : s ≤ 1073741824000 := by omega
        have x3 : xn ≤ 1073741824 := by omega
        clear HL hb hlk s1 x2
        go_wp2
        go_roundw
        case rel => exact ⟨k + 1, by omega, by go_num, by rw [HS.out], HB⟩
        case measure => simp [intOf]; omega
      · obtain rfl : k = l.length := by omega
        rw [List.take_length]
        go_wp2
        go_ret
        exact ⟨ret_int HT.out.symm, HL.out⟩
end Go.Proofs.Ytmndeohhanbjkaa
