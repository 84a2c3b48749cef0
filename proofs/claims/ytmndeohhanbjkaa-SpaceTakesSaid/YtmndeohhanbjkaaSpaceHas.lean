/-
  Contracts of package space: Has, its reference; IndexFunc, ContainsFunc.
-/
import Derived.Test.YtmndeohhanbjkaaSpaceTot
import Derived.Deep.RegionHeld3
import Derived.Deep.QuietTactic
import Derived.BigQuiet
namespace Go.Proofs.Ytmndeohhanbjkaa
open Go.RowKit Go.ChangeShapes Go.WideShapes Go.ChangeAt

def inRun (at' : Int) (x : Int × Int) : Bool := decide (x.1 ≤ at' ∧ at' < x.1 + x.2)
def longB (n : Int) (x : Int × Int) : Bool := decide (n ≤ x.2)
def hasL (l : List (Int × Int)) (at' : Int) : Bool := mayL l && l.any (inRun at')
def idxP (P : Int × Int → Bool) (l : List (Int × Int)) : Int := match l.findIdx? P with | some i => (i : Int) | none => -1
theorem idx_at {P : Int × Int → Bool} {l : List (Int × Int)} {k : Nat} (h : ∀ x ∈ l.take k, P x = false) (hk : k < l.length) (hp : P l[k] = true) : idxP P l = k := by
  unfold idxP
  have : l.findIdx? P = some k := by
    rw [List.findIdx?_eq_some_iff_getElem]
    refine ⟨hk, hp, fun j hj => ?_⟩
    have := h l[j] (by rw [List.mem_take_iff_getElem]; exact ⟨j, by omega, rfl⟩)
    simp [this]
  rw [this]
theorem idx_no {P : Int × Int → Bool} {l : List (Int × Int)} (h : ∀ x ∈ l, P x = false) : idxP P l = -1 := by
  unfold idxP
  have : l.findIdx? P = none := by rw [List.findIdx?_eq_none_iff]; exact h
  rw [this]
theorem idx_any (P : Int × Int → Bool) (l : List (Int × Int)) : decide (0 ≤ idxP P l) = l.any P := by
  unfold idxP
  cases h : l.findIdx? P with
  | none =>
    rw [List.findIdx?_eq_none_iff] at h
    have : l.any P = false := by rw [List.any_eq_false]; intro x hx; simp [h x hx]
    rw [this]
    decide
  | some i =>
    rw [List.findIdx?_eq_some_iff_getElem] at h
    obtain ⟨hi, hp, _⟩ := h
    have : l.any P = true := List.any_eq_true.2 ⟨l[i], List.getElem_mem hi, hp⟩
    rw [this]
    simp
theorem step_no {P : Int × Int → Bool} {l : List (Int × Int)} {k : Nat} (h : ∀ x ∈ l.take k, P x = false) (hk : k < l.length) (hp : P l[k] = false) : ∀ x ∈ l.take (k + 1), P x = false := by
  rw [snoc_take l k hk]
  intro x hx
  rcases List.mem_append.1 hx with hx | hx
  · exact h x hx
  · rw [List.mem_singleton.1 hx]; exact hp

set_option maxRecDepth 100000 in
set_option maxHeartbeats 2000000 in
theorem rhas_any (a : Option Addr) (cap : Nat) (l : List (Int × Int)) (at' : Int) (w : World) (h : SlP w a l) (hl : l.length ≤ 1000) (hw : WfP l) :
    Calls Try.prog 15 #[.slice a l.length cap, .int .i64 at'] w fun e w' => e = .returned (.bool (hasL l at')) ∧ Below w.heap.size w w' := by
  have H := Lib.hid h
  have HW := Lib.hid hw
  clear h hw
  cases hm : mayL l
  · have HT := Lib.hid (show hasL l at' = false by unfold hasL; rw [hm]; rfl)
    have HM := Lib.hid hm
    clear hm
    go_enter Try.func15, Try.ntmps15
    go_wp2
    go_loopw [5] (fun i wr => i = .int .i64 0 ∧ Hid (Below w.heap.size w wr)) (fun i _ => 0)
    case atStart => exact ⟨rfl, Below.refl _ _⟩
    case round =>
      obtain ⟨rfl, HL⟩ := hrel
      by_cases hlt : 0 < l.length
      · go_wp2_with fail
        refine (rmay_any a cap l _ (H.out.keep HL.out) hl HW.out).mono ?_
        rintro e w1 ⟨rfl, hb⟩
        rw [HM.out]
        have HB := Lib.hid (HL.out.trans (hb.mono HL.out.size))
        clear hb
        go_wp2
        go_ret
        exact ⟨ret_bool HT.out.symm, HB.out⟩
      · have h0 : l.length = 0 := by omega
        have hd : decide ((0 : Int) < (l.length : Int)) = false := by simp [h0]
        go_wp2
        go_ret
        exact ⟨ret_bool HT.out.symm, HL.out⟩
  · have HT := Lib.hid (show hasL l at' = l.any (inRun at') by unfold hasL; rw [hm]; rfl)
    have HR := Lib.hid (fun x hx => (may_mem (l := l) (m := 0) (by omega) hm x hx).1)
    have HM := Lib.hid hm
    clear hm
    go_enter Try.func15, Try.ntmps15
    go_wp2
    go_loopw [5] (fun i wr => ∃ k : Nat, k ≤ l.length ∧ i = .int .i64 k ∧ Hid (∀ x ∈ l.take k, inRun at' x = false) ∧ Hid (Below w.heap.size w wr)) (fun i _ => l.length - (intOf i).toNat)
    case atStart => exact ⟨0, Nat.zero_le _, rfl, Lib.hid (fun x hx => by simp at hx), Below.refl _ _⟩
    case round =>
      obtain ⟨k, hk, rfl, HN, HL⟩ := hrel
      by_cases hlt : k < l.length
      · have HX := Lib.hid (HR.out _ (List.getElem_mem hlt))
        have HIN := Lib.hid (List.getElem_mem hlt)
        have HS := Lib.hid (fun e => step_no HN.out hlt e)
        go_wp2_with fail
        refine (rmay_any a cap l _ (H.out.keep HL.out) hl HW.out).mono ?_
        rintro e w1 ⟨rfl, hb⟩
        rw [HM.out]
        have HB := Lib.hid (HL.out.trans (hb.mono HL.out.size))
        have HDN : Hid (∀ nq, Below w.heap.size w (w1.drewN nq)) := fun nq => ⟨HB.out.os, HB.out.tape, HB.out.output, HB.out.size, HB.out.block⟩
        obtain ⟨b, off, rfl, hb, hc0, hc1⟩ := (H.out.keep HB.out).get k hlt
        generalize l[k] = x at *
        obtain ⟨xa, xn⟩ := x
        have hx := HX.out
        unfold MayR at hx
        simp only at hx hc0 hc1
        obtain ⟨x0, x1, x2⟩ := hx
        have x3 : xn ≤ 1073741824 := by omega
        have x4 : xa ≤ 1073741824 := by omega
        have g0 : IntKind.i64.wrap (xa + xn) = xa + xn := IntWalk.i64_in _ ⟨by omega, by omega⟩
        have hk0 : (0 : Int) ≤ (k : Int) := by omega
        have hkl : (k : Int) < (l.length : Int) := by omega
        by_cases c0 : xa ≤ at'
        · have d0 : decide (xa ≤ at') = true := decide_eq_true c0
          by_cases c1 : at' < xa + xn
          · have d1 : decide (at' < xa + xn) = true := decide_eq_true c1
            have HY := Lib.hid (show l.any (inRun at') = true from List.any_eq_true.2 ⟨(xa, xn), HIN.out, by unfold inRun; simp [c0, c1]⟩)
            clear HL hb x2 x3 x4 c0 c1 x0 x1
            go_wp2_with fail
            go_quiet (fail)
            go_wp2
            go_ret
            exact ⟨ret_bool (by rw [HT.out, HY.out]), HDN.out _⟩
          · have d1 : decide (at' < xa + xn) = false := decide_eq_false c1
            have HY := Lib.hid (HS.out (by unfold inRun; simp [c0, c1]))
            clear HL hb x2 x3 x4 c0 c1 x0 x1
            go_wp2_with fail
            go_quiet (fail)
            go_wp2
            go_roundw
            case rel => exact ⟨k + 1, by omega, by go_num, HY, HDN.out _⟩
            case measure => simp [intOf]; omega
        · have d0 : decide (xa ≤ at') = false := decide_eq_false c0
          have HY := Lib.hid (HS.out (by unfold inRun; simp [c0]))
          clear HL hb x2 x3 x4 c0 x0 x1
          go_wp2_with fail
          go_quiet (fail)
          go_wp2
          go_roundw
          case rel => exact ⟨k + 1, by omega, by go_num, HY, HDN.out _⟩
          case measure => simp [intOf]; omega
      · obtain rfl : k = l.length := by omega
        have HF := Lib.hid (show l.any (inRun at') = false by rw [List.any_eq_false]; intro x hx; have := HN.out x (by rw [List.take_length]; exact hx); simp [this])
        go_wp2
        go_ret
        exact ⟨ret_bool (by rw [HT.out, HF.out]), HL.out⟩
end Go.Proofs.Ytmndeohhanbjkaa
