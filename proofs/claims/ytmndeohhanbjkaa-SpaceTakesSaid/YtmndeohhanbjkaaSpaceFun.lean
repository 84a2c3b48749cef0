/-
  Contracts of package space: the closures; IndexFunc, ContainsFunc, Has.
-/
import Derived.Test.YtmndeohhanbjkaaSpaceHas
import Derived.Deep.RegionHeld3
import Derived.Deep.QuietTactic
import Derived.BigQuiet
namespace Go.Proofs.Ytmndeohhanbjkaa
open Go.RowKit Go.ChangeShapes Go.WideShapes Go.ChangeAt

theorem take1_any (x : Int × Int) (cb : Nat) (n : Int) (w : World) (hc : w.cell? ⟨cb, 0, none⟩ = some (.int .i64 n)) :
    Calls Try.prog 28 #[.agg #[.int .i64 x.1, .int .i64 x.2], .pointer (some ⟨cb, 0, none⟩)] w fun e w' => e = .returned (.bool (longB n x)) ∧ Below w.heap.size w w' := by
  obtain ⟨xa, xn⟩ := x
  have B := Box.new w 46 #[.int .i64 xa, .int .i64 xn]
  have ha := (Below.refl w.heap.size w).alloc (Nat.le_refl _) (.cells #[.int .i64 xa, .int .i64 xn] 46 (0, 0))
  have k0 := B.cell 0 _ rfl
  have k1 := B.cell 1 _ rfl
  have kc : (w.alloc (.cells #[.int .i64 xa, .int .i64 xn] 46 (0, 0))).cell? ⟨cb, 0, none⟩ = some (.int .i64 n) := (ha.cell (p := ⟨cb, 0, none⟩) (lt_of_cell hc)).trans hc
  have HL := Lib.hid ha
  clear ha B
  go_enter Try.func28, Try.ntmps28
  go_wp2
  go_ret
  exact ⟨by unfold longB; rfl, HL.out⟩

abbrev S3 (w : World) (cb : Nat) (xa xn n : Int) (w' : World) : Prop := w'.cell? ⟨w.heap.size, 0, none⟩ = some (.int .i64 xa) ∧ w'.cell? ⟨w.heap.size, 1, none⟩ = some (.int .i64 xn) ∧ w'.cell? ⟨cb, 0, none⟩ = some (.int .i64 n)
theorem S3.below {w u v : World} {cb : Nat} {xa xn n : Int} (h : S3 w cb xa xn n u) (hb : Below u.heap.size u v) : S3 w cb xa xn n v := by
  obtain ⟨h0, h1, h2⟩ := h
  exact ⟨(hb.cell (lt_of_cell h0)).trans h0, (hb.cell (lt_of_cell h1)).trans h1, (hb.cell (lt_of_cell h2)).trans h2⟩
set_option maxRecDepth 100000 in
set_option maxHeartbeats 1000000 in
theorem has1_any (x : Int × Int) (cb : Nat) (n : Int) (w : World) (hc : w.cell? ⟨cb, 0, none⟩ = some (.int .i64 n)) (hx : MayR x) :
    Calls Try.prog 26 #[.agg #[.int .i64 x.1, .int .i64 x.2], .pointer (some ⟨cb, 0, none⟩)] w fun e w' => e = .returned (.bool (inRun n x)) ∧ Below w.heap.size w w' := by
  obtain ⟨xa, xn⟩ := x
  unfold MayR at hx
  simp only at hx
  obtain ⟨x0, x1, x2⟩ := hx
  have B := Box.new w 46 #[.int .i64 xa, .int .i64 xn]
  have ha := (Below.refl w.heap.size w).alloc (Nat.le_refl _) (.cells #[.int .i64 xa, .int .i64 xn] 46 (0, 0))
  have k0 := B.cell 0 _ rfl
  have k1 := B.cell 1 _ rfl
  have kc : (w.alloc (.cells #[.int .i64 xa, .int .i64 xn] 46 (0, 0))).cell? ⟨cb, 0, none⟩ = some (.int .i64 n) := (ha.cell (p := ⟨cb, 0, none⟩) (lt_of_cell hc)).trans hc
  have HL := Lib.hid ha
  have HDN : Hid (∀ nq, Below w.heap.size w ((w.alloc (.cells #[.int .i64 xa, .int .i64 xn] 46 (0, 0))).drewN nq)) := fun nq => ⟨HL.out.os, HL.out.tape, HL.out.output, HL.out.size, HL.out.block⟩
  clear ha B
  by_cases c0 : xa ≤ n
  · have HQ := Lib.hid (show inRun n (xa, xn) = decide (n < xa + xn) by unfold inRun; simp [c0])
    have d0 : decide (xa ≤ n) = true := decide_eq_true c0
    have HS : Hid (S3 w cb xa xn n (w.alloc (.cells #[.int .i64 xa, .int .i64 xn] 46 (0, 0))).drew) := ⟨k0, k1, kc⟩
    have HB : Hid (Below w.heap.size w (w.alloc (.cells #[.int .i64 xa, .int .i64 xn] 46 (0, 0))).drew) := HL.out.drew
    have X0 := Lib.hid x0
    have X1 := Lib.hid x1
    have X2 := Lib.hid x2
    clear k0 k1 kc c0 x0 x1 x2 HDN HL hc
    go_enter Try.func26, Try.ntmps26
    go_wp2_with fail
    go_region_held3 (fun w' => w'.cell? ⟨w.heap.size, 0, none⟩ = some (.int .i64 xa) ∧ w'.cell? ⟨w.heap.size, 1, none⟩ = some (.int .i64 xn) ∧ w'.cell? ⟨cb, 0, none⟩ = some (.int .i64 n)) (with_reducible exact HS.out)
      ((go_at_call 24; refine (end_any (xa, xn) _ X0.out (by have := X1.out; have := X2.out; simp only; omega) (by have := X1.out; simp only; omega) (by have := X0.out; have := X2.out; simp only; omega)).mono ?_; rintro e w2 ⟨rfl, hb⟩; have HS := Lib.hid (HS.out.below hb); have HB := Lib.hid (HB.out.trans (hb.mono HB.out.size)); clear hb; dsimp only))
    all_goals
      go_wp2
      go_ret
      exact ⟨ret_bool HQ.out.symm, HB.out⟩
  · have HQ := Lib.hid (show inRun n (xa, xn) = false by unfold inRun; simp [c0])
    have d0 : decide (xa ≤ n) = false := decide_eq_false c0
    clear c0 x0 x1 x2 hc
    go_enter Try.func26, Try.ntmps26
    go_wp2_with fail
    go_quiet (fail)
    go_wp2
    go_ret
    exact ⟨ret_bool HQ.out.symm, HDN.out _⟩

set_option maxRecDepth 100000 in
set_option maxHeartbeats 1000000 in
theorem index_take (a : Option Addr) (cap : Nat) (l : List (Int × Int)) (cb : Nat) (n : Int) (w : World) (h : SlP w a l) (hl : l.length ≤ 1000) (hc : w.cell? ⟨cb, 0, none⟩ = some (.int .i64 n)) :
    Calls Try.prog 27 #[.slice a l.length cap, .func (.func 28) #[] #[.pointer (some ⟨cb, 0, none⟩)]] w fun e w' =>
      e = .returned (.int .i64 (idxP (longB n) l)) ∧ Below w.heap.size w w' := by
  have H := Lib.hid h
  have HC := Lib.hid hc
  clear h hc
  go_enter Try.func27, Try.ntmps27
  go_wp2
  go_loopw [5, 8] (fun _ i wr => ∃ k : Nat, k ≤ l.length ∧ i = .int .i64 k ∧ Hid (∀ x ∈ l.take k, longB n x = false) ∧ Hid (Below w.heap.size w wr)) (fun _ i _ => l.length - (intOf i).toNat)
  case atStart => exact ⟨0, Nat.zero_le _, rfl, Lib.hid (fun x hx => by simp at hx), Below.refl _ _⟩
  case round =>
    obtain ⟨k, hk, rfl, HN, HL⟩ := hrel
    by_cases hlt : k < l.length
    · obtain ⟨b, off, rfl, hb, hc0, hc1⟩ := (H.out.keep HL.out).get k hlt
      have HS := Lib.hid (fun e => step_no HN.out hlt e)
      have HI := Lib.hid (fun e => idx_at HN.out hlt e)
      have HCW := Lib.hid ((HL.out.cell (p := ⟨cb, 0, none⟩) (lt_of_cell HC.out)).trans HC.out)
      generalize l[k] = x at *
      cases hx : longB n x
      · have Hx := Lib.hid hx
        go_wp2_with fail
        refine (take1_any x cb n _ HCW.out).mono ?_
        rintro e w1 ⟨rfl, hb1⟩
        rw [hx]
        have HB := Lib.hid (HL.out.trans (hb1.mono HL.out.size))
        have HY := Lib.hid (HS.out Hx.out)
        clear hx hb1 hc0 hc1 hb
        go_wp2
        go_roundw
        case rel => exact ⟨k + 1, by omega, by go_num, HY, HB⟩
        case measure => simp [intOf]; omega
      · have Hx := Lib.hid hx
        go_wp2_with fail
        refine (take1_any x cb n _ HCW.out).mono ?_
        rintro e w1 ⟨rfl, hb1⟩
        rw [hx]
        have HB := Lib.hid (HL.out.trans (hb1.mono HL.out.size))
        have HY := Lib.hid (HI.out Hx.out)
        clear hx hb1 hc0 hc1 hb
        go_wp2
        go_ret
        exact ⟨ret_int HY.out.symm, HB.out⟩
    · obtain rfl : k = l.length := by omega
      have HF := Lib.hid (idx_no (P := longB n) (l := l) (by have := HN.out; rwa [List.take_length] at this))
      go_wp2
      go_ret
      exact ⟨ret_int HF.out.symm, HL.out⟩

set_option maxRecDepth 100000 in
set_option maxHeartbeats 1000000 in
theorem index_has (a : Option Addr) (cap : Nat) (l : List (Int × Int)) (cb : Nat) (n : Int) (w : World) (h : SlP w a l) (hl : l.length ≤ 1000) (hc : w.cell? ⟨cb, 0, none⟩ = some (.int .i64 n)) (hr : ∀ x ∈ l, MayR x) :
    Calls Try.prog 27 #[.slice a l.length cap, .func (.func 26) #[] #[.pointer (some ⟨cb, 0, none⟩)]] w fun e w' =>
      e = .returned (.int .i64 (idxP (inRun n) l)) ∧ Below w.heap.size w w' := by
  have H := Lib.hid h
  have HC := Lib.hid hc
  clear h hc
  go_enter Try.func27, Try.ntmps27
  go_wp2
  go_loopw [5, 8] (fun _ i wr => ∃ k : Nat, k ≤ l.length ∧ i = .int .i64 k ∧ Hid (∀ x ∈ l.take k, inRun n x = false) ∧ Hid (Below w.heap.size w wr)) (fun _ i _ => l.length - (intOf i).toNat)
  case atStart => exact ⟨0, Nat.zero_le _, rfl, Lib.hid (fun x hx => by simp at hx), Below.refl _ _⟩
  case round =>
    obtain ⟨k, hk, rfl, HN, HL⟩ := hrel
    by_cases hlt : k < l.length
    · obtain ⟨b, off, rfl, hb, hc0, hc1⟩ := (H.out.keep HL.out).get k hlt
      have HS := Lib.hid (fun e => step_no HN.out hlt e)
      have HI := Lib.hid (fun e => idx_at HN.out hlt e)
      have HX := Lib.hid (hr _ (List.getElem_mem hlt))
      have HCW := Lib.hid ((HL.out.cell (p := ⟨cb, 0, none⟩) (lt_of_cell HC.out)).trans HC.out)
      generalize l[k] = x at *
      cases hx : inRun n x
      · have Hx := Lib.hid hx
        go_wp2_with fail
        refine (has1_any x cb n _ HCW.out HX.out).mono ?_
        rintro e w1 ⟨rfl, hb1⟩
        rw [hx]
        have HB := Lib.hid (HL.out.trans (hb1.mono HL.out.size))
        have HY := Lib.hid (HS.out Hx.out)
        clear hx hb1 hc0 hc1 hb
        go_wp2
        go_roundw
        case rel => exact ⟨k + 1, by omega, by go_num, HY, HB⟩
        case measure => simp [intOf]; omega
      · have Hx := Lib.hid hx
        go_wp2_with fail
        refine (has1_any x cb n _ HCW.out HX.out).mono ?_
        rintro e w1 ⟨rfl, hb1⟩
        rw [hx]
        have HB := Lib.hid (HL.out.trans (hb1.mono HL.out.size))
        have HY := Lib.hid (HI.out Hx.out)
        clear hx hb1 hc0 hc1 hb
        go_wp2
        go_ret
        exact ⟨ret_int HY.out.symm, HB.out⟩
    · obtain rfl : k = l.length := by omega
      have HF := Lib.hid (idx_no (P := inRun n) (l := l) (by have := HN.out; rwa [List.take_length] at this))
      go_wp2
      go_ret
      exact ⟨ret_int HF.out.symm, HL.out⟩

theorem contains_has (a : Option Addr) (cap : Nat) (l : List (Int × Int)) (cb : Nat) (n : Int) (w : World) (h : SlP w a l) (hl : l.length ≤ 1000) (hc : w.cell? ⟨cb, 0, none⟩ = some (.int .i64 n)) (hr : ∀ x ∈ l, MayR x) :
    Calls Try.prog 25 #[.slice a l.length cap, .func (.func 26) #[] #[.pointer (some ⟨cb, 0, none⟩)]] w fun e w' =>
      e = .returned (.bool (l.any (inRun n))) ∧ Below w.heap.size w w' := by
  have H := Lib.hid h
  have HC := Lib.hid hc
  have HR := Lib.hid hr
  clear h hc hr
  go_enter Try.func25, Try.ntmps25
  go_wp2_with fail
  refine (index_has a cap l cb n _ H.out hl HC.out HR.out).mono ?_
  rintro e w1 ⟨rfl, hb⟩
  have HB := Lib.hid hb
  have HI := Lib.hid (idx_any (inRun n) l)
  clear hb
  generalize idxP (inRun n) l = i at *
  go_wp2
  go_ret
  exact ⟨ret_bool HI.out, HB.out⟩
set_option maxRecDepth 100000 in
theorem has_any (a : Option Addr) (cap : Nat) (l : List (Int × Int)) (n : Int) (w : World) (h : SlP w a l) (hl : l.length ≤ 1000) (hw : WfP l) :
    Calls Try.prog 14 #[.slice a l.length cap, .int .i64 n] w fun e w' => e = .returned (.bool (hasL l n)) ∧ Below w.heap.size w w' := by
  have BX := Lib.hid (Box.new w 3 #[.int .i64 n])
  have HL := Lib.hid ((Below.refl w.heap.size w).alloc (Nat.le_refl _) (.cells #[.int .i64 n] 3 (0, 0)))
  have H := Lib.hid (h.keep HL.out)
  have HW := Lib.hid hw
  clear h hw
  cases hm : mayL l
  · have HT := Lib.hid (show hasL l n = false by unfold hasL; rw [hm]; rfl)
    go_enter Try.func14, Try.ntmps14
    go_wp2_with fail
    refine (may_any a cap l _ H.out hl HW.out).mono ?_
    rintro e w1 ⟨rfl, hb⟩
    rw [hm]
    have HB := Lib.hid (HL.out.trans (hb.mono HL.out.size))
    clear hb hm
    go_wp2
    go_ret
    exact ⟨ret_bool HT.out.symm, HB.out⟩
  · have HT := Lib.hid (show hasL l n = l.any (inRun n) by unfold hasL; rw [hm]; rfl)
    have HR := Lib.hid (fun x hx => (may_mem (l := l) (m := 0) (by omega) hm x hx).1)
    go_enter Try.func14, Try.ntmps14
    go_wp2_with fail
    refine (may_any a cap l _ H.out hl HW.out).mono ?_
    rintro e w1 ⟨rfl, hb⟩
    rw [hm]
    have HB := Lib.hid (HL.out.trans (hb.mono HL.out.size))
    have HC := Lib.hid (BX.out.keep hb BX.out.lt)
    have H1 := Lib.hid (H.out.keep hb)
    clear hb hm
    go_wp2_with fail
    refine (contains_has a cap l w.heap.size n _ H1.out hl (HC.out.cell 0 _ rfl) HR.out).mono ?_
    rintro e w2 ⟨rfl, hb⟩
    have HB2 := Lib.hid (HB.out.trans (hb.mono HB.out.size))
    clear hb
    go_wp2
    go_ret
    exact ⟨ret_bool HT.out.symm, HB2.out⟩
end Go.Proofs.Ytmndeohhanbjkaa
