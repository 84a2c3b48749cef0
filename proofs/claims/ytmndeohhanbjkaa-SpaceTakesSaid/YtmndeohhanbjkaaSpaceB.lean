/-
  Contracts of package space's statements: May.
-/
import Derived.Test.YtmndeohhanbjkaaSpaceA
import Derived.Deep.RegionHeld3
import Derived.Deep.QuietTactic
import Derived.BigQuiet
import Derived.Lib.Hide
namespace Go.Proofs.Ytmndeohhanbjkaa
open Go.RowKit Go.ChangeShapes Go.WideShapes Go.ChangeAt

def mayF : Int → List (Int × Int) → Bool
  | _, [] => true
  | m, x :: r => decide (m ≤ x.1 ∧ 1 ≤ x.2 ∧ x.2 ≤ 1073741824 - x.1) && mayF (x.1 + x.2 + 1) r
def mayL (l : List (Int × Int)) : Bool := mayF 0 l
/-- Both lie in the range of ints. -/
def WfP (l : List (Int × Int)) : Prop := ∀ x ∈ l, (Lit.int .i64 x.1).wf = true ∧ (Lit.int .i64 x.2).wf = true
theorem may_bad {m : Int} {l : List (Int × Int)} {k : Nat} (h : k < l.length) (hb : ¬ (m ≤ l[k].1 ∧ 1 ≤ l[k].2 ∧ l[k].2 ≤ 1073741824 - l[k].1)) : mayF m (l.drop k) = false := by
  rw [List.drop_eq_getElem_cons h, mayF, decide_eq_false hb, Bool.false_and]
theorem may_good {m : Int} {l : List (Int × Int)} {k : Nat} (h : k < l.length) (hb : m ≤ l[k].1 ∧ 1 ≤ l[k].2 ∧ l[k].2 ≤ 1073741824 - l[k].1) : mayF m (l.drop k) = mayF (l[k].1 + l[k].2 + 1) (l.drop (k + 1)) := by
  rw [List.drop_eq_getElem_cons h, mayF, decide_eq_true hb, Bool.true_and]
theorem i64_lo {n : Int} (h : (Lit.int .i64 n).wf = true) : -9223372036854775808 ≤ n ∧ n ≤ 9223372036854775807 := by
  have h2 : IntKind.i64.min ≤ n ∧ n ≤ IntKind.i64.max := by simpa [Lit.wf] using h
  rw [show IntKind.i64.min = -9223372036854775808 from rfl, show IntKind.i64.max = 9223372036854775807 from rfl] at h2
  exact h2

theorem end_any (x : Int × Int) (w : World) (a0 : 0 ≤ x.1) (a1 : x.1 ≤ 2147483647) (n0 : 0 ≤ x.2) (n1 : x.2 ≤ 2147483647) :
    Calls Try.prog 24 #[.agg #[.int .i64 x.1, .int .i64 x.2]] w fun e w' => e = .returned (.int .i64 (x.1 + x.2)) ∧ Below w.heap.size w w' := by
  obtain ⟨a, n⟩ := x
  simp only at a0 a1 n0 n1
  have B := Box.new w 46 #[.int .i64 a, .int .i64 n]
  have HL := Lib.hid ((Below.refl w.heap.size w).alloc (Nat.le_refl _) (.cells #[.int .i64 a, .int .i64 n] 46 (0, 0)))
  have k0 := B.cell 0 _ rfl
  have k1 := B.cell 1 _ rfl
  clear B
  go_enter Try.func24, Try.ntmps24
  go_wp2
  go_ret
  exact ⟨rfl, HL.out⟩

set_option maxRecDepth 100000 in
set_option maxHeartbeats 1000000 in
theorem may_any (a : Option Addr) (cap : Nat) (l : List (Int × Int)) (w : World) (h : SlP w a l) (hl : l.length ≤ 1000) (hw : WfP l) :
    Calls Try.prog 10 #[.slice a l.length cap] w fun e w' => e = .returned (.bool (mayL l)) ∧ Below w.heap.size w w' := by
  have H := Lib.hid h
  have HW := Lib.hid hw
  clear h hw
  obtain ⟨r, hr⟩ : ∃ r, mayL l = r := ⟨_, rfl⟩
  rw [hr]
  have HR := Lib.hid hr
  clear hr
  go_enter Try.func10, Try.ntmps10
  go_wp2
  go_loopw [3, 8] (fun m i wr => ∃ (k : Nat) (least : Int), k ≤ l.length ∧ i = .int .i64 k ∧ m = .int .i64 least ∧ 0 ≤ least ∧ least ≤ 1073741825 ∧ Hid (mayF least (l.drop k) = r) ∧ Hid (Below w.heap.size w wr)) (fun _ i _ => l.length - (intOf i).toNat)
  case atStart => exact ⟨0, 0, Nat.zero_le _, rfl, rfl, by omega, by omega, HR.out, Below.refl _ _⟩
  case round =>
    obtain ⟨k, least, hk, rfl, rfl, hl0, hl1, HM, HL⟩ := hrel
    by_cases hlt : k < l.length
    · obtain ⟨b, off, rfl, hb, hc0, hc1⟩ := (H.out.keep HL.out).get k hlt
      have hwf := HW.out l[k] (List.getElem_mem hlt)
      have HB := Lib.hid (@may_bad least l k hlt)
      have HG := Lib.hid (@may_good least l k hlt)
      generalize l[k] = x at *
      obtain ⟨xa, xn⟩ := x
      simp only at hc0 hc1 hwf HB HG
      have BX := Box.new wr 46 #[.int .i64 xa, .int .i64 xn]
      have ha := (Below.refl wr.heap.size wr).alloc (Nat.le_refl _) (.cells #[.int .i64 xa, .int .i64 xn] 46 (0, 0))
      have HL2 := Lib.hid (HL.out.trans (ha.mono HL.out.size))
      have k0 := BX.cell 0 _ rfl
      have k1 := BX.cell 1 _ rfl
      clear ha BX HL hb
      have hwa := i64_lo hwf.1
      have hwn := i64_lo hwf.2
      by_cases c1 : xa < least
      · have HN := Lib.hid (show r = false by rw [← HM.out]; exact HB.out (by omega))
        clear hwf hwa hwn
        go_wp2
        go_ret
        exact ⟨ret_bool HN.out.symm, HL2.out⟩
      · by_cases c2 : xn < 1
        · have HN := Lib.hid (show r = false by rw [← HM.out]; exact HB.out (by omega))
          clear hwf hwa hwn
          go_wp2
          go_ret
          exact ⟨ret_bool HN.out.symm, HL2.out⟩
        · have g0 : IntKind.i64.wrap (1073741824 - xa) = 1073741824 - xa := IntWalk.i64_in _ ⟨by omega, by omega⟩
          have HWR := Lib.hid g0
          by_cases c3 : 1073741824 - xa < xn
          · have HN := Lib.hid (show r = false by rw [← HM.out]; exact HB.out (by omega))
            clear hwf hwa hwn
            go_wp2
            go_ret
            exact ⟨ret_bool HN.out.symm, HL2.out⟩
          · have HN := Lib.hid (show mayF (xa + xn + 1) (l.drop (k + 1)) = r by rw [← HM.out]; exact (HG.out (by omega)).symm)
            have b1 : 0 ≤ xa := by omega
            have b2 : xa ≤ 1073741823 := by omega
            have b3 : 1 ≤ xn := by omega
            have b4 : xn ≤ 1073741824 := by omega
            have b5 : xa + xn ≤ 1073741824 := by omega
            clear hwf hwa hwn HB HG HM
            go_wp2_with fail
            refine (end_any (xa, xn) _ b1 (by omega) (by omega) (by omega)).mono ?_
            rintro e w2 ⟨rfl, hb2⟩
            have HL3 := Lib.hid (HL2.out.trans (hb2.mono HL2.out.size))
            clear hb2 k0 k1 hc0 hc1 HL2 g0
            dsimp only
            go_wp2
            go_roundw
            case rel => exact ⟨k + 1, xa + xn + 1, by omega, by go_num, rfl, by omega, by omega, HN.out, HL3.out⟩
            case measure => simp [intOf]; omega
    · obtain rfl : k = l.length := by omega
      have HT := Lib.hid (show r = true by rw [← HM.out, List.drop_length]; rfl)
      go_wp2
      go_ret
      exact ⟨ret_bool HT.out.symm, HL.out⟩
end Go.Proofs.Ytmndeohhanbjkaa
