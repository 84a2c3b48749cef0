/-
  Tests of strings; the reference's Same of rows of strings (for seats without slices' functions: in place of KeysC).
-/
import Derived.Test.YtlkkgboaicjaiaaKeys
import Derived.Test.YtlkkgboaicjaiaaPlain
import Derived.Deep.QuietTactic
import Derived.BigQuiet
namespace Go.Proofs.Ytlkkgboaicjaiaa
open Go.RowKit Go.ChangeShapes Go.WideShapes Go.ChangeAt

theorem toList_inj {s t : ByteArray} (h : s.toList = t.toList) : s = t := by
  rw [ByteArray.toList_eq, ByteArray.toList_eq] at h
  have h2 : s.data = t.data := Array.toList_inj.1 h
  cases s; cases t; simp_all
theorem beq_key (s t : ByteArray) : (s.toList == t.toList) = decide (s = t) := by
  by_cases h : s = t
  · subst h; simp
  · have h2 : ¬ s.toList = t.toList := fun e => h (toList_inj e)
    rw [decide_eq_false h]
    simpa using h2

def hasK (l : List ByteArray) (k : ByteArray) : Bool := l.any fun x => decide (x = k)
theorem hasK_iff {l : List ByteArray} {k : ByteArray} : hasK l k = true ↔ k ∈ l := by
  unfold hasK
  rw [List.any_eq_true]
  exact ⟨fun ⟨x, h1, h2⟩ => by have := of_decide_eq_true h2; subst this; exact h1, fun h => ⟨k, h, decide_eq_true rfl⟩⟩
theorem hasK_not {l : List ByteArray} {k : ByteArray} : hasK l k = false ↔ k ∉ l := by rw [← hasK_iff]; simp
set_option maxHeartbeats 1000000 in
theorem same_keys (a b : Option Addr) (ca cb : Nat) (la lb : List ByteArray) (w : World) (ha : Sl w Value.string a la) (hb : Sl w Value.string b lb) (hlen : la.length ≤ 100000) :
    Calls Try.prog 50 #[.slice a la.length ca, .slice b lb.length cb] w fun e w' => e = .returned (.bool (decide (la = lb))) ∧ Below w.heap.size w w' := by
  obtain ⟨R, hR⟩ : ∃ R, R = decide (la = lb) := ⟨_, rfl⟩
  rw [← hR]
  have HR := Lib.hid hR
  clear hR
  by_cases hl : la.length = lb.length
  · have HA := Lib.hid ha
    have HB := Lib.hid hb
    have HLL := Lib.hid hl
    have hne : ((la.length : Int) != (lb.length : Int)) = false := by rw [hl]; simp
    clear ha hb
    go_enter Try.func50, Try.ntmps50
    go_wp2_with fail
    clear hl hne
    go_loopw [5] (fun i wr => ∃ j : Nat, j ≤ la.length ∧ i = .int .i64 j ∧ Hid (la.take j = lb.take j) ∧ Hid (Below w.heap.size w wr)) (fun i _ => la.length - (intOf i).toNat)
    case atStart => exact ⟨0, Nat.zero_le _, rfl, rfl, Below.refl _ _⟩
    case round =>
      rename_i hkl1
      obtain ⟨j, hj, rfl, HE, HL⟩ := hrel
      by_cases hlt : j < la.length
      · clear hkl1
        have hlt2 : j < lb.length := by have := HLL.out; omega
        obtain ⟨ab, ao, rfl, hbl, hc⟩ := HA.out (by intro e; rw [e] at hlt; simp at hlt)
        obtain ⟨bb, bo, rfl, hbl2, hc2⟩ := HB.out (by intro e; rw [e] at hlt2; simp at hlt2)
        have q0 := (HL.out.cell (p := ⟨ab, ao + j, none⟩) hbl).trans (hc j la[j] (List.getElem?_eq_getElem hlt))
        have q1 := (HL.out.cell (p := ⟨bb, bo + j, none⟩) hbl2).trans (hc2 j lb[j] (List.getElem?_eq_getElem hlt2))
        have h0 : (0 : Int) ≤ (j : Int) := by omega
        have h1 : (j : Int) < (la.length : Int) := by omega
        have h2 : (j : Int) < (lb.length : Int) := by omega
        have HT := Lib.hid (List.take_succ_eq_append_getElem hlt)
        have HT2 := Lib.hid (List.take_succ_eq_append_getElem hlt2)
        have HG : Hid (la = lb → la[j] = lb[j]) := by rintro rfl; rfl
        have HLT := Lib.hid hlt
        generalize la[j] = x at *
        generalize lb[j] = y at *
        clear hc hc2 hbl hbl2 hlt hlt2
        have e1 := beq_key x y
        have HDN : Hid (∀ nq, Below w.heap.size w (wr.drewN nq)) := fun nq => ⟨HL.out.os, HL.out.tape, HL.out.output, HL.out.size, HL.out.block⟩
        by_cases he : x = y
        · rw [decide_eq_true he] at e1
          have HE2 : Hid (la.take (j + 1) = lb.take (j + 1)) := by show _ = _; rw [HT.out, HT2.out, HE.out, he]
          clear he
          go_wp2_with fail
          go_quiet (fail)
          have hlt := HLT.out
          go_wp2
          go_roundw
          case rel => exact ⟨j + 1, by omega, by go_num, HE2, HDN.out _⟩
          case measure => simp [intOf]; omega
        · rw [decide_eq_false he] at e1
          have HE2 : Hid (R = false) := by show _ = _; rw [HR.out, decide_eq_false (fun e => he (HG.out e))]
          clear he
          go_wp2_with fail
          go_quiet (fail)
          go_wp2
          go_ret
          exact ⟨ret_bool HE2.out.symm, HDN.out _⟩
      · have hjl : j = la.length := by omega
        have HE2 : Hid (R = true) := by
          show _ = _
          have h9 := HE.out
          rw [hjl, List.take_of_length_le (Nat.le_refl _), HLL.out, List.take_of_length_le (Nat.le_refl _)] at h9
          rw [HR.out, decide_eq_true h9]
        subst hjl
        go_wp2
        go_ret
        exact ⟨ret_bool HE2.out.symm, HL.out⟩
  · have HE2 : Hid (R = false) := by show _ = _; rw [HR.out, decide_eq_false (fun e => hl (by rw [e]))]
    have hne : ((la.length : Int) != (lb.length : Int)) = true := by simpa using fun h => hl (by exact_mod_cast h)
    clear ha hb
    go_enter Try.func50, Try.ntmps50
    go_wp2
    go_ret
    exact ⟨ret_bool HE2.out.symm, Below.refl _ _⟩
end Go.Proofs.Ytlkkgboaicjaiaa
