/-
  Texts put together: KeysS, PathName.
-/
import Derived.Test.YteimpebfenpifaaGreatDoorMg5
import Derived.Test.YteimpebfenpifaaGreatDoorMg3
import Derived.Deep.QuietTactic
import Derived.BigQuiet
import Derived.Test.YteimpebfenpifaaGreatDoorMg0
import Derived.RangeFuncBox
import Derived.Maps.AppendAt
namespace Go.Proofs.YteimpebfenpifaaGreatDoor
open Go.RowKit Go.ChangeShapes Go.WideShapes Go.ChangeAt

theorem toList_inj {s t : ByteArray} (h : s.toList = t.toList) : s = t := by
  rw [ByteArray.toList_eq, ByteArray.toList_eq] at h
  have h2 : s.data = t.data := Array.toList_inj.1 h
  cases s; cases t; simp_all
theorem beq_key (s t : ByteArray) : (s.toList == t.toList) = decide (s = t) := by
  by_cases h : s = t
  · subst h; simp
  · have h2 : ¬ s.toList = t.toList := fun e => h (toList_inj e)
    rw [decide_eq_false h]
    simpa using h2

def hasK (l : List ByteArray) (k : ByteArray) : Bool := l.any fun x => decide (x = k)
theorem hasK_iff {l : List ByteArray} {k : ByteArray} : hasK l k = true ↔ k ∈ l := by
  unfold hasK
  rw [List.any_eq_true]
  exact ⟨fun ⟨x, h1, h2⟩ => by have := of_decide_eq_true h2; subst this; exact h1, fun h => ⟨k, h, decide_eq_true rfl⟩⟩
theorem hasK_not {l : List ByteArray} {k : ByteArray} : hasK l k = false ↔ k ∉ l := by rw [← hasK_iff]; simp
set_option maxHeartbeats 1000000 in
theorem same_keys (a b : Option Addr) (ca cb : Nat) (la lb : List ByteArray) (w : World) (ha : Sl w Value.string a la) (hb : Sl w Value.string b lb) (hlen : la.length ≤ 100000) :
    Calls Tryz.prog 29 #[.slice a la.length ca, .slice b lb.length cb] w fun e w' => e = .returned (.bool (decide (la = lb))) ∧ Below w.heap.size w w' := by
  obtain ⟨R, hR⟩ : ∃ R, R = decide (la = lb) := ⟨_, rfl⟩
  rw [← hR]
  have HR := Lib.hid hR
  clear hR
  by_cases hl : la.length = lb.length
  · have HA := Lib.hid ha
    have HB := Lib.hid hb
    have HLL := Lib.hid hl
    have hne : ((la.length : Int) != (lb.length : Int)) = false := by rw [hl]; simp
    clear ha hb
    go_enter Tryz.func29, Tryz.ntmps29
    go_wp2_with fail
    clear hl hne
    go_loopw [5] (fun i wr => ∃ j : Nat, j ≤ la.length ∧ i = .int .i64 j ∧ Hid (la.take j = lb.take j) ∧ Hid (Below w.heap.size w wr)) (fun i _ => la.length - (intOf i).toNat)
    case atStart => exact ⟨0, Nat.zero_le _, rfl, rfl, Below.refl _ _⟩
    case round =>
      rename_i hkl1
      obtain ⟨j, hj, rfl, HE, HL⟩ := hrel
      by_cases hlt : j < la.length
      · clear hkl1
        have hlt2 : j < lb.length := by have := HLL.out; omega
        obtain ⟨ab, ao, rfl, hbl, hc⟩ := HA.out (by intro e; rw [e] at hlt; simp at hlt)
        obtain ⟨bb, bo, rfl, hbl2, hc2⟩ := HB.out (by intro e; rw [e] at hlt2; simp at hlt2)
        have q0 := (HL.out.cell (p := ⟨ab, ao + j, none⟩) hbl).trans (hc j la[j] (List.getElem?_eq_getElem hlt))
        have q1 := (HL.out.cell (p := ⟨bb, bo + j, none⟩) hbl2).trans (hc2 j lb[j] (List.getElem?_eq_getElem hlt2))
        have h0 : (0 : Int) ≤ (j : Int) := by omega
        have h1 : (j : Int) < (la.length : Int) := by omega
        have h2 : (j : Int) < (lb.length : Int) := by omega
        have HT := Lib.hid (List.take_succ_eq_append_getElem hlt)
        have HT2 := Lib.hid (List.take_succ_eq_append_getElem hlt2)
        have HG : Hid (la = lb → la[j] = lb[j]) := by rintro rfl; rfl
        have HLT := Lib.hid hlt
        generalize la[j] = x at *
        generalize lb[j] = y at *
        clear hc hc2 hbl hbl2 hlt hlt2
        have e1 := beq_key x y
        have HDN : Hid (∀ nq, Below w.heap.size w (wr.drewN nq)) := fun nq => ⟨HL.out.os, HL.out.tape, HL.out.output, HL.out.size, HL.out.block⟩
        by_cases he : x = y
        · rw [decide_eq_true he] at e1
          have HE2 : Hid (la.take (j + 1) = lb.take (j + 1)) := by show _ = _; rw [HT.out, HT2.out, HE.out, he]
          clear he
          go_wp2_with fail
          go_quiet (fail)
          have hlt := HLT.out
          go_wp2
          go_roundw
          case rel => exact ⟨j + 1, by omega, by go_num, HE2, HDN.out _⟩
          case measure => simp [intOf]; omega
        · rw [decide_eq_false he] at e1
          have HE2 : Hid (R = false) := by show _ = _; rw [HR.out, decide_eq_false (fun e => he (HG.out e))]
          clear he
          go_wp2_with fail
          go_quiet (fail)
          go_wp2
          go_ret
          exact ⟨ret_bool HE2.out.symm, HDN.out _⟩
      · have hjl : j = la.length := by omega
        have HE2 : Hid (R = true) := by
          show _ = _
          have h9 := HE.out
          rw [hjl, List.take_of_length_le (Nat.le_refl _), HLL.out, List.take_of_length_le (Nat.le_refl _)] at h9
          rw [HR.out, decide_eq_true h9]
        subst hjl
        go_wp2
        go_ret
        exact ⟨ret_bool HE2.out.symm, HL.out⟩
  · have HE2 : Hid (R = false) := by show _ = _; rw [HR.out, decide_eq_false (fun e => hl (by rw [e]))]
    have hne : ((la.length : Int) != (lb.length : Int)) = true := by simpa using fun h => hl (by exact_mod_cast h)
    clear ha hb
    go_enter Tryz.func29, Tryz.ntmps29
    go_wp2
    go_ret
    exact ⟨ret_bool HE2.out.symm, Below.refl _ _⟩
end Go.Proofs.YteimpebfenpifaaGreatDoor

namespace Go.Proofs.YteimpebfenpifaaGreatDoor
open Go Go.RowKit Go.Shelf
attribute [local go_sem] Oper.semAt_some

theorem dot_ne {s : ByteArray} {l : List UInt8} (h : pb s ≠ l) : (s.toList == l) = false := by
  rw [beq_eq_false_iff_ne, ByteArray.toList_eq]; exact h
theorem dot_eq {s : ByteArray} {l : List UInt8} (h : pb s = l) : s = ⟨l.toArray⟩ := pb_ext (by rw [h, pb_mk])

theorem isname_any (s : ByteArray) (w : World) : Calls Tryz.prog 41 #[.string s] w fun e w' => e = .returned (.bool (decide (okN s))) ∧ w = w' := by
  obtain ⟨R, hR⟩ : ∃ R, R = decide (okN s) := ⟨_, rfl⟩
  rw [← hR]
  by_cases h0 : s.size = 0
  · have e0 : s = ⟨#[]⟩ := by
      apply ByteArray.ext
      exact Array.eq_empty_of_size_eq_zero h0
    subst e0
    have HR : Hid (R = false) := hR.trans (decide_eq_false (fun h => absurd h.1 (by decide)))
    go_enter Tryz.func41, Tryz.ntmps41
    go_wp2
    go_ret
    exact ⟨ret_bool HR.out.symm, rfl⟩
  · obtain ⟨g1, g2⟩ := str_some s (by omega)
    by_cases h1 : 255 < s.size
    · have HR : Hid (R = false) := hR.trans (decide_eq_false (fun h => by have := h.2.1; omega))
      clear hR
      go_enter Tryz.func41, Tryz.ntmps41
      go_wp2
      go_ret
      exact ⟨ret_bool HR.out.symm, rfl⟩
    · by_cases h2 : pb s = [46]
      · have HR : Hid (R = false) := hR.trans (decide_eq_false (fun h => h.2.2.1 h2))
        obtain rfl := dot_eq h2
        clear hR h0 h1 h2
        go_enter Tryz.func41, Tryz.ntmps41
        go_wp2
        go_ret
        exact ⟨ret_bool HR.out.symm, rfl⟩
      · by_cases h3 : pb s = [46, 46]
        · have HR : Hid (R = false) := hR.trans (decide_eq_false (fun h => h.2.2.2.1 h3))
          obtain rfl := dot_eq h3
          clear hR h0 h1 h2 h3
          go_enter Tryz.func41, Tryz.ntmps41
          go_wp2
          go_ret
          exact ⟨ret_bool HR.out.symm, rfl⟩
        · have d1 := dot_ne h2
          have d2 := dot_ne h3
          have hx : (∀ x ∈ pb s, x ≠ 0) ↔ Lib.indexByte (pb s) 0 = -1 := by
            constructor
            · intro h
              have hge := Lib.indexByte_ge (pb s) 0
              rcases (show Lib.indexByte (pb s) 0 = -1 ∨ 0 ≤ Lib.indexByte (pb s) 0 by omega) with e | e
              · exact e
              · obtain ⟨i, hi⟩ : ∃ i : Nat, Lib.indexByte (pb s) 0 = i := ⟨_, (Int.toNat_of_nonneg e).symm⟩
                obtain ⟨k1, _⟩ := Lib.indexByte_some hi
                obtain ⟨k2, k3⟩ := List.getElem?_eq_some_iff.1 k1
                exact absurd k3 (h _ (List.getElem_mem k2))
            · intro h x hx e
              obtain ⟨k, hk, hk2⟩ := List.getElem_of_mem hx
              exact Lib.indexByte_none h k (by rw [List.getElem?_eq_getElem hk, hk2, e])
          have hge := Lib.indexByte_ge (pb s) 0
          have HR : Hid (R = decide (Lib.indexByte (pb s) 0 < 0)) := by
            show R = _
            rw [hR]
            apply decide_eq_decide.2
            unfold okN
            rw [hx]
            constructor
            · intro h; omega
            · intro h; exact ⟨by omega, by omega, h2, h3, by omega⟩
          clear hR hx h2 h3 hge
          go_enter Tryz.func41, Tryz.ntmps41
          go_wp2_with fail
          refine (Tryz.strings_IndexByte s 0 _).mono ?_
          rintro e w1 ⟨rfl, rfl⟩
          rw [show Lib.indexByte s.data.toList (Int.toNat 0).toUInt8 = Lib.indexByte (pb s) 0 from rfl]
          generalize Lib.indexByte (pb s) 0 = m at *
          go_wp2
          go_ret
          exact ⟨ret_bool HR.out.symm, rfl⟩

theorem cut_yes {s : ByteArray} (h : (pb s).head? = some 47) : Lib.hasPrefix s.data.toList [47] = true ∧ (⟨(Lib.trimPrefix s.data.toList [47]).toArray⟩ : ByteArray) = restP s := by
  have e : ∃ r, pb s = 47 :: r := by
    cases hl : pb s with
    | nil => rw [hl] at h; cases h
    | cons c r => rw [hl] at h; injection h with h; subst h; exact ⟨r, rfl⟩
  obtain ⟨r, hr⟩ := e
  have hp : Lib.hasPrefix (pb s) [47] = true := by rw [hr]; simp [Lib.hasPrefix]
  refine ⟨hp, ?_⟩
  apply pb_ext
  rw [pb_mk]
  show Lib.trimPrefix (pb s) [47] = _
  unfold Lib.trimPrefix
  rw [if_pos hp]
  unfold restP
  rw [pb_cut, List.take_of_length_le (by rw [List.length_drop, pb_size]; omega)]
  rfl
theorem cut_no {s : ByteArray} (h : (pb s).head? ≠ some 47) : Lib.hasPrefix s.data.toList [47] = false ∧ (⟨(Lib.trimPrefix s.data.toList [47]).toArray⟩ : ByteArray) = s := by
  have hp : Lib.hasPrefix (pb s) [47] = false := by
    cases hl : pb s with
    | nil => simp [Lib.hasPrefix]
    | cons c r =>
      rw [hl] at h
      simp only [List.head?_cons, ne_eq, Option.some.injEq] at h
      show ((47 : UInt8) == c && ([] : List UInt8).isPrefixOf r) = false
      rw [Bool.and_eq_false_iff]
      exact .inl (by simpa using Ne.symm h)
  refine ⟨hp, ?_⟩
  apply pb_ext
  rw [pb_mk]
  show Lib.trimPrefix (pb s) [47] = _
  unfold Lib.trimPrefix
  rw [hp]
  rfl
end Go.Proofs.YteimpebfenpifaaGreatDoor
