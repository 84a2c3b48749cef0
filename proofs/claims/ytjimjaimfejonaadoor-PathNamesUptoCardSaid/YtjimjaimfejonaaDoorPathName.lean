/-
  path.isName; what CutPrefix cuts.
-/
import Derived.Test.YtjimjaimfejonaaDoorPathIter
import Derived.Test.YtjimjaimfejonaaDoorKeysS
import Derived.Test.YtjimjaimfejonaaDoorBox
import Derived.RangeFuncBox
import Derived.Maps.AppendAt
namespace Go.Proofs.YtjimjaimfejonaaDoor
open Go Go.RowKit Go.Shelf
attribute [local go_sem] Oper.semAt_some

theorem dot_ne {s : ByteArray} {l : List UInt8} (h : pb s ≠ l) : (s.toList == l) = false := by
  rw [beq_eq_false_iff_ne, ByteArray.toList_eq]; exact h
theorem dot_eq {s : ByteArray} {l : List UInt8} (h : pb s = l) : s = ⟨l.toArray⟩ := pb_ext (by rw [h, pb_mk])

theorem isname_any (s : ByteArray) (w : World) : Calls Tryd.prog 21 #[.string s] w fun e w' => e = .returned (.bool (decide (okN s))) ∧ w = w' := by
  obtain ⟨R, hR⟩ : ∃ R, R = decide (okN s) := ⟨_, rfl⟩
  rw [← hR]
  by_cases h0 : s.size = 0
  · have e0 : s = ⟨#[]⟩ := by
      apply ByteArray.ext
      exact Array.eq_empty_of_size_eq_zero h0
    subst e0
    have HR : Hid (R = false) := hR.trans (decide_eq_false (fun h => absurd h.1 (by decide)))
    go_enter Tryd.func21, Tryd.ntmps21
    go_wp2
    go_ret
    exact ⟨ret_bool HR.out.symm, rfl⟩
  · obtain ⟨g1, g2⟩ := str_some s (by omega)
    by_cases h1 : 255 < s.size
    · have HR : Hid (R = false) := hR.trans (decide_eq_false (fun h => by have := h.2.1; omega))
      clear hR
      go_enter Tryd.func21, Tryd.ntmps21
      go_wp2
      go_ret
      exact ⟨ret_bool HR.out.symm, rfl⟩
    · by_cases h2 : pb s = [46]
      · have HR : Hid (R = false) := hR.trans (decide_eq_false (fun h => h.2.2.1 h2))
        obtain rfl := dot_eq h2
        clear hR h0 h1 h2
        go_enter Tryd.func21, Tryd.ntmps21
        go_wp2
        go_ret
        exact ⟨ret_bool HR.out.symm, rfl⟩
      · by_cases h3 : pb s = [46, 46]
        · have HR : Hid (R = false) := hR.trans (decide_eq_false (fun h => h.2.2.2.1 h3))
          obtain rfl := dot_eq h3
          clear hR h0 h1 h2 h3
          go_enter Tryd.func21, Tryd.ntmps21
          go_wp2
          go_ret
          exact ⟨ret_bool HR.out.symm, rfl⟩
        · have d1 := dot_ne h2
          have d2 := dot_ne h3
          have hx : (∀ x ∈ pb s, x ≠ 0) ↔ Lib.indexByte (pb s) 0 = -1 := by
            constructor
            · intro h
              have hge := Lib.indexByte_ge (pb s) 0
              rcases (show Lib.indexByte (pb s) 0 = -1 ∨ 0 ≤ Lib.indexByte (pb s) 0 by omega) with e | e
              · exact e
              · obtain ⟨i, hi⟩ : ∃ i : Nat, Lib.indexByte (pb s) 0 = i := ⟨_, (Int.toNat_of_nonneg e).symm⟩
                obtain ⟨k1, _⟩ := Lib.indexByte_some hi
                obtain ⟨k2, k3⟩ := List.getElem?_eq_some_iff.1 k1
                exact absurd k3 (h _ (List.getElem_mem k2))
            · intro h x hx e
              obtain ⟨k, hk, hk2⟩ := List.getElem_of_mem hx
              exact Lib.indexByte_none h k (by rw [List.getElem?_eq_getElem hk, hk2, e])
          have hge := Lib.indexByte_ge (pb s) 0
          have HR : Hid (R = decide (Lib.indexByte (pb s) 0 < 0)) := by
            show R = _
            rw [hR]
            apply decide_eq_decide.2
            unfold okN
            rw [hx]
            constructor
            · intro h; omega
            · intro h; exact ⟨by omega, by omega, h2, h3, by omega⟩
          clear hR hx h2 h3 hge
          go_enter Tryd.func21, Tryd.ntmps21
          go_wp2_with fail
          refine (Tryd.strings_IndexByte s 0 _).mono ?_
          rintro e w1 ⟨rfl, rfl⟩
          rw [show Lib.indexByte s.data.toList (Int.toNat 0).toUInt8 = Lib.indexByte (pb s) 0 from rfl]
          generalize Lib.indexByte (pb s) 0 = m at *
          go_wp2
          go_ret
          exact ⟨ret_bool HR.out.symm, rfl⟩

theorem cut_yes {s : ByteArray} (h : (pb s).head? = some 47) : Lib.hasPrefix s.data.toList [47] = true ∧ (⟨(Lib.trimPrefix s.data.toList [47]).toArray⟩ : ByteArray) = restP s := by
  have e : ∃ r, pb s = 47 :: r := by
    cases hl : pb s with
    | nil => rw [hl] at h; cases h
    | cons c r => rw [hl] at h; injection h with h; subst h; exact ⟨r, rfl⟩
  obtain ⟨r, hr⟩ := e
  have hp : Lib.hasPrefix (pb s) [47] = true := by rw [hr]; simp [Lib.hasPrefix]
  refine ⟨hp, ?_⟩
  apply pb_ext
  rw [pb_mk]
  show Lib.trimPrefix (pb s) [47] = _
  unfold Lib.trimPrefix
  rw [if_pos hp]
  unfold restP
  rw [pb_cut, List.take_of_length_le (by rw [List.length_drop, pb_size]; omega)]
  rfl
theorem cut_no {s : ByteArray} (h : (pb s).head? ≠ some 47) : Lib.hasPrefix s.data.toList [47] = false ∧ (⟨(Lib.trimPrefix s.data.toList [47]).toArray⟩ : ByteArray) = s := by
  have hp : Lib.hasPrefix (pb s) [47] = false := by
    cases hl : pb s with
    | nil => simp [Lib.hasPrefix]
    | cons c r =>
      rw [hl] at h
      simp only [List.head?_cons, ne_eq, Option.some.injEq] at h
      show ((47 : UInt8) == c && ([] : List UInt8).isPrefixOf r) = false
      rw [Bool.and_eq_false_iff]
      exact .inl (by simpa using Ne.symm h)
  refine ⟨hp, ?_⟩
  apply pb_ext
  rw [pb_mk]
  show Lib.trimPrefix (pb s) [47] = _
  unfold Lib.trimPrefix
  rw [hp]
  rfl
end Go.Proofs.YtjimjaimfejonaaDoor
