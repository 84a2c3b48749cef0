/-
  slices.BinarySearch of strings; Find.
-/
import Derived.Test.YtlkkgboaicjaiaaNodeB
namespace Go.Proofs.Ytlkkgboaicjaiaa
open Go.RowKit Go.ChangeShapes Go.WideShapes Go.ChangeAt

theorem cnan_any (x : ByteArray) (w : World) : Calls Try.prog 67 #[.string x] w fun e w' => e = .returned (.bool false) ∧ w = w' := by
  go_enter Try.func67, Try.ntmps67
  go_wp2
  go_ret
  exact ⟨by simp, rfl⟩
theorem snan_any (x : ByteArray) (w : World) : Calls Try.prog 61 #[.string x] w fun e w' => e = .returned (.bool false) ∧ w = w' := by
  go_enter Try.func61, Try.ntmps61
  go_wp2
  go_ret
  exact ⟨by simp, rfl⟩
theorem less_any (x y : ByteArray) (w : World) : Calls Try.prog 60 #[.string x, .string y] w fun e w' => e = .returned (.bool (ltK x y)) ∧ w = w' := by
  go_enter Try.func60, Try.ntmps60
  go_wp2_with fail
  refine (cnan_any x _).mono ?_
  rintro e w' ⟨rfl, rfl⟩
  go_wp2
  go_ret
  exact ⟨rfl, rfl⟩

theorem up_at {l : List ByteArray} (h : Up l) {i j : Nat} (hij : i < j) (hj : j < l.length) : ltK l[i] l[j] = true := List.pairwise_iff_getElem.1 h i j (by omega) hj hij
set_option maxRecDepth 1000000 in
set_option maxHeartbeats 2000000 in
theorem bsearch_any (a : Option Addr) (cap : Nat) (l : List ByteArray) (x : ByteArray) (w : World) (hs : Sl w Value.string a l) (hlen : l.length ≤ 100000) (hup : Up l) :
    Calls Try.prog 40 #[.slice a l.length cap, .string x] w fun e w' => e = .returned (.tuple #[.int .i64 (cntK l x), .bool (isK l x)]) ∧ Below w.heap.size w w' := by
  have HS := Lib.hid hs
  have HU := Lib.hid hup
  obtain ⟨C, hC⟩ : ∃ C, C = cntK l x := ⟨_, rfl⟩
  obtain ⟨I, hI0⟩ : ∃ I, I = isK l x := ⟨_, rfl⟩
  rw [← hC, ← hI0]
  have HC0 := Lib.hid hC
  have HI0 := Lib.hid hI0
  clear hs hup hC hI0
  go_enter Try.func40, Try.ntmps40
  go_wp2
  go_loopw [7, 8, 9] (fun s t _ wr => ∃ i j : Nat, s = .int .i64 i ∧ t = .int .i64 j ∧ i ≤ j ∧ j ≤ l.length ∧ Hid (∀ k ∈ l.take i, ltK k x = true) ∧ Hid (∀ k ∈ l.drop j, ltK k x = false) ∧ Hid (Below w.heap.size w wr)) (fun s t _ _ => (intOf t).toNat - (intOf s).toNat)
  case atStart => exact ⟨0, l.length, rfl, rfl, Nat.zero_le _, Nat.le_refl _, Lib.hid (fun k hk => by simp at hk), Lib.hid (fun k hk => by rw [List.drop_length] at hk; cases hk), Below.refl _ _⟩
  case round =>
    obtain ⟨i, j, rfl, rfl, hij, hjl, H1, H2, HL⟩ := hrel
    by_cases hlt : i < j
    · obtain ⟨b, off, hka, _, hc⟩ := (HS.out.keep HL.out).get ((i + j) / 2) (by omega)
      have HIN : Hid ((i + j) / 2 < l.length) := by show _ < _; omega
      have HE : Hid (l[(i + j) / 2]'HIN.out = l[(i + j) / 2]'HIN.out) := rfl
      subst hka
      obtain ⟨y, hy⟩ : ∃ y, l[(i + j) / 2]'HIN.out = y := ⟨_, rfl⟩
      rw [hy] at hc
      have HY := Lib.hid hy
      clear hy HE
      have hm1 : (i + j) / 2 < l.length := HIN.out
      go_wp2_with fail
      refine (less_any y x _).mono ?_
      rintro e w' ⟨rfl, rfl⟩
      cases hg : ltK y x
      · have H2b : Hid (∀ k ∈ l.drop ((i + j) / 2), ltK k x = false) := by
          intro k hk
          obtain ⟨q, hq, rfl⟩ := List.mem_iff_getElem.1 hk
          rw [List.getElem_drop]
          rcases Nat.eq_zero_or_pos q with rfl | h0
          · simp only [Nat.add_zero]; rw [HY.out]; exact hg
          · rw [List.length_drop] at hq
            have h3 := up_at HU.out (i := (i + j) / 2) (j := (i + j) / 2 + q) (by omega) (by omega)
            rw [HY.out] at h3
            cases h4 : ltK (l[(i + j) / 2 + q]'(by omega)) x
            · rfl
            · rw [ltK_tr h3 h4] at hg; cases hg
        clear hg
        go_wp2
        go_roundw
        case rel => exact ⟨i, (i + j) / 2, rfl, by go_num, by omega, by omega, H1, H2b, HL⟩
        case measure => simp [intOf]; omega
      · have H1b : Hid (∀ k ∈ l.take ((i + j) / 2 + 1), ltK k x = true) := by
          intro k hk
          obtain ⟨q, hq, rfl⟩ := List.mem_take_iff_getElem.1 hk
          rcases Nat.lt_or_ge q ((i + j) / 2) with h0 | h0
          · have h3 := up_at HU.out (i := q) (j := (i + j) / 2) (by omega) hm1
            rw [HY.out] at h3
            exact ltK_tr h3 hg
          · have : q = (i + j) / 2 := by omega
            subst this
            rw [HY.out]; exact hg
        clear hg
        go_wp2
        go_roundw
        case rel => exact ⟨(i + j) / 2 + 1, j, by go_num, rfl, by omega, by omega, H1b, H2, HL⟩
        case measure => simp [intOf]; omega
    · have hji : j = i := by omega
      subst hji
      have HC : Hid (cntK l x = j) := cnt_of hjl H1.out H2.out
      have HCj : Hid (C = j) := HC0.out.trans HC.out
      by_cases hn : j < l.length
      · obtain ⟨b, off, hka, _, hc⟩ := (HS.out.keep HL.out).get j hn
        subst hka
        obtain ⟨y, hy⟩ : ∃ y, l[j]'hn = y := ⟨_, rfl⟩
        rw [hy] at hc
        have e1 := beq_key y x
        have hI : isK l x = decide (y = x) := by
          unfold isK
          rw [HC.out, List.getElem?_eq_getElem hn, hy]
          exact decide_eq_decide.2 ⟨fun e => by injection e, fun e => by rw [e]⟩
        have HI := Lib.hid (HI0.out.trans hI)
        clear hy hI
        by_cases hyx : y = x
        · rw [decide_eq_true hyx] at e1 HI
          clear hyx
          go_wp2
          go_ret2
          exact ⟨by rw [HCj.out, HI.out]; rfl, HL.out⟩
        · rw [decide_eq_false hyx] at e1 HI
          clear hyx
          go_wp2_with fail
          refine (snan_any y _).mono ?_
          rintro e w' ⟨rfl, rfl⟩
          go_wp2
          go_ret2
          exact ⟨by rw [HCj.out, HI.out]; rfl, HL.out⟩
      · have hI : isK l x = false := by
          unfold isK
          rw [HC.out, List.getElem?_eq_none (by omega)]; rfl
        have HI := Lib.hid (HI0.out.trans hI)
        clear hI
        go_wp2
        go_ret2
        exact ⟨by rw [HCj.out, HI.out]; rfl, HL.out⟩
end Go.Proofs.Ytlkkgboaicjaiaa
