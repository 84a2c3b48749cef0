/-
  The contract of the reference's Check.
-/
import Derived.Test.YtbdnkmkagglmhaaPtrSameC
namespace Go.Proofs.Ytbdnkmkagglmhaa
open Go.RowKit

theorem nowhere_iff (x : Int × Int) : nowhereP x ↔ x.1 < 0 ∨ 1 < x.1 ∨ x.2 < 0 ∨ 511 < x.2 := by
  unfold nowhereP
  omega

set_option maxHeartbeats 2000000 in
theorem rcheck_any (a : Option Addr) (cap : Nat) (p : PtrD) (w : World) (h : SlP w a p.locs) (hl : p.locs.length ≤ 1000) :
    Calls Try.prog 37 #[ptrV a cap p] w fun e w' => e = .returned (.int .i64 (chkP p)) ∧ Below w.heap.size w w' := by
  have H := Lib.hid h
  clear h
  obtain ⟨l, n, m, s⟩ := p
  simp only at H hl
  unfold ptrV
  simp only
  by_cases hr : l.length < 1 ∨ (1 ≤ l.length ∧ 2 < l.length) ∨ (1 ≤ l.length ∧ l.length ≤ 2 ∧ n < 0) ∨ (1 ≤ l.length ∧ l.length ≤ 2 ∧ 0 ≤ n ∧ 960 < n) ∨ (1 ≤ l.length ∧ l.length ≤ 2 ∧ 0 ≤ n ∧ n ≤ 960 ∧ m < 0) ∨
      (1 ≤ l.length ∧ l.length ≤ 2 ∧ 0 ≤ n ∧ n ≤ 960 ∧ 0 ≤ m ∧ 1099511627776 < m) ∨ (1 ≤ l.length ∧ l.length ≤ 2 ∧ 0 ≤ n ∧ n ≤ 960 ∧ 0 ≤ m ∧ m ≤ 1099511627776 ∧ s.size ≠ 32)
  · have ec : chkP ⟨l, n, m, s⟩ = 1 := by
      refine if_pos ?_
      show ¬ (1 ≤ l.length ∧ l.length ≤ 2) ∨ _ ∨ _ ∨ (¬ (0 ≤ n ∧ n ≤ 960) ∨ ¬ (0 ≤ m ∧ m ≤ 1099511627776) ∨ s.size ≠ 32)
      rcases hr with h | h | h | h | h | h | h
      · exact Or.inl (by omega)
      · exact Or.inl (by omega)
      all_goals exact Or.inr (Or.inr (Or.inr (by omega)))
    rw [ec]
    clear ec
    have hq : s.size ≠ 32 → ((s.size : Int) != 32) = true := fun h => by simp; omega
    rcases hr with h | ⟨h1, h2⟩ | ⟨h1, h2, h3⟩ | ⟨h1, h2, h3, h4⟩ | ⟨h1, h2, h3, h4, h5⟩ | ⟨h1, h2, h3, h4, h5, h6⟩ | ⟨h1, h2, h3, h4, h5, h6, h7⟩
    case inr.inr.inr.inr.inr.inr =>
      have hq := hq h7
      clear h7
      go_enter Try.func37, Try.ntmps37
      go_wp2
      go_ret
      exact ⟨rfl, (Below.refl _ _).alloc (Nat.le_refl _) _⟩
    all_goals
      clear hq
      go_enter Try.func37, Try.ntmps37
      go_wp2
      go_ret
      exact ⟨rfl, (Below.refl _ _).alloc (Nat.le_refl _) _⟩
  · obtain ⟨h1, h2, h3, h4, h5, h6, h7⟩ : 1 ≤ l.length ∧ l.length ≤ 2 ∧ 0 ≤ n ∧ n ≤ 960 ∧ 0 ≤ m ∧ m ≤ 1099511627776 ∧ s.size = 32 := by omega
    clear hr
    have HR : Hid (¬ restBad ⟨l, n, m, s⟩) := by
      show ¬ (¬ (0 ≤ n ∧ n ≤ 960) ∨ ¬ (0 ≤ m ∧ m ≤ 1099511627776) ∨ s.size ≠ 32)
      omega
    have H12 : Hid (1 ≤ l.length ∧ l.length ≤ 2) := ⟨h1, h2⟩
    have HV : Hid (∀ j v, (#[.slice a l.length cap, .int .i64 n, .int .i64 m, .string s] : Array Value)[j]? = some v → (w.alloc (.cells #[.slice a l.length cap, .int .i64 n, .int .i64 m, .string s] 59 (0, 0))).cell? ⟨w.heap.size, j, none⟩ = some v) := fun j v hj => boxed0 _ _ _ _ j v hj
    have HX : Hid (Below w.heap.size w (w.alloc (.cells #[.slice a l.length cap, .int .i64 n, .int .i64 m, .string s] 59 (0, 0)))) := (Below.refl _ _).alloc (Nat.le_refl _) _
    have HZ : Hid (w.heap.size < (w.alloc (.cells #[.slice a l.length cap, .int .i64 n, .int .i64 m, .string s] 59 (0, 0))).heap.size) := by show _ < _; rw [size_alloc]; omega
    have hq7 : ((s.size : Int) != 32) = false := by simp [h7]
    clear h7
    go_enter Try.func37, Try.ntmps37
    go_wp2
    clear h3 h4 h5 h6 hq7
    go_loopw [3, 4] (fun i _ wr => ∃ k : Nat, k ≤ l.length ∧ i = .int .i64 k ∧ Hid (∀ x ∈ l.take k, ¬ nowhereP x) ∧ Hid (k = 2 → ¬ twins l) ∧ Hid (Below w.heap.size w wr) ∧ Hid (w.heap.size < wr.heap.size) ∧ Hid (∀ j v, (#[.slice a l.length cap, .int .i64 n, .int .i64 m, .string s] : Array Value)[j]? = some v → wr.cell? ⟨w.heap.size, j, none⟩ = some v)) (fun i _ _ => l.length - (intOf i).toNat)
    case atStart => exact ⟨0, Nat.zero_le _, rfl, Lib.hid (fun x hx => by simp at hx), Lib.hid (fun h => by cases h), HX, HZ, HV⟩
    case round =>
      clear HX HZ HV
      obtain ⟨k, hk, rfl, HN, HT, HL, HZ, HV⟩ := hrel
      have g0 : wr.cell? ⟨w.heap.size, 0, none⟩ = some (.slice a l.length cap) := HV.out 0 _ rfl
      by_cases hlt : k < l.length
      · obtain ⟨b, off, rfl, hb, hc0, hc1⟩ := (H.out.keep HL.out).get k hlt
        have TT := Lib.hid (List.take_succ_eq_append_getElem hlt)
        have HM := Lib.hid (List.getElem_mem hlt)
        have HK := Lib.hid (List.getElem?_eq_getElem hlt)
        generalize l[k] = x at *
        obtain ⟨x1, x2⟩ := x
        simp only at hc0 hc1
        go_wp2_with fail
        generalize hwx : wr.alloc _ = wx
        have hk0 : wx.cell? ⟨wr.heap.size, 0, none⟩ = some (.int .i64 x1) := by rw [← hwx]; exact boxed0 wr _ _ _ 0 _ rfl
        have hk1 : wx.cell? ⟨wr.heap.size, 1, none⟩ = some (.int .i64 x2) := by rw [← hwx]; exact boxed0 wr _ _ _ 1 _ rfl
        have HX : Hid (Below wr.heap.size wr wx) := by show Below _ _ _; rw [← hwx]; exact (Below.refl _ _).alloc (Nat.le_refl _) _
        have HV2 : Hid (∀ j v, (#[.slice (some ⟨b, off, none⟩) l.length cap, .int .i64 n, .int .i64 m, .string s] : Array Value)[j]? = some v → wx.cell? ⟨w.heap.size, j, none⟩ = some v) := fun j v hj => by
          rw [HX.out.cell HZ.out]; exact HV.out j v hj
        have hg0 : wx.cell? ⟨w.heap.size, 0, none⟩ = some (.slice (some ⟨b, off, none⟩) l.length cap) := HV2.out 0 _ rfl
        have HL2 : Hid (Below w.heap.size w wx.drew) := (HL.out.trans (HX.out.mono HL.out.size)).drew
        have HZ2 : Hid (w.heap.size < wx.drew.heap.size) := Nat.lt_of_lt_of_le HZ.out HX.out.size
        clear hwx g0 hb hc0 hc1
        by_cases hx : nowhereP (x1, x2)
        · have HW := Lib.hid hx
          have hkk := (nowhere_iff _).1 hx
          simp only at hkk
          clear hx
          have hcc : x1 < 0 ∨ (0 ≤ x1 ∧ 1 < x1) ∨ (0 ≤ x1 ∧ x1 ≤ 1 ∧ x2 < 0) ∨ (0 ≤ x1 ∧ x1 ≤ 1 ∧ 0 ≤ x2 ∧ 511 < x2) := by omega
          clear hkk
          have hdd : decide (x1 < 0) = true ∨ (decide (x1 < 0) = false ∧ decide (1 < x1) = true) ∨ (decide (x1 < 0) = false ∧ decide (1 < x1) = false ∧ decide (x2 < 0) = true) ∨ (decide (x1 < 0) = false ∧ decide (1 < x1) = false ∧ decide (x2 < 0) = false ∧ decide (511 < x2) = true) := by
            simp only [decide_eq_true_eq, decide_eq_false_iff_not]; omega
          clear hcc
          rcases hdd with h | ⟨h, h'⟩ | ⟨h, h', h2'⟩ | ⟨h, h', h2', h3⟩
          all_goals
            go_region
            go_wp2
            go_ret
            exact ⟨ret_int (Eq.symm (if_pos (Or.inr (Or.inl ⟨_, HM.out, HW.out⟩)))), HL2.out⟩
        · have HW := Lib.hid hx
          have hkk : 0 ≤ x1 ∧ x1 ≤ 1 ∧ 0 ≤ x2 ∧ x2 ≤ 511 := by have := mt (nowhere_iff (x1, x2)).2 hx; simp only at this; omega
          obtain ⟨q1, q2, q3, q4⟩ : decide (x1 < 0) = false ∧ decide (1 < x1) = false ∧ decide (x2 < 0) = false ∧ decide (511 < x2) = false := by
            simp only [decide_eq_false_iff_not]; omega
          clear hkk
          have HN2 : Hid (∀ x ∈ l.take (k + 1), ¬ nowhereP x) := by
            show ∀ y ∈ _, _
            rw [TT.out]; intro y hy
            rcases List.mem_append.1 hy with hy | hy
            · exact HN.out y hy
            · rw [List.mem_singleton.1 hy]; exact HW.out
          clear hx
          by_cases hk1' : k = 1
          · subst hk1'
            obtain ⟨y, hy⟩ : ∃ y, l = [y, (x1, x2)] := by
              have h3 := HK.out
              match l, h1, h2, h3 with
              | [z], _, _, h3 => simp at h3
              | [z, z'], _, _, h3 => simp at h3; exact ⟨z, by rw [h3]⟩
            obtain ⟨y1, y2⟩ := y
            have HY := Lib.hid hy
            have hk2 : wx.cell? ⟨b, off, none⟩ = some (.int .i64 y1) := by
              obtain ⟨b', off', e, hlb, hc⟩ := (H.out.keep (HL.out.trans (HX.out.mono HL.out.size))) (by rw [hy]; simp)
              simp only [Option.some.injEq, Addr.mk.injEq, and_true] at e
              obtain ⟨rfl, rfl⟩ := e
              have := (hc 0 (y1, y2) (by rw [hy]; rfl)).1
              simpa using this
            clear hy
            by_cases ht : x1 = y1
            · have HTT : Hid (twins l) := by show _ ∧ _; rw [HY.out]; exact ⟨rfl, ht.symm⟩
              subst ht
              go_region
              go_wp2
              go_ret
              exact ⟨ret_int (Eq.symm (if_pos (Or.inr (Or.inr (Or.inl HTT.out))))), HL2.out⟩
            · have HTT : Hid (¬ twins l) := by show ¬ (_ ∧ _); rw [HY.out]; rintro ⟨_, h⟩; exact ht h.symm
              have hq : (x1 == y1) = false := by simpa using ht
              clear ht
              go_region
              clear hk0 hk1 hk2 hg0 q1 q2 q3 q4 hq
              go_wp2
              go_roundw
              case rel => exact ⟨2, by omega, rfl, HN2, Lib.hid (fun _ => HTT.out), HL2, HZ2, HV2⟩
              case measure => simp [intOf]; omega
          · have hq : ((k : Int) == 1) = false := by simp; omega
            have hk0' : k = 0 := by omega
            go_region
            clear hk0 hk1 hg0 q1 q2 q3 q4 hq
            go_wp2
            go_roundw
            case rel => exact ⟨k + 1, by omega, by go_num, HN2, Lib.hid (fun h => by omega), HL2, HZ2, HV2⟩
            case measure => simp [intOf]; omega
      · have hkl : k = l.length := by omega
        subst hkl
        rw [List.take_length] at HN
        have hfin : ¬ badP ⟨l, n, m, s⟩ := by
          show ¬ (_ ∨ _ ∨ _ ∨ _)
          rintro (h | ⟨x, hx, hn⟩ | h | h)
          · exact h H12.out
          · exact HN.out x hx hn
          · exact HT.out h.1 h
          · exact HR.out h
        have HF := Lib.hid hfin
        clear hfin h1 h2
        go_wp2
        go_ret
        exact ⟨ret_int (Eq.symm (if_neg HF.out)), HL.out⟩
end Go.Proofs.Ytbdnkmkagglmhaa
