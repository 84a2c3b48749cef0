/-
  The reference's reader, at place k of a text, or cut.
-/
import Derived.Test.YtlkkgboaicjaiaaPos
import Derived.Test.YtlkkgboaicjaiaaRMost
namespace Go.Proofs.Ytlkkgboaicjaiaa
open Go.RowKit

/-- Block b is a reader of the reference's. -/
def RrAt (w : World) (b : Nat) (s : ByteArray) (e : Int) : Prop := w.heap[b]? = some (.cells #[.string s, .int .i64 e] 81 (0, 0))

theorem RrAt.cells {w : World} {b : Nat} {s : ByteArray} {e : Int} (h : RrAt w b s e) :
    w.cell? ⟨b, 0, none⟩ = some (.string s) ∧ w.cell? ⟨b, 1, none⟩ = some (.int .i64 e) ∧ w.frozen? ⟨b, 0, none⟩ = false ∧ w.frozen? ⟨b, 1, none⟩ = false := by
  unfold RrAt at h
  refine ⟨?_, ?_, ?_, ?_⟩ <;> simp [World.cell?, World.frozen?, h]
theorem RrAt.set0 {w : World} {b : Nat} {s : ByteArray} {e : Int} (h : RrAt w b s e) (s' : ByteArray) : RrAt (w.setCell ⟨b, 0, none⟩ (.string s')) b s' e := by
  have := heap_setCell_same w b 0 _ _ (.string s') h
  exact this
theorem RrAt.set1 {w : World} {b : Nat} {s : ByteArray} {e : Int} (h : RrAt w b s e) (e' : Int) : RrAt (w.setCell ⟨b, 1, none⟩ (.int .i64 e')) b s e' := by
  have := heap_setCell_same w b 1 _ _ (.int .i64 e') h
  exact this

/-- .. at place k of s; behind an error its rest is of no moment. -/
def RrPos (w : World) (b : Nat) (s : ByteArray) (k : Nat) : Prop := ∃ r, RrAt w b r (posE s k) ∧ (k ≤ s.size → r = s.extract k s.size)

theorem rbytes_pos (b : Nat) (s : ByteArray) (k n : Nat) (w : World) (h : RrPos w b s k) :
    Calls Try.prog 47 #[.pointer (some ⟨b, 0, none⟩), .int .i64 n] w fun e w' => e = .returned (.string (valB s k n)) ∧ RrPos w' b s (k + n) ∧ Only b w w' := by
  obtain ⟨r, hr, hs⟩ := h
  by_cases hk : k ≤ s.size
  · obtain rfl := hs hk
    rw [show posE s k = 0 from if_pos hk] at hr
    obtain ⟨h0, h1, f0, f1⟩ := hr.cells
    have H := Lib.hid hr
    clear hr hs
    have hz : (s.extract k s.size).size = s.size - k := by rw [ByteArray.size_extract]; omega
    by_cases hn : k + n ≤ s.size
    · have e1 : valB s k n = (s.extract k s.size).extract 0 n := by unfold valB; rw [if_pos hn, extract_extract' s k n hn]
      have E2 := Lib.hid (extract_drop' s k n hn)
      have HP : Hid (posE s (k + n) = 0) := if_pos hn
      rw [e1]
      clear e1
      have E3 := Lib.hid hz
      have hnz : n ≤ (s.extract k s.size).size := by omega
      generalize s.extract k s.size = t at *
      clear hz
      go_enter Try.func47, Try.ntmps47
      go_wp2
      go_ret
      refine ⟨rfl, ⟨_, ?_, fun _ => rfl⟩, Only.set b 0 w _⟩
      rw [HP.out, ← E2.out, ← E3.out]
      exact H.out.set0 _
    · have e1 : valB s k n = ⟨#[]⟩ := if_neg hn
      have HP : Hid (posE s (k + n) = 2) := if_neg hn
      have HQ : Hid (¬ k + n ≤ s.size) := hn
      rw [e1]
      clear e1
      have hnz : (s.extract k s.size).size < n := by omega
      generalize s.extract k s.size = t at *
      clear hz
      go_enter Try.func47, Try.ntmps47
      go_wp2
      go_ret
      exact ⟨rfl, ⟨t, by rw [HP.out]; exact H.out.set1 _, fun h => absurd h HQ.out⟩, Only.set b 1 w _⟩
  · have hn : ¬ k + n ≤ s.size := by omega
    rw [show posE s k = 2 from if_neg hk] at hr
    obtain ⟨h0, h1, f0, f1⟩ := hr.cells
    have H := Lib.hid hr
    have e1 : valB s k n = ⟨#[]⟩ := if_neg hn
    have HP : Hid (posE s (k + n) = 2) := if_neg hn
    have HQ : Hid (¬ k + n ≤ s.size) := hn
    rw [e1]
    clear e1 hs hr hk hn
    go_enter Try.func47, Try.ntmps47
    go_wp2
    go_ret
    exact ⟨rfl, ⟨r, by rw [HP.out]; exact H.out, fun h => absurd h HQ.out⟩, Only.refl _ _⟩

theorem leVal_drop (s : ByteArray) (k : Nat) (h : k < s.size) : leVal (s.data.toList.drop k) = s[k].toNat + 256 * leVal (s.data.toList.drop (k + 1)) := by
  rw [List.drop_eq_getElem_cons (by simpa using h)]
  rfl
theorem leVal_drop_lt (s : ByteArray) (k : Nat) (h : s.size ≤ 7) : leVal (s.data.toList.drop k) < 72057594037927936 := by
  have h1 := leVal_lt (s.data.toList.drop k)
  have h2 : 256 ^ (s.data.toList.drop k).length ≤ 256 ^ 7 := Nat.pow_le_pow_right (by decide) (by rw [List.length_drop]; simp; omega)
  have h3 : 256 ^ 7 = 72057594037927936 := by decide
  omega

theorem rnumber_pos (b : Nat) (s : ByteArray) (k n : Nat) (h1 : 1 ≤ n) (h7 : n ≤ 7) (w : World) (h : RrPos w b s k) :
    Calls Try.prog 48 #[.pointer (some ⟨b, 0, none⟩), .int .i64 n] w fun e w' => e = .returned (.int .i64 (valN s k n)) ∧ RrPos w' b s (k + n) ∧ Only b w w' := by
  have H := Lib.hid h
  obtain ⟨r, hr, hs⟩ := h
  obtain ⟨c0, c1, f0, f1⟩ := hr.cells
  clear hr hs
  by_cases hk : k ≤ s.size
  · have hm : 0 ≤ mostI n := by unfold mostI; rw [if_pos (by omega)]; have := p256' n (by omega); rw [Int.toNat_natCast]; omega
    rw [show posE s k = 0 from if_pos hk] at c1
    have hsz : (valB s k n).size ≤ 7 := by
      unfold valB; split
      · rw [ByteArray.size_extract]; omega
      · exact Nat.zero_le _
    have HV : Hid (valN s k n = leVal (valB s k n).data.toList) := rfl
    rw [HV.out]
    obtain ⟨t, ht⟩ : ∃ t, t = valB s k n := ⟨_, rfl⟩
    rw [← ht] at hsz ⊢
    have HT := Lib.hid ht
    clear ht
    go_enter Try.func48, Try.ntmps48
    go_wp2_with fail
    refine (rmost_any n _).mono ?_
    rintro e w' ⟨rfl, rfl⟩
    go_wp2_with fail
    refine (rbytes_pos b s k n _ H.out).mono ?_
    rintro e w' ⟨rfl, hr, hb⟩
    have Hr := Lib.hid hr
    have Hb := Lib.hid hb
    clear hr hb c0 c1 f0 f1
    rw [← HT.out]
    go_wp2
    go_loop [6, 7] (fun v i => ∃ j : Nat, j ≤ t.size ∧ i = .int .i64 ((j : Int) - 1) ∧ v = .int .i64 (leVal (t.data.toList.drop j))) (fun _ i => (RowKit.intOf i + 1).toNat)
    case atStart => exact ⟨t.size, Nat.le_refl _, rfl, by rw [List.drop_of_length_le (by simp)]; rfl⟩
    case round =>
      obtain ⟨j, hj, rfl, rfl⟩ := hrel
      cases j with
      | zero =>
        go_wp2
        go_ret
        exact ⟨ret_int (by first | rfl | rw [List.drop_zero]), Hr.out, Hb.out⟩
      | succ j =>
        have e1 : ((j + 1 : Nat) : Int) - 1 = j := by omega
        rw [e1]
        clear e1
        have hlt : j < t.size := by omega
        have hb : (t[j].toNat : Int) ≤ 255 := by have := t[j].toNat_lt; omega
        have hd := leVal_drop_lt t (j + 1) hsz
        have hs := Lib.hid (leVal_drop t j hlt)
        have hd2 := leVal_drop_lt t j hsz
        rw [hs.out] at hd2
        go_wp2
        go_round
        case rel => exact ⟨j, by omega, by go_num, by rw [hs.out]; go_num⟩
        case measure => simp [RowKit.intOf]
  · rw [show posE s k = 2 from if_neg hk] at c1
    have hn : ¬ k + n ≤ s.size := by omega
    have e1 : valN s k n = 0 := by unfold valN valB; rw [if_neg hn]; rfl
    have HP : Hid (posE s (k + n) = posE s k) := by show _ = _; unfold posE; rw [if_neg hn, if_neg hk]
    have HQ : Hid (¬ k + n ≤ s.size) := hn
    rw [e1]
    clear e1 hk hn
    go_enter Try.func48, Try.ntmps48
    go_wp2
    go_ret
    refine ⟨rfl, ?_, Only.refl _ _⟩
    obtain ⟨r, hr, _⟩ := H.out
    exact ⟨r, by rw [HP.out]; exact hr, fun h => absurd h HQ.out⟩

end Go.Proofs.Ytlkkgboaicjaiaa
