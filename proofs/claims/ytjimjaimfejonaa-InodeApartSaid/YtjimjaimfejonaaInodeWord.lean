/-
  A word turned round; a number's word; a word's number.
-/
import Derived.Test.YtjimjaimfejonaaInodeRev
import Derived.Test.YtjimjaimfejonaaPos
namespace Go.Proofs.Ytjimjaimfejonaa
open Go.RowKit

set_option maxRecDepth 100000 in
set_option maxHeartbeats 1000000 in
theorem turned4 (s : ByteArray) (hs : s.size = 4) (w : World) : Calls Try.prog 36 #[.string s] w fun e w' => e = .returned (.string (revB s)) ∧ Below w.heap.size w w' := by
  obtain ⟨a, b, c, d, rfl⟩ := four s hs
  have hr : revB ⟨#[a, b, c, d]⟩ = ⟨#[d, c, b, a]⟩ := rfl
  rw [hr]
  clear hr
  have hcv := run_bytes_of_string (P := Try.prog) w 9 60 5 ⟨#[a, b, c, d]⟩ Try.underlying9 Try.underlying60 Try.underlying5
  rw [show (⟨#[a, b, c, d]⟩ : ByteArray).size = 4 from rfl] at hcv
  generalize grownCap w 4 0 5 = cap at hcv
  have hat := fun j hj => bytesRow_at ⟨#[a, b, c, d]⟩ cap j hj
  have hz : 4 ≤ (bytesRow ⟨#[a, b, c, d]⟩ cap).size := by
    have : (bytesRow ⟨#[a, b, c, d]⟩ cap)[3]? = some _ := hat 3 (show 3 < 4 by decide)
    have := (Array.getElem?_eq_some_iff.1 this).1
    omega
  generalize bytesRow ⟨#[a, b, c, d]⟩ cap = row at hcv hat hz
  obtain ⟨w1, hw1⟩ : ∃ w1, w1 = w.drew.alloc (.cells row 5 (row.size, row.size + 1)) := ⟨_, rfl⟩
  have hh : w1.heap[w.heap.size]? = some (.cells row 5 (row.size, row.size + 1)) := by rw [hw1]; exact (MapKept.heap_alloc w.drew _).1
  have hc : ∀ j, w1.cell? ⟨w.heap.size, j, none⟩ = row[j]? := fun j => by simp [World.cell?, hh]
  have hf : ∀ j, j < 4 → w1.frozen? ⟨w.heap.size, j, none⟩ = false := fun j hj => by simp [World.frozen?, hh]; omega
  have hb : Below w.heap.size w w1 := by rw [hw1]; exact ((Below.refl _ w).drew).alloc (Nat.le_refl _) _
  rw [← hw1] at hcv
  have R := rev4 w.heap.size cap _ _ _ _ w1 ((hc 0).trans (hat 0 (show 0 < 4 by decide))) ((hc 1).trans (hat 1 (show 1 < 4 by decide))) ((hc 2).trans (hat 2 (show 2 < 4 by decide))) ((hc 3).trans (hat 3 (show 3 < 4 by decide))) hf ⟨a, rfl⟩ ⟨b, rfl⟩ ⟨c, rfl⟩ ⟨d, rfl⟩
  have HR := Lib.hid R
  have HB := Lib.hid hb
  have HL : Hid (w.heap.size < w1.heap.size) := lt_of_block hh
  clear R hb hc hf hat hz hh hw1
  go_enter Try.func36, Try.ntmps36
  go_wp2_with fail
  refine HR.out.mono ?_
  rintro e w2 ⟨rfl, k0, k1, k2, k3, ho⟩
  have HB2 := Lib.hid (HB.out.trans (ho.below HL.out))
  have hcb := run_convert_bytes_back (P := Try.prog) w2 60 9 5 ⟨w.heap.size, 0, none⟩ cap [d, c, b, a] Try.underlying60 Try.underlying5 Try.underlying9 (by
    intro j hj
    match j, hj with
    | 0, _ => exact k0
    | 1, _ => exact k1
    | 2, _ => exact k2
    | 3, _ => exact k3)
  rw [show [d, c, b, a].length = 4 from rfl] at hcb
  clear k0 k1 k2 k3 ho hcv
  go_wp2
  go_ret
  exact ⟨rfl, HB2.out⟩

theorem isnum_any (n : Int) (w : World) : Calls Try.prog 24 #[.int .i64 n] w fun e w' => e = .returned (.bool (decide (isNum n))) ∧ w = w' := by
  by_cases h0 : n < 0
  · rw [show decide (isNum n) = false from decide_eq_false (fun h => by unfold isNum at h; omega)]
    go_enter Try.func24, Try.ntmps24
    go_wp2
    go_ret
    exact ⟨rfl, rfl⟩
  · by_cases h1 : n ≤ 2147483648
    · rw [show decide (isNum n) = true from decide_eq_true (by unfold isNum; omega)]
      go_enter Try.func24, Try.ntmps24
      go_wp2
      go_ret
      exact ⟨rfl, rfl⟩
    · rw [show decide (isNum n) = false from decide_eq_false (fun h => by unfold isNum at h; omega)]
      go_enter Try.func24, Try.ntmps24
      go_wp2
      go_ret
      exact ⟨rfl, rfl⟩

theorem isnam_any (s : ByteArray) (w : World) : Calls Try.prog 29 #[.string s] w fun e w' => e = .returned (.bool (decide (isNam s))) ∧ w = w' := by
  by_cases h0 : s.size = 0
  · have e0 : s = ⟨#[]⟩ := by
      apply ByteArray.ext
      exact Array.eq_empty_of_size_eq_zero h0
    subst e0
    go_enter Try.func29, Try.ntmps29
    go_wp2
    go_ret
    exact ⟨rfl, rfl⟩
  · obtain ⟨g1, g2⟩ := str_some s (by omega)
    by_cases h1 : s.size ≤ 255
    · rw [show decide (isNam s) = true from decide_eq_true (by unfold isNam; omega)]
      have hq : decide ((s.size : Int) ≤ 255) = true := decide_eq_true (by omega)
      go_enter Try.func29, Try.ntmps29
      go_wp2
      go_ret
      exact ⟨rfl, rfl⟩
    · rw [show decide (isNam s) = false from decide_eq_false (fun h => by unfold isNam at h; omega)]
      have hq : decide ((s.size : Int) ≤ 255) = false := decide_eq_false (by omega)
      go_enter Try.func29, Try.ntmps29
      go_wp2
      go_ret
      exact ⟨rfl, rfl⟩

theorem word_any (n : Int) (h : isNum n) (w : World) : Calls Try.prog 27 #[.int .i64 n] w fun e w' => e = .returned (.string (beB n)) ∧ Below w.heap.size w w' := by
  have HS := Lib.hid (put4_size n h)
  have HR := Lib.hid (put4_rev n h)
  clear h
  go_enter Try.func27, Try.ntmps27
  go_wp2_with fail
  refine (put_any n 4 _).mono ?_
  rintro e w1 ⟨rfl, hb⟩
  have HB := Lib.hid hb
  clear hb
  go_wp2_with fail
  refine (turned4 _ HS.out _).mono ?_
  rintro e w2 ⟨rfl, hb⟩
  rw [HR.out]
  have HB2 := Lib.hid (HB.out.trans (hb.mono HB.out.size))
  clear hb
  go_wp2
  go_ret
  exact ⟨rfl, HB2.out⟩

theorem inumber_any (s : ByteArray) (hs : s.size = 4) (w : World) : Calls Try.prog 23 #[.string s] w fun e w' => e = .returned (.int .i64 (beV s)) ∧ Below w.heap.size w w' := by
  have HV := Lib.hid (val4_rev s hs)
  go_enter Try.func23, Try.ntmps23
  go_wp2_with fail
  refine (turned4 s hs _).mono ?_
  rintro e w1 ⟨rfl, hb⟩
  have HB := Lib.hid hb
  clear hb
  go_wp2_with fail
  refine (read_pos _ _).mono ?_
  rintro e w2 ⟨rfl, hp, hb⟩
  have HP := Lib.hid hp
  have HB2 := Lib.hid (HB.out.trans (hb.mono HB.out.size))
  have HL := Lib.hid HB.out.size
  clear hb hp
  go_wp2_with fail
  refine (number_pos _ (revB s) 0 4 (by decide) (by decide) _ HP.out).mono ?_
  rintro e w3 ⟨rfl, -, ho⟩
  have HB3 := Lib.hid (HB2.out.trans ((ho.below (HP.out.lt)).mono HL.out))
  clear ho
  rw [HV.out]
  go_wp2
  go_ret
  exact ⟨rfl, HB3.out⟩
end Go.Proofs.Ytjimjaimfejonaa
