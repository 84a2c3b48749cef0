/-
  Keys: the program's Key, Entry, Chunk, Which.
-/
import Derived.Test.YtjimjaimfejonaaInodeWord
import Derived.Test.YtjimjaimfejonaaSched2
namespace Go.Proofs.Ytjimjaimfejonaa
open Go.RowKit

theorem key_any (n : Int) (w : World) : Calls Try.prog 11 #[.int .i64 n] w fun e w' => e = .returned (.string (keyB n)) ∧ Below w.heap.size w w' := by
  by_cases h : isNum n
  · rw [show keyB n = _ from if_pos h]
    have HN := Lib.hid h
    have hd : decide (isNum n) = true := decide_eq_true h
    have hz := beB_size n
    clear h
    go_enter Try.func11, Try.ntmps11
    go_wp2_with fail
    refine (isnum_any n _).mono ?_
    rintro e w1 ⟨rfl, rfl⟩
    rw [hd]
    go_wp2_with fail
    refine (word_any n HN.out _).mono ?_
    rintro e w2 ⟨rfl, hb⟩
    have HB := Lib.hid hb
    clear hb
    have hq : ¬ 9223372036854775807 < 1 + (beB n).size := by omega
    go_wp2
    go_ret
    exact ⟨rfl, HB.out⟩
  · rw [show keyB n = _ from if_neg h]
    have hd : decide (isNum n) = false := decide_eq_false h
    clear h
    go_enter Try.func11, Try.ntmps11
    go_wp2_with fail
    refine (isnum_any n _).mono ?_
    rintro e w1 ⟨rfl, rfl⟩
    rw [hd]
    go_wp2
    go_ret
    exact ⟨rfl, Below.refl _ _⟩

theorem entry_any (n : Int) (s : ByteArray) (w : World) : Calls Try.prog 13 #[.int .i64 n, .string s] w fun e w' => e = .returned (.string (entB n s)) ∧ Below w.heap.size w w' := by
  by_cases h : isNum n
  · by_cases k : isNam s
    · rw [show entB n s = _ from if_pos ⟨h, k⟩]
      have HN := Lib.hid h
      have hd : decide (isNum n) = true := decide_eq_true h
      have hk : decide (isNam s) = true := decide_eq_true k
      have hz := beB_size n
      have hs : s.size ≤ 255 := k.2
      clear h k
      go_enter Try.func13, Try.ntmps13
      go_wp2_with fail
      refine (isnum_any n _).mono ?_
      rintro e w1 ⟨rfl, rfl⟩
      rw [hd]
      go_wp2_with fail
      refine (isnam_any s _).mono ?_
      rintro e w1 ⟨rfl, rfl⟩
      rw [hk]
      go_wp2_with fail
      refine (word_any n HN.out _).mono ?_
      rintro e w2 ⟨rfl, hb⟩
      have HB := Lib.hid hb
      clear hb
      have hq : ¬ 9223372036854775807 < 1 + (beB n).size := by omega
      have hq1 : ((⟨#[100]⟩ : ByteArray) ++ beB n).size = 5 := by rw [ByteArray.size_append, hz]; rfl
      have hq2 : ¬ 9223372036854775807 < 5 + s.size := by omega
      go_wp2
      go_ret
      exact ⟨rfl, HB.out⟩
    · rw [show entB n s = _ from if_neg (fun e => k e.2)]
      have hd : decide (isNum n) = true := decide_eq_true h
      have hk : decide (isNam s) = false := decide_eq_false k
      clear h k
      go_enter Try.func13, Try.ntmps13
      go_wp2_with fail
      refine (isnum_any n _).mono ?_
      rintro e w1 ⟨rfl, rfl⟩
      rw [hd]
      go_wp2_with fail
      refine (isnam_any s _).mono ?_
      rintro e w1 ⟨rfl, rfl⟩
      rw [hk]
      go_wp2
      go_ret
      exact ⟨rfl, Below.refl _ _⟩
  · rw [show entB n s = _ from if_neg (fun e => h e.1)]
    have hd : decide (isNum n) = false := decide_eq_false h
    clear h
    go_enter Try.func13, Try.ntmps13
    go_wp2_with fail
    refine (isnum_any n _).mono ?_
    rintro e w1 ⟨rfl, rfl⟩
    rw [hd]
    go_wp2
    go_ret
    exact ⟨rfl, Below.refl _ _⟩

theorem chunk_any (n k : Int) (w : World) : Calls Try.prog 15 #[.int .i64 n, .int .i64 k] w fun e w' => e = .returned (.string (chkB n k)) ∧ Below w.heap.size w w' := by
  by_cases h : isNum n
  · have hd : decide (isNum n) = true := decide_eq_true h
    by_cases h2 : isNum k
    · rw [show chkB n k = _ from if_pos ⟨h, h2⟩]
      have HN := Lib.hid h
      have HK := Lib.hid h2
      have hk : decide (isNum k) = true := decide_eq_true h2
      have hz := beB_size n
      have hz2 := beB_size k
      clear h h2
      go_enter Try.func15, Try.ntmps15
      go_wp2_with fail
      refine (isnum_any n _).mono ?_
      rintro e w1 ⟨rfl, rfl⟩
      rw [hd]
      go_wp2_with fail
      refine (isnum_any k _).mono ?_
      rintro e w1 ⟨rfl, rfl⟩
      rw [hk]
      go_wp2_with fail
      refine (word_any n HN.out _).mono ?_
      rintro e w2 ⟨rfl, hb⟩
      have HB := Lib.hid hb
      clear hb
      have hq : ¬ 9223372036854775807 < 1 + (beB n).size := by omega
      go_wp2_with fail
      refine (word_any k HK.out _).mono ?_
      rintro e w3 ⟨rfl, hb⟩
      have HB2 := Lib.hid (HB.out.trans (hb.mono HB.out.size))
      clear hb
      have hq1 : ((⟨#[99]⟩ : ByteArray) ++ beB n).size = 5 := by rw [ByteArray.size_append, hz]; rfl
      have hq2 : ¬ 9223372036854775807 < 5 + (beB k).size := by omega
      go_wp2
      go_ret
      exact ⟨rfl, HB2.out⟩
    · rw [show chkB n k = _ from if_neg (fun e => h2 e.2)]
      have hk : decide (isNum k) = false := decide_eq_false h2
      clear h h2
      go_enter Try.func15, Try.ntmps15
      go_wp2_with fail
      refine (isnum_any n _).mono ?_
      rintro e w1 ⟨rfl, rfl⟩
      rw [hd]
      go_wp2_with fail
      refine (isnum_any k _).mono ?_
      rintro e w1 ⟨rfl, rfl⟩
      rw [hk]
      go_wp2
      go_ret
      exact ⟨rfl, Below.refl _ _⟩
  · rw [show chkB n k = _ from if_neg (fun e => h e.1)]
    have hd : decide (isNum n) = false := decide_eq_false h
    clear h
    go_enter Try.func15, Try.ntmps15
    go_wp2_with fail
    refine (isnum_any n _).mono ?_
    rintro e w1 ⟨rfl, rfl⟩
    rw [hd]
    go_wp2
    go_ret
    exact ⟨rfl, Below.refl _ _⟩

/-- The kind of a key, by its first byte. -/
def kindD (m : UInt8) : Int × Bool := if m = 99 then (2, true) else if m = 100 then (1, true) else if m = 105 then (0, true) else (0, false)
theorem kind_any (m : UInt8) (w : World) : Calls Try.prog 22 #[.int .u8 (m.toNat : Int)] w fun e w' => e = .returned (.tuple #[.int .i64 (kindD m).1, .bool (kindD m).2]) ∧ w = w' := by
  by_cases h1 : m = 99
  · subst h1
    go_enter Try.func22, Try.ntmps22
    go_wp2
    go_ret2
    exact ⟨rfl, rfl⟩
  · by_cases h2 : m = 100
    · subst h2
      go_enter Try.func22, Try.ntmps22
      go_wp2
      go_ret2
      exact ⟨rfl, rfl⟩
    · by_cases h3 : m = 105
      · subst h3
        go_enter Try.func22, Try.ntmps22
        go_wp2
        go_ret2
        exact ⟨rfl, rfl⟩
      · have e : kindD m = (0, false) := by unfold kindD; rw [if_neg h1, if_neg h2, if_neg h3]
        have q : ∀ k : UInt8, m ≠ k → ((m.toNat : Int) == (k.toNat : Int)) = false := fun k hk => by
          rw [beq_eq_false_iff_ne]
          intro e
          exact hk (UInt8.toNat_inj.1 (by omega))
        have q1 := q 99 h1
        have q2 := q 100 h2
        have q3 := q 105 h3
        rw [e]
        clear e q h1 h2 h3
        rw [show ((99 : UInt8).toNat : Int) = 99 from rfl] at q1
        rw [show ((100 : UInt8).toNat : Int) = 100 from rfl] at q2
        rw [show ((105 : UInt8).toNat : Int) = 105 from rfl] at q3
        go_enter Try.func22, Try.ntmps22
        go_wp2
        go_ret2
        exact ⟨rfl, rfl⟩

/-- What may stand behind the number. -/
def mayF (k : Int) (s : ByteArray) : Bool := if k = 0 then decide (s.size = 0) else if k = 1 then decide (isNam s) else decide (s.size = 4 ∧ isNum (beV s))
theorem follow_any (k : Int) (hk : k = 0 ∨ k = 1 ∨ k = 2) (s : ByteArray) (w : World) : Calls Try.prog 25 #[.int .i64 k, .string s] w fun e w' => e = .returned (.bool (mayF k s)) ∧ Below w.heap.size w w' := by
  rcases hk with rfl | rfl | rfl
  · by_cases h0 : s.size = 0
    · have e0 : s = ⟨#[]⟩ := by
        apply ByteArray.ext
        exact Array.eq_empty_of_size_eq_zero h0
      subst e0
      go_enter Try.func25, Try.ntmps25
      go_wp2
      go_ret
      exact ⟨rfl, Below.refl _ _⟩
    · obtain ⟨g1, g2⟩ := str_some s (by omega)
      rw [show mayF 0 s = false from decide_eq_false h0]
      go_enter Try.func25, Try.ntmps25
      go_wp2
      go_ret
      exact ⟨rfl, Below.refl _ _⟩
  · rw [show mayF 1 s = decide (isNam s) from rfl]
    go_enter Try.func25, Try.ntmps25
    go_wp2_with fail
    refine (isnam_any s _).mono ?_
    rintro e w1 ⟨rfl, rfl⟩
    go_wp2
    go_ret
    exact ⟨rfl, Below.refl _ _⟩
  · by_cases h4 : s.size = 4
    · rw [show mayF 2 s = decide (isNum (beV s)) from by unfold mayF; simp [h4]]
      have H4 := Lib.hid h4
      have hq : ((s.size : Int) == 4) = true := by simp [h4]
      clear h4
      go_enter Try.func25, Try.ntmps25
      go_wp2_with fail
      refine (inumber_any s H4.out _).mono ?_
      rintro e w1 ⟨rfl, hb⟩
      have HB := Lib.hid hb
      clear hb
      go_wp2_with fail
      refine (isnum_any _ _).mono ?_
      rintro e w2 ⟨rfl, rfl⟩
      go_wp2
      go_ret
      exact ⟨rfl, HB.out⟩
    · rw [show mayF 2 s = false from by unfold mayF; simp [h4]]
      have hq : ((s.size : Int) == 4) = false := by rw [beq_eq_false_iff_ne]; omega
      clear h4
      go_enter Try.func25, Try.ntmps25
      go_wp2
      go_ret
      exact ⟨rfl, Below.refl _ _⟩
end Go.Proofs.Ytjimjaimfejonaa
