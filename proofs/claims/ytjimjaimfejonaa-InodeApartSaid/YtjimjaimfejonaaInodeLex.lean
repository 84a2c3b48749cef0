/-
  Keys that are taken apart again; the order of keys. No program here.
-/
import Derived.Test.YtjimjaimfejonaaInodeMath
import Derived.Sort.Walk0
namespace Go.Proofs.Ytjimjaimfejonaa
open Go.RowKit
theorem bl_cut (s : ByteArray) (i j : Nat) : bl (s.extract i j) = ((bl s).drop i).take (j - i) := by
  unfold bl
  rw [ByteArray.data_extract, Array.toList_extract, List.extract_eq_take_drop]
theorem bl_get (s : ByteArray) (j : Nat) : s.data[j]? = (bl s)[j]? := by unfold bl; simp
/-- A mark, a word, a rest. -/
theorem key_parts (m : UInt8) (n : Int) (r : ByteArray) (hn : isNum n) : let k := (⟨#[m]⟩ : ByteArray) ++ beB n ++ r
    k.data[0]? = some m ∧ numOf k = beB n ∧ restOf k = r ∧ ¬ (k.size < 5 ∨ 2147483648 < beV (numOf k)) ∧ (beV (numOf k) : Int) = n := by
  intro k
  have hk : bl k = m :: (bl (beB n) ++ bl r) := by
    show bl ((⟨#[m]⟩ : ByteArray) ++ beB n ++ r) = _
    rw [bl_append, bl_append]; rfl
  have hz : (bl (beB n)).length = 4 := by rw [bl_size, beB_size]
  have h1 : numOf k = beB n := by
    apply bl_ext
    unfold numOf
    rw [bl_cut, hk, List.drop_succ_cons, List.drop_zero, List.take_append_of_le_length (by omega), List.take_of_length_le (by omega)]
  have hs : k.size = 5 + r.size := by rw [← bl_size, hk, List.length_cons, List.length_append, hz, bl_size]; omega
  have h2 : restOf k = r := by
    apply bl_ext
    unfold restOf
    rw [bl_cut, hk, List.drop_succ_cons, List.drop_append_of_le_length (by omega), List.drop_of_length_le (by omega), List.nil_append, List.take_of_length_le (by rw [hs, bl_size]; omega)]
  refine ⟨by rw [bl_get, hk]; rfl, h1, h2, ?_, by rw [h1]; exact beV_beB n hn⟩
  rw [h1]
  have := beV_beB n hn
  unfold isNum at hn
  omega
theorem which_key (n : Int) (hn : isNum n) : whichD (keyB n) = ⟨0, n, ⟨#[]⟩, true⟩ := by
  have e : keyB n = (⟨#[105]⟩ : ByteArray) ++ beB n ++ ⟨#[]⟩ := by
    rw [show keyB n = markI ++ beB n from if_pos hn]
    apply bl_ext
    rw [bl_append, bl_append, bl_append]
    simp [markI, bl]
  obtain ⟨h0, h1, h2, h3, h4⟩ := key_parts 105 n ⟨#[]⟩ hn
  rw [e]
  unfold whichD
  rw [if_neg h3, h0, h2, h4, if_pos ⟨rfl, rfl⟩]
theorem which_ent (n : Int) (s : ByteArray) (hn : isNum n) (hs : isNam s) : whichD (entB n s) = ⟨1, n, s, true⟩ := by
  have e : entB n s = (⟨#[100]⟩ : ByteArray) ++ beB n ++ s := if_pos ⟨hn, hs⟩
  obtain ⟨h0, h1, h2, h3, h4⟩ := key_parts 100 n s hn
  rw [e]
  unfold whichD
  rw [if_neg h3, h0, h2, h4, if_neg (by simp), if_pos ⟨rfl, hs⟩]
theorem key_size (n : Int) (hn : isNum n) : (keyB n).size = 5 := by
  rw [show keyB n = markI ++ beB n from if_pos hn, ByteArray.size_append, beB_size]; rfl
theorem ent_size (n : Int) (s : ByteArray) (hn : isNum n) (hs : isNam s) : (entB n s).size = 5 + s.size := by
  rw [show entB n s = markD ++ beB n ++ s from if_pos ⟨hn, hs⟩, ByteArray.size_append, ByteArray.size_append, beB_size]; rfl
theorem chk_size (n k : Int) (hn : isNum n) (hk : isNum k) : (chkB n k).size = 9 := by
  rw [show chkB n k = markC ++ beB n ++ beB k from if_pos ⟨hn, hk⟩, ByteArray.size_append, ByteArray.size_append, beB_size, beB_size]; rfl

/-- The order of bytes: words stand as their numbers do. -/
theorem lex_append : ∀ (a b x y : List UInt8), a.length = b.length → ((a ++ x < b ++ y) ↔ (a < b ∨ (a = b ∧ x < y)))
  | [], [], x, y, _ => by simp
  | c :: a, d :: b, x, y, h => by
    have ih := lex_append a b x y (by simpa using h)
    simp only [List.cons_append, List.cons_lt_cons_iff, ih, List.cons.injEq]
    by_cases e : c = d
    · subst e; simp [UInt8.lt_irrefl]
    · simp [e]
/-- The value of bytes, the highest first. -/
theorem val_lex : ∀ (a b : List UInt8), a.length = b.length → ((a < b) ↔ leVal a.reverse < leVal b.reverse)
  | [], [], _ => by simp
  | c :: a, d :: b, h => by
    have hl : a.length = b.length := by simpa using h
    have ih := val_lex a b hl
    have ha := leVal_lt a.reverse
    have hb := leVal_lt b.reverse
    rw [List.length_reverse] at ha hb
    rw [List.cons_lt_cons_iff, ih, List.reverse_cons, List.reverse_cons, leVal_snoc, leVal_snoc, List.length_reverse, List.length_reverse, ← hl]
    rw [← hl] at hb
    generalize 256 ^ a.length = P at *
    generalize leVal a.reverse = A at *
    generalize leVal b.reverse = B at *
    have e1 : c < d ↔ c.toNat < d.toNat := UInt8.lt_iff_toNat_lt
    have e2 : c = d ↔ c.toNat = d.toNat := UInt8.toNat_inj.symm
    rw [e1, e2]
    generalize c.toNat = p at *
    generalize d.toNat = q at *
    constructor
    · rintro (h | ⟨rfl, h⟩)
      · have := Nat.mul_le_mul_right P (show p + 1 ≤ q from h)
        rw [Nat.add_mul] at this
        omega
      · omega
    · intro h
      rcases Nat.lt_trichotomy p q with h1 | h1 | h1
      · exact .inl h1
      · subst h1; exact .inr ⟨rfl, by omega⟩
      · have := Nat.mul_le_mul_right P (show q + 1 ≤ p from h1)
        rw [Nat.add_mul] at this
        omega
theorem be_lex (n m : Int) (hn : isNum n) (hm : isNum m) : (bl (beB n) < bl (beB m)) ↔ n < m := by
  rw [val_lex _ _ (by rw [bl_size, bl_size, beB_size, beB_size])]
  have h1 := beV_beB n hn
  have h2 := beV_beB m hm
  unfold beV at h1 h2
  omega
theorem be_eq (n m : Int) (hn : isNum n) (hm : isNum m) : (bl (beB n) = bl (beB m)) ↔ n = m :=
  ⟨fun h => beB_inj hn hm (bl_ext h), fun h => by rw [h]⟩
theorem less_eq (a b : ByteArray) : Op.bytesLess a.toList b.toList = decide (bl a < bl b) := by
  rw [bytesLess_eq, ByteArray.toList_eq, ByteArray.toList_eq]
  rfl
theorem key_less (n m : Int) (hn : isNum n) (hm : isNum m) : Op.bytesLess (keyB n).toList (keyB m).toList = decide (n < m) := by
  rw [less_eq, show keyB n = markI ++ beB n from if_pos hn, show keyB m = markI ++ beB m from if_pos hm, bl_append, bl_append]
  apply decide_eq_decide.2
  rw [lex_append _ _ _ _ rfl, be_lex n m hn hm]
  simp [List.lt_irrefl]
theorem chk_less (k n m : Int) (hk : isNum k) (hn : isNum n) (hm : isNum m) : Op.bytesLess (chkB k n).toList (chkB k m).toList = decide (n < m) := by
  rw [less_eq, show chkB k n = markC ++ beB k ++ beB n from if_pos ⟨hk, hn⟩, show chkB k m = markC ++ beB k ++ beB m from if_pos ⟨hk, hm⟩, bl_append, bl_append (markC ++ beB k)]
  apply decide_eq_decide.2
  rw [lex_append _ _ _ _ rfl, be_lex n m hn hm]
  simp [List.lt_irrefl]
theorem ent_less (n m : Int) (a b : ByteArray) (hn : isNum n) (hm : isNum m) (ha : isNam a) (hb : isNam b) : Op.bytesLess (entB n a).toList (entB m b).toList = (decide (n < m) || (decide (n = m) && Op.bytesLess a.toList b.toList)) := by
  rw [less_eq, less_eq, show entB n a = markD ++ beB n ++ a from if_pos ⟨hn, ha⟩, show entB m b = markD ++ beB m ++ b from if_pos ⟨hm, hb⟩, bl_append, bl_append, bl_append, bl_append, List.append_assoc, List.append_assoc]
  have h : (bl markD ++ (bl (beB n) ++ bl a) < bl markD ++ (bl (beB m) ++ bl b)) ↔ (n < m ∨ (n = m ∧ bl a < bl b)) := by
    rw [lex_append _ _ _ _ rfl, lex_append _ _ _ _ (by rw [bl_size, bl_size, beB_size, beB_size]), be_lex n m hn hm, be_eq n m hn hm]
    simp [List.lt_irrefl]
  by_cases h3 : n < m
  · rw [decide_eq_true (h.2 (.inl h3)), decide_eq_true h3, Bool.true_or]
  · by_cases h4 : n = m ∧ bl a < bl b
    · rw [decide_eq_true (h.2 (.inr h4)), decide_eq_true h4.1, decide_eq_true h4.2, Bool.true_and, Bool.or_true]
    · rw [decide_eq_false (fun e => (h.1 e).elim h3 h4), decide_eq_false h3, Bool.false_or]
      symm
      rw [Bool.and_eq_false_iff]
      by_cases h5 : n = m
      · exact .inr (decide_eq_false (fun e => h4 ⟨h5, e⟩))
      · exact .inl (decide_eq_false h5)
/-- Keys of unlike kinds. -/
theorem ent_inj (n m : Int) (a b : ByteArray) (hn : isNum n) (hm : isNum m) (ha : isNam a) (hb : isNam b) : entB n a = entB m b ↔ n = m ∧ a = b := by
  constructor
  · intro h
    have h1 := which_ent n a hn ha
    rw [h, which_ent m b hm hb] at h1
    injection h1 with _ h2 h3
    exact ⟨h2.symm, h3.symm⟩
  · rintro ⟨rfl, rfl⟩; rfl
theorem chk_inj (n m k : Int) (hn : isNum n) (hm : isNum m) (hk : isNum k) : chkB n k = chkB m k ↔ n = m := by
  constructor
  · intro h
    have h1 : numOf (chkB n k) = beB n := by
      rw [show chkB n k = (⟨#[99]⟩ : ByteArray) ++ beB n ++ beB k from if_pos ⟨hn, hk⟩]
      exact (key_parts 99 n (beB k) hn).2.1
    have h2 : numOf (chkB m k) = beB m := by
      rw [show chkB m k = (⟨#[99]⟩ : ByteArray) ++ beB m ++ beB k from if_pos ⟨hm, hk⟩]
      exact (key_parts 99 m (beB k) hm).2.1
    rw [h, h2] at h1
    exact beB_inj hn hm h1.symm
  · rintro rfl; rfl
theorem first_key (n : Int) (hn : isNum n) : (keyB n).data[0]? = some 105 := by
  rw [show keyB n = markI ++ beB n from if_pos hn, bl_get, bl_append]; rfl
theorem first_ent (n : Int) (a : ByteArray) (hn : isNum n) (ha : isNam a) : (entB n a).data[0]? = some 100 := by
  rw [show entB n a = markD ++ beB n ++ a from if_pos ⟨hn, ha⟩, bl_get, bl_append, bl_append]; rfl
theorem first_chk (n k : Int) (hn : isNum n) (hk : isNum k) : (chkB n k).data[0]? = some 99 := by
  rw [show chkB n k = markC ++ beB n ++ beB k from if_pos ⟨hn, hk⟩, bl_get, bl_append, bl_append]; rfl
theorem ne_first {a b : ByteArray} {x y : UInt8} (ha : a.data[0]? = some x) (hb : b.data[0]? = some y) (h : x ≠ y) : (a.toList == b.toList) = false := by
  rw [beq_eq_false_iff_ne, ByteArray.toList_eq, ByteArray.toList_eq]
  intro e
  have e2 : a.data = b.data := Array.toList_inj.1 e
  rw [e2, hb] at ha
  injection ha with ha
  exact h ha.symm
end Go.Proofs.Ytjimjaimfejonaa
