/-
  Words of keys: four bytes, the highest first; keys, and what a text is a key of; an inode's text. No program here.
-/
import Derived.Test.YtjimjaimfejonaaBytes
namespace Go.Proofs.Ytjimjaimfejonaa
open Go.RowKit

def isNum (n : Int) : Prop := 0 ≤ n ∧ n ≤ 2147483648
instance (n : Int) : Decidable (isNum n) := inferInstanceAs (Decidable (_ ∧ _))
def isNam (s : ByteArray) : Prop := 0 < s.size ∧ s.size ≤ 255
instance (s : ByteArray) : Decidable (isNam s) := inferInstanceAs (Decidable (_ ∧ _))

/-- The bytes of a text, turned round. -/
def revB (s : ByteArray) : ByteArray := ⟨(bl s).reverse.toArray⟩
/-- A number's word. -/
def beB (n : Int) : ByteArray := ⟨(leList n.toNat 4).reverse.toArray⟩
/-- The number of a word. -/
def beV (s : ByteArray) : Nat := leVal (bl s).reverse

theorem bl_revB (s : ByteArray) : bl (revB s) = (bl s).reverse := bl_mk _
theorem bl_beB (n : Int) : bl (beB n) = (leList n.toNat 4).reverse := bl_mk _
theorem revB_size (s : ByteArray) : (revB s).size = s.size := by rw [← bl_size, bl_revB, List.length_reverse, bl_size]
theorem beB_size (n : Int) : (beB n).size = 4 := by rw [← bl_size, bl_beB, List.length_reverse, leList_length]
theorem beV_revB (s : ByteArray) : leVal (bl (revB s)) = beV s := by unfold beV; rw [bl_revB]
theorem beV_lt (s : ByteArray) (h : s.size = 4) : beV s < 4294967296 := by
  have := leVal_lt (bl s).reverse
  rw [List.length_reverse, bl_size, h] at this
  exact this
theorem beV_beB (n : Int) (h : isNum n) : (beV (beB n) : Int) = n := by
  unfold beV
  rw [bl_beB, List.reverse_reverse, leVal_leL _ _ (by unfold isNum at h; omega)]
  unfold isNum at h; omega
theorem beB_beV (s : ByteArray) (h : s.size = 4) : beB (beV s) = s := by
  apply bl_ext
  rw [bl_beB, Int.toNat_natCast]
  unfold beV
  have := leL_leVal (bl s).reverse
  rw [List.length_reverse, bl_size, h] at this
  rw [this, List.reverse_reverse]
theorem beB_inj {n m : Int} (hn : isNum n) (hm : isNum m) (h : beB n = beB m) : n = m := by
  rw [← beV_beB n hn, ← beV_beB m hm, h]

/-- What Put of four bytes makes, turned round. -/
theorem put4_rev (n : Int) (h : isNum n) : revB (putB n 4) = beB n := by
  apply bl_ext
  obtain ⟨k, rfl⟩ : ∃ k : Nat, n = k := ⟨n.toNat, by unfold isNum at h; omega⟩
  rw [bl_revB, bl_beB, Int.toNat_natCast, show ((4 : Int)) = ((4 : Nat) : Int) from rfl, putB_bl k 4 (by decide) (by decide) (by unfold isNum at h; omega)]
theorem put4_size (n : Int) (h : isNum n) : (putB n 4).size = 4 := by
  obtain ⟨k, rfl⟩ : ∃ k : Nat, n = k := ⟨n.toNat, by unfold isNum at h; omega⟩
  rw [← bl_size, show ((4 : Int)) = ((4 : Nat) : Int) from rfl, putB_bl k 4 (by decide) (by decide) (by unfold isNum at h; omega), leList_length]
/-- What Number of four bytes tells of a word that was turned round. -/
theorem val4_rev (s : ByteArray) (h : s.size = 4) : valN (revB s) 0 4 = beV s := by
  rw [valN_bl _ _ _ (by rw [revB_size]; omega), vL_last (by rw [bl_size, revB_size, h]), beV_revB]

theorem four (s : ByteArray) (h : s.size = 4) : ∃ a b c d : UInt8, s = ⟨#[a, b, c, d]⟩ := by
  obtain ⟨⟨l⟩⟩ := s
  have h' : l.length = 4 := h
  match l, h' with
  | [a, b, c, d], _ => exact ⟨a, b, c, d, rfl⟩

def markI : ByteArray := ⟨#[105]⟩
def markD : ByteArray := ⟨#[100]⟩
def markC : ByteArray := ⟨#[99]⟩
def keyB (n : Int) : ByteArray := if isNum n then markI ++ beB n else ⟨#[]⟩
def entB (n : Int) (s : ByteArray) : ByteArray := if isNum n ∧ isNam s then markD ++ beB n ++ s else ⟨#[]⟩
def chkB (n k : Int) : ByteArray := if isNum n ∧ isNum k then markC ++ beB n ++ beB k else ⟨#[]⟩
def wordB (n : Int) : ByteArray := if isNum n then beB n else ⟨#[]⟩

/-- What a text is a key of: the kind, the number, the rest, whether it is. -/
structure WhichD where
  kind : Int
  num : Int
  rest : ByteArray
  is : Bool
def noW : WhichD := ⟨0, 0, ⟨#[]⟩, false⟩
def restOf (s : ByteArray) : ByteArray := s.extract 5 s.size
def numOf (s : ByteArray) : ByteArray := s.extract 1 5
def whichD (s : ByteArray) : WhichD :=
  if s.size < 5 ∨ 2147483648 < beV (numOf s) then noW
  else if s.data[0]? = some 105 ∧ (restOf s).size = 0 then ⟨0, beV (numOf s), ⟨#[]⟩, true⟩
  else if s.data[0]? = some 100 ∧ isNam (restOf s) then ⟨1, beV (numOf s), restOf s, true⟩
  else if s.data[0]? = some 99 ∧ (restOf s).size = 4 ∧ ¬ 2147483648 < beV (restOf s) then ⟨2, beV (numOf s), restOf s, true⟩
  else noW

/-- An inode's text; the inode of a text. -/
def inoB (d : Bool) (n m : Int) : ByteArray := (putB (if d then 1 else 0) 1 ++ putB n 4) ++ putB m 4
def encI (d : Bool) (n m : Int) : ByteArray × Int := if isNum n ∧ isNum m then (inoB d n m, 0) else (⟨#[]⟩, 1)
structure InoD where
  dir : Bool
  size : Int
  links : Int
def decI (s : ByteArray) : InoD × Int :=
  if s.size < 9 then (⟨false, 0, 0⟩, 2)
  else if 9 < s.size ∨ 1 < valN s 0 1 ∨ 2147483648 < valN s 1 4 ∨ 2147483648 < valN s 5 4 then (⟨false, 0, 0⟩, 3)
  else (⟨decide (valN s 0 1 = 1), valN s 1 4, valN s 5 4⟩, 0)

theorem bl_inoB (d : Bool) (n m : Nat) (hn : isNum n) (hm : isNum m) : bl (inoB d n m) = leList (if d then 1 else 0) 1 ++ leList n 4 ++ leList m 4 := by
  unfold inoB
  rw [bl_append, bl_append, show ((4 : Int)) = ((4 : Nat) : Int) from rfl, putB_bl n 4 (by decide) (by decide) (by unfold isNum at hn; omega), putB_bl m 4 (by decide) (by decide) (by unfold isNum at hm; omega)]
  congr 1; congr 1
  cases d
  · exact putB_bl 0 1 (by decide) (by decide) (by decide)
  · exact putB_bl 1 1 (by decide) (by decide) (by decide)

theorem dec_encI (d : Bool) (n m : Int) (hn : isNum n) (hm : isNum m) : decI (inoB d n m) = (⟨d, n, m⟩, 0) := by
  obtain ⟨n, rfl⟩ : ∃ k : Nat, n = k := ⟨n.toNat, by unfold isNum at hn; omega⟩
  obtain ⟨m, rfl⟩ : ∃ k : Nat, m = k := ⟨m.toNat, by unfold isNum at hm; omega⟩
  have e := bl_inoB d n m hn hm
  generalize inoB d n m = s at *
  have hz : s.size = 9 := by rw [← bl_size, e]; simp [leList_length]
  have h0 : valN s 0 1 = if d then 1 else 0 := by
    rw [valN_bl s _ _ (by omega), e, List.append_assoc, vL_here (leList_length _ _)]
    exact leVal_leL _ 1 (by cases d <;> decide)
  have h1 : valN s 1 4 = n := by
    rw [valN_bl s _ _ (by omega), e, List.append_assoc, vL_skip (leList_length _ 1) (by decide), vL_here (leList_length _ _)]
    exact leVal_leL _ 4 (by unfold isNum at hn; omega)
  have h2 : valN s 5 4 = m := by
    rw [valN_bl s _ _ (by omega), e, List.append_assoc, vL_skip (leList_length _ 1) (by decide), vL_skip (leList_length _ 4) (by decide), vL_last (leList_length _ _)]
    exact leVal_leL _ 4 (by unfold isNum at hm; omega)
  unfold isNum at hn hm
  unfold decI
  rw [if_neg (by omega), h0, h1, h2, if_neg (by cases d <;> simp <;> omega)]
  cases d <;> rfl

theorem bl_three (s : ByteArray) (hz : s.size = 9) : bl s = vL (bl s) 0 1 ++ vL (bl s) 1 4 ++ vL (bl s) 5 4 := by
  have h0 := vL_join (bl s) 0 1
  have h1 := vL_join (bl s) 1 4
  have h2 := vL_join (bl s) 5 4
  rw [List.drop_of_length_le (by rw [bl_size]; omega), List.append_nil] at h2
  rw [← h2, ] at h1
  rw [← h1, List.drop_zero, ← List.append_assoc] at h0
  exact h0.symm

/-- The text of what is read is the text, just if it may be one. -/
theorem enc_decI (s : ByteArray) (hz : ¬ s.size < 9) : (inoB (decide (valN s 0 1 = 1)) (valN s 1 4) (valN s 5 4) = s ∧ isNum (valN s 1 4) ∧ isNum (valN s 5 4)) ↔ ¬ (9 < s.size ∨ 1 < valN s 0 1 ∨ 2147483648 < valN s 1 4 ∨ 2147483648 < valN s 5 4) := by
  constructor
  · rintro ⟨h, h1, h2⟩
    have e := bl_inoB (decide (valN s 0 1 = 1)) _ _ h1 h2
    have hz9 : s.size = 9 := by rw [← bl_size, ← h, e]; simp [leList_length]
    have h3 := dec_encI (decide (valN s 0 1 = 1)) _ _ h1 h2
    rw [h] at h3
    unfold decI at h3
    rw [if_neg hz] at h3
    split at h3
    · exact absurd (congrArg Prod.snd h3) (by simp)
    · assumption
  · intro h
    have h9 : s.size = 9 := by omega
    have h1 : isNum (valN s 1 4) := by unfold isNum; omega
    have h2 : isNum (valN s 5 4) := by unfold isNum; omega
    refine ⟨?_, h1, h2⟩
    apply bl_ext
    have k0 := put_val s 0 1 (by decide) (by decide) (by omega)
    have k1 := put_val s 1 4 (by decide) (by decide) (by omega)
    have k2 := put_val s 5 4 (by decide) (by decide) (by omega)
    rw [bl_three s h9, ← k0, ← k1, ← k2]
    unfold inoB
    rw [bl_append, bl_append]
    congr 3
    have : valN s 0 1 = 0 ∨ valN s 0 1 = 1 := by omega
    rcases this with e | e <;> rw [e] <;> rfl

end Go.Proofs.Ytjimjaimfejonaa
