/-
  Roots as plain data: their texts, and what texts are roots.
-/
import Derived.Test.YtkapbkkbkfmidaaDoorMg4
import Derived.Test.YtkapbkkbkfmidaaDoorShaPlain
namespace Go.Proofs.YtkapbkkbkfmidaaDoor
open Go.RowKit

structure UbD where
  txg : Int
  load : ByteArray
  deriving DecidableEq
def ubV (u : UbD) : Value := .agg #[.int .i64 u.txg, .string u.load]
def ub0 : UbD := ⟨0, ⟨#[]⟩⟩
def ubN : UbD := ⟨-1, ⟨#[]⟩⟩
def mayU (u : UbD) : Prop := 0 ≤ u.txg ∧ u.txg ≤ 1099511627776 ∧ u.load.size ≤ 960
instance (u : UbD) : Decidable (mayU u) := inferInstanceAs (Decidable (_ ∧ _ ∧ _))
def markB : ByteArray := ⟨#[80, 70]⟩
def bodyU (u : UbD) : ByteArray := markB ++ putB u.txg 6 ++ textB u.load 2
/-- Encode's answer. -/
def encU (u : UbD) : ByteArray × Int := if mayU u then (bodyU u ++ sha (bodyU u), 0) else (⟨#[]⟩, 1)
def bodyOf (s : ByteArray) : ByteArray := s.extract 0 (s.size - 32)
def sumOf' (s : ByteArray) : ByteArray := s.extract (s.size - 32) s.size
def rawU (b : ByteArray) : UbD := ⟨valN b 2 6, valB b 10 (valN b 8 2)⟩
/-- Decode's answer. -/
def decU (s : ByteArray) : UbD × Int :=
  if s.size < 42 then (ub0, 2) else if sha (bodyOf s) ≠ sumOf' s then (ub0, 4) else
  if valB (bodyOf s) 0 2 ≠ markB ∨ posEnd (bodyOf s) (10 + valN (bodyOf s) 8 2) ≠ 0 ∨ ¬ mayU (rawU (bodyOf s)) then (ub0, 3) else (rawU (bodyOf s), 0)

theorem sha_size (s : ByteArray) : (sha s).size = 32 := by
  show ((digest _).toArray).size = 32
  rw [List.size_toArray]
  exact digK_length _ 8 (Nat.le_refl _)

theorem textB_bl (t : ByteArray) (h : t.size < 65536) : bl (textB t 2) = leList t.size 2 ++ bl t := by
  unfold textB
  have hm : mostI 2 = 65535 := rfl
  rw [if_neg (by rw [hm]; omega), bl_append]
  have := putB_bl t.size 2 (by decide) (by decide) h
  rw [← this]; rfl
theorem bodyU_bl {u : UbD} (h : mayU u) : bl (bodyU u) = [80, 70] ++ (leList u.txg.toNat 6 ++ (leList u.load.size 2 ++ bl u.load)) := by
  unfold bodyU
  rw [bl_append, bl_append, textB_bl _ (by have := h.2.2; omega)]
  have h2 : (u.txg.toNat : Int) = u.txg := by have := h.1; omega
  have h3 := putB_bl u.txg.toNat 6 (by decide) (by decide) (by have := h.2.1; have := h.1; show _ < 281474976710656; omega)
  rw [h2] at h3
  have h4 : bl (putB u.txg 6) = leList u.txg.toNat 6 := h3
  rw [h4, List.append_assoc]
  rfl
theorem bodyU_size {u : UbD} (h : mayU u) : (bodyU u).size = 10 + u.load.size := by
  rw [← bl_size, bodyU_bl h]
  simp [leList_length, bl_size]
  omega
theorem encU_ok {u : UbD} (h : mayU u) : encU u = (bodyU u ++ sha (bodyU u), 0) := if_pos h
theorem encU_size {u : UbD} (h : mayU u) : (encU u).1.size = 42 + u.load.size := by
  rw [encU_ok h]
  show (bodyU u ++ sha (bodyU u)).size = _
  rw [ByteArray.size_append, sha_size, bodyU_size h]
  omega
theorem body_app (b t : ByteArray) (ht : t.size = 32) : bodyOf (b ++ t) = b ∧ sumOf' (b ++ t) = t := by
  have hs : (b ++ t).size = b.size + 32 := by rw [ByteArray.size_append, ht]
  constructor
  · apply bl_ext
    unfold bodyOf bl
    rw [hs, ByteArray.data_extract, Array.toList_extract, ByteArray.data_append, Array.toList_append]
    simp only [List.extract_eq_take_drop]
    have : b.data.toList.length = b.size := by simp
    rw [List.drop_zero, List.take_append_of_le_length (by omega), List.take_of_length_le (by omega)]
  · apply bl_ext
    unfold sumOf' bl
    rw [hs, ByteArray.data_extract, Array.toList_extract, ByteArray.data_append, Array.toList_append]
    simp only [List.extract_eq_take_drop]
    have h1 : b.data.toList.length = b.size := by simp
    have h2 : t.data.toList.length = 32 := by rw [← ht]; simp
    rw [show b.size + 32 - 32 = b.size by omega, ← h1, List.drop_left, h1, List.take_of_length_le (by omega)]
theorem rawU_body {u : UbD} (h : mayU u) : valB (bodyU u) 0 2 = markB ∧ valN (bodyU u) 8 2 = u.load.size ∧ rawU (bodyU u) = u ∧ posEnd (bodyU u) (10 + u.load.size) = 0 := by
  have hb := bodyU_bl h
  have hz := bodyU_size h
  have hl6 : (leList u.txg.toNat 6).length = 6 := leList_length _ _
  have hl2 : (leList u.load.size 2).length = 2 := leList_length _ _
  have hm : valB (bodyU u) 0 2 = markB := by
    apply bl_ext
    rw [valB_bl _ _ _ (by omega), hb, vL_here (n := 2) rfl]
    rfl
  have hn : valN (bodyU u) 8 2 = u.load.size := by
    rw [valN_bl _ _ _ (by omega), hb, vL_skip (a := 2) rfl (by omega), vL_skip (a := 6) hl6 (by omega), vL_here hl2, leVal_leL _ _ (by have := h.2.2; show _ < 65536; omega)]
  refine ⟨hm, hn, ?_, posEnd_end _ _ hz⟩
  unfold rawU
  have ht : valN (bodyU u) 2 6 = u.txg.toNat := by
    rw [valN_bl _ _ _ (by omega), hb, vL_skip (a := 2) rfl (by omega), vL_here hl6, leVal_leL _ _ (by have := h.2.1; have := h.1; show _ < 281474976710656; omega)]
  have hv : valB (bodyU u) 10 (valN (bodyU u) 8 2) = u.load := by
    apply bl_ext
    rw [hn, valB_bl _ _ _ (by omega), hb, vL_skip (a := 2) rfl (by omega), vL_skip (a := 6) hl6 (by omega), vL_skip (a := 2) hl2 (by omega), vL_last (bl_size _)]
  rw [ht, hv]
  obtain ⟨t, l⟩ := u
  simp only
  have := h.1
  simp only at this
  rw [show ((t.toNat : Nat) : Int) = t by omega]
/-- What is encoded is decoded as it was. -/
theorem dec_encU {u : UbD} (h : mayU u) : decU (encU u).1 = (u, 0) := by
  have hs := encU_size h
  have ha := body_app (bodyU u) (sha (bodyU u)) (sha_size _)
  obtain ⟨h1, h2, h3, h4⟩ := rawU_body h
  rw [encU_ok h] at hs ⊢
  simp only at hs ⊢
  unfold decU
  rw [if_neg (by omega), ha.1, ha.2, if_neg (by simp), h2, h3, if_neg]
  simp [h1, h4, h]
end Go.Proofs.YtkapbkkbkfmidaaDoor
