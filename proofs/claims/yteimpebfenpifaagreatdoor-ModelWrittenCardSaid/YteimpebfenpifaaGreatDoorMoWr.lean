/-
  What is written is read: plain data. No program here.
-/
import Derived.Test.YteimpebfenpifaaGreatDoorMg41
namespace Go.Proofs.YteimpebfenpifaaGreatDoor
open Go Go.RowKit

theorem dir_text (G : GD) (n : Nat) (s : ByteArray) (m : Nat) : dirG (textSet G n s) m = dirG G m := by
  show (match (G.T.set n { (G.T[n]?.getD ⟨false, noB⟩) with text := s })[m]? with | none => false | some t => t.dir) = _
  unfold dirG
  rw [List.getElem?_set]
  by_cases h : n = m
  · subst h
    rw [if_pos rfl]
    by_cases hl : n < G.T.length
    · rw [if_pos hl, List.getElem?_eq_getElem hl]; rfl
    · rw [if_neg hl, List.getElem?_eq_none (by omega)]
  · rw [if_neg h]; rfl
theorem at_text (G : GD) (n : Nat) (s : ByteArray) (l : PathD) : atE (textSet G n s) l = atE G l := rfl
theorem step_text (G : GD) (n : Nat) (s : ByteArray) : ∀ (r pre : PathD), stepG (textSet G n s) pre r = stepG G pre r
  | [], _ => rfl
  | x :: r, pre => by
    unfold stepG
    rw [dir_text, at_text, at_text, step_text G n s r]
theorem lead_text (G : GD) (n : Nat) (s p : ByteArray) : leadG (textSet G n s) p = leadG G p := by
  unfold leadG
  rw [step_text]
theorem text_self {G : GD} {n : Nat} (h : n < G.T.length) (s : ByteArray) : textG (textSet G n s) n = s := by
  show (match (G.T.set n { (G.T[n]?.getD ⟨false, noB⟩) with text := s })[n]? with | none => noB | some t => t.text) = _
  rw [List.getElem?_set, if_pos rfl, if_pos h]
theorem cut_all {t : ByteArray} {k : Nat} (h : t.size ≤ k) : cutB t 0 k = t := by
  apply pb_ext
  unfold cutB
  rw [pb_mk, List.drop_zero, List.take_of_length_le (by rw [pb_size]; exact h)]
theorem writ_none {t d : ByteArray} {off : Nat} (h : d.size = 0) : writB t off d = t := if_pos h
theorem pb_writ {t d : ByteArray} {off : Nat} (h : d.size ≠ 0) : pb (writB t off d) = (pb t ++ List.replicate (off - t.size) 0).take off ++ pb d ++ (pb t).drop (off + d.size) := by
  unfold writB
  rw [if_neg h, pb_mk]
theorem head_len (t : ByteArray) (off : Nat) : ((pb t ++ List.replicate (off - t.size) 0).take off).length = off := by
  rw [List.length_take, List.length_append, List.length_replicate, pb_size]
  omega
theorem writ_size {t d : ByteArray} {off : Nat} (h : d.size ≠ 0) : (writB t off d).size = max t.size (off + d.size) := by
  rw [← pb_size, pb_writ h, List.length_append, List.length_append, head_len, pb_size, List.length_drop, pb_size]
  omega
theorem writ_got {t d : ByteArray} {off : Nat} (h : d.size ≠ 0) : cutB (writB t off d) off d.size = d := by
  apply pb_ext
  show pb ⟨(((pb (writB t off d)).drop off).take d.size).toArray⟩ = _
  rw [pb_mk, pb_writ h, List.append_assoc, List.drop_append_of_le_length (by have := head_len t off; omega), List.drop_of_length_le (by have := head_len t off; omega), List.nil_append, List.take_append_of_le_length (by have := pb_size d; omega), List.take_of_length_le (by have := pb_size d; omega)]
/-- What stood ahead of it. -/
theorem writ_head {t d : ByteArray} {off n : Nat} (h : d.size ≠ 0) (hn : n = max t.size (off + d.size)) : (pb (writB t off d)).take off = (pb t ++ List.replicate (n - t.size) 0).take off := by
  rw [pb_writ h, List.append_assoc, List.take_append_of_le_length (by have := head_len t off; omega), List.take_of_length_le (by have := head_len t off; omega)]
  rw [List.take_append, List.take_append, pb_size, List.take_replicate, List.take_replicate]
  congr 2
  omega
/-- What stands behind it. -/
theorem writ_tail {t d : ByteArray} {off n : Nat} (h : d.size ≠ 0) (hn : n = max t.size (off + d.size)) : (pb (writB t off d)).drop (off + d.size) = (pb t ++ List.replicate (n - t.size) 0).drop (off + d.size) := by
  have hlen : ((pb t ++ List.replicate (off - t.size) 0).take off ++ pb d).length = off + d.size := by rw [List.length_append, head_len, pb_size]
  rw [pb_writ h, List.drop_append_of_le_length (by omega), List.drop_of_length_le (by omega), List.nil_append, List.drop_append, pb_size, List.drop_replicate]
  by_cases hc : off + d.size ≤ t.size
  · have : n - t.size - (off + d.size - t.size) = 0 := by omega
    rw [this]; simp
  · have : n - t.size - (off + d.size - t.size) = 0 := by omega
    rw [this]; simp
/-! ### the four answers -/
def wrR (name : ByteArray) : OpD := ⟨6, name, noB, 0, 20000, noB⟩
def wrW (name : ByteArray) (off : Nat) (d : ByteArray) : OpD := ⟨7, name, noB, off, 0, d⟩
def wrG (name : ByteArray) (off : Nat) (d : ByteArray) : OpD := ⟨6, name, noB, off, (d.size : Nat), noB⟩
theorem read_eq (G : GD) (name : ByteArray) (off len : Nat) : doG G ⟨6, name, noB, off, len, noB⟩ = fileG G name fun n => (⟨0, ((cutB (textG G n) off len).size : Nat), cutB (textG G n) off len, []⟩, G) := by
  show fileG G name (fun n => if (off : Int) < 0 ∨ (len : Int) < 0 then (noA 1, G) else (⟨0, ((cutB (textG G n) (off : Int).toNat (len : Int).toNat).size : Nat), cutB (textG G n) (off : Int).toNat (len : Int).toNat, []⟩, G)) = _
  congr 1
theorem write_eq (G : GD) (name : ByteArray) (off : Nat) (d : ByteArray) (h : off + d.size ≤ 16384) : doG G (wrW name off d) = fileG G name fun n => (⟨0, (d.size : Nat), noB, []⟩, textSet G n (writB (textG G n) off d)) := by
  show fileG G name (fun n => if (off : Int) < 0 then (noA 1, G) else if (16384 : Int) < (off : Int) + (d.size : Int) then (noA 13, G) else (⟨0, (d.size : Nat), noB, []⟩, textSet G n (writB (textG G n) (off : Int).toNat d))) = _
  congr 1
  funext n
  rw [if_neg (by omega), if_neg (by omega)]
  rfl
theorem file_yes {G : GD} {p : ByteArray} {k : Nat → AnsD × GD} (h1 : (leadG G p).2 = 0) (h2 : dirG G (leadG G p).1 = false) : fileG G p k = k (leadG G p).1 := by
  unfold fileG
  rw [if_neg (fun e => e h1), if_neg (by rw [h2]; decide)]
theorem file_no {G : GD} {p : ByteArray} (h : ¬ ((leadG G p).2 = 0 ∧ dirG G (leadG G p).1 = false)) : ∃ e, e ≠ 0 ∧ ∀ k : Nat → AnsD × GD, fileG G p k = (noA e, G) := by
  by_cases h1 : (leadG G p).2 = 0
  · have h2 : dirG G (leadG G p).1 = true := by
      cases hd : dirG G (leadG G p).1 with
      | true => rfl
      | false => exact absurd ⟨h1, hd⟩ h
    exact ⟨10, by decide, fun k => by unfold fileG; rw [if_neg (fun e => e h1), if_pos h2]⟩
  · exact ⟨_, h1, fun k => by unfold fileG; rw [if_pos h1]⟩
theorem lead_lt {G : GD} (hw : WfG G) {p : ByteArray} (h1 : (leadG G p).2 = 0) (h2 : dirG G (leadG G p).1 = false) : (leadG G p).1 < G.T.length := by
  have ha := (leadG_at h1).2
  by_cases h0 : (splitD p).1 = []
  · rw [h0] at ha
    have h3 : (0 : Nat) = (leadG G p).1 := Option.some.inj ha
    rw [← h3, hw.root] at h2
    cases h2
  · rw [atE_ne h0] at ha
    exact hw.num _ (findL_mem ha)
theorem written {G : GD} (hw : WfG G) (name : ByteArray) (off : Nat) (d : ByteArray) (h : off + d.size ≤ 16384) :
    (∃ e, e ≠ 0 ∧ doG G (wrR name) = (noA e, G) ∧ doG G (wrW name off d) = (noA e, G) ∧ doG G (wrG name off d) = (noA e, G)) ∨
    ∃ t : ByteArray, ∃ G' : GD, t.size ≤ 16384 ∧ doG G (wrR name) = (⟨0, (t.size : Nat), t, []⟩, G) ∧ doG G (wrW name off d) = (⟨0, (d.size : Nat), noB, []⟩, G') ∧
      doG G' (wrR name) = (⟨0, ((writB t off d).size : Nat), writB t off d, []⟩, G') ∧ doG G' (wrG name off d) = (⟨0, ((cutB (writB t off d) off d.size).size : Nat), cutB (writB t off d) off d.size, []⟩, G') := by
  by_cases hf : (leadG G name).2 = 0 ∧ dirG G (leadG G name).1 = false
  · obtain ⟨h1, h2⟩ := hf
    have hlt := lead_lt hw h1 h2
    have hsm := hw.small (leadG G name).1
    have hs2 : (writB (textG G (leadG G name).1) off d).size ≤ 20000 := by
      by_cases hd : d.size = 0
      · rw [writ_none hd]; omega
      · rw [writ_size hd]; omega
    refine .inr ⟨textG G (leadG G name).1, textSet G (leadG G name).1 (writB (textG G (leadG G name).1) off d), hsm, ?_, ?_, ?_, ?_⟩
    · have := read_eq G name 0 20000
      rw [file_yes h1 h2, cut_all (by omega)] at this
      exact this
    · rw [write_eq G name off d h, file_yes h1 h2]
    · have := read_eq (textSet G (leadG G name).1 (writB (textG G (leadG G name).1) off d)) name 0 20000
      rw [file_yes (by rw [lead_text]; exact h1) (by rw [lead_text, dir_text]; exact h2), lead_text, text_self hlt, cut_all hs2] at this
      exact this
    · have := read_eq (textSet G (leadG G name).1 (writB (textG G (leadG G name).1) off d)) name off d.size
      rw [file_yes (by rw [lead_text]; exact h1) (by rw [lead_text, dir_text]; exact h2), lead_text, text_self hlt] at this
      exact this
  · obtain ⟨e, he, hk⟩ := file_no hf
    refine .inl ⟨e, he, ?_, ?_, ?_⟩
    · exact (read_eq G name 0 20000).trans (hk _)
    · exact (write_eq G name off d h).trans (hk _)
    · exact (read_eq G name off d.size).trans (hk _)
end Go.Proofs.YteimpebfenpifaaGreatDoor
