/-
  A text taken at a place: the program's reader and the reference's.
-/
import Derived.Test.YtlkkgboaicjaiaaNodeP
import Derived.Test.YtlkkgboaicjaiaaRefPos
import Derived.Test.YtlkkgboaicjaiaaNodeL
namespace Go.Proofs.Ytlkkgboaicjaiaa
open Go.RowKit Go.ChangeShapes Go.WideShapes Go.ChangeAt

theorem text_pos (b : Nat) (s : ByteArray) (k n : Nat) (h1 : 1 ≤ n) (h7 : n ≤ 7) (w : World) (h : RdPos w b s k) :
    Calls Try.prog 45 #[.pointer (some ⟨b, 0, none⟩), .int .i64 n] w fun e w' => e = .returned (.string (valB s (k + n) (valN s k n))) ∧ RdPos w' b s (k + n + valN s k n) ∧ Only b w w' := by
  have H := Lib.hid h
  clear h
  go_enter Try.func45, Try.ntmps45
  go_wp2_with fail
  refine (number_pos b s k n h1 h7 _ H.out).mono ?_
  rintro e w1 ⟨rfl, hr, hb⟩
  have Hr := Lib.hid hr
  have Hb := Lib.hid hb
  clear hr hb
  go_wp2_with fail
  refine (bytes_pos b s (k + n) (valN s k n) _ Hr.out).mono ?_
  rintro e w2 ⟨rfl, hr, hb⟩
  have Hr2 := Lib.hid hr
  have Hb2 := Lib.hid (Hb.out.trans hb)
  clear hr hb
  go_wp2
  go_ret
  exact ⟨rfl, Hr2.out, Hb2.out⟩
theorem rtext_pos (b : Nat) (s : ByteArray) (k n : Nat) (h1 : 1 ≤ n) (h7 : n ≤ 7) (w : World) (h : RrPos w b s k) :
    Calls Try.prog 49 #[.pointer (some ⟨b, 0, none⟩), .int .i64 n] w fun e w' => e = .returned (.string (valB s (k + n) (valN s k n))) ∧ RrPos w' b s (k + n + valN s k n) ∧ Only b w w' := by
  have H := Lib.hid h
  clear h
  go_enter Try.func49, Try.ntmps49
  go_wp2_with fail
  refine (rnumber_pos b s k n h1 h7 _ H.out).mono ?_
  rintro e w1 ⟨rfl, hr, hb⟩
  have Hr := Lib.hid hr
  have Hb := Lib.hid hb
  clear hr hb
  go_wp2_with fail
  refine (rbytes_pos b s (k + n) (valN s k n) _ Hr.out).mono ?_
  rintro e w2 ⟨rfl, hr, hb⟩
  have Hr2 := Lib.hid hr
  have Hb2 := Lib.hid (Hb.out.trans hb)
  clear hr hb
  go_wp2
  go_ret
  exact ⟨rfl, Hr2.out, Hb2.out⟩
theorem rdpos_of {w w' : World} {b : Nat} {s : ByteArray} {k : Nat} (h : RdPos w b s k) (e : w'.heap[b]? = w.heap[b]?) : RdPos w' b s k := by
  unfold RdPos RdAt at h ⊢; rw [e]; exact h
theorem rdpos_lt {w : World} {b : Nat} {s : ByteArray} {k : Nat} (h : RdPos w b s k) : b < w.heap.size := RdAt.lt h
theorem rrpos_of {w w' : World} {b : Nat} {s : ByteArray} {k : Nat} (h : RrPos w b s k) (e : w'.heap[b]? = w.heap[b]?) : RrPos w' b s k := by
  obtain ⟨r, h1, h2⟩ := h
  exact ⟨r, by unfold RrAt at h1 ⊢; rw [e]; exact h1, h2⟩
theorem rrpos_lt {w : World} {b : Nat} {s : ByteArray} {k : Nat} (h : RrPos w b s k) : b < w.heap.size := by
  obtain ⟨r, h1, _⟩ := h
  exact lt_of_block h1
end Go.Proofs.Ytlkkgboaicjaiaa
