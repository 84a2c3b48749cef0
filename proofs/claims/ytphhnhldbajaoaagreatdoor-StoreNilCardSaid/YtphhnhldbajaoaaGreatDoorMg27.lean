/-
  Texts put together: Reader, Pos, ReadText, Bytes, ClogI.
-/
import Derived.Test.YtphhnhldbajaoaaGreatDoorMg20
import Derived.Test.YtphhnhldbajaoaaGreatDoorMg0
import Derived.Test.YtphhnhldbajaoaaGreatDoorMg25
import Derived.Test.YtphhnhldbajaoaaGreatDoorMg23
import Derived.Laws.ResultCell
namespace Go.Proofs.YtphhnhldbajaoaaGreatDoor
open Go.RowKit

/-- Block b is a Reader: what is left, and its error. -/
def RdAt (w : World) (b : Nat) (s : ByteArray) (e : Int) : Prop := w.heap[b]? = some (.cells #[.string s, .int .i64 e] 160 (0, 0))

theorem RdAt.cells {w : World} {b : Nat} {s : ByteArray} {e : Int} (h : RdAt w b s e) :
    w.cell? ⟨b, 0, none⟩ = some (.string s) ∧ w.cell? ⟨b, 1, none⟩ = some (.int .i64 e) ∧ w.frozen? ⟨b, 0, none⟩ = false ∧ w.frozen? ⟨b, 1, none⟩ = false := by
  unfold RdAt at h
  refine ⟨?_, ?_, ?_, ?_⟩ <;> simp [World.cell?, World.frozen?, h]

theorem RdAt.set0 {w : World} {b : Nat} {s : ByteArray} {e : Int} (h : RdAt w b s e) (s' : ByteArray) : RdAt (w.setCell ⟨b, 0, none⟩ (.string s')) b s' e := by
  have := heap_setCell_same w b 0 _ _ (.string s') h
  exact this
theorem RdAt.set1 {w : World} {b : Nat} {s : ByteArray} {e : Int} (h : RdAt w b s e) (e' : Int) : RdAt (w.setCell ⟨b, 1, none⟩ (.int .i64 e')) b s e' := by
  have := heap_setCell_same w b 1 _ _ (.int .i64 e') h
  exact this

/-- An error makes the rest nothing; an earlier one stays. -/
def failS (s : ByteArray) (e : Int) : ByteArray := if e = 0 then ⟨#[]⟩ else s
def failE (e x : Int) : Int := if e = 0 then x else e

theorem fail_nil (x : Int) (w : World) : Calls Tryz.prog 111 #[.pointer none, .int .i64 x] w fun e w' => e = .returned (.tuple #[]) ∧ w = w' := by
  go_enter Tryz.func111, Tryz.ntmps111
  go_wp2
  refine bodyPost_ret (results_none rfl _ _ _) rfl ?_
  exact ⟨rfl, rfl⟩

theorem fail_own (b : Nat) (s : ByteArray) (er x : Int) (w : World) (h : RdAt w b s er) :
    Calls Tryz.prog 111 #[.pointer (some ⟨b, 0, none⟩), .int .i64 x] w fun e w' => e = .returned (.tuple #[]) ∧ RdAt w' b (failS s er) (failE er x) ∧ Only b w w' := by
  obtain ⟨h0, h1, f0, f1⟩ := h.cells
  by_cases he : er = 0
  · subst he
    have H : Hid (RdAt w b s 0) := h
    clear h
    go_enter Tryz.func111, Tryz.ntmps111
    go_wp2
    go_end0
    exact ⟨rfl, (H.out.set1 x).set0 _, (Only.set b 1 w _).trans (Only.set b 0 _ _)⟩
  · have H : Hid (RdAt w b s er) := h
    have he' : (er == 0) = false := by simp [he]
    have e1 : failS s er = s := by unfold failS; rw [if_neg he]
    have e2 : failE er x = er := by unfold failE; rw [if_neg he]
    rw [e1, e2]
    clear h e1 e2
    go_enter Tryz.func111, Tryz.ntmps111
    go_wp2
    refine bodyPost_ret (results_none rfl _ _ _) rfl ?_
    exact ⟨rfl, H.out, Only.refl _ _⟩

theorem bytes_nil (n : Int) (w : World) : Calls Tryz.prog 81 #[.pointer none, .int .i64 n] w fun e w' => e = .returned (.string ⟨#[]⟩) ∧ w = w' := by
  go_enter Tryz.func81, Tryz.ntmps81
  go_wp2
  go_ret
  exact ⟨rfl, rfl⟩

/-- What Bytes takes, and what it leaves. -/
def bytesR (s : ByteArray) (n : Int) : ByteArray := if n < 0 ∨ (s.size : Int) < n then ⟨#[]⟩ else s.extract 0 n.toNat
def bytesS (s : ByteArray) (e n : Int) : ByteArray := if n < 0 ∨ (s.size : Int) < n then failS s e else s.extract n.toNat s.size
def bytesE (s : ByteArray) (e n : Int) : Int := if n < 0 then failE e 1 else if (s.size : Int) < n then failE e 2 else e

theorem bytes_own (b : Nat) (s : ByteArray) (er n : Int) (w : World) (h : RdAt w b s er) :
    Calls Tryz.prog 81 #[.pointer (some ⟨b, 0, none⟩), .int .i64 n] w fun e w' => e = .returned (.string (bytesR s n)) ∧ RdAt w' b (bytesS s er n) (bytesE s er n) ∧ Only b w w' := by
  have H : Hid (RdAt w b s er) := h
  obtain ⟨h0, h1, f0, f1⟩ := h.cells
  clear h
  by_cases hn : n < 0
  · rw [show bytesR s n = ⟨#[]⟩ from if_pos (Or.inl hn), show bytesS s er n = failS s er from if_pos (Or.inl hn), show bytesE s er n = failE er 1 from if_pos hn]
    go_enter Tryz.func81, Tryz.ntmps81
    go_wp2_with fail
    refine (fail_own b s er 1 _ H.out).mono ?_
    rintro e w' ⟨rfl, hr, hb⟩
    have Hr : Hid (RdAt w' b (failS s er) (failE er 1)) := hr
    have Hb : Hid (Only b w w') := hb
    clear hr hb
    go_wp2
    go_ret
    exact ⟨rfl, Hr.out, Hb.out⟩
  · by_cases hl : (s.size : Int) < n
    · rw [show bytesR s n = ⟨#[]⟩ from if_pos (Or.inr hl), show bytesS s er n = failS s er from if_pos (Or.inr hl), show bytesE s er n = failE er 2 from by unfold bytesE; rw [if_neg hn, if_pos hl]]
      go_enter Tryz.func81, Tryz.ntmps81
      go_wp2_with fail
      refine (fail_own b s er 2 _ H.out).mono ?_
      rintro e w' ⟨rfl, hr, hb⟩
      have Hr : Hid (RdAt w' b (failS s er) (failE er 2)) := hr
      have Hb : Hid (Only b w w') := hb
      clear hr hb
      go_wp2
      go_ret
      exact ⟨rfl, Hr.out, Hb.out⟩
    · have hc : ¬ (n < 0 ∨ (s.size : Int) < n) := by omega
      rw [show bytesR s n = s.extract 0 n.toNat from if_neg hc, show bytesS s er n = s.extract n.toNat s.size from if_neg hc, show bytesE s er n = er from by unfold bytesE; rw [if_neg hn, if_neg hl]]
      clear hc
      obtain ⟨k, rfl⟩ : ∃ k : Nat, n = k := ⟨n.toNat, by omega⟩
      have hk : k ≤ s.size := by omega
      clear hn hl
      go_enter Tryz.func81, Tryz.ntmps81
      go_wp2
      go_ret
      exact ⟨rfl, H.out.set0 _, Only.set b 0 w _⟩

def okW (n : Int) : Prop := 1 ≤ n ∧ n ≤ 7
instance (n : Int) : Decidable (okW n) := inferInstanceAs (Decidable (_ ∧ _))
def numR (s : ByteArray) (n : Int) : Int := if okW n then leVal (bytesR s n).data.toList else 0
def numS (s : ByteArray) (e n : Int) : ByteArray := if okW n then bytesS s e n else failS s e
def numE (s : ByteArray) (e n : Int) : Int := if okW n then bytesE s e n else failE e 1

theorem number_nil (n : Int) (w : World) : Calls Tryz.prog 79 #[.pointer none, .int .i64 n] w fun e w' => e = .returned (.int .i64 0) ∧ w = w' := by
  by_cases hn : okW n
  · have hm : 0 ≤ mostI n := by unfold mostI; unfold okW at hn; rw [if_pos hn]; have := p256' n.toNat (by omega); omega
    clear hn
    go_enter Tryz.func79, Tryz.ntmps79
    go_wp2_with fail
    refine (most_any n _).mono ?_
    rintro e w' ⟨rfl, rfl⟩
    go_wp2_with fail
    refine (bytes_nil n _).mono ?_
    rintro e w' ⟨rfl, rfl⟩
    go_wp2
    refine wp_loop_rounds 1 ?_
    rw [rounds_succ]
    go_wp2
    go_ret
    exact ⟨rfl, rfl⟩
  · have hm : mostI n < 0 := by unfold mostI; unfold okW at hn; rw [if_neg hn]; omega
    clear hn
    go_enter Tryz.func79, Tryz.ntmps79
    go_wp2_with fail
    refine (most_any n _).mono ?_
    rintro e w' ⟨rfl, rfl⟩
    go_wp2_with fail
    refine (fail_nil 1 _).mono ?_
    rintro e w' ⟨rfl, rfl⟩
    go_wp2
    go_ret
    exact ⟨rfl, rfl⟩

theorem number_own (b : Nat) (s : ByteArray) (er n : Int) (w : World) (h : RdAt w b s er) :
    Calls Tryz.prog 79 #[.pointer (some ⟨b, 0, none⟩), .int .i64 n] w fun e w' => e = .returned (.int .i64 (numR s n)) ∧ RdAt w' b (numS s er n) (numE s er n) ∧ Only b w w' := by
  have H : Hid (RdAt w b s er) := h
  clear h
  by_cases hn : okW n
  · rw [show numR s n = _ from if_pos hn, show numS s er n = _ from if_pos hn, show numE s er n = _ from if_pos hn]
    have hm : 0 ≤ mostI n := by unfold mostI; unfold okW at hn; rw [if_pos hn]; have := p256' n.toNat (by omega); omega
    have hn' : n ≤ 7 := hn.2
    have hsz : (bytesR s n).size ≤ 7 := by
      unfold bytesR; split
      · exact Nat.zero_le _
      · rw [ByteArray.size_extract]; omega
    obtain ⟨t, ht⟩ : ∃ t, t = bytesR s n := ⟨_, rfl⟩
    rw [← ht] at hsz ⊢
    have HT := Lib.hid ht
    clear hn ht
    go_enter Tryz.func79, Tryz.ntmps79
    go_wp2_with fail
    refine (most_any n _).mono ?_
    rintro e w' ⟨rfl, rfl⟩
    go_wp2_with fail
    refine (bytes_own b s er n _ H.out).mono ?_
    rintro e w' ⟨rfl, hr, hb⟩
    have Hr := Lib.hid hr
    have Hb := Lib.hid hb
    clear hr hb
    rw [← HT.out]
    go_wp2
    go_loop [6, 18] (fun v i => ∃ j : Nat, j ≤ t.size ∧ i = .int .i64 j ∧ v = .int .i64 (leVal (t.data.toList.take j))) (fun _ i => t.size - (RowKit.intOf i).toNat)
    case atStart => exact ⟨0, Nat.zero_le _, rfl, rfl⟩
    case round =>
      obtain ⟨j, hj, rfl, rfl⟩ := hrel
      by_cases hlt : j < t.size
      · have hb : (t[j].toNat : Int) ≤ 255 := by have := t[j].toNat_lt; omega
        have hs := Lib.hid (leVal_take t j hlt)
        have ho := Lib.hid (orStep (leVal (t.data.toList.take j)) t[j].toNat j (leVal_take_lt t j hj) t[j].toNat_lt (by omega))
        go_wp2
        go_round
        case rel => exact ⟨j + 1, by omega, by go_num, by rw [hs.out, ← ho.out]⟩
        case measure => simp [RowKit.intOf]; omega
      · have hjk : Hid (j = t.size) := by show j = _; omega
        go_wp2
        go_ret
        exact ⟨ret_int (by rw [hjk.out, List.take_of_length_le (by simp)]), Hr.out, Hb.out⟩
  · rw [show numR s n = _ from if_neg hn, show numS s er n = _ from if_neg hn, show numE s er n = _ from if_neg hn]
    have hm : mostI n < 0 := by unfold mostI; unfold okW at hn; rw [if_neg hn]; omega
    clear hn
    go_enter Tryz.func79, Tryz.ntmps79
    go_wp2_with fail
    refine (most_any n _).mono ?_
    rintro e w' ⟨rfl, rfl⟩
    go_wp2_with fail
    refine (fail_own b s er 1 _ H.out).mono ?_
    rintro e w' ⟨rfl, hr, hb⟩
    have Hr := Lib.hid hr
    have Hb := Lib.hid hb
    clear hr hb
    go_wp2
    go_ret
    exact ⟨rfl, Hr.out, Hb.out⟩
def endR (s : ByteArray) (e : Int) : Int := if e ≠ 0 then e else if 0 < s.size then 3 else 0

theorem end_any (b : Nat) (s : ByteArray) (er : Int) (w : World) (h : RdAt w b s er) :
    Calls Tryz.prog 82 #[.pointer (some ⟨b, 0, none⟩)] w fun e w' => e = .returned (.int .i64 (endR s er)) ∧ w = w' := by
  obtain ⟨h0, h1, f0, f1⟩ := h.cells
  clear h
  by_cases he : er = 0
  · subst he
    by_cases hz : 0 < s.size
    · rw [show endR s 0 = 3 from by unfold endR; rw [if_neg (by simp), if_pos hz]]
      go_enter Tryz.func82, Tryz.ntmps82
      go_wp2
      go_ret
      exact ⟨rfl, rfl⟩
    · rw [show endR s 0 = 0 from by unfold endR; rw [if_neg (by simp), if_neg hz]]
      go_enter Tryz.func82, Tryz.ntmps82
      go_wp2
      go_ret
      exact ⟨rfl, rfl⟩
  · rw [show endR s er = er from if_pos he]
    have he' : (er == 0) = false := by simp [he]
    go_enter Tryz.func82, Tryz.ntmps82
    go_wp2
    go_ret
    exact ⟨rfl, rfl⟩

theorem read_any (s : ByteArray) (w : World) : Calls Tryz.prog 78 #[.string s] w fun e w' =>
    e = .returned (.pointer (some ⟨w.heap.size, 0, none⟩)) ∧ RdAt w' w.heap.size s 0 ∧ Below w.heap.size w w' := by
  go_enter Tryz.func78, Tryz.ntmps78
  go_wp2
  go_ret
  exact ⟨rfl, (MapKept.heap_alloc w _).1, (Below.refl _ _).alloc (Nat.le_refl _) _⟩
end Go.Proofs.YtphhnhldbajaoaaGreatDoor

namespace Go.Proofs.YtphhnhldbajaoaaGreatDoor
open Go.RowKit

def posS (s : ByteArray) (k : Nat) : ByteArray := if k ≤ s.size then s.extract k s.size else ⟨#[]⟩
def posE (s : ByteArray) (k : Nat) : Int := if k ≤ s.size then 0 else 2
def valB (s : ByteArray) (k n : Nat) : ByteArray := if k + n ≤ s.size then s.extract k (k + n) else ⟨#[]⟩
def valN (s : ByteArray) (k n : Nat) : Nat := leVal (valB s k n).data.toList
def posEnd (s : ByteArray) (k : Nat) : Int := if k < s.size then 3 else if k = s.size then 0 else 2

theorem posS_size (s : ByteArray) (k : Nat) : (posS s k).size = s.size - k := by
  unfold posS; split
  · rw [ByteArray.size_extract]; omega
  · show 0 = _; omega
theorem extract_extract' (s : ByteArray) (k n : Nat) (h : k + n ≤ s.size) : (s.extract k s.size).extract 0 n = s.extract k (k + n) := by
  rw [ByteArray.extract_extract]; congr 1 <;> omega
theorem extract_drop' (s : ByteArray) (k n : Nat) (_h : k + n ≤ s.size) : (s.extract k s.size).extract n (s.size - k) = s.extract (k + n) s.size := by
  rw [ByteArray.extract_extract]; congr 1; omega

theorem pos_bytes (s : ByteArray) (k n : Nat) : bytesR (posS s k) n = valB s k n ∧ bytesS (posS s k) (posE s k) n = posS s (k + n) ∧ bytesE (posS s k) (posE s k) n = posE s (k + n) := by
  have hz := posS_size s k
  by_cases h : k + n ≤ s.size
  · have c : ¬ ((n : Int) < 0 ∨ ((posS s k).size : Int) < n) := by rw [hz]; omega
    have c1 : ¬ (n : Int) < 0 := by omega
    have c2 : ¬ ((posS s k).size : Int) < n := by rw [hz]; omega
    unfold bytesR bytesS bytesE valB
    rw [if_neg c, if_neg c, if_neg c1, if_neg c2, if_pos h, hz, Int.toNat_natCast]
    unfold posS posE
    rw [if_pos (by omega : k ≤ s.size), if_pos h, if_pos h, if_pos (by omega : k ≤ s.size)]
    exact ⟨extract_extract' s k n h, extract_drop' s k n h, rfl⟩
  · by_cases h0 : n = 0
    · subst h0
      have hk : ¬ k ≤ s.size := by omega
      have e : posS s k = ⟨#[]⟩ := if_neg hk
      rw [e, Nat.add_zero]
      unfold valB
      rw [if_neg h, e]
      refine ⟨rfl, rfl, ?_⟩
      unfold bytesE
      rw [if_neg (by decide), if_neg (by decide)]
    have c2 : ((posS s k).size : Int) < n := by rw [hz]; omega
    have c1 : ¬ (n : Int) < 0 := by omega
    unfold bytesR bytesS bytesE valB
    rw [if_pos (Or.inr c2), if_pos (Or.inr c2), if_neg c1, if_pos c2, if_neg h]
    refine ⟨rfl, ?_, ?_⟩
    · unfold posE failS posS
      rw [if_neg h]
      by_cases hk : k ≤ s.size
      · rw [if_pos hk, if_pos rfl]
      · rw [if_neg hk, if_neg (by decide), if_neg hk]
    · unfold posE failE
      rw [if_neg h]
      by_cases hk : k ≤ s.size
      · rw [if_pos hk, if_pos rfl]
      · rw [if_neg hk, if_neg (by decide)]

theorem pos_num (s : ByteArray) (k n : Nat) (h1 : 1 ≤ n) (h7 : n ≤ 7) : numR (posS s k) n = valN s k n ∧ numS (posS s k) (posE s k) n = posS s (k + n) ∧ numE (posS s k) (posE s k) n = posE s (k + n) := by
  have hp := pos_bytes s k n
  have hk : okW (n : Int) := ⟨by omega, by omega⟩
  unfold numR numS numE
  rw [if_pos hk, if_pos hk, if_pos hk, hp.1]
  exact ⟨rfl, hp.2⟩

theorem pos_end (s : ByteArray) (k : Nat) : endR (posS s k) (posE s k) = posEnd s k := by
  unfold endR posEnd
  rw [posS_size]
  unfold posE
  split <;> split <;> (try split) <;> omega

/-- The program's reader, at place k of s. -/
def RdPos (w : World) (b : Nat) (s : ByteArray) (k : Nat) : Prop := RdAt w b (posS s k) (posE s k)
theorem RdPos.lt {w : World} {b : Nat} {s : ByteArray} {k : Nat} (h : RdPos w b s k) : b < w.heap.size := lt_of_block h

theorem read_pos (s : ByteArray) (w : World) : Calls Tryz.prog 78 #[.string s] w fun e w' =>
    e = .returned (.pointer (some ⟨w.heap.size, 0, none⟩)) ∧ RdPos w' w.heap.size s 0 ∧ Below w.heap.size w w' :=
  (read_any s w).mono fun e w' ⟨h1, h2, h3⟩ => ⟨h1, by
    unfold RdPos posS posE
    rw [if_pos (Nat.zero_le _), if_pos (Nat.zero_le _)]
    have : s.extract 0 s.size = s := ByteArray.extract_zero_size
    rw [this]; exact h2, h3⟩
theorem number_pos (b : Nat) (s : ByteArray) (k n : Nat) (h1 : 1 ≤ n) (h7 : n ≤ 7) (w : World) (h : RdPos w b s k) :
    Calls Tryz.prog 79 #[.pointer (some ⟨b, 0, none⟩), .int .i64 n] w fun e w' => e = .returned (.int .i64 (valN s k n)) ∧ RdPos w' b s (k + n) ∧ Only b w w' := by
  have hp := pos_num s k n h1 h7
  refine (number_own b _ _ n w h).mono fun e w' ⟨a, c, d⟩ => ⟨by rw [a, hp.1], ?_, d⟩
  rw [hp.2.1, hp.2.2] at c
  exact c
theorem bytes_pos (b : Nat) (s : ByteArray) (k n : Nat) (w : World) (h : RdPos w b s k) :
    Calls Tryz.prog 81 #[.pointer (some ⟨b, 0, none⟩), .int .i64 n] w fun e w' => e = .returned (.string (valB s k n)) ∧ RdPos w' b s (k + n) ∧ Only b w w' := by
  have hp := pos_bytes s k n
  refine (bytes_own b _ _ n w h).mono fun e w' ⟨a, c, d⟩ => ⟨by rw [a, hp.1], ?_, d⟩
  rw [hp.2.1, hp.2.2] at c
  exact c
theorem end_pos (b : Nat) (s : ByteArray) (k : Nat) (w : World) (h : RdPos w b s k) :
    Calls Tryz.prog 82 #[.pointer (some ⟨b, 0, none⟩)] w fun e w' => e = .returned (.int .i64 (posEnd s k)) ∧ w = w' :=
  (end_any b _ _ w h).mono fun e w' ⟨a, c⟩ => ⟨by rw [a, pos_end], c⟩
end Go.Proofs.YtphhnhldbajaoaaGreatDoor

namespace Go.Proofs.YtphhnhldbajaoaaGreatDoor
open Go.RowKit

end Go.Proofs.YtphhnhldbajaoaaGreatDoor

namespace Go.Proofs.YtphhnhldbajaoaaGreatDoor
open Go.RowKit

def bl (s : ByteArray) : List UInt8 := s.data.toList
end Go.Proofs.YtphhnhldbajaoaaGreatDoor

namespace Go.Proofs.YtphhnhldbajaoaaGreatDoor
open Go.RowKit

theorem Only.setNew {b : Nat} {w w' : World} (h : Only b w w') {g j : Nat} (hg : w.heap.size ≤ g) (v : Value) : Only b w (w'.setCell ⟨g, j, none⟩ v) :=
  ⟨h.os, h.tape, h.output, Nat.le_trans h.size (Nat.le_of_eq (Array.size_modify ..).symm), fun i hi hne => (heap_setCell_other w' ⟨g, j, none⟩ i v (by show i ≠ g; omega)).trans (h.block i hi hne)⟩
theorem RdPos.keep {w w' : World} {b : Nat} {s : ByteArray} {k : Nat} (h : RdPos w b s k) (hb : Below w.heap.size w w') : RdPos w' b s k := (hb.block b h.lt).trans h
theorem RdPos.set {w : World} {b : Nat} {s : ByteArray} {k : Nat} (h : RdPos w b s k) {g j : Nat} (v : Value) (hg : b ≠ g) : RdPos (w.setCell ⟨g, j, none⟩ v) b s k := (heap_setCell_other w ⟨g, j, none⟩ b v hg).trans h

theorem ctext_pos (b : Nat) (s : ByteArray) (k : Nat) (w : World) (h : RdPos w b s k) :
    Calls Tryz.prog 176 #[.pointer (some ⟨b, 0, none⟩), .int .i64 1] w fun e w' => e = .returned (.string (valB s (k + 1) (valN s k 1))) ∧ RdPos w' b s (k + 1 + valN s k 1) ∧ Only b w w' := by
  have H := Lib.hid h
  clear h
  go_enter Tryz.func176, Tryz.ntmps176
  go_wp2_with fail
  refine (number_pos b s k 1 (by decide) (by decide) _ H.out).mono ?_
  rintro e w1 ⟨rfl, hr, hb⟩
  have Hr := Lib.hid hr
  have Hb := Lib.hid hb
  clear hr hb
  go_wp2_with fail
  refine (bytes_pos b s _ _ _ Hr.out).mono ?_
  rintro e w2 ⟨rfl, hr, hb⟩
  have Hr2 := Lib.hid hr
  have Hb2 := Lib.hid (Hb.out.trans hb)
  clear hr hb
  go_wp2
  go_ret
  exact ⟨rfl, Hr2.out, Hb2.out⟩

/-- The entry that lies at place k of a text, and the place behind it. -/
def entAt (b : ByteArray) (k : Nat) : CgE := ⟨valB b (k + 1) (valN b k 1), valB b (k + 1 + valN b k 1) 32, valN b (k + 1 + valN b k 1 + 32) 2, valN b (k + 1 + valN b k 1 + 32 + 2) 2⟩
def entTo (b : ByteArray) (k : Nat) : Nat := k + 1 + valN b k 1 + 32 + 2 + 2
theorem sizeCE : (Tryz.prog.info? 170).map (·.size) = some 4 := by kernel_rfl

set_option maxRecDepth 100000 in
set_option maxHeartbeats 2000000 in
theorem centry_any (R : Nat) (b : ByteArray) (k : Nat) (w : World) (h : RdPos w R b k) :
    Calls Tryz.prog 168 #[.pointer (some ⟨R, 0, none⟩)] w fun e w' => e = .returned (cgV (entAt b k)) ∧ RdPos w' R b (entTo b k) ∧ Only R w w' := by
  have hx := (Below.refl w.heap.size w).alloc (Nat.le_refl _) (.cells #[.string ⟨#[]⟩, .string ⟨#[]⟩, .int .i64 0, .int .i64 0] 170)
  have BX := Lib.hid (Box.new w 170 #[.string ⟨#[]⟩, .string ⟨#[]⟩, .int .i64 0, .int .i64 0])
  have HR := Lib.hid (h.keep hx)
  have HO := Lib.hid (Only.of (b := R) hx (Nat.le_refl _))
  have HLT := Lib.hid h.lt
  have HE : Hid (entAt b k = ⟨valB b (k + 1) (valN b k 1), valB b (k + 1 + valN b k 1) 32, valN b (k + 1 + valN b k 1 + 32) 2, valN b (k + 1 + valN b k 1 + 32 + 2) 2⟩) := rfl
  have HT : Hid (entTo b k = k + 1 + valN b k 1 + 32 + 2 + 2) := rfl
  clear h hx
  go_enter Tryz.func168, Tryz.ntmps168
  go_wp2_with fail
  generalize World.alloc w _ = w0 at *
  obtain ⟨g, hg⟩ : ∃ g, g = w.heap.size := ⟨_, rfl⟩
  have HG := Lib.hid hg
  rw [← hg] at BX HLT
  rw [← hg]
  clear hg
  refine (ctext_pos R b k _ HR.out).mono ?_
  rintro e w1 ⟨rfl, hr, hb⟩
  have R1 := Lib.hid hr
  have O1 := Lib.hid (HO.out.trans hb)
  have B1 := Lib.hid (hb.box (Nat.ne_of_gt HLT.out) BX.out)
  clear hr hb HR HO BX
  generalize k + 1 + valN b k 1 = k1 at *
  generalize valB b (k + 1) (valN b k 1) = xk at *
  go_wp2_with fail
  refine (bytes_pos R b k1 32 _ R1.out).mono ?_
  rintro e w2 ⟨rfl, hr, hb⟩
  have R2 := Lib.hid hr
  have O2 := Lib.hid (O1.out.trans hb)
  have B2 := Lib.hid (hb.box (Nat.ne_of_gt HLT.out) B1.out)
  clear hr hb R1 O1 B1
  generalize valB b k1 32 = xs at *
  generalize k1 + 32 = k2 at *
  go_wp2_with fail
  refine (number_pos R b k2 2 (by decide) (by decide) _ R2.out).mono ?_
  rintro e w3 ⟨rfl, hr, hb⟩
  have R3 := Lib.hid hr
  have O3 := Lib.hid (O2.out.trans hb)
  have B3 := Lib.hid (hb.box (Nat.ne_of_gt HLT.out) B2.out)
  clear hr hb R2 O2 B2
  generalize ((valN b k2 2 : Nat) : Int) = xn at *
  generalize k2 + 2 = k3 at *
  go_wp2_with fail
  refine (number_pos R b k3 2 (by decide) (by decide) _ R3.out).mono ?_
  rintro e w4 ⟨rfl, hr, hb⟩
  have R4 := Lib.hid hr
  have O4 := Lib.hid (O3.out.trans hb)
  have B4 := Lib.hid (hb.box (Nat.ne_of_gt HLT.out) B3.out)
  clear hr hb R3 O3 B3
  generalize ((valN b k3 2 : Nat) : Int) = xp at *
  have c0 := B4.out.cell 0 _ rfl
  have c1 := B4.out.cell 1 _ rfl
  have c2 := B4.out.cell 2 _ rfl
  have c3 := B4.out.cell 3 _ rfl
  have f0 := B4.out.free 0
  have f1 := B4.out.free 1
  have f2 := B4.out.free 2
  have f3 := B4.out.free 3
  have B5 := Lib.hid ((((B4.out.set 0 (.string xk)).set 1 (.string xs)).set 2 (.int .i64 xn)).set 3 (.int .i64 xp))
  have hne : R ≠ g := Nat.ne_of_lt HLT.out
  have R5 := Lib.hid ((((R4.out.set (g := g) (j := 0) (.string xk) hne).set (g := g) (j := 1) (.string xs) hne).set (g := g) (j := 2) (.int .i64 xn) hne).set (g := g) (j := 3) (.int .i64 xp) hne)
  have hle : w.heap.size ≤ g := by rw [HG.out]; exact Nat.le_refl _
  have O5 := Lib.hid ((((O4.out.setNew (g := g) (j := 0) hle (.string xk)).setNew (g := g) (j := 1) hle (.string xs)).setNew (g := g) (j := 2) hle (.int .i64 xn)).setNew (g := g) (j := 3) hle (.int .i64 xp))
  clear B4 R4 O4 hne hle
  go_wp2
  refine bodyPost_ret (results_cell_row rfl _ _ g 170 _ (0, 0) _ rfl B5.out Tryz.underlying170 rfl sizeCE) rfl ?_
  refine ⟨?_, ?_, O5.out⟩
  · rw [HE.out]
    rfl
  · rw [HT.out]
    exact R5.out
end Go.Proofs.YtphhnhldbajaoaaGreatDoor
