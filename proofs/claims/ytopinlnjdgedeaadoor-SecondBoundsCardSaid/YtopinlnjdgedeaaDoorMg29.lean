/-
  Texts put together: Pos, ReadText, Bytes, ClogI.
-/
import Derived.Test.YtopinlnjdgedeaaDoorReader
import Derived.Test.YtopinlnjdgedeaaDoorMg26
import Derived.Test.YtopinlnjdgedeaaDoorMg18
import Derived.Laws.ResultCell
namespace Go.Proofs.YtopinlnjdgedeaaDoor
open Go.RowKit

def posS (s : ByteArray) (k : Nat) : ByteArray := if k ≤ s.size then s.extract k s.size else ⟨#[]⟩
def posE (s : ByteArray) (k : Nat) : Int := if k ≤ s.size then 0 else 2
def valB (s : ByteArray) (k n : Nat) : ByteArray := if k + n ≤ s.size then s.extract k (k + n) else ⟨#[]⟩
def valN (s : ByteArray) (k n : Nat) : Nat := leVal (valB s k n).data.toList
def posEnd (s : ByteArray) (k : Nat) : Int := if k < s.size then 3 else if k = s.size then 0 else 2

theorem posS_size (s : ByteArray) (k : Nat) : (posS s k).size = s.size - k := by
  unfold posS; split
  · rw [ByteArray.size_extract]; omega
  · show 0 = _; omega
theorem extract_extract' (s : ByteArray) (k n : Nat) (h : k + n ≤ s.size) : (s.extract k s.size).extract 0 n = s.extract k (k + n) := by
  rw [ByteArray.extract_extract]; congr 1 <;> omega
theorem extract_drop' (s : ByteArray) (k n : Nat) (_h : k + n ≤ s.size) : (s.extract k s.size).extract n (s.size - k) = s.extract (k + n) s.size := by
  rw [ByteArray.extract_extract]; congr 1; omega

theorem pos_bytes (s : ByteArray) (k n : Nat) : bytesR (posS s k) n = valB s k n ∧ bytesS (posS s k) (posE s k) n = posS s (k + n) ∧ bytesE (posS s k) (posE s k) n = posE s (k + n) := by
  have hz := posS_size s k
  by_cases h : k + n ≤ s.size
  · have c : ¬ ((n : Int) < 0 ∨ ((posS s k).size : Int) < n) := by rw [hz]; omega
    have c1 : ¬ (n : Int) < 0 := by omega
    have c2 : ¬ ((posS s k).size : Int) < n := by rw [hz]; omega
    unfold bytesR bytesS bytesE valB
    rw [if_neg c, if_neg c, if_neg c1, if_neg c2, if_pos h, hz, Int.toNat_natCast]
    unfold posS posE
    rw [if_pos (by omega : k ≤ s.size), if_pos h, if_pos h, if_pos (by omega : k ≤ s.size)]
    exact ⟨extract_extract' s k n h, extract_drop' s k n h, rfl⟩
  · by_cases h0 : n = 0
    · subst h0
      have hk : ¬ k ≤ s.size := by omega
      have e : posS s k = ⟨#[]⟩ := if_neg hk
      rw [e, Nat.add_zero]
      unfold valB
      rw [if_neg h, e]
      refine ⟨rfl, rfl, ?_⟩
      unfold bytesE
      rw [if_neg (by decide), if_neg (by decide)]
    have c2 : ((posS s k).size : Int) < n := by rw [hz]; omega
    have c1 : ¬ (n : Int) < 0 := by omega
    unfold bytesR bytesS bytesE valB
    rw [if_pos (Or.inr c2), if_pos (Or.inr c2), if_neg c1, if_pos c2, if_neg h]
    refine ⟨rfl, ?_, ?_⟩
    · unfold posE failS posS
      rw [if_neg h]
      by_cases hk : k ≤ s.size
      · rw [if_pos hk, if_pos rfl]
      · rw [if_neg hk, if_neg (by decide), if_neg hk]
    · unfold posE failE
      rw [if_neg h]
      by_cases hk : k ≤ s.size
      · rw [if_pos hk, if_pos rfl]
      · rw [if_neg hk, if_neg (by decide)]

theorem pos_num (s : ByteArray) (k n : Nat) (h1 : 1 ≤ n) (h7 : n ≤ 7) : numR (posS s k) n = valN s k n ∧ numS (posS s k) (posE s k) n = posS s (k + n) ∧ numE (posS s k) (posE s k) n = posE s (k + n) := by
  have hp := pos_bytes s k n
  have hk : okW (n : Int) := ⟨by omega, by omega⟩
  unfold numR numS numE
  rw [if_pos hk, if_pos hk, if_pos hk, hp.1]
  exact ⟨rfl, hp.2⟩

theorem pos_end (s : ByteArray) (k : Nat) : endR (posS s k) (posE s k) = posEnd s k := by
  unfold endR posEnd
  rw [posS_size]
  unfold posE
  split <;> split <;> (try split) <;> omega

/-- The program's reader, at place k of s. -/
def RdPos (w : World) (b : Nat) (s : ByteArray) (k : Nat) : Prop := RdAt w b (posS s k) (posE s k)

theorem read_pos (s : ByteArray) (w : World) : Calls Tryd.prog 61 #[.string s] w fun e w' =>
    e = .returned (.pointer (some ⟨w.heap.size, 0, none⟩)) ∧ RdPos w' w.heap.size s 0 ∧ Below w.heap.size w w' :=
  (read_any s w).mono fun e w' ⟨h1, h2, h3⟩ => ⟨h1, by
    unfold RdPos posS posE
    rw [if_pos (Nat.zero_le _), if_pos (Nat.zero_le _)]
    have : s.extract 0 s.size = s := ByteArray.extract_zero_size
    rw [this]; exact h2, h3⟩
theorem number_pos (b : Nat) (s : ByteArray) (k n : Nat) (h1 : 1 ≤ n) (h7 : n ≤ 7) (w : World) (h : RdPos w b s k) :
    Calls Tryd.prog 63 #[.pointer (some ⟨b, 0, none⟩), .int .i64 n] w fun e w' => e = .returned (.int .i64 (valN s k n)) ∧ RdPos w' b s (k + n) ∧ Only b w w' := by
  have hp := pos_num s k n h1 h7
  refine (number_own b _ _ n w h).mono fun e w' ⟨a, c, d⟩ => ⟨by rw [a, hp.1], ?_, d⟩
  rw [hp.2.1, hp.2.2] at c
  exact c
theorem bytes_pos (b : Nat) (s : ByteArray) (k n : Nat) (w : World) (h : RdPos w b s k) :
    Calls Tryd.prog 62 #[.pointer (some ⟨b, 0, none⟩), .int .i64 n] w fun e w' => e = .returned (.string (valB s k n)) ∧ RdPos w' b s (k + n) ∧ Only b w w' := by
  have hp := pos_bytes s k n
  refine (bytes_own b _ _ n w h).mono fun e w' ⟨a, c, d⟩ => ⟨by rw [a, hp.1], ?_, d⟩
  rw [hp.2.1, hp.2.2] at c
  exact c
theorem end_pos (b : Nat) (s : ByteArray) (k : Nat) (w : World) (h : RdPos w b s k) :
    Calls Tryd.prog 65 #[.pointer (some ⟨b, 0, none⟩)] w fun e w' => e = .returned (.int .i64 (posEnd s k)) ∧ w = w' :=
  (end_any b _ _ w h).mono fun e w' ⟨a, c⟩ => ⟨by rw [a, pos_end], c⟩
end Go.Proofs.YtopinlnjdgedeaaDoor

namespace Go.Proofs.YtopinlnjdgedeaaDoor
open Go.RowKit

def textR (s : ByteArray) (e n : Int) : ByteArray := bytesR (numS s e n) (numR s n)
def textS (s : ByteArray) (e n : Int) : ByteArray := bytesS (numS s e n) (numE s e n) (numR s n)
def textE (s : ByteArray) (e n : Int) : Int := bytesE (numS s e n) (numE s e n) (numR s n)

theorem text_nil (n : Int) (w : World) : Calls Tryd.prog 75 #[.pointer none, .int .i64 n] w fun e w' => e = .returned (.string ⟨#[]⟩) ∧ w = w' := by
  go_enter Tryd.func75, Tryd.ntmps75
  go_wp2_with fail
  refine (number_nil n _).mono ?_
  rintro e w' ⟨rfl, rfl⟩
  go_wp2_with fail
  refine (bytes_nil 0 _).mono ?_
  rintro e w' ⟨rfl, rfl⟩
  go_wp2
  go_ret
  exact ⟨rfl, rfl⟩

theorem text_any (b : Nat) (s : ByteArray) (er n : Int) (w : World) (h : RdAt w b s er) :
    Calls Tryd.prog 75 #[.pointer (some ⟨b, 0, none⟩), .int .i64 n] w fun e w' => e = .returned (.string (textR s er n)) ∧ RdAt w' b (textS s er n) (textE s er n) ∧ Below b w w' := by
  have H := Lib.hid h
  clear h
  go_enter Tryd.func75, Tryd.ntmps75
  go_wp2_with fail
  refine (number_any b s er n _ H.out).mono ?_
  rintro e w1 ⟨rfl, hr, hb⟩
  have Hr := Lib.hid hr
  have Hb := Lib.hid hb
  clear hr hb
  go_wp2_with fail
  refine (bytes_any b _ _ _ _ Hr.out).mono ?_
  rintro e w2 ⟨rfl, hr, hb⟩
  have Hr2 := Lib.hid hr
  have Hb2 := Lib.hid (Hb.out.trans hb)
  clear hr hb
  go_wp2
  go_ret
  exact ⟨rfl, Hr2.out, Hb2.out⟩

end Go.Proofs.YtopinlnjdgedeaaDoor

namespace Go.Proofs.YtopinlnjdgedeaaDoor
open Go.RowKit

def bl (s : ByteArray) : List UInt8 := s.data.toList
theorem bl_size (s : ByteArray) : (bl s).length = s.size := by simp [bl]
theorem bl_append (a b : ByteArray) : bl (a ++ b) = bl a ++ bl b := by simp [bl]
theorem bl_ext {a b : ByteArray} (h : bl a = bl b) : a = b := by
  apply ByteArray.ext
  exact Array.toList_inj.1 h
theorem bl_mk (l : List UInt8) : bl ⟨l.toArray⟩ = l := by simp [bl]

def vL (l : List UInt8) (k n : Nat) : List UInt8 := (l.drop k).take n
theorem vL_here {B C : List UInt8} {n : Nat} (h : B.length = n) : vL (B ++ C) 0 n = B := by
  subst h; simp [vL]
theorem vL_last {B : List UInt8} {n : Nat} (h : B.length = n) : vL B 0 n = B := by
  subst h; simp [vL]
theorem vL_skip {A T : List UInt8} {a k n : Nat} (h : A.length = a) (hk : a ≤ k) : vL (A ++ T) k n = vL T (k - a) n := by
  subst h
  unfold vL
  rw [List.drop_append, List.drop_of_length_le hk, List.nil_append]
theorem vL_join (l : List UInt8) (k n : Nat) : vL l k n ++ l.drop (k + n) = l.drop k := by
  unfold vL
  rw [← List.drop_drop]
  exact List.take_append_drop n (l.drop k)

theorem valB_bl (s : ByteArray) (k n : Nat) (h : k + n ≤ s.size) : bl (valB s k n) = vL (bl s) k n := by
  unfold valB
  rw [if_pos h]
  unfold bl vL
  rw [ByteArray.data_extract, Array.toList_extract]
  simp only [List.extract_eq_take_drop]
  congr 1
  omega
theorem valN_bl (s : ByteArray) (k n : Nat) (h : k + n ≤ s.size) : valN s k n = leVal (vL (bl s) k n) := by
  rw [← valB_bl s k n h]; rfl

theorem leVal_leL : ∀ (n k : Nat), n < 256 ^ k → leVal (leList n k) = n
  | n, 0, h => by simp at h; subst h; rfl
  | n, k + 1, h => by
    have : n / 256 < 256 ^ k := by rw [Nat.pow_succ] at h; omega
    simp only [leList, leVal, leVal_leL (n / 256) k this]
    have : (UInt8.ofNat n).toNat = n % 256 := by simp
    omega
theorem leL_leVal : ∀ l : List UInt8, leList (leVal l) l.length = l
  | [] => rfl
  | x :: r => by
    have hx := x.toNat_lt
    simp only [leVal, List.length_cons, leList]
    rw [show (x.toNat + 256 * leVal r) / 256 = leVal r by omega, leL_leVal r]
    congr 1
    apply UInt8.toNat_inj.1
    simp

theorem putB_bl (n w : Nat) (h1 : 1 ≤ w) (h7 : w ≤ 7) (h : n < 256 ^ w) : bl (putB n w) = leList n w := by
  unfold putB
  rw [if_neg, Int.toNat_natCast, Int.toNat_natCast, bl_mk]
  unfold mostI
  rw [if_pos (by omega), Int.toNat_natCast]
  have : ((n : Nat) : Int) < ((256 ^ w : Nat) : Int) := by exact_mod_cast h
  rw [Int.natCast_pow] at this
  have h2 : ((256 : Nat) : Int) ^ w = (256 : Int) ^ w := rfl
  omega

theorem posEnd_end (s : ByteArray) (k : Nat) (h : s.size = k) : posEnd s k = 0 := by
  unfold posEnd; rw [if_neg (by omega), if_pos (by omega)]

theorem put_val (s : ByteArray) (k n : Nat) (h1 : 1 ≤ n) (h7 : n ≤ 7) (h : k + n ≤ s.size) : bl (putB ((valN s k n : Nat) : Int) (n : Nat)) = vL (bl s) k n := by
  have hz : (vL (bl s) k n).length = n := by
    unfold vL; rw [List.length_take, List.length_drop, bl_size]; omega
  have hlt := leVal_lt (vL (bl s) k n)
  rw [hz] at hlt
  rw [valN_bl s k n h, putB_bl _ n h1 h7 hlt]
  have := leL_leVal (vL (bl s) k n)
  rwa [hz] at this

end Go.Proofs.YtopinlnjdgedeaaDoor

namespace Go.Proofs.YtopinlnjdgedeaaDoor
open Go.RowKit

theorem Only.setNew {b : Nat} {w w' : World} (h : Only b w w') {g j : Nat} (hg : w.heap.size ≤ g) (v : Value) : Only b w (w'.setCell ⟨g, j, none⟩ v) :=
  ⟨h.os, h.tape, h.output, Nat.le_trans h.size (Nat.le_of_eq (Array.size_modify ..).symm), fun i hi hne => (heap_setCell_other w' ⟨g, j, none⟩ i v (by show i ≠ g; omega)).trans (h.block i hi hne)⟩
theorem RdPos.lt {w : World} {b : Nat} {s : ByteArray} {k : Nat} (h : RdPos w b s k) : b < w.heap.size := lt_of_block h
theorem RdPos.keep {w w' : World} {b : Nat} {s : ByteArray} {k : Nat} (h : RdPos w b s k) (hb : Below w.heap.size w w') : RdPos w' b s k := (hb.block b h.lt).trans h
theorem RdPos.set {w : World} {b : Nat} {s : ByteArray} {k : Nat} (h : RdPos w b s k) {g j : Nat} (v : Value) (hg : b ≠ g) : RdPos (w.setCell ⟨g, j, none⟩ v) b s k := (heap_setCell_other w ⟨g, j, none⟩ b v hg).trans h

theorem ctext_pos (b : Nat) (s : ByteArray) (k : Nat) (w : World) (h : RdPos w b s k) :
    Calls Tryd.prog 75 #[.pointer (some ⟨b, 0, none⟩), .int .i64 1] w fun e w' => e = .returned (.string (valB s (k + 1) (valN s k 1))) ∧ RdPos w' b s (k + 1 + valN s k 1) ∧ Only b w w' := by
  have H := Lib.hid h
  clear h
  go_enter Tryd.func75, Tryd.ntmps75
  go_wp2_with fail
  refine (number_pos b s k 1 (by decide) (by decide) _ H.out).mono ?_
  rintro e w1 ⟨rfl, hr, hb⟩
  have Hr := Lib.hid hr
  have Hb := Lib.hid hb
  clear hr hb
  go_wp2_with fail
  refine (bytes_pos b s _ _ _ Hr.out).mono ?_
  rintro e w2 ⟨rfl, hr, hb⟩
  have Hr2 := Lib.hid hr
  have Hb2 := Lib.hid (Hb.out.trans hb)
  clear hr hb
  go_wp2
  go_ret
  exact ⟨rfl, Hr2.out, Hb2.out⟩

/-- The entry that lies at place k of a text, and the place behind it. -/
def entAt (b : ByteArray) (k : Nat) : CgE := ⟨valB b (k + 1) (valN b k 1), valB b (k + 1 + valN b k 1) 32, valN b (k + 1 + valN b k 1 + 32) 2, valN b (k + 1 + valN b k 1 + 32 + 2) 2⟩
def entTo (b : ByteArray) (k : Nat) : Nat := k + 1 + valN b k 1 + 32 + 2 + 2
theorem sizeCE : (Tryd.prog.info? 64).map (·.size) = some 4 := by kernel_rfl

set_option maxRecDepth 100000 in
set_option maxHeartbeats 2000000 in
theorem centry_any (R : Nat) (b : ByteArray) (k : Nat) (w : World) (h : RdPos w R b k) :
    Calls Tryd.prog 64 #[.pointer (some ⟨R, 0, none⟩)] w fun e w' => e = .returned (cgV (entAt b k)) ∧ RdPos w' R b (entTo b k) ∧ Only R w w' := by
  have hx := (Below.refl w.heap.size w).alloc (Nat.le_refl _) (.cells #[.string ⟨#[]⟩, .string ⟨#[]⟩, .int .i64 0, .int .i64 0] 64)
  have BX := Lib.hid (Box.new w 64 #[.string ⟨#[]⟩, .string ⟨#[]⟩, .int .i64 0, .int .i64 0])
  have HR := Lib.hid (h.keep hx)
  have HO := Lib.hid (Only.of (b := R) hx (Nat.le_refl _))
  have HLT := Lib.hid h.lt
  have HE : Hid (entAt b k = ⟨valB b (k + 1) (valN b k 1), valB b (k + 1 + valN b k 1) 32, valN b (k + 1 + valN b k 1 + 32) 2, valN b (k + 1 + valN b k 1 + 32 + 2) 2⟩) := rfl
  have HT : Hid (entTo b k = k + 1 + valN b k 1 + 32 + 2 + 2) := rfl
  clear h hx
  go_enter Tryd.func64, Tryd.ntmps64
  go_wp2_with fail
  generalize World.alloc w _ = w0 at *
  obtain ⟨g, hg⟩ : ∃ g, g = w.heap.size := ⟨_, rfl⟩
  have HG := Lib.hid hg
  rw [← hg] at BX HLT
  rw [← hg]
  clear hg
  refine (ctext_pos R b k _ HR.out).mono ?_
  rintro e w1 ⟨rfl, hr, hb⟩
  have R1 := Lib.hid hr
  have O1 := Lib.hid (HO.out.trans hb)
  have B1 := Lib.hid (hb.box (Nat.ne_of_gt HLT.out) BX.out)
  clear hr hb HR HO BX
  generalize k + 1 + valN b k 1 = k1 at *
  generalize valB b (k + 1) (valN b k 1) = xk at *
  go_wp2_with fail
  refine (bytes_pos R b k1 32 _ R1.out).mono ?_
  rintro e w2 ⟨rfl, hr, hb⟩
  have R2 := Lib.hid hr
  have O2 := Lib.hid (O1.out.trans hb)
  have B2 := Lib.hid (hb.box (Nat.ne_of_gt HLT.out) B1.out)
  clear hr hb R1 O1 B1
  generalize valB b k1 32 = xs at *
  generalize k1 + 32 = k2 at *
  go_wp2_with fail
  refine (number_pos R b k2 2 (by decide) (by decide) _ R2.out).mono ?_
  rintro e w3 ⟨rfl, hr, hb⟩
  have R3 := Lib.hid hr
  have O3 := Lib.hid (O2.out.trans hb)
  have B3 := Lib.hid (hb.box (Nat.ne_of_gt HLT.out) B2.out)
  clear hr hb R2 O2 B2
  generalize ((valN b k2 2 : Nat) : Int) = xn at *
  generalize k2 + 2 = k3 at *
  go_wp2_with fail
  refine (number_pos R b k3 2 (by decide) (by decide) _ R3.out).mono ?_
  rintro e w4 ⟨rfl, hr, hb⟩
  have R4 := Lib.hid hr
  have O4 := Lib.hid (O3.out.trans hb)
  have B4 := Lib.hid (hb.box (Nat.ne_of_gt HLT.out) B3.out)
  clear hr hb R3 O3 B3
  generalize ((valN b k3 2 : Nat) : Int) = xp at *
  have c0 := B4.out.cell 0 _ rfl
  have c1 := B4.out.cell 1 _ rfl
  have c2 := B4.out.cell 2 _ rfl
  have c3 := B4.out.cell 3 _ rfl
  have f0 := B4.out.free 0
  have f1 := B4.out.free 1
  have f2 := B4.out.free 2
  have f3 := B4.out.free 3
  have B5 := Lib.hid ((((B4.out.set 0 (.string xk)).set 1 (.string xs)).set 2 (.int .i64 xn)).set 3 (.int .i64 xp))
  have hne : R ≠ g := Nat.ne_of_lt HLT.out
  have R5 := Lib.hid ((((R4.out.set (g := g) (j := 0) (.string xk) hne).set (g := g) (j := 1) (.string xs) hne).set (g := g) (j := 2) (.int .i64 xn) hne).set (g := g) (j := 3) (.int .i64 xp) hne)
  have hle : w.heap.size ≤ g := by rw [HG.out]; exact Nat.le_refl _
  have O5 := Lib.hid ((((O4.out.setNew (g := g) (j := 0) hle (.string xk)).setNew (g := g) (j := 1) hle (.string xs)).setNew (g := g) (j := 2) hle (.int .i64 xn)).setNew (g := g) (j := 3) hle (.int .i64 xp))
  clear B4 R4 O4 hne hle
  go_wp2
  refine bodyPost_ret (results_cell_row rfl _ _ g 64 _ (0, 0) _ rfl B5.out Tryd.underlying64 rfl sizeCE) rfl ?_
  refine ⟨?_, ?_, O5.out⟩
  · rw [HE.out]
    rfl
  · rw [HT.out]
    exact R5.out
end Go.Proofs.YtopinlnjdgedeaaDoor
