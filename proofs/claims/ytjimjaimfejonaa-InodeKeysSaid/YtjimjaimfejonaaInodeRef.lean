/-
  The reference's words.
-/
import Derived.Test.YtjimjaimfejonaaInodeMath
import Derived.Test.YtjimjaimfejonaaBox
import Derived.Laws.IdiomStrings
namespace Go.Proofs.Ytjimjaimfejonaa
open Go.RowKit

theorem be_parts (k : Nat) : (leList k 4).reverse = [UInt8.ofNat (k / 256 / 256 / 256), UInt8.ofNat (k / 256 / 256), UInt8.ofNat (k / 256), UInt8.ofNat k] := rfl

set_option maxRecDepth 100000 in
set_option maxHeartbeats 1000000 in
theorem rword_yes (k : Nat) (h : k ≤ 2147483648) (w : World) : Calls Try.prog 28 #[.int .i64 (k : Int)] w fun e w' => e = .returned (.string (beB k)) ∧ Below w.heap.size w w' := by
  have HX : Hid (Below w.heap.size w (w.alloc (.cells #[Value.int .u8 ((k : Int) / 16777216), Value.int .u8 ((k : Int) / 65536 % 256), Value.int .u8 ((k : Int) / 256 % 256), Value.int .u8 ((k : Int) % 256)] 5 (0, 0)))) := (Below.refl _ _).alloc (Nat.le_refl _) _
  have HE : Hid ((⟨(leList k 4).reverse.toArray⟩ : ByteArray) = beB k) := by show _ = _; unfold beB; rw [Int.toNat_natCast]
  have hcv := run_convert_bytes_back (P := Try.prog) (w.alloc (.cells #[Value.int .u8 ((k : Int) / 16777216), Value.int .u8 ((k : Int) / 65536 % 256), Value.int .u8 ((k : Int) / 256 % 256), Value.int .u8 ((k : Int) % 256)] 5 (0, 0))) 60 9 5 ⟨w.heap.size, 0, none⟩ 4 (leList k 4).reverse Try.underlying60 Try.underlying5 Try.underlying9 (by
    have hb := Box.new w 5 #[Value.int .u8 ((k : Int) / 16777216), Value.int .u8 ((k : Int) / 65536 % 256), Value.int .u8 ((k : Int) / 256 % 256), Value.int .u8 ((k : Int) % 256)]
    generalize World.alloc _ _ = W at *
    rw [be_parts]
    intro j hj
    match j, hj with
    | 0, _ => refine (hb.cell 0 _ rfl).trans ?_; simp; omega
    | 1, _ => refine (hb.cell 1 _ rfl).trans ?_; simp; omega
    | 2, _ => refine (hb.cell 2 _ rfl).trans ?_; simp
    | 3, _ => refine (hb.cell 3 _ rfl).trans ?_; simp)
  rw [show (leList k 4).reverse.length = 4 from rfl, HE.out] at hcv
  go_enter Try.func28, Try.ntmps28
  go_wp2
  go_ret
  exact ⟨rfl, HX.out⟩

theorem rword_any (n : Int) (w : World) : Calls Try.prog 28 #[.int .i64 n] w fun e w' => e = .returned (.string (wordB n)) ∧ Below w.heap.size w w' := by
  by_cases h0 : n < 0
  · rw [show wordB n = ⟨#[]⟩ from if_neg (by unfold isNum; omega)]
    go_enter Try.func28, Try.ntmps28
    go_wp2
    go_ret
    exact ⟨rfl, Below.refl _ _⟩
  · by_cases h1 : 2147483648 < n
    · rw [show wordB n = ⟨#[]⟩ from if_neg (by unfold isNum; omega)]
      go_enter Try.func28, Try.ntmps28
      go_wp2
      go_ret
      exact ⟨rfl, Below.refl _ _⟩
    · rw [show wordB n = beB n from if_pos (by unfold isNum; omega)]
      obtain ⟨k, rfl⟩ : ∃ k : Nat, n = k := ⟨n.toNat, by omega⟩
      exact rword_yes k (by omega) w

theorem beV_four (s : ByteArray) (h : s.size = 4) : (beV s : Int) = 256 * (256 * (256 * (s[0].toNat : Int) + s[1].toNat) + s[2].toNat) + s[3].toNat := by
  obtain ⟨a, b, c, d, rfl⟩ := four s h
  show ((leVal [d, c, b, a] : Nat) : Int) = 256 * (256 * (256 * (a.toNat : Int) + b.toNat) + c.toNat) + d.toNat
  simp only [leVal]
  omega

/-- The number of a word, or that it is none. -/
def numD (s : ByteArray) : Int := if 2147483648 < beV s then -1 else beV s
set_option maxRecDepth 100000 in
theorem rnum_any (s : ByteArray) (hs : s.size = 4) (w : World) : Calls Try.prog 26 #[.string s] w fun e w' => e = .returned (.int .i64 (numD s)) ∧ w = w' := by
  have hlt := beV_lt s hs
  have hv := beV_four s hs
  unfold numD
  have l0 : 0 < s.size := by omega
  have l1 : 1 < s.size := by omega
  have l2 : 2 < s.size := by omega
  have l3 : 3 < s.size := by omega
  have ha : (s[0].toNat : Int) ≤ 255 := by have := s[0].toNat_lt; omega
  have hb : (s[1].toNat : Int) ≤ 255 := by have := s[1].toNat_lt; omega
  have hc : (s[2].toNat : Int) ≤ 255 := by have := s[2].toNat_lt; omega
  have hd : (s[3].toNat : Int) ≤ 255 := by have := s[3].toNat_lt; omega
  generalize beV s = v at *
  have HV := Lib.hid hv
  obtain ⟨R, hR⟩ : ∃ R : Int, R = (if 2147483648 < v then (-1 : Int) else (v : Int)) := ⟨_, rfl⟩
  rw [← hR]
  have HR := Lib.hid hR
  clear hR
  go_enter Try.func26, Try.ntmps26
  go_wp2
  refine wp_loop_rounds 5 ?_
  rw [rounds_succ]
  go_wp2
  rw [rounds_succ]
  go_wp2
  rw [rounds_succ]
  go_wp2
  rw [rounds_succ]
  go_wp2
  rw [rounds_succ]
  by_cases hbig : 2147483648 < v
  · have HF := Lib.hid (HR.out.trans (if_pos hbig))
    have hq : 2147483648 < 256 * (256 * (256 * (s[0].toNat : Int) + s[1].toNat) + s[2].toNat) + s[3].toNat := by omega
    go_wp2
    go_ret
    exact ⟨ret_int HF.out.symm, rfl⟩
  · have HF := Lib.hid (HR.out.trans (if_neg hbig))
    have hq : ¬ 2147483648 < 256 * (256 * (256 * (s[0].toNat : Int) + s[1].toNat) + s[2].toNat) + s[3].toNat := by omega
    go_wp2
    go_ret
    exact ⟨ret_int (by rw [HF.out, HV.out]; omega), rfl⟩
end Go.Proofs.Ytjimjaimfejonaa
