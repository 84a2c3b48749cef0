/-
  The reference's words are ints: what its 'and', 'or', 'xor' compute below 2^32.
-/
import Derived.Test.YtfnihldcnjnpbaaDoorTurn
namespace Go.Proofs.YtfnihldcnjnpbaaDoor
open Go.RowKit

theorem i64_and (a b : Nat) (ha : a < 4294967296) (hb : b < 4294967296) : bits .and .i64 (a : Int) (b : Int) = ((a &&& b : Nat) : Int) :=
  (bits_nat .i64 63 (by decide) i64_small a b (by omega) (by omega)).1
theorem i64_xor (a b : Nat) (ha : a < 4294967296) (hb : b < 4294967296) : bits .xor .i64 (a : Int) (b : Int) = ((a ^^^ b : Nat) : Int) := by
  have hx : a ^^^ b < 2 ^ 32 := Nat.xor_lt_two_pow (by omega) (by omega)
  show IntKind.i64.wrap ((BitVec.ofInt 64 (a : Int) ^^^ BitVec.ofInt 64 (b : Int)).toNat : Int) = _
  rw [BitVec.toNat_xor, BitVec.ofInt_natCast, BitVec.ofInt_natCast, BitVec.toNat_ofNat, BitVec.toNat_ofNat, Nat.mod_eq_of_lt (by omega), Nat.mod_eq_of_lt (by omega)]
  exact i64_small _ (by omega) (by omega)

theorem be4_i64 (s : ByteArray) (i : Nat) :
    bits .or .i64 (bits .or .i64 (bits .or .i64 ((byN s i : Int) * 16777216) ((byN s (i + 1) : Int) * 65536)) ((byN s (i + 2) : Int) * 256)) (byN s (i + 3) : Int) = ((be4 s i : Nat) : Int) := by
  have h0 := byN_lt s i
  have h1 := byN_lt s (i + 1)
  have h2 := byN_lt s (i + 2)
  have h3 := byN_lt s (i + 3)
  have e0 : (byN s i : Int) * 16777216 = ((byN s i * 16777216 : Nat) : Int) := by simp
  have e1 : (byN s (i + 1) : Int) * 65536 = ((byN s (i + 1) * 65536 : Nat) : Int) := by simp
  have e2 : (byN s (i + 2) : Int) * 256 = ((byN s (i + 2) * 256 : Nat) : Int) := by simp
  rw [e0, e1, e2, i64_or _ _ (by omega) (by omega), i64_or _ _ (Nat.or_lt_two_pow (n := 32) (by omega) (by omega)) (by omega),
    i64_or _ _ (Nat.or_lt_two_pow (n := 32) (Nat.or_lt_two_pow (by omega) (by omega)) (by omega)) (by omega)]
  rfl
theorem xor3_i64 (a b x N : Nat) (ha : a < 4294967296) (hb : b < 4294967296) (hx : x < 4294967296) :
    bits .xor .i64 (bits .xor .i64 (a : Int) (b : Int)) ((x : Int) / (N : Int)) = ((a ^^^ b ^^^ x / N : Nat) : Int) := by
  have e2 : (x : Int) / (N : Int) = ((x / N : Nat) : Int) := by simp
  rw [e2, i64_xor _ _ ha hb, i64_xor _ _ (Nat.xor_lt_two_pow (n := 32) ha hb) (Nat.lt_of_le_of_lt (Nat.div_le_self _ _) hx)]
theorem sig0_i64 (x : Nat) (h : x < 4294967296) : bits .xor .i64 (bits .xor .i64 (rotr x 7 : Int) (rotr x 18 : Int)) ((x : Int) / 8) = ((sig0 x : Nat) : Int) :=
  xor3_i64 _ _ x 8 (rotr_lt x 7 h) (rotr_lt x 18 h) h
theorem sig1_i64 (x : Nat) (h : x < 4294967296) : bits .xor .i64 (bits .xor .i64 (rotr x 17 : Int) (rotr x 19 : Int)) ((x : Int) / 1024) = ((sig1 x : Nat) : Int) :=
  xor3_i64 _ _ x 1024 (rotr_lt x 17 h) (rotr_lt x 19 h) h
theorem xorr_i64 (a b c : Nat) (ha : a < 4294967296) (hb : b < 4294967296) (hc : c < 4294967296) :
    bits .xor .i64 (bits .xor .i64 (a : Int) (b : Int)) (c : Int) = ((a ^^^ b ^^^ c : Nat) : Int) := by
  rw [i64_xor _ _ ha hb, i64_xor _ _ (Nat.xor_lt_two_pow (n := 32) ha hb) hc]
theorem Sig0_i64 (x : Nat) (h : x < 4294967296) : bits .xor .i64 (bits .xor .i64 (rotr x 2 : Int) (rotr x 13 : Int)) (rotr x 22 : Int) = ((Sig0 x : Nat) : Int) :=
  xorr_i64 _ _ _ (rotr_lt x 2 h) (rotr_lt x 13 h) (rotr_lt x 22 h)
theorem Sig1_i64 (x : Nat) (h : x < 4294967296) : bits .xor .i64 (bits .xor .i64 (rotr x 6 : Int) (rotr x 11 : Int)) (rotr x 25 : Int) = ((Sig1 x : Nat) : Int) :=
  xorr_i64 _ _ _ (rotr_lt x 6 h) (rotr_lt x 11 h) (rotr_lt x 25 h)
theorem chf_i64 (e f g : Nat) (he : e < 4294967296) (hf : f < 4294967296) (hg : g < 4294967296) :
    bits .or .i64 (bits .and .i64 (e : Int) (f : Int)) (bits .and .i64 (4294967295 - (e : Int)) (g : Int)) = ((chf e f g : Nat) : Int) := by
  have e1 : (4294967295 - (e : Int)) = ((4294967295 - e : Nat) : Int) := by omega
  rw [e1, i64_and _ _ he hf, i64_and _ _ (by omega) hg, i64_or _ _ (and32_lt he) (and32_lt (by omega)), Nat.and_comm (4294967295 - e) g]
  rfl
theorem majf_i64 (a b c : Nat) (ha : a < 4294967296) (hb : b < 4294967296) (hc : c < 4294967296) :
    bits .or .i64 (bits .or .i64 (bits .and .i64 (a : Int) (b : Int)) (bits .and .i64 (a : Int) (c : Int))) (bits .and .i64 (b : Int) (c : Int)) = ((majf a b c : Nat) : Int) := by
  rw [i64_and _ _ ha hb, i64_and _ _ ha hc, i64_and _ _ hb hc, i64_or _ _ (and32_lt ha) (and32_lt ha), i64_or _ _ (Nat.or_lt_two_pow (n := 32) (and32_lt ha) (and32_lt ha)) (and32_lt hb)]
  rfl
end Go.Proofs.YtfnihldcnjnpbaaDoor
