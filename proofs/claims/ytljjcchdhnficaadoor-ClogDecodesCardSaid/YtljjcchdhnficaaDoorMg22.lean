/-
  Texts put together: RefMath, OfMath, Turn, OneMath, Nums.
-/
import Derived.Test.YtljjcchdhnficaaDoorMg21
import Derived.Test.YtljjcchdhnficaaDoorRows
import Derived.Test.YtljjcchdhnficaaDoorMg5
import Derived.Test.YtljjcchdhnficaaDoorMg0
namespace Go.Proofs.YtljjcchdhnficaaDoor

theorem pr_list : prK 310 = [2, 3, 5, 7, 11, 13, 17, 19, 23, 29, 31, 37, 41, 43, 47, 53, 59, 61, 67, 71, 73, 79, 83, 89, 97, 101, 103, 107, 109, 113, 127, 131, 137, 139, 149, 151, 157, 163, 167, 173, 179, 181, 191, 193, 197, 199, 211, 223, 227, 229, 233, 239, 241, 251, 257, 263, 269, 271, 277, 281, 283, 293, 307, 311] := by decide +kernel
theorem r3_2 : rootL 2 3 = 1116352408 := by decide +kernel
theorem r3_3 : rootL 3 3 = 1899447441 := by decide +kernel
theorem r3_5 : rootL 5 3 = 3049323471 := by decide +kernel
theorem r3_7 : rootL 7 3 = 3921009573 := by decide +kernel
theorem r3_11 : rootL 11 3 = 961987163 := by decide +kernel
theorem r3_13 : rootL 13 3 = 1508970993 := by decide +kernel
theorem r3_17 : rootL 17 3 = 2453635748 := by decide +kernel
theorem r3_19 : rootL 19 3 = 2870763221 := by decide +kernel
theorem r3_23 : rootL 23 3 = 3624381080 := by decide +kernel
theorem r3_29 : rootL 29 3 = 310598401 := by decide +kernel
theorem r3_31 : rootL 31 3 = 607225278 := by decide +kernel
theorem r3_37 : rootL 37 3 = 1426881987 := by decide +kernel
theorem r3_41 : rootL 41 3 = 1925078388 := by decide +kernel
theorem r3_43 : rootL 43 3 = 2162078206 := by decide +kernel
theorem r3_47 : rootL 47 3 = 2614888103 := by decide +kernel
theorem r3_53 : rootL 53 3 = 3248222580 := by decide +kernel
theorem r3_59 : rootL 59 3 = 3835390401 := by decide +kernel
theorem r3_61 : rootL 61 3 = 4022224774 := by decide +kernel
theorem r3_67 : rootL 67 3 = 264347078 := by decide +kernel
theorem r3_71 : rootL 71 3 = 604807628 := by decide +kernel
theorem r3_73 : rootL 73 3 = 770255983 := by decide +kernel
theorem r3_79 : rootL 79 3 = 1249150122 := by decide +kernel
theorem r3_83 : rootL 83 3 = 1555081692 := by decide +kernel
theorem r3_89 : rootL 89 3 = 1996064986 := by decide +kernel
theorem r3_97 : rootL 97 3 = 2554220882 := by decide +kernel
theorem r3_101 : rootL 101 3 = 2821834349 := by decide +kernel
theorem r3_103 : rootL 103 3 = 2952996808 := by decide +kernel
theorem r3_107 : rootL 107 3 = 3210313671 := by decide +kernel
theorem r3_109 : rootL 109 3 = 3336571891 := by decide +kernel
theorem r3_113 : rootL 113 3 = 3584528711 := by decide +kernel
theorem r3_127 : rootL 127 3 = 113926993 := by decide +kernel
theorem r3_131 : rootL 131 3 = 338241895 := by decide +kernel
theorem r3_137 : rootL 137 3 = 666307205 := by decide +kernel
theorem r3_139 : rootL 139 3 = 773529912 := by decide +kernel
theorem r3_149 : rootL 149 3 = 1294757372 := by decide +kernel
theorem r3_151 : rootL 151 3 = 1396182291 := by decide +kernel
theorem r3_157 : rootL 157 3 = 1695183700 := by decide +kernel
theorem r3_163 : rootL 163 3 = 1986661051 := by decide +kernel
theorem r3_167 : rootL 167 3 = 2177026350 := by decide +kernel
theorem r3_173 : rootL 173 3 = 2456956037 := by decide +kernel
theorem r3_179 : rootL 179 3 = 2730485921 := by decide +kernel
theorem r3_181 : rootL 181 3 = 2820302411 := by decide +kernel
theorem r3_191 : rootL 191 3 = 3259730800 := by decide +kernel
theorem r3_193 : rootL 193 3 = 3345764771 := by decide +kernel
theorem r3_197 : rootL 197 3 = 3516065817 := by decide +kernel
theorem r3_199 : rootL 199 3 = 3600352804 := by decide +kernel
theorem r3_211 : rootL 211 3 = 4094571909 := by decide +kernel
theorem r3_223 : rootL 223 3 = 275423344 := by decide +kernel
theorem r3_227 : rootL 227 3 = 430227734 := by decide +kernel
theorem r3_229 : rootL 229 3 = 506948616 := by decide +kernel
theorem r3_233 : rootL 233 3 = 659060556 := by decide +kernel
theorem r3_239 : rootL 239 3 = 883997877 := by decide +kernel
theorem r3_241 : rootL 241 3 = 958139571 := by decide +kernel
theorem r3_251 : rootL 251 3 = 1322822218 := by decide +kernel
theorem r3_257 : rootL 257 3 = 1537002063 := by decide +kernel
theorem r3_263 : rootL 263 3 = 1747873779 := by decide +kernel
theorem r3_269 : rootL 269 3 = 1955562222 := by decide +kernel
theorem r3_271 : rootL 271 3 = 2024104815 := by decide +kernel
theorem r3_277 : rootL 277 3 = 2227730452 := by decide +kernel
theorem r3_281 : rootL 281 3 = 2361852424 := by decide +kernel
theorem r3_283 : rootL 283 3 = 2428436474 := by decide +kernel
theorem r3_293 : rootL 293 3 = 2756734187 := by decide +kernel
theorem r3_307 : rootL 307 3 = 3204031479 := by decide +kernel
theorem r3_311 : rootL 311 3 = 3329325298 := by decide +kernel
theorem r2_2 : rootL 2 2 = 1779033703 := by decide +kernel
theorem r2_3 : rootL 3 2 = 3144134277 := by decide +kernel
theorem r2_5 : rootL 5 2 = 1013904242 := by decide +kernel
theorem r2_7 : rootL 7 2 = 2773480762 := by decide +kernel
theorem r2_11 : rootL 11 2 = 1359893119 := by decide +kernel
theorem r2_13 : rootL 13 2 = 2600822924 := by decide +kernel
theorem r2_17 : rootL 17 2 = 528734635 := by decide +kernel
theorem r2_19 : rootL 19 2 = 1541459225 := by decide +kernel
theorem roots3 : (prK 310).map (rootL · 3) = kTab := by
  rw [pr_list]
  simp only [List.map_cons, List.map_nil, r3_2, r3_3, r3_5, r3_7, r3_11, r3_13, r3_17, r3_19, r3_23, r3_29, r3_31, r3_37, r3_41, r3_43, r3_47, r3_53, r3_59, r3_61, r3_67, r3_71, r3_73, r3_79, r3_83, r3_89, r3_97, r3_101, r3_103, r3_107, r3_109, r3_113, r3_127, r3_131, r3_137, r3_139, r3_149, r3_151, r3_157, r3_163, r3_167, r3_173, r3_179, r3_181, r3_191, r3_193, r3_197, r3_199, r3_211, r3_223, r3_227, r3_229, r3_233, r3_239, r3_241, r3_251, r3_257, r3_263, r3_269, r3_271, r3_277, r3_281, r3_283, r3_293, r3_307, r3_311]
  rfl
theorem roots2 : ((prK 310).take 8).map (rootL · 2) = H0.list := by
  rw [pr_list]
  simp only [List.take_succ_cons, List.take_zero, List.map_cons, List.map_nil, r2_2, r2_3, r2_5, r2_7, r2_11, r2_13, r2_17, r2_19]
  rfl
end Go.Proofs.YtljjcchdhnficaaDoor

namespace Go.Proofs.YtljjcchdhnficaaDoor
open Go.RowKit

def padP (s : ByteArray) : ByteArray := s ++ ⟨(padB s.size).toArray⟩
theorem padP_size (s : ByteArray) : (padP s).size = s.size + padZ s.size + 9 := by
  have h : (⟨(padB s.size).toArray⟩ : ByteArray).size = (padB s.size).length := by simp only [ByteArray.size, List.size_toArray]
  unfold padP
  rw [ByteArray.size_append, h, padB_length]
  omega
theorem padP_64 (s : ByteArray) : (padP s).size % 64 = 0 := by
  have h1 := padP_size s
  have h2 := padZ_done s.size (padZ s.size) (Nat.le_refl _)
  omega
theorem padP_last (s : ByteArray) : (padP s).extract (64 * (s.size / 64)) (padP s).size = lastB s s.size := by
  apply ba_eq
  have hle : 64 * (s.size / 64) ≤ s.data.toList.length := by rw [ba_len]; omega
  unfold padP lastB
  rw [rest_list, app_list, app_list, rest_list, fullN_mul, List.drop_append_of_le_length hle]
theorem sha_padded (s : ByteArray) : absK H0 (padP s) ((padP s).size / 64) = finS H0 s s.size := by
  have hl : (lastB s s.size).size = s.size % 64 + padZ s.size + 9 := by
    rw [← padP_last, ByteArray.size_extract]
    have := padP_size s
    omega
  have hd : (padP s).size / 64 = s.size / 64 + (lastB s s.size).size / 64 := by
    have := padP_size s
    omega
  unfold finS
  rw [hd, absK_add, padP_last, fin1_eq]
  congr 1
  exact absK_congr H0 _ fun i hi => byN_app s _ i (by omega)
theorem byN_mid (s : ByteArray) (a b i : Nat) (hi : i < b - a) : byN (s.extract a b) i = byN s (a + i) := by
  unfold byN
  rw [ext_list, List.getD, List.getD, List.getElem?_take_of_lt hi, List.getElem?_drop]
theorem absK_block (h : St) (s : ByteArray) (k : Nat) : absK h s (k + 1) = mixS (absK h s k) (wk (s.extract (64 * k) (64 * k + 64)) 64) := by
  rw [absK, wk_congr (s := s.extract (64 * k) s.size) (t := s.extract (64 * k) (64 * k + 64))]
  intro j hj
  rw [byN_rest, byN_mid _ _ _ _ (by omega)]
theorem pr_le : ∀ p ∈ prK 310, p ≤ 1000 := by rw [pr_list]; decide
end Go.Proofs.YtljjcchdhnficaaDoor

namespace Go.Proofs.YtljjcchdhnficaaDoor
open Go.RowKit

theorem word_any (n : Nat) (w : World) (hn : n ≤ 4611686018427387904) : Calls Tryd.prog 54 #[.int .i64 n] w fun e w' => e = .returned (.int .i64 (n % 4294967296 : Nat)) ∧ w = w' := by
  go_enter Tryd.func54, Tryd.ntmps54
  go_wp2
  go_ret
  exact ⟨ret_int (by simp), rfl⟩

theorem i64_or (a b : Nat) (ha : a < 4294967296) (hb : b < 4294967296) : bits .or .i64 (a : Int) (b : Int) = ((a ||| b : Nat) : Int) :=
  (bits_nat .i64 63 (by decide) i64_small a b (by omega) (by omega)).2
theorem turn_eq (x n m M N : Nat) (hx : x < 4294967296) (hM : M = 2 ^ m) (hN : N = 2 ^ n) (hn : 32 - n = m) : bits .or .i64 ((x : Int) / (N : Int)) ((x : Int) * (M : Int) % 4294967296) = ((rotr x n : Nat) : Int) := by
  have e1 : (x : Int) * (M : Int) % 4294967296 = (((x * 2 ^ (32 - n)) % 4294967296 : Nat) : Int) := by rw [hn, ← hM]; simp
  have e2 : (x : Int) / (N : Int) = ((x / 2 ^ n : Nat) : Int) := by rw [← hN]; simp
  rw [e1, e2, i64_or _ _ (Nat.lt_of_le_of_lt (Nat.div_le_self _ _) hx) (Nat.mod_lt _ (by decide)), Nat.or_comm]
  rfl

theorem turn_2 (x : Nat) (w : World) (hx : x < 4294967296) : Calls Tryd.prog 55 #[.int .i64 x, .int .i64 2] w fun e w' => e = .returned (.int .i64 (rotr x 2 : Nat)) ∧ w = w' := by
  have hx1 : (x : Int) < 4294967296 := by omega
  go_enter Tryd.func55, Tryd.ntmps55
  go_wp2
  go_ret
  exact ⟨ret_int (turn_eq x 2 30 1073741824 4 hx rfl rfl (by decide)), rfl⟩

theorem turn_6 (x : Nat) (w : World) (hx : x < 4294967296) : Calls Tryd.prog 55 #[.int .i64 x, .int .i64 6] w fun e w' => e = .returned (.int .i64 (rotr x 6 : Nat)) ∧ w = w' := by
  have hx1 : (x : Int) < 4294967296 := by omega
  go_enter Tryd.func55, Tryd.ntmps55
  go_wp2
  go_ret
  exact ⟨ret_int (turn_eq x 6 26 67108864 64 hx rfl rfl (by decide)), rfl⟩

theorem turn_7 (x : Nat) (w : World) (hx : x < 4294967296) : Calls Tryd.prog 55 #[.int .i64 x, .int .i64 7] w fun e w' => e = .returned (.int .i64 (rotr x 7 : Nat)) ∧ w = w' := by
  have hx1 : (x : Int) < 4294967296 := by omega
  go_enter Tryd.func55, Tryd.ntmps55
  go_wp2
  go_ret
  exact ⟨ret_int (turn_eq x 7 25 33554432 128 hx rfl rfl (by decide)), rfl⟩

theorem turn_11 (x : Nat) (w : World) (hx : x < 4294967296) : Calls Tryd.prog 55 #[.int .i64 x, .int .i64 11] w fun e w' => e = .returned (.int .i64 (rotr x 11 : Nat)) ∧ w = w' := by
  have hx1 : (x : Int) < 4294967296 := by omega
  go_enter Tryd.func55, Tryd.ntmps55
  go_wp2
  go_ret
  exact ⟨ret_int (turn_eq x 11 21 2097152 2048 hx rfl rfl (by decide)), rfl⟩

theorem turn_13 (x : Nat) (w : World) (hx : x < 4294967296) : Calls Tryd.prog 55 #[.int .i64 x, .int .i64 13] w fun e w' => e = .returned (.int .i64 (rotr x 13 : Nat)) ∧ w = w' := by
  have hx1 : (x : Int) < 4294967296 := by omega
  go_enter Tryd.func55, Tryd.ntmps55
  go_wp2
  go_ret
  exact ⟨ret_int (turn_eq x 13 19 524288 8192 hx rfl rfl (by decide)), rfl⟩

theorem turn_17 (x : Nat) (w : World) (hx : x < 4294967296) : Calls Tryd.prog 55 #[.int .i64 x, .int .i64 17] w fun e w' => e = .returned (.int .i64 (rotr x 17 : Nat)) ∧ w = w' := by
  have hx1 : (x : Int) < 4294967296 := by omega
  go_enter Tryd.func55, Tryd.ntmps55
  go_wp2
  go_ret
  exact ⟨ret_int (turn_eq x 17 15 32768 131072 hx rfl rfl (by decide)), rfl⟩

theorem turn_18 (x : Nat) (w : World) (hx : x < 4294967296) : Calls Tryd.prog 55 #[.int .i64 x, .int .i64 18] w fun e w' => e = .returned (.int .i64 (rotr x 18 : Nat)) ∧ w = w' := by
  have hx1 : (x : Int) < 4294967296 := by omega
  go_enter Tryd.func55, Tryd.ntmps55
  go_wp2
  go_ret
  exact ⟨ret_int (turn_eq x 18 14 16384 262144 hx rfl rfl (by decide)), rfl⟩

theorem turn_19 (x : Nat) (w : World) (hx : x < 4294967296) : Calls Tryd.prog 55 #[.int .i64 x, .int .i64 19] w fun e w' => e = .returned (.int .i64 (rotr x 19 : Nat)) ∧ w = w' := by
  have hx1 : (x : Int) < 4294967296 := by omega
  go_enter Tryd.func55, Tryd.ntmps55
  go_wp2
  go_ret
  exact ⟨ret_int (turn_eq x 19 13 8192 524288 hx rfl rfl (by decide)), rfl⟩

theorem turn_22 (x : Nat) (w : World) (hx : x < 4294967296) : Calls Tryd.prog 55 #[.int .i64 x, .int .i64 22] w fun e w' => e = .returned (.int .i64 (rotr x 22 : Nat)) ∧ w = w' := by
  have hx1 : (x : Int) < 4294967296 := by omega
  go_enter Tryd.func55, Tryd.ntmps55
  go_wp2
  go_ret
  exact ⟨ret_int (turn_eq x 22 10 1024 4194304 hx rfl rfl (by decide)), rfl⟩

theorem turn_25 (x : Nat) (w : World) (hx : x < 4294967296) : Calls Tryd.prog 55 #[.int .i64 x, .int .i64 25] w fun e w' => e = .returned (.int .i64 (rotr x 25 : Nat)) ∧ w = w' := by
  have hx1 : (x : Int) < 4294967296 := by omega
  go_enter Tryd.func55, Tryd.ntmps55
  go_wp2
  go_ret
  exact ⟨ret_int (turn_eq x 25 7 128 33554432 hx rfl rfl (by decide)), rfl⟩

theorem turn_any (x : Nat) (m : Int) (w : World) (hx : x < 4294967296) (hm : m = 2 ∨ m = 6 ∨ m = 7 ∨ m = 11 ∨ m = 13 ∨ m = 17 ∨ m = 18 ∨ m = 19 ∨ m = 22 ∨ m = 25) :
    Calls Tryd.prog 55 #[.int .i64 x, .int .i64 m] w fun e w' => e = .returned (.int .i64 (rotr x m.toNat : Nat)) ∧ w = w' := by
  rcases hm with rfl | rfl | rfl | rfl | rfl | rfl | rfl | rfl | rfl | rfl
  · exact turn_2 x w hx
  · exact turn_6 x w hx
  · exact turn_7 x w hx
  · exact turn_11 x w hx
  · exact turn_13 x w hx
  · exact turn_17 x w hx
  · exact turn_18 x w hx
  · exact turn_19 x w hx
  · exact turn_22 x w hx
  · exact turn_25 x w hx
end Go.Proofs.YtljjcchdhnficaaDoor

namespace Go.Proofs.YtljjcchdhnficaaDoor
open Go.RowKit

theorem i64_and (a b : Nat) (ha : a < 4294967296) (hb : b < 4294967296) : bits .and .i64 (a : Int) (b : Int) = ((a &&& b : Nat) : Int) :=
  (bits_nat .i64 63 (by decide) i64_small a b (by omega) (by omega)).1
theorem i64_xor (a b : Nat) (ha : a < 4294967296) (hb : b < 4294967296) : bits .xor .i64 (a : Int) (b : Int) = ((a ^^^ b : Nat) : Int) := by
  have hx : a ^^^ b < 2 ^ 32 := Nat.xor_lt_two_pow (by omega) (by omega)
  show IntKind.i64.wrap ((BitVec.ofInt 64 (a : Int) ^^^ BitVec.ofInt 64 (b : Int)).toNat : Int) = _
  rw [BitVec.toNat_xor, BitVec.ofInt_natCast, BitVec.ofInt_natCast, BitVec.toNat_ofNat, BitVec.toNat_ofNat, Nat.mod_eq_of_lt (by omega), Nat.mod_eq_of_lt (by omega)]
  exact i64_small _ (by omega) (by omega)

theorem be4_i64 (s : ByteArray) (i : Nat) :
    bits .or .i64 (bits .or .i64 (bits .or .i64 ((byN s i : Int) * 16777216) ((byN s (i + 1) : Int) * 65536)) ((byN s (i + 2) : Int) * 256)) (byN s (i + 3) : Int) = ((be4 s i : Nat) : Int) := by
  have h0 := byN_lt s i
  have h1 := byN_lt s (i + 1)
  have h2 := byN_lt s (i + 2)
  have h3 := byN_lt s (i + 3)
  have e0 : (byN s i : Int) * 16777216 = ((byN s i * 16777216 : Nat) : Int) := by simp
  have e1 : (byN s (i + 1) : Int) * 65536 = ((byN s (i + 1) * 65536 : Nat) : Int) := by simp
  have e2 : (byN s (i + 2) : Int) * 256 = ((byN s (i + 2) * 256 : Nat) : Int) := by simp
  rw [e0, e1, e2, i64_or _ _ (by omega) (by omega), i64_or _ _ (Nat.or_lt_two_pow (n := 32) (by omega) (by omega)) (by omega),
    i64_or _ _ (Nat.or_lt_two_pow (n := 32) (Nat.or_lt_two_pow (by omega) (by omega)) (by omega)) (by omega)]
  rfl
theorem xor3_i64 (a b x N : Nat) (ha : a < 4294967296) (hb : b < 4294967296) (hx : x < 4294967296) :
    bits .xor .i64 (bits .xor .i64 (a : Int) (b : Int)) ((x : Int) / (N : Int)) = ((a ^^^ b ^^^ x / N : Nat) : Int) := by
  have e2 : (x : Int) / (N : Int) = ((x / N : Nat) : Int) := by simp
  rw [e2, i64_xor _ _ ha hb, i64_xor _ _ (Nat.xor_lt_two_pow (n := 32) ha hb) (Nat.lt_of_le_of_lt (Nat.div_le_self _ _) hx)]
theorem sig0_i64 (x : Nat) (h : x < 4294967296) : bits .xor .i64 (bits .xor .i64 (rotr x 7 : Int) (rotr x 18 : Int)) ((x : Int) / 8) = ((sig0 x : Nat) : Int) :=
  xor3_i64 _ _ x 8 (rotr_lt x 7 h) (rotr_lt x 18 h) h
theorem sig1_i64 (x : Nat) (h : x < 4294967296) : bits .xor .i64 (bits .xor .i64 (rotr x 17 : Int) (rotr x 19 : Int)) ((x : Int) / 1024) = ((sig1 x : Nat) : Int) :=
  xor3_i64 _ _ x 1024 (rotr_lt x 17 h) (rotr_lt x 19 h) h
theorem xorr_i64 (a b c : Nat) (ha : a < 4294967296) (hb : b < 4294967296) (hc : c < 4294967296) :
    bits .xor .i64 (bits .xor .i64 (a : Int) (b : Int)) (c : Int) = ((a ^^^ b ^^^ c : Nat) : Int) := by
  rw [i64_xor _ _ ha hb, i64_xor _ _ (Nat.xor_lt_two_pow (n := 32) ha hb) hc]
theorem Sig0_i64 (x : Nat) (h : x < 4294967296) : bits .xor .i64 (bits .xor .i64 (rotr x 2 : Int) (rotr x 13 : Int)) (rotr x 22 : Int) = ((Sig0 x : Nat) : Int) :=
  xorr_i64 _ _ _ (rotr_lt x 2 h) (rotr_lt x 13 h) (rotr_lt x 22 h)
theorem Sig1_i64 (x : Nat) (h : x < 4294967296) : bits .xor .i64 (bits .xor .i64 (rotr x 6 : Int) (rotr x 11 : Int)) (rotr x 25 : Int) = ((Sig1 x : Nat) : Int) :=
  xorr_i64 _ _ _ (rotr_lt x 6 h) (rotr_lt x 11 h) (rotr_lt x 25 h)
theorem chf_i64 (e f g : Nat) (he : e < 4294967296) (hf : f < 4294967296) (hg : g < 4294967296) :
    bits .or .i64 (bits .and .i64 (e : Int) (f : Int)) (bits .and .i64 (4294967295 - (e : Int)) (g : Int)) = ((chf e f g : Nat) : Int) := by
  have e1 : (4294967295 - (e : Int)) = ((4294967295 - e : Nat) : Int) := by omega
  rw [e1, i64_and _ _ he hf, i64_and _ _ (by omega) hg, i64_or _ _ (and32_lt he) (and32_lt (by omega)), Nat.and_comm (4294967295 - e) g]
  rfl
theorem majf_i64 (a b c : Nat) (ha : a < 4294967296) (hb : b < 4294967296) (hc : c < 4294967296) :
    bits .or .i64 (bits .or .i64 (bits .and .i64 (a : Int) (b : Int)) (bits .and .i64 (a : Int) (c : Int))) (bits .and .i64 (b : Int) (c : Int)) = ((majf a b c : Nat) : Int) := by
  rw [i64_and _ _ ha hb, i64_and _ _ ha hc, i64_and _ _ hb hc, i64_or _ _ (and32_lt ha) (and32_lt ha), i64_or _ _ (Nat.or_lt_two_pow (n := 32) (and32_lt ha) (and32_lt ha)) (and32_lt hb)]
  rfl
end Go.Proofs.YtljjcchdhnficaaDoor

namespace Go.Proofs.YtljjcchdhnficaaDoor
open Go.RowKit

theorem infoInt : (Tryd.prog.info? 3).map (fun i => (i.zero, i.size, i.bytes)) = some (some (.int .i64 0), 1, 8) := by kernel_rfl

def nV (n : Nat) : Value := .int .i64 (n : Int)

/-- The value v is a slice of the call's own that holds the numbers l. -/
def Nums (w : World) (base : Nat) (v : Value) (l : List Nat) : Prop := w.ownsRow base 3 1 v l.length (l.map nV)

theorem Nums.nil (w : World) (base : Nat) : Nums w base (.slice none 0 0) [] := World.ownsRow_nil _ _ _ _
theorem Nums.alloc {w : World} {base : Nat} {v : Value} {l : List Nat} (h : Nums w base v l) (o : Obj) : Nums (w.alloc o) base v l := World.ownsRow.alloc h o
theorem Nums.own_block {w : World} {base : Nat} {v : Value} {l : List Nat} (h : Nums w base v l) : ∀ k, v.ownBlock = some k → base ≤ k := by
  intro k hk
  rcases h.2 with ⟨rfl, _⟩ | ⟨g, cap, cur, rfl, hg, _⟩
  · cases hk
  · simp [Value.ownBlock] at hk; omega

/-- Its shape, and its cells. -/
theorem Nums.view {w : World} {base : Nat} {v : Value} {l : List Nat} (h : Nums w base v l) : ∃ a cap, v = .slice a l.length cap ∧ Sl w nV a l := by
  have h' := h
  rcases h.2 with ⟨rfl, h0⟩ | ⟨g, cap, cur, rfl, hg, hh, _⟩
  · have : l = [] := List.eq_nil_of_length_eq_zero h0
    subst this
    exact ⟨none, 0, rfl, Sl.nil⟩
  · refine ⟨some ⟨g, 0, none⟩, cap, rfl, fun _ => ⟨g, 0, rfl, lt_of_block hh, fun i x hx => ?_⟩⟩
    have hi : i < l.length := (List.getElem?_eq_some_iff.1 hx).1
    rw [Nat.zero_add, World.ownsRow.cellAt h' i (by omega), List.getElem?_map, hx]
    rfl

/-- 'append(out, n)' on such a slice. -/
theorem wp_nums_push {ops : Array Oper} {rest : List Oper} {o : Oper} {a : Act} {Q : Exit → Act → World → Prop} (W : World) (hgd : o.guard = none) (s x : Operand)
    (ho : o.op = .call { callee := .builtin .append, args := #[s, x], argTypes := #[66, 66] })
    (base : Nat) (v : Value) (l : List Nat) (hs : a.eval s = v) (hb : Nums W base v l)
    (ad : Addr) (m c : Nat) (cs : List Nat) (hx : a.eval x = .slice (some ad) m c) (hm : cs.length = m) (hcell : ∀ j u, cs[j]? = some u → W.cell? (ad.add j) = some (nV u))
    (hbytes : l.length + m ≤ 17592186044416) (hbase : base ≤ W.heap.size)
    (h : ∀ v' w', Nums w' base v' (l ++ cs) → Below base W w' → wpList Tryd.prog ops Q rest (a.put o.dst v') w') : wpList Tryd.prog ops Q (o :: rest) a W := by
  obtain ⟨i0, hi, hz0, hz1, hz2⟩ := info_parts infoInt
  subst hm
  refine wpList_append_own W hgd s x 66 ho base 3 i0 (.int .i64 0) 1 8 Tryd.underlying66 hi hz0 hz1 hz2 rfl (by decide) v l.length _ hs hb ad cs.length c (cs.map nV) hx (by simp) ?_ ?_ (by unfold maxLen; omega) (by omega) hbase ?_
  · intro j u hu
    rw [List.getElem?_map] at hu
    obtain ⟨y, hy, rfl⟩ := Option.map_eq_some_iff.1 hu
    exact hcell j y hy
  · intro u hu
    obtain ⟨y, _, rfl⟩ := List.mem_map.1 hu
    rfl
  · intro v' w' h1 h2 _
    refine h v' w' ?_ ((Below.refl base W).grown h2 hbase hb.own_block)
    unfold Nums
    rw [List.map_append, List.length_append]
    exact h1
end Go.Proofs.YtljjcchdhnficaaDoor
