/-
  Texts put together: Turn, OneMath, Nums.
-/
import Derived.Test.YtonkmffipjdhkaaDoorRows
import Derived.Test.YtonkmffipjdhkaaDoorShaPlain
import Derived.Test.YtonkmffipjdhkaaDoorMg2
import Derived.Test.YtonkmffipjdhkaaDoorMg0
namespace Go.Proofs.YtonkmffipjdhkaaDoor
open Go.RowKit

theorem word_any (n : Nat) (w : World) (hn : n ≤ 4611686018427387904) : Calls Tryd.prog 63 #[.int .i64 n] w fun e w' => e = .returned (.int .i64 (n % 4294967296 : Nat)) ∧ w = w' := by
  go_enter Tryd.func63, Tryd.ntmps63
  go_wp2
  go_ret
  exact ⟨ret_int (by simp), rfl⟩

theorem i64_or (a b : Nat) (ha : a < 4294967296) (hb : b < 4294967296) : bits .or .i64 (a : Int) (b : Int) = ((a ||| b : Nat) : Int) :=
  (bits_nat .i64 63 (by decide) i64_small a b (by omega) (by omega)).2
theorem turn_eq (x n m M N : Nat) (hx : x < 4294967296) (hM : M = 2 ^ m) (hN : N = 2 ^ n) (hn : 32 - n = m) : bits .or .i64 ((x : Int) / (N : Int)) ((x : Int) * (M : Int) % 4294967296) = ((rotr x n : Nat) : Int) := by
  have e1 : (x : Int) * (M : Int) % 4294967296 = (((x * 2 ^ (32 - n)) % 4294967296 : Nat) : Int) := by rw [hn, ← hM]; simp
  have e2 : (x : Int) / (N : Int) = ((x / 2 ^ n : Nat) : Int) := by rw [← hN]; simp
  rw [e1, e2, i64_or _ _ (Nat.lt_of_le_of_lt (Nat.div_le_self _ _) hx) (Nat.mod_lt _ (by decide)), Nat.or_comm]
  rfl

theorem turn_2 (x : Nat) (w : World) (hx : x < 4294967296) : Calls Tryd.prog 64 #[.int .i64 x, .int .i64 2] w fun e w' => e = .returned (.int .i64 (rotr x 2 : Nat)) ∧ w = w' := by
  have hx1 : (x : Int) < 4294967296 := by omega
  go_enter Tryd.func64, Tryd.ntmps64
  go_wp2
  go_ret
  exact ⟨ret_int (turn_eq x 2 30 1073741824 4 hx rfl rfl (by decide)), rfl⟩

theorem turn_6 (x : Nat) (w : World) (hx : x < 4294967296) : Calls Tryd.prog 64 #[.int .i64 x, .int .i64 6] w fun e w' => e = .returned (.int .i64 (rotr x 6 : Nat)) ∧ w = w' := by
  have hx1 : (x : Int) < 4294967296 := by omega
  go_enter Tryd.func64, Tryd.ntmps64
  go_wp2
  go_ret
  exact ⟨ret_int (turn_eq x 6 26 67108864 64 hx rfl rfl (by decide)), rfl⟩

theorem turn_7 (x : Nat) (w : World) (hx : x < 4294967296) : Calls Tryd.prog 64 #[.int .i64 x, .int .i64 7] w fun e w' => e = .returned (.int .i64 (rotr x 7 : Nat)) ∧ w = w' := by
  have hx1 : (x : Int) < 4294967296 := by omega
  go_enter Tryd.func64, Tryd.ntmps64
  go_wp2
  go_ret
  exact ⟨ret_int (turn_eq x 7 25 33554432 128 hx rfl rfl (by decide)), rfl⟩

theorem turn_11 (x : Nat) (w : World) (hx : x < 4294967296) : Calls Tryd.prog 64 #[.int .i64 x, .int .i64 11] w fun e w' => e = .returned (.int .i64 (rotr x 11 : Nat)) ∧ w = w' := by
  have hx1 : (x : Int) < 4294967296 := by omega
  go_enter Tryd.func64, Tryd.ntmps64
  go_wp2
  go_ret
  exact ⟨ret_int (turn_eq x 11 21 2097152 2048 hx rfl rfl (by decide)), rfl⟩

theorem turn_13 (x : Nat) (w : World) (hx : x < 4294967296) : Calls Tryd.prog 64 #[.int .i64 x, .int .i64 13] w fun e w' => e = .returned (.int .i64 (rotr x 13 : Nat)) ∧ w = w' := by
  have hx1 : (x : Int) < 4294967296 := by omega
  go_enter Tryd.func64, Tryd.ntmps64
  go_wp2
  go_ret
  exact ⟨ret_int (turn_eq x 13 19 524288 8192 hx rfl rfl (by decide)), rfl⟩

theorem turn_17 (x : Nat) (w : World) (hx : x < 4294967296) : Calls Tryd.prog 64 #[.int .i64 x, .int .i64 17] w fun e w' => e = .returned (.int .i64 (rotr x 17 : Nat)) ∧ w = w' := by
  have hx1 : (x : Int) < 4294967296 := by omega
  go_enter Tryd.func64, Tryd.ntmps64
  go_wp2
  go_ret
  exact ⟨ret_int (turn_eq x 17 15 32768 131072 hx rfl rfl (by decide)), rfl⟩

theorem turn_18 (x : Nat) (w : World) (hx : x < 4294967296) : Calls Tryd.prog 64 #[.int .i64 x, .int .i64 18] w fun e w' => e = .returned (.int .i64 (rotr x 18 : Nat)) ∧ w = w' := by
  have hx1 : (x : Int) < 4294967296 := by omega
  go_enter Tryd.func64, Tryd.ntmps64
  go_wp2
  go_ret
  exact ⟨ret_int (turn_eq x 18 14 16384 262144 hx rfl rfl (by decide)), rfl⟩

theorem turn_19 (x : Nat) (w : World) (hx : x < 4294967296) : Calls Tryd.prog 64 #[.int .i64 x, .int .i64 19] w fun e w' => e = .returned (.int .i64 (rotr x 19 : Nat)) ∧ w = w' := by
  have hx1 : (x : Int) < 4294967296 := by omega
  go_enter Tryd.func64, Tryd.ntmps64
  go_wp2
  go_ret
  exact ⟨ret_int (turn_eq x 19 13 8192 524288 hx rfl rfl (by decide)), rfl⟩

theorem turn_22 (x : Nat) (w : World) (hx : x < 4294967296) : Calls Tryd.prog 64 #[.int .i64 x, .int .i64 22] w fun e w' => e = .returned (.int .i64 (rotr x 22 : Nat)) ∧ w = w' := by
  have hx1 : (x : Int) < 4294967296 := by omega
  go_enter Tryd.func64, Tryd.ntmps64
  go_wp2
  go_ret
  exact ⟨ret_int (turn_eq x 22 10 1024 4194304 hx rfl rfl (by decide)), rfl⟩

theorem turn_25 (x : Nat) (w : World) (hx : x < 4294967296) : Calls Tryd.prog 64 #[.int .i64 x, .int .i64 25] w fun e w' => e = .returned (.int .i64 (rotr x 25 : Nat)) ∧ w = w' := by
  have hx1 : (x : Int) < 4294967296 := by omega
  go_enter Tryd.func64, Tryd.ntmps64
  go_wp2
  go_ret
  exact ⟨ret_int (turn_eq x 25 7 128 33554432 hx rfl rfl (by decide)), rfl⟩

theorem turn_any (x : Nat) (m : Int) (w : World) (hx : x < 4294967296) (hm : m = 2 ∨ m = 6 ∨ m = 7 ∨ m = 11 ∨ m = 13 ∨ m = 17 ∨ m = 18 ∨ m = 19 ∨ m = 22 ∨ m = 25) :
    Calls Tryd.prog 64 #[.int .i64 x, .int .i64 m] w fun e w' => e = .returned (.int .i64 (rotr x m.toNat : Nat)) ∧ w = w' := by
  rcases hm with rfl | rfl | rfl | rfl | rfl | rfl | rfl | rfl | rfl | rfl
  · exact turn_2 x w hx
  · exact turn_6 x w hx
  · exact turn_7 x w hx
  · exact turn_11 x w hx
  · exact turn_13 x w hx
  · exact turn_17 x w hx
  · exact turn_18 x w hx
  · exact turn_19 x w hx
  · exact turn_22 x w hx
  · exact turn_25 x w hx
end Go.Proofs.YtonkmffipjdhkaaDoor

namespace Go.Proofs.YtonkmffipjdhkaaDoor
open Go.RowKit

theorem i64_and (a b : Nat) (ha : a < 4294967296) (hb : b < 4294967296) : bits .and .i64 (a : Int) (b : Int) = ((a &&& b : Nat) : Int) :=
  (bits_nat .i64 63 (by decide) i64_small a b (by omega) (by omega)).1
theorem i64_xor (a b : Nat) (ha : a < 4294967296) (hb : b < 4294967296) : bits .xor .i64 (a : Int) (b : Int) = ((a ^^^ b : Nat) : Int) := by
  have hx : a ^^^ b < 2 ^ 32 := Nat.xor_lt_two_pow (by omega) (by omega)
  show IntKind.i64.wrap ((BitVec.ofInt 64 (a : Int) ^^^ BitVec.ofInt 64 (b : Int)).toNat : Int) = _
  rw [BitVec.toNat_xor, BitVec.ofInt_natCast, BitVec.ofInt_natCast, BitVec.toNat_ofNat, BitVec.toNat_ofNat, Nat.mod_eq_of_lt (by omega), Nat.mod_eq_of_lt (by omega)]
  exact i64_small _ (by omega) (by omega)

theorem be4_i64 (s : ByteArray) (i : Nat) :
    bits .or .i64 (bits .or .i64 (bits .or .i64 ((byN s i : Int) * 16777216) ((byN s (i + 1) : Int) * 65536)) ((byN s (i + 2) : Int) * 256)) (byN s (i + 3) : Int) = ((be4 s i : Nat) : Int) := by
  have h0 := byN_lt s i
  have h1 := byN_lt s (i + 1)
  have h2 := byN_lt s (i + 2)
  have h3 := byN_lt s (i + 3)
  have e0 : (byN s i : Int) * 16777216 = ((byN s i * 16777216 : Nat) : Int) := by simp
  have e1 : (byN s (i + 1) : Int) * 65536 = ((byN s (i + 1) * 65536 : Nat) : Int) := by simp
  have e2 : (byN s (i + 2) : Int) * 256 = ((byN s (i + 2) * 256 : Nat) : Int) := by simp
  rw [e0, e1, e2, i64_or _ _ (by omega) (by omega), i64_or _ _ (Nat.or_lt_two_pow (n := 32) (by omega) (by omega)) (by omega),
    i64_or _ _ (Nat.or_lt_two_pow (n := 32) (Nat.or_lt_two_pow (by omega) (by omega)) (by omega)) (by omega)]
  rfl
theorem xor3_i64 (a b x N : Nat) (ha : a < 4294967296) (hb : b < 4294967296) (hx : x < 4294967296) :
    bits .xor .i64 (bits .xor .i64 (a : Int) (b : Int)) ((x : Int) / (N : Int)) = ((a ^^^ b ^^^ x / N : Nat) : Int) := by
  have e2 : (x : Int) / (N : Int) = ((x / N : Nat) : Int) := by simp
  rw [e2, i64_xor _ _ ha hb, i64_xor _ _ (Nat.xor_lt_two_pow (n := 32) ha hb) (Nat.lt_of_le_of_lt (Nat.div_le_self _ _) hx)]
theorem sig0_i64 (x : Nat) (h : x < 4294967296) : bits .xor .i64 (bits .xor .i64 (rotr x 7 : Int) (rotr x 18 : Int)) ((x : Int) / 8) = ((sig0 x : Nat) : Int) :=
  xor3_i64 _ _ x 8 (rotr_lt x 7 h) (rotr_lt x 18 h) h
theorem sig1_i64 (x : Nat) (h : x < 4294967296) : bits .xor .i64 (bits .xor .i64 (rotr x 17 : Int) (rotr x 19 : Int)) ((x : Int) / 1024) = ((sig1 x : Nat) : Int) :=
  xor3_i64 _ _ x 1024 (rotr_lt x 17 h) (rotr_lt x 19 h) h
theorem xorr_i64 (a b c : Nat) (ha : a < 4294967296) (hb : b < 4294967296) (hc : c < 4294967296) :
    bits .xor .i64 (bits .xor .i64 (a : Int) (b : Int)) (c : Int) = ((a ^^^ b ^^^ c : Nat) : Int) := by
  rw [i64_xor _ _ ha hb, i64_xor _ _ (Nat.xor_lt_two_pow (n := 32) ha hb) hc]
theorem Sig0_i64 (x : Nat) (h : x < 4294967296) : bits .xor .i64 (bits .xor .i64 (rotr x 2 : Int) (rotr x 13 : Int)) (rotr x 22 : Int) = ((Sig0 x : Nat) : Int) :=
  xorr_i64 _ _ _ (rotr_lt x 2 h) (rotr_lt x 13 h) (rotr_lt x 22 h)
theorem Sig1_i64 (x : Nat) (h : x < 4294967296) : bits .xor .i64 (bits .xor .i64 (rotr x 6 : Int) (rotr x 11 : Int)) (rotr x 25 : Int) = ((Sig1 x : Nat) : Int) :=
  xorr_i64 _ _ _ (rotr_lt x 6 h) (rotr_lt x 11 h) (rotr_lt x 25 h)
theorem chf_i64 (e f g : Nat) (he : e < 4294967296) (hf : f < 4294967296) (hg : g < 4294967296) :
    bits .or .i64 (bits .and .i64 (e : Int) (f : Int)) (bits .and .i64 (4294967295 - (e : Int)) (g : Int)) = ((chf e f g : Nat) : Int) := by
  have e1 : (4294967295 - (e : Int)) = ((4294967295 - e : Nat) : Int) := by omega
  rw [e1, i64_and _ _ he hf, i64_and _ _ (by omega) hg, i64_or _ _ (and32_lt he) (and32_lt (by omega)), Nat.and_comm (4294967295 - e) g]
  rfl
theorem majf_i64 (a b c : Nat) (ha : a < 4294967296) (hb : b < 4294967296) (hc : c < 4294967296) :
    bits .or .i64 (bits .or .i64 (bits .and .i64 (a : Int) (b : Int)) (bits .and .i64 (a : Int) (c : Int))) (bits .and .i64 (b : Int) (c : Int)) = ((majf a b c : Nat) : Int) := by
  rw [i64_and _ _ ha hb, i64_and _ _ ha hc, i64_and _ _ hb hc, i64_or _ _ (and32_lt ha) (and32_lt ha), i64_or _ _ (Nat.or_lt_two_pow (n := 32) (and32_lt ha) (and32_lt ha)) (and32_lt hb)]
  rfl
end Go.Proofs.YtonkmffipjdhkaaDoor

namespace Go.Proofs.YtonkmffipjdhkaaDoor
open Go.RowKit

theorem infoInt : (Tryd.prog.info? 3).map (fun i => (i.zero, i.size, i.bytes)) = some (some (.int .i64 0), 1, 8) := by kernel_rfl

def nV (n : Nat) : Value := .int .i64 (n : Int)

/-- The value v is a slice of the call's own that holds the numbers l. -/
def Nums (w : World) (base : Nat) (v : Value) (l : List Nat) : Prop := w.ownsRow base 3 1 v l.length (l.map nV)

theorem Nums.nil (w : World) (base : Nat) : Nums w base (.slice none 0 0) [] := World.ownsRow_nil _ _ _ _
theorem Nums.alloc {w : World} {base : Nat} {v : Value} {l : List Nat} (h : Nums w base v l) (o : Obj) : Nums (w.alloc o) base v l := World.ownsRow.alloc h o
theorem Nums.own_block {w : World} {base : Nat} {v : Value} {l : List Nat} (h : Nums w base v l) : ∀ k, v.ownBlock = some k → base ≤ k := by
  intro k hk
  rcases h.2 with ⟨rfl, _⟩ | ⟨g, cap, cur, rfl, hg, _⟩
  · cases hk
  · simp [Value.ownBlock] at hk; omega

/-- Its shape, and its cells. -/
theorem Nums.view {w : World} {base : Nat} {v : Value} {l : List Nat} (h : Nums w base v l) : ∃ a cap, v = .slice a l.length cap ∧ Sl w nV a l := by
  have h' := h
  rcases h.2 with ⟨rfl, h0⟩ | ⟨g, cap, cur, rfl, hg, hh, _⟩
  · have : l = [] := List.eq_nil_of_length_eq_zero h0
    subst this
    exact ⟨none, 0, rfl, Sl.nil⟩
  · refine ⟨some ⟨g, 0, none⟩, cap, rfl, fun _ => ⟨g, 0, rfl, lt_of_block hh, fun i x hx => ?_⟩⟩
    have hi : i < l.length := (List.getElem?_eq_some_iff.1 hx).1
    rw [Nat.zero_add, World.ownsRow.cellAt h' i (by omega), List.getElem?_map, hx]
    rfl

/-- 'append(out, n)' on such a slice. -/
theorem wp_nums_push {ops : Array Oper} {rest : List Oper} {o : Oper} {a : Act} {Q : Exit → Act → World → Prop} (W : World) (hgd : o.guard = none) (s x : Operand)
    (ho : o.op = .call { callee := .builtin .append, args := #[s, x], argTypes := #[91, 91] })
    (base : Nat) (v : Value) (l : List Nat) (hs : a.eval s = v) (hb : Nums W base v l)
    (ad : Addr) (m c : Nat) (cs : List Nat) (hx : a.eval x = .slice (some ad) m c) (hm : cs.length = m) (hcell : ∀ j u, cs[j]? = some u → W.cell? (ad.add j) = some (nV u))
    (hbytes : l.length + m ≤ 17592186044416) (hbase : base ≤ W.heap.size)
    (h : ∀ v' w', Nums w' base v' (l ++ cs) → Below base W w' → wpList Tryd.prog ops Q rest (a.put o.dst v') w') : wpList Tryd.prog ops Q (o :: rest) a W := by
  obtain ⟨i0, hi, hz0, hz1, hz2⟩ := info_parts infoInt
  subst hm
  refine wpList_append_own W hgd s x 91 ho base 3 i0 (.int .i64 0) 1 8 Tryd.underlying91 hi hz0 hz1 hz2 rfl (by decide) v l.length _ hs hb ad cs.length c (cs.map nV) hx (by simp) ?_ ?_ (by unfold maxLen; omega) (by omega) hbase ?_
  · intro j u hu
    rw [List.getElem?_map] at hu
    obtain ⟨y, hy, rfl⟩ := Option.map_eq_some_iff.1 hu
    exact hcell j y hy
  · intro u hu
    obtain ⟨y, _, rfl⟩ := List.mem_map.1 hu
    rfl
  · intro v' w' h1 h2 _
    refine h v' w' ?_ ((Below.refl base W).grown h2 hbase hb.own_block)
    unfold Nums
    rw [List.map_append, List.length_append]
    exact h1
end Go.Proofs.YtonkmffipjdhkaaDoor
