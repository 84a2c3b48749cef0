/-
  Texts put together: Plain, Most, Buf, Put, Box.
-/
import Derived.WalkKit
import Derived.Lib.EndianBits
import Derived.Lib.Hide
import Derived.Test.YtbeldjijnjgbfaaRows
import Derived.Deep.RegionLaw
import Derived.Test.YtbeldjijnjgbfaaMg0
import Derived.Maps.AppendAt
namespace Go.Proofs.Ytbeldjijnjgbfaa
open Go.RowKit

theorem ret_int {k : IntKind} {a b : Int} (h : a = b) : Ending.returned (.int k a) = .returned (.int k b) := by rw [h]
theorem ret_str {a b : ByteArray} (h : a = b) : Ending.returned (.string a) = .returned (.string b) := by rw [h]
theorem ret_bool {a b : Bool} (h : a = b) : Ending.returned (.bool a) = .returned (.bool b) := by rw [h]

theorem str_some (s : ByteArray) (h : 0 < s.size) : ¬ s.toList = [] ∧ s.toList.isEmpty = false := by
  have e : ¬ s.toList = [] := by
    rw [ByteArray.toList_eq]
    intro e
    have h1 : s.data.toList.length = 0 := by rw [e]; rfl
    rw [Array.length_toList] at h1
    have h2 : s.size = s.data.size := rfl
    omega
  exact ⟨e, by simpa using e⟩

/-- The number that bytes tell, the lowest first. -/
def leVal : List UInt8 → Nat
  | [] => 0
  | x :: r => x.toNat + 256 * leVal r

theorem leVal_lt : ∀ l : List UInt8, leVal l < 256 ^ l.length
  | [] => by simp [leVal]
  | x :: r => by
    have h := leVal_lt r
    have hx := x.toNat_lt
    simp only [leVal, List.length_cons, Nat.pow_succ]
    omega

theorem leVal_snoc : ∀ (l : List UInt8) (x : UInt8), leVal (l ++ [x]) = leVal l + x.toNat * 256 ^ l.length
  | [], x => by simp [leVal]
  | y :: r, x => by
    have h := leVal_snoc r x
    simp only [leVal, List.cons_append, List.length_cons, Nat.pow_succ, h]
    rw [Nat.mul_add, Nat.add_assoc, ← Nat.mul_assoc, ← Nat.mul_assoc, Nat.mul_comm 256 x.toNat, Nat.mul_right_comm]

theorem take_snoc (s : ByteArray) (k : Nat) (h : k < s.size) : s.data.toList.take (k + 1) = s.data.toList.take k ++ [s[k]] := by
  rw [List.take_succ_eq_append_getElem (by simpa using h)]; rfl

theorem leVal_take (s : ByteArray) (k : Nat) (h : k < s.size) : leVal (s.data.toList.take (k + 1)) = leVal (s.data.toList.take k) + s[k].toNat * 256 ^ k := by
  rw [take_snoc s k h, leVal_snoc, List.length_take, Nat.min_eq_left (by simp; omega)]

theorem leVal_take_lt (s : ByteArray) (k : Nat) (h : k ≤ s.size) : leVal (s.data.toList.take k) < 256 ^ k := by
  have := leVal_lt (s.data.toList.take k)
  rwa [List.length_take, Nat.min_eq_left (by simpa using h)] at this

theorem i64_small (n : Int) (h0 : 0 ≤ n) (h : n < 2 ^ 63) : IntKind.i64.wrap n = n := IntWalk.i64_in n ⟨by omega, by omega⟩

theorem pow256 (j : Nat) : (256 : Nat) ^ j = 2 ^ (8 * j) := by rw [show (256 : Nat) = 2 ^ 8 from rfl, ← Nat.pow_mul]

theorem pow256_le (j : Nat) (h : j ≤ 6) : 1 ≤ 256 ^ j ∧ 256 ^ j ≤ 281474976710656 := by
  match j, h with
  | 0, _ => decide
  | 1, _ => decide
  | 2, _ => decide
  | 3, _ => decide
  | 4, _ => decide
  | 5, _ => decide
  | 6, _ => decide

/-- One round of Number. -/
theorem orStep (A x j : Nat) (hA : A < 256 ^ j) (hx : x < 256) (hj : j ≤ 6) : bits .or .i64 (A : Int) (wrap64 ((x : Int) * 2 ^ (8 * j))) = ((A + x * 256 ^ j : Nat) : Int) := by
  have hp := pow256_le j hj
  have hb : x * 256 ^ j < 72057594037927936 := Nat.lt_of_le_of_lt (Nat.mul_le_mul_left x hp.2) (by omega)
  have e : (x : Int) * 2 ^ (8 * j) = ((x * 256 ^ j : Nat) : Int) := by rw [pow256, Int.natCast_mul, Int.natCast_pow]; rfl
  rw [e, IntWalk.wrap64_in _ (by omega)]
  refine (bits_join_low .i64 63 (by decide) i64_small (8 * j) _ _ (by omega) ?_ (by omega) (by omega) ?_ (by omega)).trans (by omega)
  · rw [pow256] at hA; exact_mod_cast hA
  · rw [pow256]; exact_mod_cast Nat.mul_mod_left x (2 ^ (8 * j))
end Go.Proofs.Ytbeldjijnjgbfaa

namespace Go.Proofs.Ytbeldjijnjgbfaa
open Go.RowKit

/-- The greatest number of a width. -/
def mostI (n : Int) : Int := if 1 ≤ n ∧ n ≤ 7 then 256 ^ n.toNat - 1 else -1

theorem p256 (j : Nat) (h : j ≤ 6) : 1 ≤ (256 : Int) ^ j ∧ (256 : Int) ^ j ≤ 281474976710656 := by
  match j, h with
  | 0, _ => decide
  | 1, _ => decide
  | 2, _ => decide
  | 3, _ => decide
  | 4, _ => decide
  | 5, _ => decide
  | 6, _ => decide
theorem p256' (j : Nat) (h : j ≤ 7) : 1 ≤ (256 : Int) ^ j ∧ (256 : Int) ^ j ≤ 72057594037927936 := by
  match j, h with
  | 0, _ => decide
  | 1, _ => decide
  | 2, _ => decide
  | 3, _ => decide
  | 4, _ => decide
  | 5, _ => decide
  | 6, _ => decide
  | 7, _ => decide

theorem most_any (n : Int) (w : World) : Calls Try.prog 55 #[.int .i64 n] w fun e w' => e = .returned (.int .i64 (mostI n)) ∧ w = w' := by
  by_cases h : 1 ≤ n ∧ n ≤ 7
  · have h7 : n = 1 ∨ n = 2 ∨ n = 3 ∨ n = 4 ∨ n = 5 ∨ n = 6 ∨ n = 7 := by omega
    rcases h7 with rfl | rfl | rfl | rfl | rfl | rfl | rfl
    all_goals
      go_enter Try.func55, Try.ntmps55
      go_wp2
      go_ret
      exact ⟨ret_int (by decide), rfl⟩
  · have e1 : mostI n = -1 := by unfold mostI; rw [if_neg h]
    rw [e1]
    clear e1
    by_cases h1 : n < 1
    · go_enter Try.func55, Try.ntmps55
      go_wp2
      go_ret
      exact ⟨rfl, rfl⟩
    · have h2 : 7 < n := by omega
      go_enter Try.func55, Try.ntmps55
      go_wp2
      go_ret
      exact ⟨rfl, rfl⟩

end Go.Proofs.Ytbeldjijnjgbfaa

namespace Go.Proofs.Ytbeldjijnjgbfaa
open Go.RowKit

set_option maxRecDepth 100000 in
theorem infoU8 : (Try.prog.info? 5).map (fun i => (i.zero, i.size, i.bytes)) = some (some (.int .u8 0), 1, 1) := by kernel_rfl

def byV (c : UInt8) : Value := .int .u8 (c.toNat : Int)

/-- The value v is a slice of the call's own that holds the bytes l. -/
def Buf (w : World) (base : Nat) (v : Value) (l : List UInt8) : Prop := w.ownsRow base 5 1 v l.length (l.map byV)

set_option maxRecDepth 100000 in
theorem Buf.nil (w : World) (base : Nat) : Buf w base (.slice none 0 0) [] := World.ownsRow_nil _ _ _ _

set_option maxRecDepth 100000 in
theorem strOfNums_bytes (l : List UInt8) : strOfNums (l.map fun c => (c.toNat : Int)) = ⟨l.toArray⟩ := by
  unfold strOfNums
  congr 1
  rw [List.map_map]
  have : (fun n : Int => UInt8.ofNat n.toNat) ∘ (fun c : UInt8 => (c.toNat : Int)) = id := by
    funext c; simp
  rw [this, List.map_id]

set_option maxRecDepth 100000 in
theorem getD_bytes (l : List UInt8) (i : Nat) (h : i < l.length) : (l.map byV)[i]? = some (.int .u8 ((l.map fun c => (c.toNat : Int)).getD i 0)) := by
  simp [byV, List.getD, List.getElem?_eq_getElem h]

set_option maxRecDepth 100000 in
/-- 'string(b)'. -/
theorem Buf.text {w : World} {base : Nat} {v : Value} {l : List UInt8} (h : Buf w base v l) :
    (convert 127 9 v).run Try.prog w = .ok (.string ⟨l.toArray⟩) w := by
  have h' := h
  rcases h.2 with ⟨rfl, h0⟩ | ⟨g, cap, cur, rfl, _⟩
  · have : l = [] := List.eq_nil_of_length_eq_zero h0
    subst this
    exact run_convert_bytes_nil w _ _ Try.underlying127 Try.underlying5 _ _ _ Try.underlying9
  · have := run_convert_bytes_arg (P := Try.prog) w _ _ Try.underlying127 Try.underlying5 g 0 l.length cap (l.map fun c => (c.toNat : Int)) (by simp) (fun i hi => by
      rw [Nat.zero_add, World.ownsRow.cellAt h i (by omega)]; exact getD_bytes l i hi) _ Try.underlying9
    rw [strOfNums_bytes] at this
    exact this

set_option maxRecDepth 100000 in
theorem Buf.own_block {w : World} {base : Nat} {v : Value} {l : List UInt8} (h : Buf w base v l) : ∀ k, v.ownBlock = some k → base ≤ k := by
  intro k hk
  rcases h.2 with ⟨rfl, _⟩ | ⟨g, cap, cur, rfl, hg, _⟩
  · cases hk
  · simp [Value.ownBlock] at hk; omega

set_option maxRecDepth 100000 in
/-- 'append(out, c ..)' on such a slice. -/
theorem wp_buf_push {ops : Array Oper} {rest : List Oper} {o : Oper} {a : Act} {Q : Exit → Act → World → Prop} (W : World) (hgd : o.guard = none) (s x : Operand)
    (ho : o.op = .call { callee := .builtin .append, args := #[s, x], argTypes := #[127, 127] })
    (base : Nat) (v : Value) (l : List UInt8) (hs : a.eval s = v) (hb : Buf W base v l)
    (ad : Addr) (m c : Nat) (cs : List UInt8) (hx : a.eval x = .slice (some ad) m c) (hm : cs.length = m) (hcell : ∀ j u, cs[j]? = some u → W.cell? (ad.add j) = some (byV u))
    (hbytes : l.length + m ≤ 140737488355328) (hbase : base ≤ W.heap.size)
    (h : ∀ v' w', Buf w' base v' (l ++ cs) → Below base W w' → wpList Try.prog ops Q rest (a.put o.dst v') w') : wpList Try.prog ops Q (o :: rest) a W := by
  obtain ⟨i0, hi, hz0, hz1, hz2⟩ := info_parts infoU8
  subst hm
  refine wpList_append_own W hgd s x 127 ho base 5 i0 (.int .u8 0) 1 1 Try.underlying127 hi hz0 hz1 hz2 rfl (by decide) v l.length _ hs hb ad cs.length c (cs.map byV) hx (by simp) ?_ ?_ (by unfold maxLen; omega) (by omega) hbase ?_
  · intro j u hu
    rw [List.getElem?_map] at hu
    obtain ⟨y, hy, rfl⟩ := Option.map_eq_some_iff.1 hu
    exact hcell j y hy
  · intro u hu
    obtain ⟨y, _, rfl⟩ := List.mem_map.1 hu
    rfl
  · intro v' w' h1 h2 _
    refine h v' w' ?_ ((Below.refl base W).grown h2 hbase hb.own_block)
    unfold Buf
    rw [List.map_append, List.length_append]
    exact h1

set_option maxRecDepth 100000 in
theorem Buf.alloc {w : World} {base : Nat} {v : Value} {l : List UInt8} (h : Buf w base v l) (o : Obj) : Buf (w.alloc o) base v l := World.ownsRow.alloc h o
set_option maxRecDepth 100000 in
theorem Buf.base_size {w : World} {base : Nat} {W : World} (h : Below base W w) (hb : base ≤ W.heap.size) : base ≤ w.heap.size := Nat.le_trans hb h.size

set_option maxRecDepth 100000 in
/-- The same at a step of a region that draws its order. -/
theorem step_buf_push {ops : Array Oper} {o : Oper} {a : Act} {W : World} {K : Act → World → Prop} {Q : Exit → Act → World → Prop} {E : Prop} (hgd : o.guard = none) (s x : Operand)
    (ho : o.op = .call { callee := .builtin .append, args := #[s, x], argTypes := #[127, 127] })
    (base : Nat) (v : Value) (l : List UInt8) (hs : a.eval s = v) (hb : Buf W base v l)
    (ad : Addr) (m c : Nat) (cs : List UInt8) (hx : a.eval x = .slice (some ad) m c) (hm : cs.length = m) (hcell : ∀ j u, cs[j]? = some u → W.cell? (ad.add j) = some (byV u))
    (hbytes : l.length + m ≤ 140737488355328) (hbase : base ≤ W.heap.size)
    (h : ∀ v' w', Buf w' base v' (l ++ cs) → Below base W w' → K (a.put o.dst v') w') :
    if Region.wanted o (yielded ops a.tmps) = true then Oper.wp Try.prog o a W K Q else E := by
  have hw : Region.wanted o (yielded ops a.tmps) = true := by simp [Region.wanted, hgd]
  rw [if_pos hw]
  obtain ⟨i0, hi, hz0, hz1, hz2⟩ := info_parts infoU8
  subst hm
  refine wp_append_own W s x 127 ho base 5 i0 (.int .u8 0) 1 1 Try.underlying127 hi hz0 hz1 hz2 rfl (by decide) v l.length _ hs hb ad cs.length c (cs.map byV) hx (by simp) ?_ ?_ (by unfold maxLen; omega) (by omega) hbase ?_
  · intro j u hu
    rw [List.getElem?_map] at hu
    obtain ⟨y, hy, rfl⟩ := Option.map_eq_some_iff.1 hu
    exact hcell j y hy
  · intro u hu
    obtain ⟨y, _, rfl⟩ := List.mem_map.1 hu
    rfl
  · intro v' w' h1 h2 _
    refine h v' w' ?_ ((Below.refl base W).grown h2 hbase hb.own_block)
    unfold Buf
    rw [List.map_append, List.length_append]
    exact h1

set_option maxRecDepth 100000 in
/-- 'make([]byte, 0, n)'. -/
theorem wp_buf_make {ops : Array Oper} {rest : List Oper} {o : Oper} {a : Act} {Q : Exit → Act → World → Prop} (W : World) (hgd : o.guard = none) (l c : Operand)
    (ho : o.op = Op.makeSlice 127 l c) (base : Nat) (kl kc : IntKind) (C : Int) (n : Nat) (hl : a.eval l = .int kl 0) (hc : a.eval c = .int kc C) (hC : C = (n : Int))
    (hn : n ≤ 281474976710656) (hbase : base ≤ W.heap.size)
    (h : ∀ v' w', Buf w' base v' [] → Below base W w' → wpList Try.prog ops Q rest (a.put o.dst v') w') : wpList Try.prog ops Q (o :: rest) a W := by
  obtain ⟨i0, hi, hz0, hz1, hz2⟩ := info_parts infoU8
  refine wpList_make_own W hgd l c 127 ho base 5 i0 (.int .u8 0) 1 Try.underlying127 hi hz0 hz1 kl kc C n hl hc hC (by rw [hz2]; omega) (by unfold maxLen; omega) hbase ?_
  intro w' h1 h2
  refine h _ w' ?_ ((Below.refl base W).grown h2 hbase (fun k hk => by cases hk))
  rcases h1.2 with ⟨h', _⟩ | ⟨g, cap, cur, e, hg, hh, h3, h4, h5, h6⟩
  · simp at h'
  · exact ⟨rfl, .inr ⟨g, cap, cur, e, hg, hh, h3, h4, h5, h6⟩⟩

/-- A slice's length, for a loop's measure. -/
def lenOf : Value → Nat
  | .slice _ n _ => n
  | _ => 0
set_option maxRecDepth 100000 in
theorem Buf.len {w : World} {base : Nat} {v : Value} {l : List UInt8} (h : Buf w base v l) : lenOf v = l.length := by
  rcases h.2 with ⟨rfl, h0⟩ | ⟨g, cap, cur, rfl, _⟩
  · exact h0.symm
  · rfl
set_option maxRecDepth 100000 in
theorem Buf.shape {w : World} {base : Nat} {v : Value} {l : List UInt8} (h : Buf w base v l) : ∃ a cap, v = .slice a l.length cap := by
  rcases h.2 with ⟨rfl, h0⟩ | ⟨g, cap, cur, rfl, _⟩
  · exact ⟨none, 0, by rw [h0]⟩
  · exact ⟨_, cap, rfl⟩
end Go.Proofs.Ytbeldjijnjgbfaa

namespace Go.Proofs.Ytbeldjijnjgbfaa
open Go.RowKit

/-- n in k bytes, the lowest first. -/
def leList : Nat → Nat → List UInt8
  | _, 0 => []
  | n, k + 1 => UInt8.ofNat n :: leList (n / 256) k

theorem leList_length : ∀ (n k : Nat), (leList n k).length = k
  | _, 0 => rfl
  | n, k + 1 => by simp [leList, leList_length]

theorem leList_snoc : ∀ (n k : Nat), leList n (k + 1) = leList n k ++ [UInt8.ofNat (n / 256 ^ k)]
  | n, 0 => by simp [leList]
  | n, k + 1 => by
    rw [leList, leList_snoc (n / 256) k, leList, List.cons_append, Nat.div_div_eq_div_mul, Nat.pow_succ, Nat.mul_comm]

def putB (n w : Int) : ByteArray := if n < 0 ∨ mostI w < n then ⟨#[]⟩ else ⟨(leList n.toNat w.toNat).toArray⟩

/-- The row behind k rounds of Put. -/
def putRow (n w k : Nat) : List UInt8 := leList n k ++ List.replicate (w - k) 0

theorem putRow_length (n w k : Nat) (h : k ≤ w) : (putRow n w k).length = w := by simp [putRow, leList_length]; omega

theorem putRow_set (n w k : Nat) (h : k < w) : (putRow n w k).set k (UInt8.ofNat (n / 256 ^ k)) = putRow n w (k + 1) := by
  unfold putRow
  rw [leList_snoc, List.set_append, leList_length, if_neg (by omega), Nat.sub_self, show w - k = (w - (k + 1)) + 1 by omega, List.replicate_succ, List.set_cons_zero]
  simp

theorem okW_of (n w : Int) (h0 : 0 ≤ n) (h : n ≤ mostI w) : 1 ≤ w ∧ w ≤ 7 := by
  unfold mostI at h
  split at h
  · assumption
  · omega

theorem put_no (n wd : Int) (w : World) (h : n < 0 ∨ mostI wd < n) : Calls Try.prog 75 #[.int .i64 n, .int .i64 wd] w fun e w' => e = .returned (.string (putB n wd)) ∧ w = w' := by
  rw [show putB n wd = ⟨#[]⟩ from if_pos h]
  by_cases h1 : n < 0
  · clear h
    go_enter Try.func75, Try.ntmps75
    go_wp2
    go_ret
    exact ⟨rfl, rfl⟩
  · have h2 : mostI wd < n := by omega
    clear h
    go_enter Try.func75, Try.ntmps75
    go_wp2_with fail
    refine (most_any wd _).mono ?_
    rintro e w' ⟨rfl, rfl⟩
    go_wp2
    go_ret
    exact ⟨rfl, rfl⟩

theorem putRow_all (n w : Nat) : putRow n w w = leList n w := by simp [putRow]

theorem shr_byte (n k : Nat) : Value.int .u8 ((n : Int) / 2 ^ (8 * k) % 256) = byV (UInt8.ofNat (n / 256 ^ k)) := by
  unfold byV
  congr 1
  rw [pow256]
  simp

theorem below1 (b i : Nat) (w : World) (v : Value) : Below b w (w.setCell ⟨b, i, none⟩ v) := (Below.refl b w).setCell (p := ⟨b, i, none⟩) (Nat.le_refl b) v

theorem made_row (n wd : Nat) {w1 : World} {g : Nat} (h : w1.ownsRow g 5 1 (.slice (some ⟨g, 0, none⟩) wd wd) wd (madeCells #[Value.int .u8 0] wd).toList) : Buf w1 g (.slice (some ⟨g, 0, none⟩) wd wd) (putRow n wd 0) := by
  have e : (madeCells #[Value.int .u8 0] wd).toList = (putRow n wd 0).map byV := by
    apply List.ext_getElem
    · simp [putRow, leList, madeCells]
    · intro i h1 h2
      simp [putRow, leList, madeCells, byV, Nat.mod_one]
  unfold Buf
  rw [putRow_length n wd 0 (Nat.zero_le _), ← e]
  exact h

theorem buf_cell {w : World} {g n wd k : Nat} (h : Buf w g (.slice (some ⟨g, 0, none⟩) wd wd) (putRow n wd k)) (hk : k < wd) (hle : k ≤ wd) : w.cell? ⟨g, k, none⟩ = some (.int .u8 0) := by
  have hl := putRow_length n wd k hle
  have h' := h
  unfold Buf at h'
  rw [hl] at h'
  rw [World.ownsRow.cellAt h' k (by omega), List.getElem?_map]
  have : 0 < wd - k := by omega
  simp [putRow, leList_length, byV, this]

theorem buf_free {w : World} {g n wd k : Nat} (h : Buf w g (.slice (some ⟨g, 0, none⟩) wd wd) (putRow n wd k)) (hle : k ≤ wd) : w.frozen? ⟨g, k, none⟩ = false := by
  have hl := putRow_length n wd k hle
  have h' := h
  unfold Buf at h'
  rw [hl] at h'
  exact World.ownsRow.frozenAt h' k

theorem buf_set {w : World} {g n wd k : Nat} (h : Buf w g (.slice (some ⟨g, 0, none⟩) wd wd) (putRow n wd k)) (hk : k < wd) {u : Value} (hu : u = byV (UInt8.ofNat (n / 256 ^ k))) : Buf (w.setCell ⟨g, k, none⟩ u) g (.slice (some ⟨g, 0, none⟩) wd wd) (putRow n wd (k + 1)) := by
  have hl := putRow_length n wd k (by omega)
  have hl' := putRow_length n wd (k + 1) (by omega)
  have h' := h
  unfold Buf at h' ⊢
  rw [hl] at h'
  rw [hl', ← putRow_set n wd k hk, List.map_set, ← hu]
  exact (World.ownsRow.stored h' k u).1

set_option maxRecDepth 100000 in
theorem put_yes (n wd : Nat) (w : World) (h1 : 1 ≤ wd) (h7 : wd ≤ 7) (h : (n : Int) ≤ mostI wd) : Calls Try.prog 75 #[.int .i64 n, .int .i64 wd] w fun e w' => e = .returned (.string ⟨(leList n wd).toArray⟩) ∧ Below w.heap.size w w' := by
  obtain ⟨i0, hi, hz0, hz1, hz2⟩ := info_parts infoU8
  go_enter Try.func75, Try.ntmps75
  go_wp2_with fail
  refine (most_any wd _).mono ?_
  rintro e w' ⟨rfl, rfl⟩
  go_wp2_with (at_make; refine wpList_make_full _ rfl _ _ 127 rfl w.heap.size 5 i0 (.int .u8 0) 1 Try.underlying127 hi hz0 hz1 .i64 .i64 wd wd wd rfl rfl rfl rfl (by rw [hz2]; omega) (by unfold maxLen; omega) (Nat.le_refl _) ?_)
  intro w1 hown hg
  have hbuf := made_row n wd hown
  have hz : w.heap.size < w1.heap.size := by
    rcases hbuf.2 with ⟨h', _⟩ | ⟨g, cap, cur, hv, _, hh, _⟩
    · simp at h'
    · simp only [Value.slice.injEq, Option.some.injEq, Addr.mk.injEq, and_true] at hv
      rw [← hv.1] at hh
      exact lt_of_block hh
  have hbel : Below w.heap.size w w1 := (Below.refl _ _).grown hg (Nat.le_refl _) (fun k hk => by cases hk)
  have HB := Lib.hid hbuf
  have HL := Lib.hid hbel
  clear hown hg hbuf hbel
  go_wp2
  go_loopw [18] (fun i wr => ∃ k : Nat, k ≤ wd ∧ i = .int .i64 k ∧ Hid (Buf wr w.heap.size (.slice (some ⟨w.heap.size, 0, none⟩) wd wd) (putRow n wd k)) ∧ Hid (Below w.heap.size w wr)) (fun i _ => wd - (RowKit.intOf i).toNat)
  case atStart => exact ⟨0, Nat.zero_le _, rfl, HB, HL⟩
  case round =>
    obtain ⟨k, hk, rfl, HBr, HLr⟩ := hrel
    by_cases hlt : k < wd
    · have hc := buf_cell HBr.out hlt hk
      have hf := buf_free HBr.out hk
      go_wp2
      go_roundw
      case rel => exact ⟨k + 1, by omega, by go_num, buf_set HBr.out hlt (shr_byte n k), HLr.out.trans (below1 w.heap.size k wr _)⟩
      case measure => simp [RowKit.intOf]; omega
    · have hkk : k = wd := by omega
      subst hkk
      have hc := HBr.out.text
      go_wp2
      go_ret
      exact ⟨ret_str (by rw [putRow_all]), HLr.out⟩
theorem put_any (n wd : Int) (w : World) : Calls Try.prog 75 #[.int .i64 n, .int .i64 wd] w fun e w' => e = .returned (.string (putB n wd)) ∧ Below w.heap.size w w' := by
  by_cases h : n < 0 ∨ mostI wd < n
  · exact (put_no n wd w h).mono fun e w' ⟨he, hw⟩ => ⟨he, by rw [← hw]; exact Below.refl _ _⟩
  · rw [show putB n wd = _ from if_neg h]
    have hk := okW_of n wd (by omega) (by omega)
    obtain ⟨n', rfl⟩ : ∃ k : Nat, n = k := ⟨n.toNat, by omega⟩
    obtain ⟨wd', rfl⟩ : ∃ k : Nat, wd = k := ⟨wd.toNat, by omega⟩
    exact put_yes n' wd' w (by omega) (by omega) (by omega)

theorem putB_size (n w : Int) : (putB n w).size ≤ 7 := by
  unfold putB
  split
  · exact Nat.zero_le _
  · have hk := okW_of n w (by omega) (by omega)
    simp [ByteArray.size, leList_length]
    omega

end Go.Proofs.Ytbeldjijnjgbfaa

namespace Go.Proofs.Ytbeldjijnjgbfaa
open Go.RowKit

/-- Block b holds cs. -/
def Box (w : World) (b : Nat) (t : TypeId) (cs : Array Value) : Prop := w.heap[b]? = some (.cells cs t (0, 0))
theorem Box.cell {w : World} {b : Nat} {t : TypeId} {cs : Array Value} (h : Box w b t cs) (j : Nat) (v : Value) (hv : cs[j]? = some v) : w.cell? ⟨b, j, none⟩ = some v := by
  unfold Box at h
  simp only [World.cell?, h]
  exact hv
theorem Box.free {w : World} {b : Nat} {t : TypeId} {cs : Array Value} (h : Box w b t cs) (j : Nat) : w.frozen? ⟨b, j, none⟩ = false := by
  unfold Box at h
  simp [World.frozen?, h]
theorem Box.set {w : World} {b : Nat} {t : TypeId} {cs : Array Value} (h : Box w b t cs) (j : Nat) (v : Value) : Box (w.setCell ⟨b, j, none⟩ v) b t (cs.setIfInBounds j v) :=
  heap_setCell_same w b j cs t v h
theorem Box.lt {w : World} {b : Nat} {t : TypeId} {cs : Array Value} (h : Box w b t cs) : b < w.heap.size := lt_of_block h
theorem Box.of {w w' : World} {b : Nat} {t : TypeId} {cs : Array Value} (h : Box w b t cs) (e : w'.heap[b]? = w.heap[b]?) : Box w' b t cs := by unfold Box; rw [e]; exact h
theorem Box.keep {w w' : World} {b n : Nat} {t : TypeId} {cs : Array Value} (h : Box w b t cs) (hb : Below n w w') (hn : b < n) : Box w' b t cs := h.of (hb.block b hn)
theorem Box.new (w : World) (t : TypeId) (cs : Array Value) : Box (w.alloc (.cells cs t (0, 0))) w.heap.size t cs := (MapKept.heap_alloc w _).1
theorem Box.alloc {w : World} {b : Nat} {t : TypeId} {cs : Array Value} (h : Box w b t cs) (o : Obj) : Box (w.alloc o) b t cs := h.keep ((Below.refl _ _).alloc (Nat.le_refl _) o) h.lt

/-- Block b alone has changed (and blocks were made). -/
def Only (b : Nat) (w w' : World) : Prop := w.grownBy w' (some b)
theorem Only.refl (b : Nat) (w : World) : Only b w w := ⟨rfl, rfl, rfl, Nat.le_refl _, fun _ _ _ => rfl⟩
theorem Only.trans {b : Nat} {w w1 w2 : World} (h : Only b w w1) (k : Only b w1 w2) : Only b w w2 :=
  ⟨k.os.trans h.os, k.tape.trans h.tape, k.output.trans h.output, Nat.le_trans h.size k.size, fun i hi hne => (k.block i (Nat.lt_of_lt_of_le hi h.size) hne).trans (h.block i hi hne)⟩
theorem Only.set (b j : Nat) (w : World) (v : Value) : Only b w (w.setCell ⟨b, j, none⟩ v) :=
  ⟨rfl, rfl, rfl, Nat.le_of_eq (Array.size_modify ..).symm, fun i _ hne => heap_setCell_other w _ i v (fun e => hne (by rw [e]))⟩
theorem Only.of {b n : Nat} {w w' : World} (h : Below n w w') (hn : w.heap.size ≤ n) : Only b w w' := ⟨h.os, h.tape, h.output, h.size, fun i hi _ => h.block i (Nat.lt_of_lt_of_le hi hn)⟩
theorem Only.below {b : Nat} {w w' : World} (h : Only b w w') (hb : b < w.heap.size) : Below b w w' := ⟨h.os, h.tape, h.output, h.size, fun i hi => h.block i (Nat.lt_trans hi hb) (fun e => by injection e with e; omega)⟩
theorem Only.below' {b n : Nat} {w w' : World} (h : Only b w w') (hb : n ≤ b) (hn : n ≤ w.heap.size) : Below n w w' := ⟨h.os, h.tape, h.output, h.size, fun i hi => h.block i (Nat.lt_of_lt_of_le hi hn) (fun e => by injection e with e; omega)⟩
theorem Only.box {b k : Nat} {w w' : World} {t : TypeId} {cs : Array Value} (h : Only b w w') (hk : k ≠ b) (hx : Box w k t cs) : Box w' k t cs := hx.of (h.block k hx.lt (fun e => hk (by injection e)))
theorem Only.row {b : Nat} {w w' : World} {base : Nat} {e : TypeId} {sz : Nat} {v : Value} {n : Nat} {xs : List Value} (h : Only b w w') (hv : v.ownBlock ≠ some b) (hx : w.ownsRow base e sz v n xs) : w'.ownsRow base e sz v n xs := by
  refine ⟨hx.1, ?_⟩
  rcases hx.2 with ⟨rfl, h0⟩ | ⟨g, cap, cur, rfl, hg, hh, h3⟩
  · exact .inl ⟨rfl, h0⟩
  · exact .inr ⟨g, cap, cur, rfl, hg, by rw [h.block g (lt_of_block hh) (fun e => hv e)]; exact hh, h3⟩
end Go.Proofs.Ytbeldjijnjgbfaa
