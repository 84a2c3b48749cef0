/-
  Texts put together: DevCheck, DevRead, Plain.
-/
import Derived.Test.YtonkmffipjdhkaaDoorMg1
import Derived.Deep.QuietTactic
import Derived.WalkKit
import Derived.Lib.EndianBits
import Derived.Lib.Hide
namespace Go.Proofs.YtonkmffipjdhkaaDoor
open Go.RowKit

def locV (l : Int × Int) : Value := .agg #[.int .i64 l.1, .int .i64 l.2]
def chkD (d : DevD) (l : Int × Int) (n : Nat) : Int :=
  if l.2 < 0 ∨ (devSize d l.1 : Int) ≤ l.2 ∨ 1024 < n then 1 else if devLost d l.1 then 5 else 0

theorem dcheck_nil (l : Int × Int) (s : ByteArray) (w : World) : Calls Tryd.prog 33 #[.pointer none, locV l, .string s] w fun e w' => e = .returned (.int .i64 1) ∧ Below w.heap.size w w' := by
  obtain ⟨a, b⟩ := l
  have hx := Lib.hid ((Below.refl w.heap.size w).alloc (Nat.le_refl _) (.cells #[.int .i64 a, .int .i64 b] 33 (0, 0)))
  have k0 : (w.alloc (.cells #[.int .i64 a, .int .i64 b] 33 (0, 0))).cell? ⟨w.heap.size, 0, none⟩ = some (.int .i64 a) := boxed0 _ _ _ _ 0 _ rfl
  have k1 : (w.alloc (.cells #[.int .i64 a, .int .i64 b] 33 (0, 0))).cell? ⟨w.heap.size, 1, none⟩ = some (.int .i64 b) := boxed0 _ _ _ _ 1 _ rfl
  unfold locV
  by_cases h : b < 0
  · have hd : decide (b < 0) = true := decide_eq_true h
    clear h
    go_enter Tryd.func33, Tryd.ntmps33
    go_wp2_with fail
    generalize World.alloc _ _ = wx at *
    go_region
    go_wp2
    go_ret
    exact ⟨rfl, hx.out.drew⟩
  · have hd : decide (b < 0) = false := decide_eq_false h
    have hd2 : decide (0 ≤ b) = true := decide_eq_true (by omega)
    clear h
    go_enter Tryd.func33, Tryd.ntmps33
    go_wp2_with fail
    generalize World.alloc _ _ = wx at *
    go_quiet ((go_at_call 29; exact Calls.quiet_of_same ((dsize_nil _ _).mono fun e w' h => ⟨h.1, h.2.symm⟩)))
    go_wp2
    go_ret
    exact ⟨rfl, ⟨hx.out.os, hx.out.tape, hx.out.output, hx.out.size, hx.out.block⟩⟩

set_option maxRecDepth 100000 in
set_option maxHeartbeats 1000000 in
theorem dcheck_any (p : DevP) (d : DevD) (l : Int × Int) (s : ByteArray) (w : World) (h : DevAt w p d) : Calls Tryd.prog 33 #[.pointer (some ⟨p.b, 0, none⟩), locV l, .string s] w fun e w' => e = .returned (.int .i64 (chkD d l s.size)) ∧ Below w.heap.size w w' := by
  obtain ⟨a, b⟩ := l
  have hx := Lib.hid ((Below.refl w.heap.size w).alloc (Nat.le_refl _) (.cells #[.int .i64 a, .int .i64 b] 33 (0, 0)))
  have k0 : (w.alloc (.cells #[.int .i64 a, .int .i64 b] 33 (0, 0))).cell? ⟨w.heap.size, 0, none⟩ = some (.int .i64 a) := boxed0 _ _ _ _ 0 _ rfl
  have k1 : (w.alloc (.cells #[.int .i64 a, .int .i64 b] 33 (0, 0))).cell? ⟨w.heap.size, 1, none⟩ = some (.int .i64 b) := boxed0 _ _ _ _ 1 _ rfl
  have HX := Lib.hid (h.chg (Chg.of (S := []) hx.out (Nat.le_refl _)) (fun _ _ hm => by cases hm))
  have HU : Hid (chkD d (a, b) s.size = if b < 0 ∨ (devSize d a : Int) ≤ b ∨ 1024 < s.size then 1 else if devLost d a then 5 else 0) := rfl
  clear h
  unfold locV
  by_cases h0 : b < 0
  · rw [HU.out, if_pos (Or.inl h0)]
    have hd : decide (b < 0) = true := decide_eq_true h0
    clear h0
    go_enter Tryd.func33, Tryd.ntmps33
    go_wp2_with fail
    generalize World.alloc _ _ = wx at *
    go_region
    go_wp2
    go_ret
    exact ⟨rfl, ⟨hx.out.os, hx.out.tape, hx.out.output, hx.out.size, hx.out.block⟩⟩
  · by_cases h1 : (devSize d a : Int) ≤ b
    · rw [HU.out, if_pos (Or.inr (Or.inl h1))]
      have hd : decide (b < 0) = false := decide_eq_false h0
      have hd2 : decide ((devSize d a : Int) ≤ b) = true := decide_eq_true h1
      obtain ⟨n, hn⟩ : ∃ n, n = devSize d a := ⟨_, rfl⟩
      clear h0 h1 hn
      go_enter Tryd.func33, Tryd.ntmps33
      go_wp2_with fail
      generalize World.alloc _ _ = wx at *
      go_quiet ((go_at_call 29; exact Calls.quiet_of_same ((dsize_any p d _ _ (by exact HX.out.drewN _)).mono fun e w' h => ⟨h.1, h.2.symm⟩)))
      go_wp2
      go_ret
      exact ⟨rfl, ⟨hx.out.os, hx.out.tape, hx.out.output, hx.out.size, hx.out.block⟩⟩
    · by_cases h2 : 1024 < s.size
      · rw [HU.out, if_pos (Or.inr (Or.inr h2))]
        have hd : decide (b < 0) = false := decide_eq_false h0
        have hd2 : decide ((devSize d a : Int) ≤ b) = false := decide_eq_false h1
        have hd3 : (1024 : Int) < s.size := by omega
        clear h0 h1 h2
        go_enter Tryd.func33, Tryd.ntmps33
        go_wp2_with fail
        generalize World.alloc _ _ = wx at *
        go_quiet ((go_at_call 29; exact Calls.quiet_of_same ((dsize_any p d _ _ (by exact HX.out.drewN _)).mono fun e w' h => ⟨h.1, h.2.symm⟩)))
        go_wp2
        go_ret
        exact ⟨rfl, ⟨hx.out.os, hx.out.tape, hx.out.output, hx.out.size, hx.out.block⟩⟩
      · rw [HU.out, if_neg (by omega)]
        have hd : decide (b < 0) = false := decide_eq_false h0
        have hd2 : decide ((devSize d a : Int) ≤ b) = false := decide_eq_false h1
        have hd3 : (s.size : Int) ≤ 1024 := by omega
        have ha : a = 0 ∨ a = 1 := by
          by_cases h3 : a = 0 ∨ a = 1
          · exact h3
          · unfold devSize at h1
            rw [if_neg (by omega), if_neg (by omega)] at h1
            simp at h1; omega
        have c2 : (w.alloc (.cells #[.int .i64 a, .int .i64 b] 33 (0, 0))).cell? ⟨p.b, 2, none⟩ = some (.bool d.s0.lost) := HX.out.box.cell 2 _ rfl
        have c5 : (w.alloc (.cells #[.int .i64 a, .int .i64 b] 33 (0, 0))).cell? ⟨p.b, 5, none⟩ = some (.bool d.s1.lost) := HX.out.box.cell 5 _ rfl
        clear h0 h1 h2
        rcases ha with rfl | rfl
        · rw [show devLost d 0 = d.s0.lost from rfl]
          cases hl : d.s0.lost
          all_goals
            rw [hl] at c2
            have HLo := Lib.hid hl
            clear hl c5
            go_enter Tryd.func33, Tryd.ntmps33
            go_wp2_with fail
            generalize World.alloc _ _ = wx at *
            go_quiet ((go_at_call 29; exact Calls.quiet_of_same ((dsize_any p d _ _ (by exact HX.out.drewN _)).mono fun e w' h => ⟨h.1, h.2.symm⟩)))
            go_wp2_with fail
            go_region
            go_wp2
            go_ret
            exact ⟨rfl, ⟨hx.out.os, hx.out.tape, hx.out.output, hx.out.size, hx.out.block⟩⟩
        · rw [show devLost d 1 = d.s1.lost from rfl]
          cases hl : d.s1.lost
          all_goals
            rw [hl] at c5
            have HLo := Lib.hid hl
            clear hl c2
            go_enter Tryd.func33, Tryd.ntmps33
            go_wp2_with fail
            generalize World.alloc _ _ = wx at *
            go_quiet ((go_at_call 29; exact Calls.quiet_of_same ((dsize_any p d _ _ (by exact HX.out.drewN _)).mono fun e w' h => ⟨h.1, h.2.symm⟩)))
            go_wp2_with fail
            go_region
            go_wp2
            go_ret
            exact ⟨rfl, ⟨hx.out.os, hx.out.tape, hx.out.output, hx.out.size, hx.out.block⟩⟩
end Go.Proofs.YtonkmffipjdhkaaDoor

namespace Go.Proofs.YtonkmffipjdhkaaDoor
open Go.RowKit

def sideOf (d : DevD) (dev : Int) : SideD := if dev = 0 then d.s0 else d.s1
def tellD (d : DevD) (l : Int × Int) : ByteArray := if chkD d l 0 = 0 then (sideOf d l.1).tells.getD l.2.toNat ⟨#[]⟩ else ⟨#[]⟩
theorem chkD_ok {d : DevD} {l : Int × Int} {n : Nat} (h : chkD d l n = 0) : (l.1 = 0 ∨ l.1 = 1) ∧ 0 ≤ l.2 ∧ l.2 < devSize d l.1 ∧ n ≤ 1024 ∧ devLost d l.1 = false := by
  unfold chkD at h
  split at h
  · simp at h
  · rename_i h1
    split at h
    · simp at h
    · rename_i h2
      refine ⟨?_, by omega, by omega, by omega, by simpa using h2⟩
      by_cases h3 : l.1 = 0 ∨ l.1 = 1
      · exact h3
      · have : devSize d l.1 = 0 := by unfold devSize; rw [if_neg (by omega), if_neg (by omega)]
        omega

theorem dread_nil (l : Int × Int) (w : World) : Calls Tryd.prog 55 #[.pointer none, locV l] w fun e w' => e = .returned (.tuple #[.string ⟨#[]⟩, .int .i64 1]) ∧ Below w.heap.size w w' := by
  obtain ⟨a, b⟩ := l
  unfold locV
  have hx := Lib.hid ((Below.refl w.heap.size w).alloc (Nat.le_refl _) (.cells #[.int .i64 a, .int .i64 b] 33 (0, 0)))
  go_enter Tryd.func55, Tryd.ntmps55
  go_wp2_with fail
  generalize World.alloc _ _ = wx at *
  refine (dcheck_nil (a, b) ⟨#[]⟩ wx).mono ?_
  rintro e w1 ⟨rfl, hb⟩
  have HB := Lib.hid (hx.out.trans (hb.mono hx.out.size))
  clear hb
  go_wp2
  go_ret2
  exact ⟨rfl, HB.out⟩

set_option maxRecDepth 100000 in
set_option maxHeartbeats 1000000 in
theorem dread_any (p : DevP) (d : DevD) (l : Int × Int) (w : World) (h : DevAt w p d) : Calls Tryd.prog 55 #[.pointer (some ⟨p.b, 0, none⟩), locV l] w fun e w' => e = .returned (.tuple #[.string (tellD d l), .int .i64 (chkD d l 0)]) ∧ Below w.heap.size w w' := by
  obtain ⟨a, b⟩ := l
  unfold locV
  have hx := Lib.hid ((Below.refl w.heap.size w).alloc (Nat.le_refl _) (.cells #[.int .i64 a, .int .i64 b] 33 (0, 0)))
  have BX := Lib.hid (Box.new w 33 #[.int .i64 a, .int .i64 b])
  have HX := Lib.hid (h.chg (Chg.of (S := []) hx.out (Nat.le_refl _)) (fun _ _ hm => by cases hm))
  clear h
  have HT : Hid (tellD d (a, b) = if chkD d (a, b) 0 = 0 then (sideOf d a).tells.getD b.toNat ⟨#[]⟩ else ⟨#[]⟩) := rfl
  go_enter Tryd.func55, Tryd.ntmps55
  go_wp2_with fail
  generalize World.alloc _ _ = wx at *
  refine (dcheck_any p d (a, b) ⟨#[]⟩ wx HX.out).mono ?_
  rintro e w1 ⟨rfl, hb⟩
  rw [show (⟨#[]⟩ : ByteArray).size = 0 from rfl]
  have HB := Lib.hid (hx.out.trans (hb.mono hx.out.size))
  have H1 := Lib.hid (HX.out.chg (Chg.of (S := []) hb (Nat.le_refl _)) (fun _ _ hm => by cases hm))
  have B1 := Lib.hid (BX.out.keep hb BX.out.lt)
  clear hb HX BX
  by_cases hc : chkD d (a, b) 0 = 0
  · obtain ⟨ha, h0, h1, _, _⟩ := chkD_ok hc
    simp only at ha h0 h1
    have HC := Lib.hid hc
    rw [hc]
    rw [if_pos hc] at HT
    have k0 : w1.cell? ⟨w.heap.size, 0, none⟩ = some (.int .i64 a) := B1.out.cell 0 _ rfl
    have k1 : w1.cell? ⟨w.heap.size, 1, none⟩ = some (.int .i64 b) := B1.out.cell 1 _ rfl
    obtain ⟨k, rfl⟩ : ∃ k : Nat, b = k := ⟨b.toNat, by omega⟩
    clear hc
    rw [Int.toNat_natCast] at HT
    rcases ha with rfl | rfl
    · have hk : k < d.s0.tells.length := by rw [H1.out.l0]; have : devSize d 0 = d.s0.has.length := rfl; omega
      have c1 : w1.cell? ⟨p.b, 1, none⟩ = some (.slice (some ⟨p.t0, 0, none⟩) d.s0.tells.length p.ct0) := H1.out.box.cell 1 _ rfl
      have ce : w1.cell? ⟨p.t0, k, none⟩ = some (.string ((sideOf d 0).tells.getD k ⟨#[]⟩)) := by
        have e : d.s0.tells[k]? = some ((sideOf d 0).tells.getD k ⟨#[]⟩) := by
          show d.s0.tells[k]? = some (d.s0.tells.getD k ⟨#[]⟩)
          rw [List.getD, List.getElem?_eq_getElem hk]; rfl
        exact H1.out.t0.get k _ e
      generalize (sideOf d 0).tells.getD k ⟨#[]⟩ = x at *
      clear h0 h1
      go_wp2_with fail
      go_region
      go_wp2
      go_ret2
      exact ⟨by rw [HT.out, HC.out]; rfl, HB.out.drew⟩
    · have hk : k < d.s1.tells.length := by rw [H1.out.l1]; have : devSize d 1 = d.s1.has.length := rfl; omega
      have c4 : w1.cell? ⟨p.b, 4, none⟩ = some (.slice (some ⟨p.t1, 0, none⟩) d.s1.tells.length p.ct1) := H1.out.box.cell 4 _ rfl
      have ce : w1.cell? ⟨p.t1, k, none⟩ = some (.string ((sideOf d 1).tells.getD k ⟨#[]⟩)) := by
        have e : d.s1.tells[k]? = some ((sideOf d 1).tells.getD k ⟨#[]⟩) := by
          show d.s1.tells[k]? = some (d.s1.tells.getD k ⟨#[]⟩)
          rw [List.getD, List.getElem?_eq_getElem hk]; rfl
        exact H1.out.t1.get k _ e
      generalize (sideOf d 1).tells.getD k ⟨#[]⟩ = x at *
      clear h0 h1
      go_wp2_with fail
      go_region
      go_wp2
      go_ret2
      exact ⟨by rw [HT.out, HC.out]; rfl, HB.out.drew⟩
  · have hq : (chkD d (a, b) 0 != 0) = true := by simpa using hc
    rw [if_neg hc] at HT
    clear hc
    go_wp2
    go_ret2
    exact ⟨by rw [HT.out]; rfl, HB.out⟩
end Go.Proofs.YtonkmffipjdhkaaDoor

namespace Go.Proofs.YtonkmffipjdhkaaDoor
open Go.RowKit

theorem ret_int {k : IntKind} {a b : Int} (h : a = b) : Ending.returned (.int k a) = .returned (.int k b) := by rw [h]
theorem ret_str {a b : ByteArray} (h : a = b) : Ending.returned (.string a) = .returned (.string b) := by rw [h]
theorem ret_bool {a b : Bool} (h : a = b) : Ending.returned (.bool a) = .returned (.bool b) := by rw [h]

theorem str_some (s : ByteArray) (h : 0 < s.size) : ¬ s.toList = [] ∧ s.toList.isEmpty = false := by
  have e : ¬ s.toList = [] := by
    rw [ByteArray.toList_eq]
    intro e
    have h1 : s.data.toList.length = 0 := by rw [e]; rfl
    rw [Array.length_toList] at h1
    have h2 : s.size = s.data.size := rfl
    omega
  exact ⟨e, by simpa using e⟩

/-- The number that bytes tell, the lowest first. -/
def leVal : List UInt8 → Nat
  | [] => 0
  | x :: r => x.toNat + 256 * leVal r

theorem leVal_lt : ∀ l : List UInt8, leVal l < 256 ^ l.length
  | [] => by simp [leVal]
  | x :: r => by
    have h := leVal_lt r
    have hx := x.toNat_lt
    simp only [leVal, List.length_cons, Nat.pow_succ]
    omega

theorem leVal_snoc : ∀ (l : List UInt8) (x : UInt8), leVal (l ++ [x]) = leVal l + x.toNat * 256 ^ l.length
  | [], x => by simp [leVal]
  | y :: r, x => by
    have h := leVal_snoc r x
    simp only [leVal, List.cons_append, List.length_cons, Nat.pow_succ, h]
    rw [Nat.mul_add, Nat.add_assoc, ← Nat.mul_assoc, ← Nat.mul_assoc, Nat.mul_comm 256 x.toNat, Nat.mul_right_comm]

theorem take_snoc (s : ByteArray) (k : Nat) (h : k < s.size) : s.data.toList.take (k + 1) = s.data.toList.take k ++ [s[k]] := by
  rw [List.take_succ_eq_append_getElem (by simpa using h)]; rfl

theorem leVal_take (s : ByteArray) (k : Nat) (h : k < s.size) : leVal (s.data.toList.take (k + 1)) = leVal (s.data.toList.take k) + s[k].toNat * 256 ^ k := by
  rw [take_snoc s k h, leVal_snoc, List.length_take, Nat.min_eq_left (by simp; omega)]

theorem leVal_take_lt (s : ByteArray) (k : Nat) (h : k ≤ s.size) : leVal (s.data.toList.take k) < 256 ^ k := by
  have := leVal_lt (s.data.toList.take k)
  rwa [List.length_take, Nat.min_eq_left (by simpa using h)] at this

theorem i64_small (n : Int) (h0 : 0 ≤ n) (h : n < 2 ^ 63) : IntKind.i64.wrap n = n := IntWalk.i64_in n ⟨by omega, by omega⟩

theorem pow256 (j : Nat) : (256 : Nat) ^ j = 2 ^ (8 * j) := by rw [show (256 : Nat) = 2 ^ 8 from rfl, ← Nat.pow_mul]

theorem pow256_le (j : Nat) (h : j ≤ 6) : 1 ≤ 256 ^ j ∧ 256 ^ j ≤ 281474976710656 := by
  match j, h with
  | 0, _ => decide
  | 1, _ => decide
  | 2, _ => decide
  | 3, _ => decide
  | 4, _ => decide
  | 5, _ => decide
  | 6, _ => decide

/-- One round of Number. -/
theorem orStep (A x j : Nat) (hA : A < 256 ^ j) (hx : x < 256) (hj : j ≤ 6) : bits .or .i64 (A : Int) (wrap64 ((x : Int) * 2 ^ (8 * j))) = ((A + x * 256 ^ j : Nat) : Int) := by
  have hp := pow256_le j hj
  have hb : x * 256 ^ j < 72057594037927936 := Nat.lt_of_le_of_lt (Nat.mul_le_mul_left x hp.2) (by omega)
  have e : (x : Int) * 2 ^ (8 * j) = ((x * 256 ^ j : Nat) : Int) := by rw [pow256, Int.natCast_mul, Int.natCast_pow]; rfl
  rw [e, IntWalk.wrap64_in _ (by omega)]
  refine (bits_join_low .i64 63 (by decide) i64_small (8 * j) _ _ (by omega) ?_ (by omega) (by omega) ?_ (by omega)).trans (by omega)
  · rw [pow256] at hA; exact_mod_cast hA
  · rw [pow256]; exact_mod_cast Nat.mul_mod_left x (2 ^ (8 * j))
end Go.Proofs.YtonkmffipjdhkaaDoor
