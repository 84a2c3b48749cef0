/-
  Texts put together: Put, FText, ClogA, SeM, SeA.
-/
import Derived.Test.YtphhnhldbajaoaaGreatDoorMg19
import Derived.Test.YtphhnhldbajaoaaGreatDoorMg14
import Derived.Test.YtphhnhldbajaoaaGreatDoorMg0
import Derived.Maps.OwnSet
import Derived.Test.YtphhnhldbajaoaaGreatDoorMg10
import Derived.Test.YtphhnhldbajaoaaGreatDoorMg11
namespace Go.Proofs.YtphhnhldbajaoaaGreatDoor
open Go.RowKit

/-- n in k bytes, the lowest first. -/
def leList : Nat → Nat → List UInt8
  | _, 0 => []
  | n, k + 1 => UInt8.ofNat n :: leList (n / 256) k

theorem leList_length : ∀ (n k : Nat), (leList n k).length = k
  | _, 0 => rfl
  | n, k + 1 => by simp [leList, leList_length]

theorem leList_snoc : ∀ (n k : Nat), leList n (k + 1) = leList n k ++ [UInt8.ofNat (n / 256 ^ k)]
  | n, 0 => by simp [leList]
  | n, k + 1 => by
    rw [leList, leList_snoc (n / 256) k, leList, List.cons_append, Nat.div_div_eq_div_mul, Nat.pow_succ, Nat.mul_comm]

def putB (n w : Int) : ByteArray := if n < 0 ∨ mostI w < n then ⟨#[]⟩ else ⟨(leList n.toNat w.toNat).toArray⟩

/-- The row behind k rounds of Put. -/
def putRow (n w k : Nat) : List UInt8 := leList n k ++ List.replicate (w - k) 0

theorem putRow_length (n w k : Nat) (h : k ≤ w) : (putRow n w k).length = w := by simp [putRow, leList_length]; omega

theorem putRow_set (n w k : Nat) (h : k < w) : (putRow n w k).set k (UInt8.ofNat (n / 256 ^ k)) = putRow n w (k + 1) := by
  unfold putRow
  rw [leList_snoc, List.set_append, leList_length, if_neg (by omega), Nat.sub_self, show w - k = (w - (k + 1)) + 1 by omega, List.replicate_succ, List.set_cons_zero]
  simp

theorem okW_of (n w : Int) (h0 : 0 ≤ n) (h : n ≤ mostI w) : 1 ≤ w ∧ w ≤ 7 := by
  unfold mostI at h
  split at h
  · assumption
  · omega

theorem put_no (n wd : Int) (w : World) (h : n < 0 ∨ mostI wd < n) : Calls Tryz.prog 107 #[.int .i64 n, .int .i64 wd] w fun e w' => e = .returned (.string (putB n wd)) ∧ w = w' := by
  rw [show putB n wd = ⟨#[]⟩ from if_pos h]
  by_cases h1 : n < 0
  · clear h
    go_enter Tryz.func107, Tryz.ntmps107
    go_wp2
    go_ret
    exact ⟨rfl, rfl⟩
  · have h2 : mostI wd < n := by omega
    clear h
    go_enter Tryz.func107, Tryz.ntmps107
    go_wp2_with fail
    refine (most_any wd _).mono ?_
    rintro e w' ⟨rfl, rfl⟩
    go_wp2
    go_ret
    exact ⟨rfl, rfl⟩

theorem putRow_all (n w : Nat) : putRow n w w = leList n w := by simp [putRow]

theorem shr_byte (n k : Nat) : Value.int .u8 ((n : Int) / 2 ^ (8 * k) % 256) = byV (UInt8.ofNat (n / 256 ^ k)) := by
  unfold byV
  congr 1
  rw [pow256]
  simp

theorem below1 (b i : Nat) (w : World) (v : Value) : Below b w (w.setCell ⟨b, i, none⟩ v) := (Below.refl b w).setCell (p := ⟨b, i, none⟩) (Nat.le_refl b) v

theorem made_row (n wd : Nat) {w1 : World} {g : Nat} (h : w1.ownsRow g 5 1 (.slice (some ⟨g, 0, none⟩) wd wd) wd (madeCells #[Value.int .u8 0] wd).toList) : Buf w1 g (.slice (some ⟨g, 0, none⟩) wd wd) (putRow n wd 0) := by
  have e : (madeCells #[Value.int .u8 0] wd).toList = (putRow n wd 0).map byV := by
    apply List.ext_getElem
    · simp [putRow, leList, madeCells]
    · intro i h1 h2
      simp [putRow, leList, madeCells, byV, Nat.mod_one]
  unfold Buf
  rw [putRow_length n wd 0 (Nat.zero_le _), ← e]
  exact h

theorem buf_cell {w : World} {g n wd k : Nat} (h : Buf w g (.slice (some ⟨g, 0, none⟩) wd wd) (putRow n wd k)) (hk : k < wd) (hle : k ≤ wd) : w.cell? ⟨g, k, none⟩ = some (.int .u8 0) := by
  have hl := putRow_length n wd k hle
  have h' := h
  unfold Buf at h'
  rw [hl] at h'
  rw [World.ownsRow.cellAt h' k (by omega), List.getElem?_map]
  have : 0 < wd - k := by omega
  simp [putRow, leList_length, byV, this]

theorem buf_free {w : World} {g n wd k : Nat} (h : Buf w g (.slice (some ⟨g, 0, none⟩) wd wd) (putRow n wd k)) (hle : k ≤ wd) : w.frozen? ⟨g, k, none⟩ = false := by
  have hl := putRow_length n wd k hle
  have h' := h
  unfold Buf at h'
  rw [hl] at h'
  exact World.ownsRow.frozenAt h' k

theorem buf_set {w : World} {g n wd k : Nat} (h : Buf w g (.slice (some ⟨g, 0, none⟩) wd wd) (putRow n wd k)) (hk : k < wd) {u : Value} (hu : u = byV (UInt8.ofNat (n / 256 ^ k))) : Buf (w.setCell ⟨g, k, none⟩ u) g (.slice (some ⟨g, 0, none⟩) wd wd) (putRow n wd (k + 1)) := by
  have hl := putRow_length n wd k (by omega)
  have hl' := putRow_length n wd (k + 1) (by omega)
  have h' := h
  unfold Buf at h' ⊢
  rw [hl] at h'
  rw [hl', ← putRow_set n wd k hk, List.map_set, ← hu]
  exact (World.ownsRow.stored h' k u).1

set_option maxRecDepth 100000 in
theorem put_yes (n wd : Nat) (w : World) (h1 : 1 ≤ wd) (h7 : wd ≤ 7) (h : (n : Int) ≤ mostI wd) : Calls Tryz.prog 107 #[.int .i64 n, .int .i64 wd] w fun e w' => e = .returned (.string ⟨(leList n wd).toArray⟩) ∧ Below w.heap.size w w' := by
  obtain ⟨i0, hi, hz0, hz1, hz2⟩ := info_parts infoU8
  go_enter Tryz.func107, Tryz.ntmps107
  go_wp2_with fail
  refine (most_any wd _).mono ?_
  rintro e w' ⟨rfl, rfl⟩
  go_wp2_with (at_make; refine wpList_make_full _ rfl _ _ 80 rfl w.heap.size 5 i0 (.int .u8 0) 1 Tryz.underlying80 hi hz0 hz1 .i64 .i64 wd wd wd rfl rfl rfl rfl (by rw [hz2]; omega) (by unfold maxLen; omega) (Nat.le_refl _) ?_)
  intro w1 hown hg
  have hbuf := made_row n wd hown
  have hz : w.heap.size < w1.heap.size := by
    rcases hbuf.2 with ⟨h', _⟩ | ⟨g, cap, cur, hv, _, hh, _⟩
    · simp at h'
    · simp only [Value.slice.injEq, Option.some.injEq, Addr.mk.injEq, and_true] at hv
      rw [← hv.1] at hh
      exact lt_of_block hh
  have hbel : Below w.heap.size w w1 := (Below.refl _ _).grown hg (Nat.le_refl _) (fun k hk => by cases hk)
  have HB := Lib.hid hbuf
  have HL := Lib.hid hbel
  clear hown hg hbuf hbel
  go_wp2
  go_loopw [18] (fun i wr => ∃ k : Nat, k ≤ wd ∧ i = .int .i64 k ∧ Hid (Buf wr w.heap.size (.slice (some ⟨w.heap.size, 0, none⟩) wd wd) (putRow n wd k)) ∧ Hid (Below w.heap.size w wr)) (fun i _ => wd - (RowKit.intOf i).toNat)
  case atStart => exact ⟨0, Nat.zero_le _, rfl, HB, HL⟩
  case round =>
    obtain ⟨k, hk, rfl, HBr, HLr⟩ := hrel
    by_cases hlt : k < wd
    · have hc := buf_cell HBr.out hlt hk
      have hf := buf_free HBr.out hk
      go_wp2
      go_roundw
      case rel => exact ⟨k + 1, by omega, by go_num, buf_set HBr.out hlt (shr_byte n k), HLr.out.trans (below1 w.heap.size k wr _)⟩
      case measure => simp [RowKit.intOf]; omega
    · have hkk : k = wd := by omega
      subst hkk
      have hc := HBr.out.text
      go_wp2
      go_ret
      exact ⟨ret_str (by rw [putRow_all]), HLr.out⟩
theorem put_any (n wd : Int) (w : World) : Calls Tryz.prog 107 #[.int .i64 n, .int .i64 wd] w fun e w' => e = .returned (.string (putB n wd)) ∧ Below w.heap.size w w' := by
  by_cases h : n < 0 ∨ mostI wd < n
  · exact (put_no n wd w h).mono fun e w' ⟨he, hw⟩ => ⟨he, by rw [← hw]; exact Below.refl _ _⟩
  · rw [show putB n wd = _ from if_neg h]
    have hk := okW_of n wd (by omega) (by omega)
    obtain ⟨n', rfl⟩ : ∃ k : Nat, n = k := ⟨n.toNat, by omega⟩
    obtain ⟨wd', rfl⟩ : ∃ k : Nat, wd = k := ⟨wd.toNat, by omega⟩
    exact put_yes n' wd' w (by omega) (by omega) (by omega)

theorem putB_size (n w : Int) : (putB n w).size ≤ 7 := by
  unfold putB
  split
  · exact Nat.zero_le _
  · have hk := okW_of n w (by omega) (by omega)
    simp [ByteArray.size, leList_length]
    omega

end Go.Proofs.YtphhnhldbajaoaaGreatDoor

namespace Go.Proofs.YtphhnhldbajaoaaGreatDoor
open Go.RowKit

def textB (s : ByteArray) (w : Int) : ByteArray := if mostI w < s.size then ⟨#[]⟩ else putB s.size w ++ s

theorem ftext_any (s : ByteArray) (wd : Int) (w : World) (hs : s.size ≤ 140737488351232) : Calls Tryz.prog 164 #[.string s, .int .i64 wd] w fun e w' => e = .returned (.string (textB s wd)) ∧ Below w.heap.size w w' := by
  by_cases h : mostI wd < s.size
  · rw [show textB s wd = _ from if_pos h]
    go_enter Tryz.func164, Tryz.ntmps164
    go_wp2_with fail
    refine (most_any wd _).mono ?_
    rintro e w' ⟨rfl, rfl⟩
    go_wp2
    go_ret
    exact ⟨rfl, Below.refl _ _⟩
  · rw [show textB s wd = _ from if_neg h]
    have hp := putB_size s.size wd
    go_enter Tryz.func164, Tryz.ntmps164
    go_wp2_with fail
    refine (most_any wd _).mono ?_
    rintro e w' ⟨rfl, rfl⟩
    go_wp2_with fail
    refine (put_any s.size wd _).mono ?_
    rintro e w' ⟨rfl, hb⟩
    have Hb := Lib.hid hb
    clear hb
    generalize hx : putB s.size wd = x at *
    have Hx := Lib.hid hx
    clear hx
    go_wp2
    go_ret
    exact ⟨ret_str (by rw [Hx.out]), Hb.out⟩
end Go.Proofs.YtphhnhldbajaoaaGreatDoor

namespace Go.Proofs.YtphhnhldbajaoaaGreatDoor
open Go.RowKit

/-- An entry: key, digest, length, place. -/
structure CgE where
  key : ByteArray
  sum : ByteArray
  len : Int
  pos : Int
deriving Inhabited, DecidableEq
def cgL (x : CgE) : List Value := [.string x.key, .string x.sum, .int .i64 x.len, .int .i64 x.pos]
abbrev cgV (x : CgE) : Value := .agg #[.string x.key, .string x.sum, .int .i64 x.len, .int .i64 x.pos]
/-- A slice of entries, as it was handed over. -/
def SlC (w : World) (a : Option Addr) (l : List CgE) : Prop := l ≠ [] → ∃ b off, a = some ⟨b, off, none⟩ ∧ b < w.heap.size ∧ ∀ i x, l[i]? = some x → ∀ j u, (cgL x)[j]? = some u → w.cell? ⟨b, off + i * 4 + j, none⟩ = some u
theorem SlC.keep {w w' : World} {a : Option Addr} {l : List CgE} (h : SlC w a l) (hb : Below w.heap.size w w') : SlC w' a l := fun hne => by
  obtain ⟨b, off, e, hlt, hc⟩ := h hne
  exact ⟨b, off, e, Nat.lt_of_lt_of_le hlt hb.size, fun i x hx j u hj => (hb.cell (p := ⟨b, off + i * 4 + j, none⟩) hlt).trans (hc i x hx j u hj)⟩
theorem SlC.get {w : World} {a : Option Addr} {l : List CgE} (h : SlC w a l) (k : Nat) (hk : k < l.length) :
    ∃ b off, a = some ⟨b, off, none⟩ ∧ b < w.heap.size ∧ w.cell? ⟨b, off + k * 4, none⟩ = some (.string (l[k]).key) ∧ w.cell? ⟨b, off + k * 4 + 1, none⟩ = some (.string (l[k]).sum) ∧ w.cell? ⟨b, off + k * 4 + 2, none⟩ = some (.int .i64 (l[k]).len) ∧ w.cell? ⟨b, off + k * 4 + 3, none⟩ = some (.int .i64 (l[k]).pos) := by
  obtain ⟨b, off, e, hlt, hc⟩ := h (by intro e; rw [e] at hk; simp at hk)
  have := hc k _ (List.getElem?_eq_getElem hk)
  exact ⟨b, off, e, hlt, this 0 _ rfl, this 1 _ rfl, this 2 _ rfl, this 3 _ rfl⟩

/-- May it be an entry? -/
def MayC (x : CgE) : Prop := 1 ≤ x.key.size ∧ x.key.size ≤ 60 ∧ x.sum.size = 32 ∧ 0 ≤ x.len ∧ x.len ≤ 960 ∧ 0 ≤ x.pos ∧ x.pos < 512
instance (x : CgE) : Decidable (MayC x) := by unfold MayC; infer_instance
/-- Check's answer. -/
def chkC (seq : Int) (l : List CgE) : Int := if 0 ≤ seq ∧ seq ≤ 1099511627776 ∧ l.length ≤ 7 ∧ ∀ x ∈ l, MayC x then 0 else 1
theorem chkC_bad {seq : Int} {l : List CgE} (h : ¬ (0 ≤ seq ∧ seq ≤ 1099511627776 ∧ l.length ≤ 7)) : chkC seq l = 1 := if_neg fun e => h ⟨e.1, e.2.1, e.2.2.1⟩
theorem chkC_no {seq : Int} {l : List CgE} {k : Nat} (hk : k < l.length) (h : ¬ MayC l[k]) : chkC seq l = 1 := if_neg fun e => h (e.2.2.2 _ (List.getElem_mem hk))
theorem chkC_ok {seq : Int} {l : List CgE} (h : 0 ≤ seq ∧ seq ≤ 1099511627776 ∧ l.length ≤ 7) (ha : ∀ k (hk : k < l.length), MayC l[k]) : chkC seq l = 0 := if_pos ⟨h.1, h.2.1, h.2.2, fun x hx => by
  obtain ⟨k, hk, rfl⟩ := List.getElem_of_mem hx
  exact ha k hk⟩
theorem str_zero {s : ByteArray} (h : s.size = 0) : s = ⟨#[]⟩ := by
  apply ByteArray.ext
  apply Array.eq_empty_of_size_eq_zero
  exact h
theorem str_nz {s : ByteArray} (h : 1 ≤ s.size) : (s.toList == []) = false := by
  rw [beq_eq_false_iff_ne]
  intro e
  rw [ByteArray.toList_eq] at e
  have : s.data.toList.length = 0 := by rw [e]; rfl
  have h2 : s.data.toList.length = s.size := by rw [Array.length_toList]; rfl
  omega

set_option maxRecDepth 100000 in
set_option maxHeartbeats 1000000 in
theorem cmay_any (x : CgE) (w : World) : Calls Tryz.prog 169 #[cgV x] w fun e w' => e = .returned (.bool (decide (MayC x))) ∧ Below w.heap.size w w' := by
  obtain ⟨k, s, n, p⟩ := x
  by_cases h0 : 1 ≤ k.size
  · skip
    by_cases h1 : k.size ≤ 60
    · skip
      by_cases h2 : s.size = 32
      · skip
        by_cases h3 : 0 ≤ n
        · skip
          by_cases h4 : n ≤ 960
          · skip
            by_cases h5 : 0 ≤ p
            · skip
              by_cases h6 : p < 512
              · skip
                rw [show decide (MayC ⟨k, s, n, p⟩) = true from decide_eq_true ⟨h0, h1, h2, h3, h4, h5, h6⟩]
                have d0 : (k.toList == []) = false := str_nz h0
                have d1 : decide ((k.size : Int) ≤ 60) = true := decide_eq_true (by omega)
                have d2 : ((s.size : Int) == 32) = true := by rw [h2]; rfl
                clear h0 h1 h2
                go_enter Tryz.func169, Tryz.ntmps169
                go_wp2
                go_ret
                exact ⟨rfl, (Below.refl _ _).alloc (Nat.le_refl _) _⟩
              · rw [show decide (MayC ⟨k, s, n, p⟩) = false from decide_eq_false (fun h => h6 h.2.2.2.2.2.2)]
                have d0 : (k.toList == []) = false := str_nz h0
                have d1 : decide ((k.size : Int) ≤ 60) = true := decide_eq_true (by omega)
                have d2 : ((s.size : Int) == 32) = true := by rw [h2]; rfl
                have d6 : decide (p < 512) = false := decide_eq_false (by omega)
                clear h0 h1 h2 h6
                go_enter Tryz.func169, Tryz.ntmps169
                go_wp2
                go_ret
                exact ⟨rfl, (Below.refl _ _).alloc (Nat.le_refl _) _⟩
            · rw [show decide (MayC ⟨k, s, n, p⟩) = false from decide_eq_false (fun h => h5 h.2.2.2.2.2.1)]
              have d0 : (k.toList == []) = false := str_nz h0
              have d1 : decide ((k.size : Int) ≤ 60) = true := decide_eq_true (by omega)
              have d2 : ((s.size : Int) == 32) = true := by rw [h2]; rfl
              have d5 : decide (0 ≤ p) = false := decide_eq_false (by omega)
              clear h0 h1 h2 h5
              go_enter Tryz.func169, Tryz.ntmps169
              go_wp2
              go_ret
              exact ⟨rfl, (Below.refl _ _).alloc (Nat.le_refl _) _⟩
          · rw [show decide (MayC ⟨k, s, n, p⟩) = false from decide_eq_false (fun h => h4 h.2.2.2.2.1)]
            have d0 : (k.toList == []) = false := str_nz h0
            have d1 : decide ((k.size : Int) ≤ 60) = true := decide_eq_true (by omega)
            have d2 : ((s.size : Int) == 32) = true := by rw [h2]; rfl
            have d4 : decide (n ≤ 960) = false := decide_eq_false (by omega)
            clear h0 h1 h2 h4
            go_enter Tryz.func169, Tryz.ntmps169
            go_wp2
            go_ret
            exact ⟨rfl, (Below.refl _ _).alloc (Nat.le_refl _) _⟩
        · rw [show decide (MayC ⟨k, s, n, p⟩) = false from decide_eq_false (fun h => h3 h.2.2.2.1)]
          have d0 : (k.toList == []) = false := str_nz h0
          have d1 : decide ((k.size : Int) ≤ 60) = true := decide_eq_true (by omega)
          have d2 : ((s.size : Int) == 32) = true := by rw [h2]; rfl
          have d3 : decide (0 ≤ n) = false := decide_eq_false (by omega)
          clear h0 h1 h2 h3
          go_enter Tryz.func169, Tryz.ntmps169
          go_wp2
          go_ret
          exact ⟨rfl, (Below.refl _ _).alloc (Nat.le_refl _) _⟩
      · rw [show decide (MayC ⟨k, s, n, p⟩) = false from decide_eq_false (fun h => h2 h.2.2.1)]
        have d0 : (k.toList == []) = false := str_nz h0
        have d1 : decide ((k.size : Int) ≤ 60) = true := decide_eq_true (by omega)
        have d2 : ((s.size : Int) == 32) = false := by rw [beq_eq_false_iff_ne]; omega
        clear h0 h1 h2
        go_enter Tryz.func169, Tryz.ntmps169
        go_wp2
        go_ret
        exact ⟨rfl, (Below.refl _ _).alloc (Nat.le_refl _) _⟩
    · rw [show decide (MayC ⟨k, s, n, p⟩) = false from decide_eq_false (fun h => h1 h.2.1)]
      have d0 : (k.toList == []) = false := str_nz h0
      have d1 : decide ((k.size : Int) ≤ 60) = false := decide_eq_false (by omega)
      clear h0 h1
      go_enter Tryz.func169, Tryz.ntmps169
      go_wp2
      go_ret
      exact ⟨rfl, (Below.refl _ _).alloc (Nat.le_refl _) _⟩
  · rw [show decide (MayC ⟨k, s, n, p⟩) = false from decide_eq_false (fun h => h0 h.1)]
    have d0 : k = ⟨#[]⟩ := str_zero (by omega)
    subst d0
    clear h0
    go_enter Tryz.func169, Tryz.ntmps169
    go_wp2
    go_ret
    exact ⟨rfl, (Below.refl _ _).alloc (Nat.le_refl _) _⟩
end Go.Proofs.YtphhnhldbajaoaaGreatDoor

namespace Go.Proofs.YtphhnhldbajaoaaGreatDoor
open Go.RowKit Go.ChangeShapes Go.WideShapes Go.ChangeAt

/-- A sector, its entry. -/
abbrev EnD := Int × CgE
def dEn (x : CgE) : DataW Unit := .agg [.lit (.string x.key.data.toList), .lit (.string x.sum.data.toList), .lit (.int .i64 x.len), .lit (.int .i64 x.pos)]
def enR : Value → Option (DataW Unit × List MemPlace)
  | .agg ⟨[.string k, .string s, .int .i64 n, .int .i64 p]⟩ => some (dEn ⟨k, s, n, p⟩, [])
  | _ => none
theorem enR_mk (x : CgE) : enR (cgV x) = some (dEn x, []) := rfl
theorem enR_inv {v : Value} {y : DataW Unit × List MemPlace} (h : enR v = some y) : ∃ m : CgE, v = cgV m ∧ y = (dEn m, []) := by
  unfold enR at h
  split at h
  · cases h; exact ⟨⟨_, _, _, _⟩, rfl, rfl⟩
  · cases h
theorem bytes_listS {a b : ByteArray} (h : a.data.toList = b.data.toList) : a = b := ByteArray.ext (Array.toList_inj.1 h)
theorem dEn_inj {x y : CgE} (h : dEn x = dEn y) : x = y := by
  obtain ⟨x1, x2, x3, x4⟩ := x
  obtain ⟨y1, y2, y3, y4⟩ := y
  unfold dEn at h
  simp only [DataW.agg.injEq, List.cons.injEq, DataW.lit.injEq, Lit.string.injEq, Lit.int.injEq, true_and, and_true] at h
  obtain ⟨h1, h2, rfl, rfl⟩ := h
  rw [bytes_listS h1, bytes_listS h2]
def ky (k : Int) : Lit := .int .i64 k
theorem ky_ne {k k' : Int} (h : k ≠ k') : ky k ≠ ky k' := fun e => h (by unfold ky at e; injection e)
theorem keyedY : Maps.Keyed Tryz.prog 3 := Maps.int_keyed Tryz.underlying3
theorem keyOfY {k : Int} (hk : (Lit.int .i64 k).wf = true) : keyOf Tryz.prog 3 (.int .i64 k) = some (ky k) := Maps.keyOf_int_mk Tryz.underlying3 hk
theorem isKy {k : Int} (hk : (Lit.int .i64 k).wf = true) : WideAt.IsKeyLit (ky k) := keyedY.key (keyOfY hk)
theorem zeroEn (w : World) : (zeroValue 170).run Tryz.prog w = .ok (cgV ⟨⟨#[]⟩, ⟨#[]⟩, 0, 0⟩) w := by kernel_rfl

def findS (l : List EnD) (k : Int) : Option (CgE) := (l.find? (fun x => decide (x.1 = k))).map (·.2)
def forgetS (l : List EnD) (k : Int) : List EnD := l.filter (fun x => !decide (x.1 = k))
def putS (l : List EnD) (k : Int) (v : CgE) : List EnD := forgetS l k ++ [(k, v)]
theorem sfind_nil (k : Int) : findS [] k = none := rfl
theorem sfind_cons (x : EnD) (l : List EnD) (k : Int) : findS (x :: l) k = if x.1 = k then some x.2 else findS l k := by
  unfold findS
  rw [List.find?_cons]
  by_cases h : x.1 = k
  · simp [h]
  · simp [h]
theorem sfind_app (k : Int) : ∀ (l r : List EnD), findS (l ++ r) k = (findS l k).or (findS r k)
  | [], r => by simp [sfind_nil]
  | x :: l, r => by
    rw [List.cons_append, sfind_cons, sfind_cons, sfind_app k l r]
    split <;> simp
theorem sforget_same (k : Int) : ∀ l : List EnD, findS (forgetS l k) k = none
  | [] => rfl
  | x :: l => by
    unfold forgetS
    rw [List.filter_cons]
    by_cases h : x.1 = k
    · simp only [h, decide_true, Bool.not_true, Bool.false_eq_true, if_false]
      exact sforget_same k l
    · simp only [h, decide_false, Bool.not_false, if_true]
      rw [sfind_cons, if_neg h]
      exact sforget_same k l
theorem sforget_other {k k' : Int} (hne : k' ≠ k) : ∀ l : List EnD, findS (forgetS l k) k' = findS l k'
  | [] => rfl
  | x :: l => by
    unfold forgetS
    rw [List.filter_cons]
    by_cases h : x.1 = k
    · simp only [h, decide_true, Bool.not_true, Bool.false_eq_true, if_false]
      rw [sfind_cons, if_neg (by rw [h]; exact Ne.symm hne)]
      exact sforget_other hne l
    · simp only [h, decide_false, Bool.not_false, if_true]
      rw [sfind_cons, sfind_cons]
      rw [show findS (l.filter fun x => !decide (x.1 = k)) k' = findS l k' from sforget_other hne l]
theorem sput_same (l : List EnD) (k : Int) (v : CgE) : findS (putS l k  v) k = some (v) := by
  unfold putS
  rw [sfind_app, sforget_same, sfind_cons]
  simp
theorem sput_other (l : List EnD) {k k' : Int} (hne : k' ≠ k) (v : CgE) : findS (putS l k  v) k' = findS l k' := by
  unfold putS
  rw [sfind_app, sforget_other hne, sfind_cons, if_neg (Ne.symm hne)]
  simp [sfind_nil]
def NoDupS (l : List EnD) : Prop := l.Pairwise (fun x y => x.1 ≠ y.1)
theorem NoDupS.forget {l : List EnD} (h : NoDupS l) (k : Int) : NoDupS (forgetS l k) := List.Pairwise.filter _ h
theorem NoDupS.touch {l : List EnD} (h : NoDupS l) (k : Int) (v : CgE) : NoDupS (putS l k  v) := by
  unfold putS NoDupS
  rw [List.pairwise_append]
  refine ⟨h.forget k, by simp, ?_⟩
  intro x hx y hy
  simp only [List.mem_singleton] at hy
  subst hy
  unfold forgetS at hx
  simp only [List.mem_filter, Bool.not_eq_true', decide_eq_false_iff_not] at hx
  exact hx.2
theorem sfind_none {k : Int} : ∀ {l : List EnD}, findS l k = none ↔ ∀ x ∈ l, x.1 ≠ k
  | [] => by simp [sfind_nil]
  | x :: l => by
    rw [sfind_cons]
    by_cases h : x.1 = k
    · simp [h]
    · rw [if_neg h, sfind_none]
      simp [h]
theorem sforget_len {k : Int} : ∀ {l : List EnD}, NoDupS l → (forgetS l k).length + (if (findS l k).isSome = true then 1 else 0) = l.length
  | [], _ => rfl
  | x :: l, hd => by
    have ih := sforget_len (k := k) (List.pairwise_cons.1 hd).2
    rw [sfind_cons]
    by_cases h : x.1 = k
    · rw [if_pos h]
      have hn : findS l k = none := sfind_none.2 (fun y hy => by rw [← h]; exact Ne.symm ((List.pairwise_cons.1 hd).1 y hy))
      rw [hn] at ih
      simp only [Option.isSome_none, Bool.false_eq_true, if_false, Nat.add_zero] at ih
      unfold forgetS at *
      rw [List.filter_cons]
      simp only [h, decide_true, Bool.not_true, Bool.false_eq_true, if_false, Option.isSome_some, if_true, List.length_cons]
      omega
    · rw [if_neg h]
      unfold forgetS at *
      rw [List.filter_cons]
      simp only [h, decide_false, Bool.not_false, if_true, List.length_cons]
      omega
theorem sforget_le (l : List EnD) (k : Int) : (forgetS l k).length ≤ l.length := List.length_filter_le _ _
theorem sput_len {l : List EnD} (k : Int) (v : CgE) : (putS l k  v).length ≤ l.length + 1 := by
  unfold putS
  have := sforget_le l k
  simp
  exact this

/-- What a map reads as, and the counts. -/
structure EnIs (D : DataW Unit) (l : List EnD) : Prop where
  has : ∀ k, Maps.has D (ky k) = (findS l k).isSome
  at_ : ∀ k m, findS l k = some m → ∀ z, D.atKey (ky k) z = dEn m
  size : Maps.size D = l.length
  nodup : NoDupS l
theorem EnIs.nil : EnIs (.map []) [] := ⟨fun _ => rfl, fun _ _ h => (by cases h), rfl, List.Pairwise.nil⟩
theorem EnIs.atz {D : DataW Unit} {l : List EnD} (h : EnIs D l) (k : Int) (z : DataW Unit) : D.atKey (ky k) z = match findS l k with | none => z | some m => dEn m := by
  cases e : findS l k with
  | none => exact Maps.atKey_of_not_has (by rw [h.has, e]; rfl) z
  | some m => exact h.at_ k m e z
theorem EnIs.put {D : DataW Unit} {l : List EnD} (h : EnIs D l) (hT : Maps.Tidy D) {k : Int} (hk : (Lit.int .i64 k).wf = true) (v : CgE) : EnIs (D.put (ky k) (dEn v)) (putS l k  v) where
  has k' := by
    by_cases e : k' = k
    · subst e
      rw [Maps.has_put_same hT.isMap (isKy hk), sput_same]
      rfl
    · rw [Maps.has_put_other (ky_ne e), sput_other l e, h.has]
  at_ k' m hm z := by
    by_cases e : k' = k
    · subst e
      rw [sput_same] at hm
      cases hm
      exact Maps.atKey_put_same hT.isMap (isKy hk) _ _
    · rw [sput_other l e] at hm
      rw [Maps.atKey_put_other (ky_ne e)]
      exact h.at_ k' m hm z
  size := by
    rw [Maps.size_put hT, h.has, h.size]
    have := sforget_len (k := k) h.nodup
    unfold putS
    rw [List.length_append, List.length_singleton]
    split <;> simp_all
  nodup := h.nodup.touch k  v
theorem EnIs.del {D : DataW Unit} {l : List EnD} (h : EnIs D l) (hT : Maps.Tidy D) (k : Int) : EnIs (D.del (ky k)) (forgetS l k) where
  has k' := by
    by_cases e : k' = k
    · subst e
      rw [Maps.has_del_same, sforget_same]
      rfl
    · rw [Maps.has_del_other (ky_ne e), sforget_other e, h.has]
  at_ k' m hm z := by
    by_cases e : k' = k
    · subst e
      rw [sforget_same] at hm
      cases hm
    · rw [sforget_other e] at hm
      rw [Maps.atKey_del_other (ky_ne e)]
      exact h.at_ k' m hm z
  size := by
    have h1 := Maps.size_del (k := ky k) hT
    rw [h.has, h.size] at h1
    have := sforget_len (k := k) h.nodup
    omega
  nodup := h.nodup.forget k
/-- Block m is the map. -/
def EnAt (w : World) (m : Nat) (l : List EnD) : Prop := ∃ D, w.ownsMap Tryz.prog 3 enR m l.length D ∧ EnIs D l
theorem sowns_tight {w : World} {b n : Nat} {D : DataW Unit} (h : w.ownsMap Tryz.prog 3 enR b n D) : w.ownsMap Tryz.prog 3 enR b (Maps.size D) D := by
  obtain ⟨es, clock, hb, F, hs, rfl⟩ := h
  refine ⟨es, clock, hb, F, ?_, rfl⟩
  rw [Maps.size_eq, length_sorted]
  simp
theorem EnAt.lt {w : World} {m : Nat} {l : List EnD} (h : EnAt w m l) : m < w.heap.size := by obtain ⟨_, h, _⟩ := h; exact h.lt
theorem EnAt.of {w w' : World} {m : Nat} {l : List EnD} (h : EnAt w m l) (hc : w'.heap[m]? = w.heap[m]?) : EnAt w' m l := by
  obtain ⟨D, ⟨es, clock, hb, F, hs, hD⟩, hM⟩ := h
  exact ⟨D, ⟨es, clock, hc.trans hb, F, hs, hD⟩, hM⟩
theorem EnAt.keep {w w' : World} {m : Nat} {l : List EnD} (h : EnAt w m l) (hb : Below w.heap.size w w') : EnAt w' m l := h.of (hb.block m h.lt)
theorem slook_ok {w : World} {m : Nat} {l : List EnD} (h : EnAt w m l) {k : Int} (hk : (Lit.int .i64 k).wf = true) : (Instr.lookup 156 (.map (some m)) (.int .i64 k) true).run Tryz.prog w = .ok (.tuple #[(match findS l k with | none => cgV ⟨⟨#[]⟩, ⟨#[]⟩, 0, 0⟩ | some x => cgV x), .bool (findS l k).isSome]) w := by
  obtain ⟨D, hown, hM⟩ := h
  obtain ⟨v, ps, hrun, hv⟩ := hown.look_ok keyedY Tryz.underlying156 (zeroEn w) (enR_mk ⟨⟨#[]⟩, ⟨#[]⟩, 0, 0⟩) (keyOfY hk)
  obtain ⟨y, rfl, hy⟩ := enR_inv hv
  rw [hM.atz] at hy
  rw [hM.has k] at hrun
  rw [hrun]
  cases e : findS l k with
  | none =>
    rw [e] at hy
    have := dEn_inj (congrArg Prod.fst hy)
    simp only
    rw [← this]
  | some x =>
    rw [e] at hy
    have := dEn_inj (congrArg Prod.fst hy)
    simp only
    rw [← this]

end Go.Proofs.YtphhnhldbajaoaaGreatDoor

namespace Go.Proofs.YtphhnhldbajaoaaGreatDoor
open Go Go.RowKit Go.ChangeShapes Go.WideShapes Go.ChangeAt

/-- A cache: its region, its entries, its number, its hand. -/
structure SecD where
  f : Nat
  n : Nat
  e : List EnD
  num : Nat
  hand : Nat
def roomN (n : Nat) : Nat := n / 8 * 7 + (n % 8 - 1)
def secN (f p : Nat) : Nat := f + p + p / 7 + 1
/-- Its cells. -/
abbrev secC (b m : Nat) (x : SecD) : Array Value := #[.pointer (some ⟨b, 0, none⟩), .int .i64 x.f, .int .i64 x.n, .map (some m), .int .i64 x.num, .int .i64 x.hand]
/-- Block s is a cache whose map is block m, on the devices at block b. -/
structure SecAt (w : World) (s b m : Nat) (x : SecD) : Prop where
  box : Box w s 158 (secC b m x)
  map : EnAt w m x.e
  ne : s ≠ m
theorem SecAt.keep {w w' : World} {s b m : Nat} {x : SecD} (h : SecAt w s b m x) (hb : Below w.heap.size w w') : SecAt w' s b m x := ⟨h.box.keep hb h.box.lt, h.map.keep hb, h.ne⟩
theorem room_pos {n : Nat} (h : 2 ≤ n) : 1 ≤ roomN n := by unfold roomN; omega
theorem room_le (n : Nat) : roomN n ≤ n := by unfold roomN; omega
theorem secN_lt {f n p : Nat} (h : p < roomN n) : secN f p < f + n := by unfold secN; unfold roomN at h; omega
theorem sizeLoc : (Tryz.prog.info? 47).map (·.size) = some 2 := by kernel_rfl

section
variable (s b m : Nat) (x : SecD) (w : World)

set_option maxRecDepth 100000 in
theorem room_any (h : Box w s 158 (secC b m x)) (hx : x.n ≤ 512) : Calls Tryz.prog 121 #[.pointer (some ⟨s, 0, none⟩)] w fun e w' => e = .returned (.int .i64 (roomN x.n : Nat)) ∧ Below w.heap.size w w' := by
  have c2 : w.cell? ⟨s, 2, none⟩ = some (.int .i64 x.n) := h.cell 2 _ rfl
  clear h
  have HR : Hid ((roomN x.n : Int) = (x.n : Int) / 8 * 7 + (if (x.n : Int) % 8 - 1 < 0 then 0 else (x.n : Int) % 8 - 1)) := by
    show _ = _
    unfold roomN
    split <;> omega
  generalize ((roomN x.n : Nat) : Int) = r at *
  obtain ⟨n, hn⟩ : ∃ n, n = (x.n : Int) := ⟨_, rfl⟩
  have n0 : 0 ≤ n ∧ n ≤ 512 := by omega
  rw [← hn] at c2 HR
  clear hn hx
  have k1 : Int.tdiv n 8 = n / 8 := Int.tdiv_eq_ediv_of_nonneg n0.1
  have k2 : Int.tmod n 8 = n % 8 := Int.tmod_eq_emod_of_nonneg n0.1
  obtain ⟨d, hd⟩ : ∃ d, d = n / 8 := ⟨_, rfl⟩
  obtain ⟨u, hu⟩ : ∃ u, u = n % 8 := ⟨_, rfl⟩
  have hd2 : 0 ≤ d ∧ d ≤ 64 := by omega
  have hu2 : 0 ≤ u ∧ u ≤ 7 := by omega
  rw [← hd] at k1 HR
  rw [← hu] at k2 HR
  clear hd hu
  have w1 : wrap64 d = d := IntWalk.wrap64_in _ (by omega)
  have w2 : wrap64 (d * 7) = d * 7 := IntWalk.wrap64_in _ (by omega)
  have w3 : wrap64 u = u := IntWalk.wrap64_in _ (by omega)
  have w4 : wrap64 (u - 1) = u - 1 := IntWalk.wrap64_in _ (by omega)
  have w5 : wrap64 (d * 7 + (u - 1)) = d * 7 + (u - 1) := IntWalk.wrap64_in _ (by omega)
  have w6 : wrap64 (d * 7 + 0) = d * 7 + 0 := IntWalk.wrap64_in _ (by omega)
  have i1 : IntKind.i64.wrap d = d := IntWalk.i64_in _ ⟨by omega, by omega⟩
  have i2 : IntKind.i64.wrap (d * 7) = d * 7 := IntWalk.i64_in _ ⟨by omega, by omega⟩
  have i4 : IntKind.i64.wrap (u - 1) = u - 1 := IntWalk.i64_in _ ⟨by omega, by omega⟩
  have HD : Hid (Below w.heap.size w w.drew) := (Below.refl _ w).drew
  by_cases h0 : u - 1 < 0
  · have hz : ¬ 0 ≤ u - 1 := by omega
    rw [if_pos h0] at HR
    go_enter Tryz.func121, Tryz.ntmps121
    go_wp2_with fail
    refine wp_region_tree (fun W => W.cell? ⟨s, 2, none⟩ = some (.int .i64 n)) 13 (.quiet 0 (.quiet 1 (.quiet 2 (.quiet 3 (.quiet 4 (.quiet 5 (.quiet 6 (.quiet 7 (.quiet 8 (.quiet 9 (.quiet 10 (.quiet 11 (.quiet 12 .nil))))))))))))) (by kernel_rfl) (by kernel_rfl) c2 ?_
    simp only [List.drop_succ_cons, List.drop_zero]
    iterate 13 (apply wpTr_step rfl; (intro W hS K hK; go_simp; exact hK _ rfl))
    refine wpTr_nil ?_
    go_wp2
    go_ret
    exact ⟨ret_int (by rw [HR.out]; try simp), HD.out⟩
  · have hz : 0 ≤ u - 1 := by omega
    rw [if_neg h0] at HR
    go_enter Tryz.func121, Tryz.ntmps121
    go_wp2_with fail
    refine wp_region_tree (fun W => W.cell? ⟨s, 2, none⟩ = some (.int .i64 n)) 13 (.quiet 0 (.quiet 1 (.quiet 2 (.quiet 3 (.quiet 4 (.quiet 5 (.quiet 6 (.quiet 7 (.quiet 8 (.quiet 9 (.quiet 10 (.quiet 11 (.quiet 12 .nil))))))))))))) (by kernel_rfl) (by kernel_rfl) c2 ?_
    simp only [List.drop_succ_cons, List.drop_zero]
    iterate 13 (apply wpTr_step rfl; (intro W hS K hK; go_simp; exact hK _ rfl))
    refine wpTr_nil ?_
    go_wp2
    go_ret
    exact ⟨ret_int (by rw [HR.out]; try simp), HD.out⟩

theorem room_nil : Calls Tryz.prog 121 #[.pointer none] w fun e w' => e = .returned (.int .i64 0) ∧ Below w.heap.size w w' := by
  go_enter Tryz.func121, Tryz.ntmps121
  go_wp2
  go_ret
  exact ⟨rfl, Below.refl _ _⟩

theorem sector_any (p : Nat) (h : Box w s 158 (secC b m x)) (hx : x.f ≤ 512) (hp : p ≤ 1000) : Calls Tryz.prog 124 #[.pointer (some ⟨s, 0, none⟩), .int .i64 p] w fun e w' => e = .returned (.int .i64 (secN x.f p : Nat)) ∧ w = w' := by
  have c1 : w.cell? ⟨s, 1, none⟩ = some (.int .i64 x.f) := h.cell 1 _ rfl
  have HR : Hid ((secN x.f p : Int) = x.f + p + p / 7 + 1) := by
    show _ = _
    unfold secN
    omega
  generalize ((secN x.f p : Nat) : Int) = r at *
  have k1 : Int.tdiv (p : Int) 7 = (p : Int) / 7 := Int.tdiv_eq_ediv_of_nonneg (by omega)
  have w1 : wrap64 ((x.f : Int) + p) = x.f + p := IntWalk.wrap64_in _ (by omega)
  have w2 : wrap64 ((p : Int) / 7) = (p : Int) / 7 := IntWalk.wrap64_in _ (by omega)
  have w3 : wrap64 ((x.f : Int) + p + (p : Int) / 7) = x.f + p + (p : Int) / 7 := IntWalk.wrap64_in _ (by omega)
  have w4 : wrap64 ((x.f : Int) + p + (p : Int) / 7 + 1) = x.f + p + (p : Int) / 7 + 1 := IntWalk.wrap64_in _ (by omega)
  clear h hx hp
  go_enter Tryz.func124, Tryz.ntmps124
  go_wp2
  go_ret
  exact ⟨ret_int (by rw [HR.out, w4]), rfl⟩

theorem fast_any (v : Int) : Calls Tryz.prog 126 #[.int .i64 v] w fun e w' => e = .returned (locV (1, v)) ∧ Below w.heap.size w w' := by
  unfold locV
  have HX := Lib.hid ((Below.refl w.heap.size w).alloc (Nat.le_refl _) (.cells #[.int .i64 1, .int .i64 v] 47))
  have BX := Lib.hid (Box.new w 47 #[.int .i64 1, .int .i64 v])
  go_enter Tryz.func126, Tryz.ntmps126
  go_wp2
  refine bodyPost_ret (results_cell_row rfl _ _ w.heap.size 47 _ (0, 0) _ rfl BX.out Tryz.underlying47 rfl sizeLoc) rfl ?_
  exact ⟨rfl, HX.out⟩

theorem log_any (p : Nat) (h : Box w s 158 (secC b m x)) (hx : x.f ≤ 512) (hp : p ≤ 1000) : Calls Tryz.prog 147 #[.pointer (some ⟨s, 0, none⟩), .int .i64 p] w fun e w' => e = .returned (locV (1, (secN x.f p - 1 : Nat))) ∧ Below w.heap.size w w' := by
  have H := Lib.hid (h.alloc (.cells #[.int .i64 0, .int .i64 0] 47))
  have HX := Lib.hid ((Below.refl w.heap.size w).alloc (Nat.le_refl _) (.cells #[.int .i64 0, .int .i64 0] 47))
  have BX := Lib.hid (Box.new w 47 #[.int .i64 0, .int .i64 0])
  have HV : Hid (wrap64 ((secN x.f p : Nat) - 1 : Int) = ((secN x.f p - 1 : Nat) : Int)) := by
    show _ = _
    rw [IntWalk.wrap64_in _ (by unfold secN; omega)]
    unfold secN
    omega
  have HS := Lib.hid hx
  have HP := Lib.hid hp
  clear h hx hp
  go_enter Tryz.func147, Tryz.ntmps147
  go_wp2_with fail
  refine (sector_any s b m x _ p H.out HS.out HP.out).mono ?_
  rintro e w1 ⟨rfl, rfl⟩
  obtain ⟨q, hq⟩ : ∃ q, q = secN x.f p := ⟨_, rfl⟩
  rw [← hq] at HV ⊢
  have HQ := Lib.hid hq
  clear hq
  go_wp2_with fail
  rw [HV.out]
  refine (fast_any _ _).mono ?_
  rintro e w2 ⟨rfl, hb⟩
  have B2 := Lib.hid (BX.out.keep hb BX.out.lt)
  have HB2 := Lib.hid (HX.out.trans (hb.mono HX.out.size))
  unfold locV
  have f0 := B2.out.free 0
  have f1 := B2.out.free 1
  have c0 := B2.out.cell 0 _ rfl
  have c1 := B2.out.cell 1 _ rfl
  clear hb HX BX
  go_wp2
  have B3 := (B2.out.set 0 (.int .i64 1)).set 1 (.int .i64 ((q - 1 : Nat) : Int))
  have hz := HB2.out.size
  refine bodyPost_ret (results_cell_row rfl _ _ w.heap.size 47 _ (0, 0) _ rfl B3 Tryz.underlying47 rfl sizeLoc) rfl ?_
  refine ⟨by rw [HQ.out]; rfl, HB2.out.trans (((Only.set w.heap.size 0 w2 _).trans (Only.set w.heap.size 1 _ _)).below' (Nat.le_refl _) hz)⟩

theorem behind_any (p : Nat) (h : Box w s 158 (secC b m x)) (hx : x.n ≤ 512) (hp : p ≤ 1000) : Calls Tryz.prog 135 #[.pointer (some ⟨s, 0, none⟩), .int .i64 p] w fun e w' => e = .returned (.int .i64 ((if roomN x.n ≤ p + 7 then 0 else p + 7 : Nat))) ∧ Below w.heap.size w w' := by
  have H := Lib.hid h
  have w1 : wrap64 ((p : Int) + 7) = p + 7 := IntWalk.wrap64_in _ (by omega)
  have HX := Lib.hid hx
  clear h hx
  by_cases hr : roomN x.n ≤ p + 7
  · have HV : Hid (((if roomN x.n ≤ p + 7 then 0 else p + 7 : Nat) : Int) = 0) := by show _ = _; rw [if_pos hr]; rfl
    have d : ((roomN x.n : Nat) : Int) ≤ (p : Int) + 7 := by omega
    generalize ((if roomN x.n ≤ p + 7 then 0 else p + 7 : Nat) : Int) = v at *
    clear hp hr
    go_enter Tryz.func135, Tryz.ntmps135
    go_wp2_with fail
    refine (room_any s b m x _ H.out HX.out).mono ?_
    rintro e w2 ⟨rfl, hb⟩
    have HB := Lib.hid hb
    clear hb
    go_wp2
    go_ret
    exact ⟨ret_int HV.out.symm, HB.out⟩
  · have HV : Hid (((if roomN x.n ≤ p + 7 then 0 else p + 7 : Nat) : Int) = p + 7) := by show _ = _; rw [if_neg hr]; omega
    have d : ¬ ((roomN x.n : Nat) : Int) ≤ (p : Int) + 7 := by omega
    generalize ((if roomN x.n ≤ p + 7 then 0 else p + 7 : Nat) : Int) = v at *
    clear hp hr
    go_enter Tryz.func135, Tryz.ntmps135
    go_wp2_with fail
    refine (room_any s b m x _ H.out HX.out).mono ?_
    rintro e w2 ⟨rfl, hb⟩
    have HB := Lib.hid hb
    clear hb
    go_wp2
    go_ret
    exact ⟨ret_int (w1.trans HV.out.symm), HB.out⟩

theorem mayfeed_any (k l : ByteArray) : Calls Tryz.prog 122 #[.string k, .string l] w fun e w' => e = .returned (.bool (decide (1 ≤ k.size ∧ k.size ≤ 60 ∧ l.size ≤ 960))) ∧ w = w' := by
  by_cases h0 : 1 ≤ k.size
  · have d0 : (k.toList == []) = false := str_nz h0
    by_cases h1 : k.size ≤ 60
    · have d1 : decide ((k.size : Int) ≤ 60) = true := decide_eq_true (by omega)
      by_cases h2 : l.size ≤ 960
      · have d2 : decide ((l.size : Int) ≤ 960) = true := decide_eq_true (by omega)
        rw [show decide (1 ≤ k.size ∧ k.size ≤ 60 ∧ l.size ≤ 960) = true from decide_eq_true ⟨h0, h1, h2⟩]
        clear h0 h1 h2
        go_enter Tryz.func122, Tryz.ntmps122
        go_wp2
        go_ret
        exact ⟨rfl, rfl⟩
      · have d2 : decide ((l.size : Int) ≤ 960) = false := decide_eq_false (by omega)
        rw [show decide (1 ≤ k.size ∧ k.size ≤ 60 ∧ l.size ≤ 960) = false from decide_eq_false (fun h => h2 h.2.2)]
        clear h0 h1 h2
        go_enter Tryz.func122, Tryz.ntmps122
        go_wp2
        go_ret
        exact ⟨rfl, rfl⟩
    · have d1 : decide ((k.size : Int) ≤ 60) = false := decide_eq_false (by omega)
      rw [show decide (1 ≤ k.size ∧ k.size ≤ 60 ∧ l.size ≤ 960) = false from decide_eq_false (fun h => h1 h.2.1)]
      clear h0 h1
      go_enter Tryz.func122, Tryz.ntmps122
      go_wp2
      go_ret
      exact ⟨rfl, rfl⟩
  · obtain rfl : k = ⟨#[]⟩ := str_zero (by omega)
    rw [show decide (1 ≤ (⟨#[]⟩ : ByteArray).size ∧ (⟨#[]⟩ : ByteArray).size ≤ 60 ∧ l.size ≤ 960) = false from decide_eq_false (fun h => h0 h.1)]
    clear h0
    go_enter Tryz.func122, Tryz.ntmps122
    go_wp2
    go_ret
    exact ⟨rfl, rfl⟩
end
end Go.Proofs.YtphhnhldbajaoaaGreatDoor
