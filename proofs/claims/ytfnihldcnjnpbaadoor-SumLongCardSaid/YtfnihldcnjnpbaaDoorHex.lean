/-
  The contract of Hex.
-/
import Derived.Test.YtfnihldcnjnpbaaDoorBuf
import Derived.Test.YtfnihldcnjnpbaaDoorShaPlain
import Derived.WideShapes
namespace Go.Proofs.YtfnihldcnjnpbaaDoor
open Go.RowKit

def DIG : ByteArray := ⟨#[48, 49, 50, 51, 52, 53, 54, 55, 56, 57, 97, 98, 99, 100, 101, 102]⟩
def hexD (n : Nat) : UInt8 := DIG.data.toList.getD n 0
def hx2 (n : Nat) : List UInt8 := [hexD (n / 16), hexD (n % 16)]
def hexK (s : ByteArray) (k : Nat) : List UInt8 := (s.data.toList.take k).flatMap fun c => hx2 c.toNat
def hexB (s : ByteArray) : ByteArray := ⟨(s.data.toList.flatMap fun c => hx2 c.toNat).toArray⟩
theorem hexK_succ (s : ByteArray) (k : Nat) (h : k < s.size) : hexK s (k + 1) = hexK s k ++ hx2 (byN s k) := by
  have hl : k < s.data.toList.length := by rw [ba_len]; exact h
  unfold hexK byN
  rw [List.take_succ_eq_append_getElem hl, List.flatMap_append, List.getD, List.getElem?_eq_getElem hl]
  simp
theorem hexK_length (s : ByteArray) : ∀ k, k ≤ s.size → (hexK s k).length = 2 * k
  | 0, _ => rfl
  | k + 1, h => by
    rw [hexK_succ s k (by omega), List.length_append, hexK_length s k (by omega)]
    simp [hx2]
    omega
theorem hexK_all (s : ByteArray) : (⟨(hexK s s.size).toArray⟩ : ByteArray) = hexB s := by
  unfold hexK hexB
  rw [List.take_of_length_le (by rw [ba_len]; exact Nat.le_refl _)]

theorem hexV (x : Nat) : (byN ⟨#[48, 49, 50, 51, 52, 53, 54, 55, 56, 57, 97, 98, 99, 100, 101, 102]⟩ ((x : Int) / 16).toNat : Int) = (hexD (x / 16)).toNat ∧ (byN ⟨#[48, 49, 50, 51, 52, 53, 54, 55, 56, 57, 97, 98, 99, 100, 101, 102]⟩ ((x : Int) % 16).toNat : Int) = (hexD (x % 16)).toNat := by
  have e1 : ((x : Int) / 16).toNat = x / 16 := by omega
  have e2 : ((x : Int) % 16).toNat = x % 16 := by omega
  rw [e1, e2]
  exact ⟨rfl, rfl⟩
theorem hex_cells {W : World} {B x : Nat} (h0 : W.cell? ⟨B, 0, none⟩ = some (.int .u8 (byN ⟨#[48, 49, 50, 51, 52, 53, 54, 55, 56, 57, 97, 98, 99, 100, 101, 102]⟩ ((x : Int) / 16).toNat : Int))) (h1 : W.cell? ⟨B, 1, none⟩ = some (.int .u8 (byN ⟨#[48, 49, 50, 51, 52, 53, 54, 55, 56, 57, 97, 98, 99, 100, 101, 102]⟩ ((x : Int) % 16).toNat : Int))) :
    ∀ j u, (hx2 x)[j]? = some u → W.cell? ((⟨B, 0, none⟩ : Addr).add j) = some (byV u) := by
  have hv := hexV x
  intro j u hj
  rw [WideShapes.add_plain, Nat.zero_add]
  match j, hj with
  | 0, hj => simp [hx2] at hj; subst hj; rw [h0, hv.1]; rfl
  | 1, hj => simp [hx2] at hj; subst hj; rw [h1, hv.2]; rfl
  | _ + 2, hj => simp [hx2] at hj

theorem hexB_size (s : ByteArray) : (hexB s).size = 2 * s.size := by
  rw [← hexK_all]
  show ((hexK s s.size).toArray).size = _
  rw [List.size_toArray, hexK_length s s.size (Nat.le_refl _)]

set_option maxHeartbeats 1000000 in
theorem hex_any (s : ByteArray) (w : World) (hs : s.size ≤ 70368744177664) : Calls Tryd.prog 10 #[.string s] w fun e w' => e = .returned (.string (hexB s)) ∧ Below w.heap.size w w' := by
  have hbt := byN_get s
  have hdg := byN_get ⟨#[48, 49, 50, 51, 52, 53, 54, 55, 56, 57, 97, 98, 99, 100, 101, 102]⟩
  go_enter Tryd.func10, Tryd.ntmps10
  go_wp2_with (at_make; refine wp_buf_make _ rfl _ _ rfl w.heap.size .i64 .i64 _ (2 * s.size) rfl rfl (by omega) (by omega) (Nat.le_refl _) ?_)
  intro v1 w1 hb hl
  have HB := Lib.hid hb
  have HL := Lib.hid hl
  clear hb hl
  go_wp2
  go_loopw [3, 11] (fun v i wr => ∃ k : Nat, k ≤ s.size ∧ i = .int .i64 k ∧ Hid (Buf wr w.heap.size v (hexK s k)) ∧ Hid (Below w.heap.size w wr)) (fun _ i _ => s.size - (intOf i).toNat)
  case atStart => exact ⟨0, Nat.zero_le _, rfl, HB, HL⟩
  case round =>
    clear HB HL
    obtain ⟨k, hk, rfl, HB, HL⟩ := hrel
    have hsz := HL.out.size
    by_cases hlt : k < s.size
    · have hnext := Lib.hid (hexK_succ s k hlt)
      have hkl := hexK_length s k hk
      have hx := byN_lt s k
      have hand := u8_and15 (x := (byN s k : Int)) (by omega) (by omega)
      have q1 : 0 ≤ (byN s k : Int) / 16 := by omega
      have q2 : (byN s k : Int) / 16 < 16 := by omega
      have q3 : 0 ≤ (byN s k : Int) % 16 := by omega
      have q4 : (byN s k : Int) % 16 < 16 := by omega
      have hlt' : (k : Int) < (s.size : Int) := by omega
      go_wp2_with fail
      go_region_law ((refine step_buf_push (by rfl) _ _ (by rfl) w.heap.size _ (hexK s k) (by rfl) (by exact HB.out.alloc _) ⟨wr.heap.size, 0, none⟩ 2 2 (hx2 (byN s k)) (by rfl) (by rfl) (hex_cells (by simp) (by simp)) (by omega) (by simp; omega) ?_; intro v' w' hb' hl'; have HB' := Lib.hid hb'; have HL' := Lib.hid hl'; clear hb' hl'))
      all_goals
        rw [← hnext.out] at HB'
        have HL2 := Lib.hid (HL.out.trans (((Below.refl _ _).alloc (by omega) _).trans (show Below w.heap.size (wr.alloc _) w' from ⟨HL'.out.os, HL'.out.tape, HL'.out.output, HL'.out.size, HL'.out.block⟩)))
        clear HL' HL HB hnext
        go_wp2
        go_roundw
        case rel => exact ⟨k + 1, by omega, by go_num, HB', HL2⟩
        case measure => simp [intOf]; omega
    · have hkl : k = s.size := by omega
      subst hkl
      have hc := HB.out.text
      rw [hexK_all] at hc
      go_wp2
      go_ret
      exact ⟨rfl, HL.out⟩
end Go.Proofs.YtfnihldcnjnpbaaDoor
