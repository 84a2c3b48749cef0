/-
  The contract of the reference's Pad.
-/
import Derived.Test.YtfnihldcnjnpbaaDoorRoot
import Derived.Test.YtfnihldcnjnpbaaDoorPad
namespace Go.Proofs.YtfnihldcnjnpbaaDoor
open Go.RowKit

def padZs (s : ByteArray) (j : Nat) : ByteArray := s ++ ⟨(128 :: List.replicate j (0 : UInt8)).toArray⟩
theorem padZs_size (s : ByteArray) (j : Nat) : (padZs s j).size = s.size + (1 + j) := by
  rw [← ba_len, padZs]
  simp [ByteArray.data_append]; omega
theorem padZs_succ (s : ByteArray) (j : Nat) : padZs s j ++ ⟨#[0]⟩ = padZs s (j + 1) := by
  apply ba_eq
  simp [padZs, List.replicate_succ']
where
  app_list' (a b : ByteArray) : (a ++ b).data.toList = a.data.toList ++ b.data.toList := by simp [ByteArray.data_append]
def padBs (s : ByteArray) (n k : Nat) : ByteArray := s ++ ⟨(be8 n k).toArray⟩
theorem padBs_succ (s : ByteArray) (n k : Nat) : padBs s n k ++ ⟨#[UInt8.ofNat (n / 2 ^ (56 - 8 * k))]⟩ = padBs s n (k + 1) := by
  apply ba_eq
  simp [padBs, be8_succ]
theorem pad_all (s : ByteArray) : padBs (padZs s (padZ s.size)) (8 * s.size) 8 = s ++ ⟨(padB s.size).toArray⟩ := by
  apply ba_eq
  simp [padBs, padZs, padB]

theorem one_text (w : World) (n k : Nat) (u : Value) (hu : u = byV (UInt8.ofNat (8 * n / 2 ^ (56 - 8 * k)))) :
    (convert 25 9 (.slice (some ⟨w.heap.size, 0, none⟩) 1 1)).run Tryd.prog (w.alloc (.cells #[u] 5 (0, 0))) = .ok (.string ⟨#[UInt8.ofNat (8 * n / 2 ^ (56 - 8 * k))]⟩) (w.alloc (.cells #[u] 5 (0, 0))) := by
  subst hu
  have hb : Buf (w.alloc (.cells #[byV (UInt8.ofNat (8 * n / 2 ^ (56 - 8 * k)))] 5 (0, 0))) w.heap.size (.slice (some ⟨w.heap.size, 0, none⟩) 1 1) [UInt8.ofNat (8 * n / 2 ^ (56 - 8 * k))] :=
    World.ownsRow_lit w #[byV (UInt8.ofNat (8 * n / 2 ^ (56 - 8 * k)))] 1 (Nat.le_refl _) (by decide) rfl
  exact hb.text

set_option maxRecDepth 100000 in
set_option maxHeartbeats 1000000 in
theorem rpad_any (s : ByteArray) (w : World) (hs : s.size ≤ 1000000) : Calls Tryd.prog 27 #[.string s] w fun e w' => e = .returned (.string (s ++ ⟨(padB s.size).toArray⟩)) ∧ Below w.heap.size w w' := by
  have HALL := Lib.hid (pad_all s)
  have HZZ := Lib.hid (padZs_size s)
  have HZS := Lib.hid (padZs_succ s)
  have hq : ¬ 9223372036854775807 < s.size + 1 := by omega
  have HP1 : Hid (s ++ ⟨#[128]⟩ = padZs s 0) := rfl
  have hpz := padZ_lt s.size
  have HM := Lib.hid (pad_more s.size)
  have HD := Lib.hid (pad_done s.size)
  go_enter Tryd.func27, Tryd.ntmps27
  go_wp2
  go_loop [0] (fun x => ∃ j : Nat, j ≤ padZ s.size ∧ x = .string (padZs s j)) (fun x => match x with | .string t => s.size + 1 + padZ s.size - t.size | _ => 0)
  case atStart => exact ⟨0, Nat.zero_le _, by rw [← HP1.out]⟩
  case round =>
    obtain ⟨j, hj, rfl⟩ := hrel
    have hz := HZZ.out j
    by_cases hlt : j < padZ s.size
    · have hm : ((((padZs s j).size : Nat) : Int) % 64 != 56) = true := by
        have := HM.out j hlt
        rw [hz, show ((s.size + (1 + j) : Nat) : Int) = (s.size : Int) + (1 + (j : Int)) by omega]; exact this
      have hq2 : ¬ 9223372036854775807 < (padZs s j).size + 1 := by omega
      have HS2 := HZS.out j
      have HZ2 := HZZ.out (j + 1)
      have HSS := Lib.hid HS2
      have HZZ2 := Lib.hid HZ2
      have Hz := Lib.hid hz
      clear HS2 HZ2 hz
      go_wp2
      go_round
      case rel => exact ⟨j + 1, by omega, by rw [← HSS.out]⟩
      case measure =>
        simp
        have e1 := Hz.out
        have e2 : (⟨#[0]⟩ : ByteArray).size = 1 := rfl
        omega
    · have hjz : j = padZ s.size := by omega
      have hm : ((((padZs s j).size : Nat) : Int) % 64 != 56) = false := by
        have := HD.out j hjz
        rw [hz, show ((s.size + (1 + j) : Nat) : Int) = (s.size : Int) + (1 + (j : Int)) by omega]; exact this
      subst hjz
      have hz2 : (padZs s (padZ s.size)).size ≤ 1000100 := by omega
      generalize padZs s (padZ s.size) = t at *
      clear hz
      go_wp2
      go_loopw [0, 4] (fun x i wr => ∃ k : Nat, k ≤ 8 ∧ i = .int .i64 (7 - (k : Int)) ∧ x = .string (padBs t (8 * s.size) k) ∧ Hid (Below w.heap.size w wr)) (fun _ i _ => (intOf i + 1).toNat)
      case atStart => exact ⟨0, Nat.zero_le _, rfl, congrArg Value.string (ba_eq (by simp [padBs, be8, ByteArray.data_append])), Below.refl _ _⟩
      case round =>
        obtain ⟨k, hk, rfl, rfl, HL⟩ := hrel
        by_cases hlt : k < 8
        · have hpb := pad_byte s.size k
          rw [Int.mul_comm, show 56 - 8 * k = 8 * (7 - k) by omega] at hpb
          have hc := one_text wr s.size k (.int .u8 (8 * (s.size : Int) / 2 ^ (8 * (7 - k)) % 256)) (by rw [hpb, show 56 - 8 * k = 8 * (7 - k) by omega])
          have HS2 := Lib.hid (padBs_succ t (8 * s.size) k)
          have hbz : (padBs t (8 * s.size) k).size = t.size + k := by
            rw [← ba_len, padBs]; simp [ByteArray.data_append, be8_length]
          have hq2 : ¬ 9223372036854775807 < (padBs t (8 * s.size) k).size + 1 := by omega
          have HBIT : Hid ((7 : Int) - ((k + 1 : Nat) : Int) = 7 - (k : Int) - 1) := by show _ = _; omega
          generalize hg : UInt8.ofNat (8 * s.size / 2 ^ (56 - 8 * k)) = bb at *
          clear hpb hbz hg
          go_wp2
          go_roundw
          case rel => exact ⟨k + 1, by omega, by rw [HBIT.out], by rw [HS2.out], HL.out.trans ((Below.refl _ _).alloc HL.out.size _)⟩
          case measure => simp [intOf]; omega
        · have hk8 : k = 8 := by omega
          subst hk8
          go_wp2
          go_ret
          exact ⟨ret_str (by rw [HALL.out]), HL.out⟩
end Go.Proofs.YtfnihldcnjnpbaaDoor
