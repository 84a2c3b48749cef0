/-
  The contract of padding.
-/
import Derived.Test.YtfnihldcnjnpbaaDoorBuf
import Derived.Test.YtfnihldcnjnpbaaDoorShaPlain
namespace Go.Proofs.YtfnihldcnjnpbaaDoor
open Go.RowKit

set_option maxRecDepth 100000 in
theorem pad_byte (n k : Nat) : Value.int .u8 ((n : Int) * 8 / 2 ^ (56 - 8 * k) % 256) = byV (UInt8.ofNat (8 * n / 2 ^ (56 - 8 * k))) := by
  unfold byV
  congr 1
  rw [Nat.mul_comm 8 n]
  simp

set_option maxRecDepth 100000 in
set_option maxHeartbeats 1000000 in
theorem padding_any (n : Nat) (w : World) (hn : n ≤ 140737488355328) :
    Calls Tryd.prog 50 #[.int .i64 n] w fun e w' => e = .returned (.string ⟨(padB n).toArray⟩) ∧ Below w.heap.size w w' := by
  go_enter Tryd.func50, Tryd.ntmps50
  go_wp2
  go_loopw [3] (fun v wr => ∃ j : Nat, j ≤ padZ n ∧ lenOf v = 1 + j ∧ Hid (Buf wr w.heap.size v (128 :: List.replicate j 0)) ∧ Hid (Below w.heap.size w wr)) (fun v _ => 66 - lenOf v)
  case atStart =>
    exact ⟨0, Nat.zero_le _, rfl, ⟨rfl, .inr ⟨w.heap.size, 1, #[.int .u8 128], rfl, Nat.le_refl _, heap_alloc_new w _, Nat.le_refl _, by decide, rfl, rfl⟩⟩, (Below.refl _ _).alloc (Nat.le_refl _) _⟩
  case round =>
    obtain ⟨j, hj, hlen, HB, HL⟩ := hrel
    obtain ⟨a, cap, rfl⟩ := HB.out.shape
    have hz := padZ_lt n
    have hd := hz
    have hll : (128 :: List.replicate j (0 : UInt8)).length = 1 + j := by simp; omega
    have hnext := Lib.hid (padRow_succ j)
    rw [hll] at hlen HB ⊢
    have hsz := HL.out.size
    by_cases hlt : j < padZ n
    · have ht := pad_more n j hlt
      generalize 128 :: List.replicate j (0 : UInt8) = row at *
      have hl1 : row.length ≤ 65 := by omega
      clear hll hlen
      go_wp2_with (at_builtin; refine wp_buf_push _ rfl _ _ rfl w.heap.size _ row rfl (HB.out.alloc _) ⟨wr.heap.size, 0, none⟩ 1 1 [0] rfl rfl ?c1 (by omega) (by simp; omega) ?_)
      case c1 =>
        intro i u hi
        match i, hi with
        | 0, hi => simp at hi; subst hi; simp [Addr.add, byV]
      intro v' w' hb' hl'
      rw [hnext.out] at hb'
      have HB' := Lib.hid hb'
      have HL' := Lib.hid (HL.out.trans (((Below.refl _ _).alloc (by omega) _).trans hl'))
      clear hb' hl'
      go_wp2
      go_roundw
      case rel => exact ⟨j + 1, by omega, by rw [HB'.out.len]; simp; omega, HB', HL'⟩
      case measure =>
        have := HB'.out.len
        simp at this
        show 66 - lenOf v' < 66 - (1 + j)
        omega
    · obtain rfl : j = padZ n := by omega
      have ht := pad_done n (padZ n) rfl
      have hrow : Hid (128 :: List.replicate (padZ n) (0 : UInt8) = 128 :: List.replicate (padZ n) 0) := rfl
      have hl1 : (128 :: List.replicate (padZ n) (0 : UInt8)).length ≤ 65 := by omega
      clear hll hlen hnext hj hd
      generalize hgr : 128 :: List.replicate (padZ n) (0 : UInt8) = row at *
      have Hgr := Lib.hid hgr
      clear hgr hrow
      go_wp2
      clear ht
      go_loopw [3, 19] (fun v i wr => ∃ k : Nat, k ≤ 8 ∧ i = .int .i64 k ∧ Hid (Buf wr w.heap.size v (row ++ be8 (8 * n) k)) ∧ Hid (Below w.heap.size w wr)) (fun _ i _ => 8 - (intOf i).toNat)
      case atStart => exact ⟨0, Nat.zero_le _, rfl, by simpa [be8] using HB, HL⟩
      case round =>
        clear HB HL hsz
        obtain ⟨k, hk, rfl, HB, HL⟩ := hrel
        have hsz := HL.out.size
        have hb8 := be8_length (8 * n) k
        have hnext := Lib.hid (be8_succ (8 * n) k)
        by_cases hlt : k < 8
        · go_wp2_with (at_builtin; refine wp_buf_push _ rfl _ _ rfl w.heap.size _ (row ++ be8 (8 * n) k) rfl (HB.out.alloc _) ⟨wr.heap.size, 0, none⟩ 1 1 [UInt8.ofNat (8 * n / 2 ^ (56 - 8 * k))] rfl rfl ?c2 (by rw [List.length_append]; omega) (by simp; omega) ?_)
          case c2 =>
            intro i u hi
            match i, hi with
            | 0, hi =>
              simp at hi
              subst hi
              simp [Addr.add]
              exact pad_byte n k
          intro v' w' hb' hl'
          rw [← hnext.out] at hb'
          have HB' := Lib.hid hb'
          have HL' := Lib.hid (HL.out.trans (((Below.refl _ _).alloc (by omega) _).trans hl'))
          clear hb' hl'
          go_wp2
          go_roundw
          case rel => exact ⟨k + 1, by omega, by go_num, HB', HL'⟩
          case measure => simp [intOf]; omega
        · have hk8 : k = 8 := by omega
          subst hk8
          have hc := HB.out.text
          have hfin : Hid ((⟨(row ++ be8 (8 * n) 8).toArray⟩ : ByteArray) = ⟨(padB n).toArray⟩) := by show _ = _; rw [← Hgr.out]; rfl
          go_wp2
          go_ret
          exact ⟨ret_str hfin.out, HL.out⟩
end Go.Proofs.YtfnihldcnjnpbaaDoor
