/-
  The contract of the reference's primes, at 64.
-/
import Derived.Test.YtfnihldcnjnpbaaDoorNums
import Derived.Test.YtfnihldcnjnpbaaDoorRefFns
import Derived.Deep.LoopGhost
namespace Go.Proofs.YtfnihldcnjnpbaaDoor
open Go.RowKit

theorem mod_test (j p : Nat) : ((2 + (j : Int)) % (p : Int) != 0) = (true && ((j + 2) % p != 0)) := by
  rw [Bool.true_and, show (2 + (j : Int)) = ((j + 2 : Nat) : Int) by omega, ← Int.natCast_emod]
  rw [Bool.eq_iff_iff, bne_iff_ne, bne_iff_ne]
  omega

set_option maxHeartbeats 1000000 in
theorem primes_any (w : World) : Calls Tryd.prog 25 #[.int .i64 64] w fun e w' =>
    ∃ v, e = .returned v ∧ Nums w' w.heap.size v (prK 310) ∧ Below w.heap.size w w' := by
  go_enter Tryd.func25, Tryd.ntmps25
  go_wp2
  go_loopw [3, 4] (fun v i wr => ∃ j : Nat, j ≤ 310 ∧ i = .int .i64 ((2 + j : Nat) : Int) ∧ Hid (Nums wr w.heap.size v (prK j)) ∧ Hid (Below w.heap.size w wr)) (fun _ i _ => 312 - (intOf i).toNat)
  case atStart => exact ⟨0, Nat.zero_le _, rfl, Nums.nil _ _, Below.refl _ _⟩
  case round =>
    obtain ⟨j, hj, rfl, HB, HL⟩ := hrel
    obtain ⟨a, cap, rfl, hv⟩ := HB.out.view
    have HV := Lib.hid hv
    have HP := Lib.hid (pr_two j)
    have hsz := HL.out.size
    have HN : Hid (prK (j + 1) = if (prK j).all (fun p => (j + 2) % p != 0) then prK j ++ [j + 2] else prK j) := rfl
    clear hv
    obtain ⟨wo, rfl⟩ : ∃ wo : World, wo = wr := ⟨_, rfl⟩
    by_cases hlt : j < 310
    · have hlen := pr_lt j hlt
      generalize prK j = l at *
      go_wp2
      go_loopw [5, 6] (fun b i wr => ∃ k : Nat, k ≤ l.length ∧ i = .int .i64 k ∧ b = .bool ((l.take k).all (fun p => (j + 2) % p != 0)) ∧ wr = wo) (fun _ i _ => l.length - (intOf i).toNat)
      case atStart => exact ⟨0, Nat.zero_le _, rfl, rfl, rfl⟩
      case round =>
        obtain ⟨k, hk, rfl, rfl, rfl⟩ := hrel
        by_cases hk2 : k < l.length
        · obtain ⟨p, hp⟩ : ∃ p, l[k]? = some p := ⟨_, List.getElem?_eq_getElem hk2⟩
          obtain ⟨b, off, rfl, hbl, hcs⟩ := HV.out (by intro h; rw [h] at hk2; simp at hk2)
          have hc : wr.cell? ⟨b, off + k, none⟩ = some (.int .i64 (p : Int)) := hcs k p hp
          have hp2 : 2 ≤ p := HP.out p (List.mem_of_getElem? hp)
          have hs := Lib.hid (all_snoc l k p (j + 2) hp)
          have hm := Lib.hid (mod_test j p)
          clear hp hcs
          cases hb : (l.take k).all (fun q => (j + 2) % q != 0)
          · have Hb := Lib.hid hb
            clear hb
            go_wp2
            go_round
            case rel => exact ⟨k + 1, by omega, by go_num, by rw [hs.out, Hb.out]; exact ⟨rfl, trivial⟩⟩
            case measure => simp [intOf]; omega
          · have Hb := Lib.hid hb
            clear hb
            go_wp2
            go_round
            case rel => exact ⟨k + 1, by omega, by go_num, by rw [hs.out, Hb.out]; exact ⟨congrArg Value.bool hm.out, trivial⟩⟩
            case measure => simp [intOf]; omega
        · have hkl : k = l.length := by omega
          subst hkl
          rw [List.take_length]
          cases hb : l.all (fun q => (j + 2) % q != 0)
          · have HN2 : Hid (prK (j + 1) = l) := by show _ = _; rw [HN.out, hb]; rfl
            have Hb := Lib.hid hb
            clear hb
            go_wp2
            go_roundw
            case rel => exact ⟨j + 1, by omega, by go_num, by rw [HN2.out]; exact HB, HL⟩
            case measure => simp [intOf]; omega
          · have HN2 : Hid (prK (j + 1) = l ++ [j + 2]) := by show _ = _; rw [HN.out, hb]; rfl
            have Hb := Lib.hid hb
            clear hb
            go_wp2_with (at_builtin; refine wp_nums_push _ rfl _ _ rfl w.heap.size _ l rfl (HB.out.alloc _) ⟨wr.heap.size, 0, none⟩ 1 1 [j + 2] rfl rfl ?c1 (by omega) (by simp; omega) ?_)
            case c1 =>
              intro i u hi
              match i, hi with
              | 0, hi => simp at hi; subst hi; simp [Addr.add, nV]; omega
            intro v' w' hb' hl'
            rw [← HN2.out] at hb'
            have HB' := Lib.hid hb'
            have HL' := Lib.hid (HL.out.trans (((Below.refl _ _).alloc (by omega) _).trans hl'))
            clear hb' hl'
            go_wp2
            go_roundw
            case rel => exact ⟨j + 1, by omega, by go_num, HB', HL'⟩
            case measure => simp [intOf]; omega
    · have hj310 : j = 310 := by omega
      subst hj310
      have hlen : (prK 310).length = 64 := pr_len
      have Hlen := Lib.hid hlen
      rw [hlen] at HB ⊢
      go_wp2
      go_ret
      exact ⟨_, rfl, HB.out, HL.out⟩
end Go.Proofs.YtfnihldcnjnpbaaDoor
