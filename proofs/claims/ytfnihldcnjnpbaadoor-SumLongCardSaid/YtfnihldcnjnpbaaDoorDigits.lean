/-
  The contract of the reference's digits.
-/
import Derived.Test.YtfnihldcnjnpbaaDoorNums
import Derived.Test.YtfnihldcnjnpbaaDoorRefFns
namespace Go.Proofs.YtfnihldcnjnpbaaDoor
open Go.RowKit

theorem digL_length (n : Nat) : ∀ k, (digL n k).length = k
  | 0 => rfl
  | k + 1 => by simp [digL, digL_length n k]

theorem digits_any (n many : Nat) (w : World) (hn : n ≤ 4503599627370496) (hm : many ≤ 1000) : Calls Tryd.prog 51 #[.int .i64 n, .int .i64 many] w fun e w' =>
    ∃ v, e = .returned v ∧ Nums w' w.heap.size v (digL n many) ∧ Below w.heap.size w w' := by
  go_enter Tryd.func51, Tryd.ntmps51
  go_wp2
  go_loopw [0, 5, 6] (fun x v i wr => ∃ k : Nat, k ≤ many ∧ i = .int .i64 k ∧ x = .int .i64 ((n / 65536 ^ k : Nat) : Int) ∧ Hid (Nums wr w.heap.size v (digL n k)) ∧ Hid (Below w.heap.size w wr)) (fun _ _ i _ => many - (intOf i).toNat)
  case atStart => exact ⟨0, Nat.zero_le _, rfl, by simp, Nums.nil _ _, Below.refl _ _⟩
  case round =>
    obtain ⟨k, hk, rfl, rfl, HBr, HLr⟩ := hrel
    by_cases hlt : k < many
    · have hd : n / 65536 ^ k ≤ n := Nat.div_le_self _ _
      have hsn : Hid (digL n (k + 1) = digL n k ++ [n / 65536 ^ k % 65536]) := rfl
      have hq : Hid (n / 65536 ^ k / 65536 = n / 65536 ^ (k + 1)) := by show _ = _; rw [Nat.div_div_eq_div_mul, Nat.pow_succ]
      generalize n / 65536 ^ k = q at *
      have hsz := HLr.out.size
      have hl := digL_length n k
      go_wp2_with (at_builtin; refine wp_nums_push _ rfl _ _ rfl w.heap.size _ (digL n k) rfl (HBr.out.alloc _) ⟨wr.heap.size, 0, none⟩ 1 1 [q % 65536] rfl rfl ?c1 (by omega) (by simp; omega) ?_)
      case c1 =>
        intro j u hj
        match j, hj with
        | 0, hj => simp at hj; subst hj; simp [Addr.add, nV]
      intro v' w' hb' hl'
      rw [← hsn.out] at hb'
      have HB' := Lib.hid hb'
      have HL' := Lib.hid (HLr.out.trans (((Below.refl _ _).alloc (by omega) _).trans hl'))
      clear hb' hl' hl
      go_wp2
      go_roundw
      case rel => exact ⟨k + 1, by omega, by go_num, by rw [← hq.out]; go_num, HB', HL'⟩
      case measure => simp [intOf]; omega
    · have hkk : k = many := by omega
      subst hkk
      go_wp2
      go_ret
      exact ⟨_, rfl, HBr.out, HLr.out⟩
end Go.Proofs.YtfnihldcnjnpbaaDoor
