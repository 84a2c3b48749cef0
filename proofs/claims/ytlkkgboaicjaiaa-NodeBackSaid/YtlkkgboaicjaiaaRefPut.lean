/-
  The reference's Put; the size of a put number.
-/
import Derived.Test.YtlkkgboaicjaiaaPut
import Derived.Test.YtlkkgboaicjaiaaRPut
namespace Go.Proofs.Ytlkkgboaicjaiaa
open Go.RowKit

theorem rput_no (n wd : Int) (w : World) (h : n < 0 ∨ mostI wd < n) : Calls Try.prog 37 #[.int .i64 n, .int .i64 wd] w fun e w' => e = .returned (.string (putB n wd)) ∧ w = w' := by
  rw [show putB n wd = ⟨#[]⟩ from if_pos h]
  by_cases h1 : n < 0
  · clear h
    go_enter Try.func37, Try.ntmps37
    go_wp2
    go_ret
    exact ⟨rfl, rfl⟩
  · have h2 : mostI wd < n := by omega
    clear h
    go_enter Try.func37, Try.ntmps37
    go_wp2_with fail
    refine (rmost_any wd _).mono ?_
    rintro e w' ⟨rfl, rfl⟩
    go_wp2
    go_ret
    exact ⟨rfl, rfl⟩

theorem rput_any (n wd : Int) (w : World) : Calls Try.prog 37 #[.int .i64 n, .int .i64 wd] w fun e w' => e = .returned (.string (putB n wd)) ∧ Below w.heap.size w w' := by
  by_cases h : n < 0 ∨ mostI wd < n
  · exact (rput_no n wd w h).mono fun e w' ⟨he, hw⟩ => ⟨he, by rw [← hw]; exact Below.refl _ _⟩
  · rw [show putB n wd = _ from if_neg h]
    have hk := okW_of n wd (by omega) (by omega)
    obtain ⟨n', rfl⟩ : ∃ k : Nat, n = k := ⟨n.toNat, by omega⟩
    obtain ⟨wd', rfl⟩ : ∃ k : Nat, wd = k := ⟨wd.toNat, by omega⟩
    exact rput_yes n' wd' w (by omega) (by omega) (by omega)

end Go.Proofs.Ytlkkgboaicjaiaa
