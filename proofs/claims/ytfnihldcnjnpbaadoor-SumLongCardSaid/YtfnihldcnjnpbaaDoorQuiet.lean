/-
  A callee that turns nothing, met inside a region that draws its order: behind no draw, and behind draws.
-/
import Derived.WalkKit
import Derived.Deep.QuietTactic
namespace Go.Proofs.YtfnihldcnjnpbaaDoor

theorem still1 {P : Program} {f : FuncId} {args : Array Value} {w : World} {n : Nat} {v : Value} (h : ∀ W : World, Calls P f args W fun e w' => e = .returned v ∧ W = w') :
    Calls P f args (w.drewN n) fun e w'' => e = .returned v ∧ ∃ m, w'' = w.drewN m := (h _).mono fun _ _ hh => ⟨hh.1, n, hh.2.symm⟩
theorem still2 {P : Program} {f : FuncId} {args : Array Value} {w : World} {a n : Nat} {v : Value} (h : ∀ W : World, Calls P f args W fun e w' => e = .returned v ∧ W = w') :
    Calls P f args (w.drewN (a + n)) fun e w'' => e = .returned v ∧ ∃ m, w'' = w.drewN (a + m) := (h _).mono fun _ _ hh => ⟨hh.1, n, hh.2.symm⟩
end Go.Proofs.YtfnihldcnjnpbaaDoor
