/-
  For the laws' walks: an argument kept, what Small says.
-/
import Derived.Test.YtlkkgboaicjaiaaNodeO
import Derived.Test.YtlkkgboaicjaiaaNodeLive
namespace Go.Proofs.Ytlkkgboaicjaiaa
open Go.RowKit Go.ChangeShapes Go.WideShapes Go.ChangeAt

theorem ArgN.keep {w w' : World} {ka : Option Addr} {kc : Nat} {va : Option Addr} {vc : Nat} {d : NodeD} (h : ArgN w ka kc va vc d) (hb : Below w.heap.size w w') : ArgN w' ka kc va vc d := ⟨h.ks.keep hb, h.vs.keep hb, h.kz, h.vz, h.kl, h.vl, h.km, h.vm⟩
theorem ArgN.sizes {w : World} {ka : Option Addr} {kc : Nat} {va : Option Addr} {vc : Nat} {d : NodeD} (h : ArgN w ka kc va vc d) : ∀ s ∈ d.keys ++ d.vals, s.size ≤ maxLen := fun s hs => by
  rcases List.mem_append.1 hs with h1 | h1
  · exact h.kz s h1
  · exact h.vz s h1
theorem small_len {d : NodeD} (h : smallD d = true) : d.keys.length ≤ 260 ∧ d.vals.length ≤ 260 := by
  unfold smallD at h
  simp only [Bool.and_eq_true, decide_eq_true_eq] at h
  exact h.2.2
theorem ArgN.inn {w : World} {ka : Option Addr} {kc : Nat} {va : Option Addr} {vc : Nat} {d : NodeD} (h : ArgN w ka kc va vc d) (hs : smallD d = true) : NodeIn w ka va d :=
  ⟨h.ks, h.vs, by have := small_len hs; omega, by have := small_len hs; omega⟩
theorem lown_node (ka : Option Addr) (kc : Nat) (va : Option Addr) (vc : Nat) (d : NodeD) (w : World) :
    Calls Try.prog 13 #[nodeV ka kc va vc d] w fun e w' => e = .returned (nodeV ka kc va vc d) ∧ Below w.heap.size w w' := lown_any d.leaf ka d.keys.length kc va d.vals.length vc w
theorem told_node (ka : Option Addr) (kc : Nat) (va : Option Addr) (vc : Nat) (d : NodeD) (w : World) :
    Calls Try.prog 24 #[nodeV ka kc va vc d] w fun e w' => e = .returned (nodeV ka kc va vc d) ∧ Below w.heap.size w w' := told_any d.leaf ka d.keys.length kc va d.vals.length vc w
end Go.Proofs.Ytlkkgboaicjaiaa
