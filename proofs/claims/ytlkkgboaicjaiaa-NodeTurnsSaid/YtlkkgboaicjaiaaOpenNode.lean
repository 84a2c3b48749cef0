/-
  Arguments of the statements of package node, opened: a node; a node with an entry and a key.
-/
import Derived.Test.YtlkkgboaicjaiaaOpen
import Derived.Test.YtlkkgboaicjaiaaNodeI
namespace Go.Proofs.Ytlkkgboaicjaiaa
open Go.ChangeShapes Go.WideShapes Go.ChangeAt Go.RowKit

theorem cellsBoolN : Try.prog.cellsOf 4 = 1 := by kernel_rfl
theorem cellsStrN : Try.prog.cellsOf 9 = 1 := by kernel_rfl
theorem cellsStrsN : Try.prog.cellsOf 22 = 1 := by kernel_rfl
theorem cellsNodeN : Try.prog.cellsOf 24 = 3 := by kernel_rfl
theorem cellsCaseN : Try.prog.cellsOf 58 = 6 := by kernel_rfl
/-- A node that came in: its slices, its texts, how many they are. -/
structure ArgN (w : World) (ka : Option Addr) (kc : Nat) (va : Option Addr) (vc : Nat) (d : NodeD) : Prop where
  ks : Sl w Value.string ka d.keys
  vs : Sl w Value.string va d.vals
  kz : ∀ s ∈ d.keys, s.size ≤ maxLen
  vz : ∀ s ∈ d.vals, s.size ≤ maxLen
  kl : d.keys.length ≤ kc
  vl : d.vals.length ≤ vc
  km : d.keys.length ≤ maxLen
  vm : d.vals.length ≤ maxLen
section
variable {H : Type} {enc : TypeId × Value → H} {w : World}
set_option maxRecDepth 100000 in
theorem open_strs {spare : Nat → Bool} {held : Bool} {fuel : Nat} {cs : List Value} {x : DataW H × List MemPlace} (h : DataW.trod enc Try.prog w 0 spare held fuel 22 cs = some x) :
    ∃ a cap, ∃ l : List ByteArray, cs = [.slice a l.length cap] ∧ Sl w Value.string a l ∧ (∀ s ∈ l, s.size ≤ maxLen) ∧ l.length ≤ cap ∧ l.length ≤ maxLen := by
  rcases open_strings Try.underlying22 Try.underlying9 cellsStrN h with ⟨hcs, _⟩ | ⟨a, len, cap, zs, hcs, _, hl, hm, hz, _, hcell, hwz⟩
  · exact ⟨none, 0, [], hcs, Sl.nil, fun _ h => by simp at h, Nat.le_refl _, Nat.zero_le _⟩
  · have hlz : len ≤ zs.length := by rw [hz]; split <;> omega
    have hlen : (zs.take len).length = len := by rw [List.length_take]; omega
    refine ⟨some a, cap, zs.take len, by rw [hlen]; exact hcs, Sl.of fun i x hx => ?_, fun n hn => hwz n (List.mem_of_mem_take hn), by omega, by omega⟩
    have hi : i < len := by
      rcases Nat.lt_or_ge i len with h | h
      · exact h
      · rw [List.getElem?_eq_none (by omega)] at hx; cases hx
    rw [List.getElem?_take_of_lt hi] at hx
    rw [hcell i (by omega), List.getD, hx]
    rfl
set_option maxRecDepth 100000 in
theorem open_nodeL {spare : Nat → Bool} {held : Bool} {fuel : Nat} {cs : List Value} {x : DataW H × List MemPlace} (h : DataW.trod enc Try.prog w 0 spare held fuel 24 cs = some x) :
    ∃ ka kc va vc, ∃ d : NodeD, cs = [.bool d.leaf, .slice ka d.keys.length kc, .slice va d.vals.length vc] ∧ ArgN w ka kc va vc d := by
  obtain ⟨xs, n, _, _, hl, hlen, hfield⟩ := DataW.trod_struct Try.underlying24 h
  rw [cellsNodeN] at hl
  have g0 : DataW.trod enc Try.prog w 0 _ _ n 4 ((cs.drop 0).take (Try.prog.cellsOf 4)) = xs[0]? := hfield 0 _ rfl
  have g1 : DataW.trod enc Try.prog w 0 _ _ n 22 ((cs.drop 1).take (Try.prog.cellsOf 22)) = xs[1]? := hfield 1 _ rfl
  have g2 : DataW.trod enc Try.prog w 0 _ _ n 22 ((cs.drop 2).take (Try.prog.cellsOf 22)) = xs[2]? := hfield 2 _ rfl
  rw [cellsBoolN] at g0
  rw [cellsStrsN] at g1 g2
  have hlen3 : xs.length = 3 := hlen
  match cs, hl, xs, hlen3 with
  | [v0, v1, v2], _, [x0, x1, x2], _ =>
    obtain ⟨b, e0, _⟩ := DataW.trod_bool Try.underlying4 g0
    obtain ⟨ka, kc, ks, e1, s1, z1, l1, m1⟩ := open_strs g1
    obtain ⟨va, vc, vs, e2, s2, z2, l2, m2⟩ := open_strs g2
    simp at e0 e1 e2
    exact ⟨ka, kc, va, vc, ⟨b, ks, vs⟩, by rw [e0, e1, e2], s1, s2, z1, z2, l1, l2, m1, m2⟩
set_option maxRecDepth 100000 in
theorem open_node {base : Nat} {v : Value} {d : DataW H} {ps : List MemPlace} (hw : Value.okWide Try.prog w .any base 24 v) (h : DataW.Trod enc Try.prog w 0 (fun _ => true) true 24 v d ps) :
    ∃ ka kc va vc, ∃ d : NodeD, v = nodeV ka kc va vc d ∧ ArgN w ka kc va vc d := by
  obtain ⟨cs, rfl, _⟩ := okWide_struct Try.underlying24 hw
  obtain ⟨fuel, hf⟩ := h
  obtain ⟨ka, kc, va, vc, d, e, hd⟩ := open_nodeL hf
  obtain ⟨cl⟩ := cs
  simp [Value.cells] at e
  exact ⟨ka, kc, va, vc, d, by rw [e]; rfl, hd⟩
set_option maxRecDepth 100000 in
theorem open_case {base : Nat} {v : Value} {d : DataW H} {ps : List MemPlace} (hw : Value.okWide Try.prog w .any base 58 v) (h : DataW.Trod enc Try.prog w 0 (fun _ => true) true 58 v d ps) :
    ∃ ka kc va vc, ∃ (d : NodeD) (key val other : ByteArray), v = .agg #[.bool d.leaf, .slice ka d.keys.length kc, .slice va d.vals.length vc, .string key, .string val, .string other] ∧ ArgN w ka kc va vc d ∧ key.size ≤ maxLen ∧ val.size ≤ maxLen ∧ other.size ≤ maxLen := by
  obtain ⟨cs, rfl, _⟩ := okWide_struct Try.underlying58 hw
  obtain ⟨fuel, hf⟩ := h
  obtain ⟨xs, n, _, _, hl, hlen, hfield⟩ := DataW.trod_struct Try.underlying58 hf
  rw [cellsCaseN] at hl
  have g0 : DataW.trod enc Try.prog w 0 _ _ n 24 (((Value.agg cs).cells.toList.drop 0).take (Try.prog.cellsOf 24)) = xs[0]? := hfield 0 _ rfl
  have g1 : DataW.trod enc Try.prog w 0 _ _ n 9 (((Value.agg cs).cells.toList.drop 3).take (Try.prog.cellsOf 9)) = xs[1]? := hfield 1 _ rfl
  have g2 : DataW.trod enc Try.prog w 0 _ _ n 9 (((Value.agg cs).cells.toList.drop 4).take (Try.prog.cellsOf 9)) = xs[2]? := hfield 2 _ rfl
  have g3 : DataW.trod enc Try.prog w 0 _ _ n 9 (((Value.agg cs).cells.toList.drop 5).take (Try.prog.cellsOf 9)) = xs[3]? := hfield 3 _ rfl
  rw [cellsNodeN] at g0
  rw [cellsStrN] at g1 g2 g3
  obtain ⟨cl⟩ := cs
  have hlen4 : xs.length = 4 := hlen
  match cl, hl, xs, hlen4 with
  | [v0, v1, v2, v3, v4, v5], _, [x0, x1, x2, x3], _ =>
    obtain ⟨ka, kc, va, vc, d, e0, hd⟩ := open_nodeL g0
    obtain ⟨t1, e1, _, ht1⟩ := DataW.trod_string Try.underlying9 g1
    obtain ⟨t2, e2, _, ht2⟩ := DataW.trod_string Try.underlying9 g2
    obtain ⟨t3, e3, _, ht3⟩ := DataW.trod_string Try.underlying9 g3
    simp [Value.cells] at e0 e1 e2 e3
    exact ⟨ka, kc, va, vc, d, t1, t2, t3, by rw [e0.1, e0.2.1, e0.2.2, e1, e2, e3], hd, ht1, ht2, ht3⟩
end
end Go.Proofs.Ytlkkgboaicjaiaa
