/-
  Arguments of the statements of package class, opened: a policy; a block that is asked for; four numbers.
-/
import Derived.Test.YtjacogadmdjfcaaClassA
namespace Go.Proofs.Ytjacogadmdjfcaa
open Go.ChangeShapes Go.WideShapes Go.ChangeAt Go.RowKit

theorem cellsInt : Try.prog.cellsOf 3 = 1 := by kernel_rfl
theorem cellsBool : Try.prog.cellsOf 4 = 1 := by kernel_rfl
theorem cellsInts : Try.prog.cellsOf 24 = 1 := by kernel_rfl
theorem cellsPol : Try.prog.cellsOf 23 = 5 := by kernel_rfl
theorem cellsAsk : Try.prog.cellsOf 26 = 8 := by kernel_rfl
theorem cellsFour : Try.prog.cellsOf 38 = 4 := by kernel_rfl

section
variable {H : Type} {enc : TypeId × Value → H} {w : World}

set_option maxRecDepth 100000 in
theorem open_polC {held : Bool} {fuel : Nat} {cs : List Value} {x : DataW H × List MemPlace} (h : DataW.trod enc Try.prog w 0 (fun _ => true) held fuel 23 cs = some x) :
    ∃ p : PolD, cs = [.bool p.mf, .bool p.mi, .int .i64 p.small, .int .i64 p.arc, .int .i64 p.second] := by
  obtain ⟨xs, n, _, _, hl, hlen, hfield⟩ := DataW.trod_struct Try.underlying23 h
  rw [cellsPol] at hl
  have g0 : DataW.trod enc Try.prog w 0 _ _ n 4 ((cs.drop 0).take (Try.prog.cellsOf 4)) = xs[0]? := hfield 0 _ rfl
  have g1 : DataW.trod enc Try.prog w 0 _ _ n 4 ((cs.drop 1).take (Try.prog.cellsOf 4)) = xs[1]? := hfield 1 _ rfl
  have g2 : DataW.trod enc Try.prog w 0 _ _ n 3 ((cs.drop 2).take (Try.prog.cellsOf 3)) = xs[2]? := hfield 2 _ rfl
  have g3 : DataW.trod enc Try.prog w 0 _ _ n 3 ((cs.drop 3).take (Try.prog.cellsOf 3)) = xs[3]? := hfield 3 _ rfl
  have g4 : DataW.trod enc Try.prog w 0 _ _ n 3 ((cs.drop 4).take (Try.prog.cellsOf 3)) = xs[4]? := hfield 4 _ rfl
  rw [cellsInt] at g2 g3 g4
  rw [cellsBool] at g0 g1
  have hlen5 : xs.length = 5 := hlen
  match cs, hl, xs, hlen5 with
  | [v0, v1, v2, v3, v4], _, [x0, x1, x2, x3, x4], _ =>
    obtain ⟨b0, e0, _⟩ := DataW.trod_bool Try.underlying4 g0
    obtain ⟨b1, e1, _⟩ := DataW.trod_bool Try.underlying4 g1
    obtain ⟨i2, e2, _, _⟩ := DataW.trod_int Try.underlying3 g2
    obtain ⟨i3, e3, _, _⟩ := DataW.trod_int Try.underlying3 g3
    obtain ⟨i4, e4, _, _⟩ := DataW.trod_int Try.underlying3 g4
    simp at e0 e1 e2 e3 e4
    exact ⟨⟨b0, b1, i2, i3, i4⟩, by rw [e0, e1, e2, e3, e4]⟩

theorem open_pol {base : Nat} {v : Value} {d : DataW H} {ps : List MemPlace} (hw : Value.okWide Try.prog w .any base 23 v) (h : DataW.Trod enc Try.prog w 0 (fun _ => true) true 23 v d ps) :
    ∃ p : PolD, v = .agg #[.bool p.mf, .bool p.mi, .int .i64 p.small, .int .i64 p.arc, .int .i64 p.second] := by
  obtain ⟨cs, rfl, _⟩ := okWide_struct Try.underlying23 hw
  obtain ⟨fuel, hf⟩ := h
  obtain ⟨p, hp⟩ := open_polC hf
  obtain ⟨cl⟩ := cs
  simp [Value.cells] at hp
  exact ⟨p, by rw [hp]⟩

set_option maxRecDepth 100000 in
theorem open_four {base : Nat} {v : Value} {d : DataW H} {ps : List MemPlace} (hw : Value.okWide Try.prog w .any base 38 v) (h : DataW.Trod enc Try.prog w 0 (fun _ => true) true 38 v d ps) :
    ∃ a b c e : Int, v = .agg #[.int .i64 a, .int .i64 b, .int .i64 c, .int .i64 e] := by
  obtain ⟨cs, rfl, _⟩ := okWide_struct Try.underlying38 hw
  obtain ⟨fuel, hf⟩ := h
  obtain ⟨xs, n, _, _, hl, hlen, hfield⟩ := DataW.trod_struct Try.underlying38 hf
  rw [cellsFour] at hl
  have g0 : DataW.trod enc Try.prog w 0 _ _ n 3 (((Value.agg cs).cells.toList.drop 0).take (Try.prog.cellsOf 3)) = xs[0]? := hfield 0 _ rfl
  have g1 : DataW.trod enc Try.prog w 0 _ _ n 3 (((Value.agg cs).cells.toList.drop 1).take (Try.prog.cellsOf 3)) = xs[1]? := hfield 1 _ rfl
  have g2 : DataW.trod enc Try.prog w 0 _ _ n 3 (((Value.agg cs).cells.toList.drop 2).take (Try.prog.cellsOf 3)) = xs[2]? := hfield 2 _ rfl
  have g3 : DataW.trod enc Try.prog w 0 _ _ n 3 (((Value.agg cs).cells.toList.drop 3).take (Try.prog.cellsOf 3)) = xs[3]? := hfield 3 _ rfl
  rw [cellsInt] at g0 g1 g2 g3
  obtain ⟨cl⟩ := cs
  have hlen4 : xs.length = 4 := hlen
  match cl, hl, xs, hlen4 with
  | [v0, v1, v2, v3], _, [x0, x1, x2, x3], _ =>
    obtain ⟨i0, e0, _, _⟩ := DataW.trod_int Try.underlying3 g0
    obtain ⟨i1, e1, _, _⟩ := DataW.trod_int Try.underlying3 g1
    obtain ⟨i2, e2, _, _⟩ := DataW.trod_int Try.underlying3 g2
    obtain ⟨i3, e3, _, _⟩ := DataW.trod_int Try.underlying3 g3
    simp [Value.cells] at e0 e1 e2 e3
    exact ⟨i0, i1, i2, i3, by rw [e0, e1, e2, e3]⟩

set_option maxRecDepth 100000 in
theorem open_ints1 {held : Bool} {fuel : Nat} {cs : List Value} {x : DataW H × List MemPlace} (h : DataW.trod enc Try.prog w 0 (fun _ => true) held fuel 24 cs = some x) :
    ∃ a cap, ∃ l : List Int, cs = [.slice a l.length cap] ∧ Sl w (Value.int .i64) a l ∧ l.length ≤ maxLen := by
  rcases open_ints Try.underlying24 Try.underlying3 cellsInt h with ⟨hcs, _⟩ | ⟨a, len', cap', zs, hcs, _, hl, hm, hz, _, hcell, hwz⟩
  · exact ⟨none, 0, [], by rw [hcs]; rfl, Sl.nil, Nat.zero_le _⟩
  · simp only [if_true] at hz
    have hle : len' ≤ zs.length := by
      rw [hz]
      omega
    have hlen : (zs.take len').length = len' := by rw [List.length_take]; omega
    refine ⟨some a, cap', zs.take len', by rw [hcs, hlen], Sl.of fun i x hx => ?_, by omega⟩
    have hi : i < len' := by
      rcases Nat.lt_or_ge i len' with h | h
      · exact h
      · rw [List.getElem?_eq_none (by omega)] at hx; cases hx
    rw [List.getElem?_take_of_lt hi] at hx
    rw [hcell i (by omega), List.getD, hx]
    rfl

set_option maxRecDepth 100000 in
theorem open_ask {base : Nat} {v : Value} {d : DataW H} {ps : List MemPlace} (hw : Value.okWide Try.prog w .any base 26 v) (h : DataW.Trod enc Try.prog w 0 (fun _ => true) true 26 v d ps) :
    ∃ (p : PolD) (k s : Int) (a : Option Addr) (c : Nat) (l : List Int), v = .agg #[.bool p.mf, .bool p.mi, .int .i64 p.small, .int .i64 p.arc, .int .i64 p.second, .int .i64 k, .int .i64 s, .slice a l.length c] ∧ Sl w (Value.int .i64) a l ∧ l.length ≤ maxLen := by
  obtain ⟨cs, rfl, _⟩ := okWide_struct Try.underlying26 hw
  obtain ⟨fuel, hf⟩ := h
  obtain ⟨xs, n, _, _, hl, hlen, hfield⟩ := DataW.trod_struct Try.underlying26 hf
  rw [cellsAsk] at hl
  have g0 : DataW.trod enc Try.prog w 0 _ _ n 23 (((Value.agg cs).cells.toList.drop 0).take (Try.prog.cellsOf 23)) = xs[0]? := hfield 0 _ rfl
  have g1 : DataW.trod enc Try.prog w 0 _ _ n 3 (((Value.agg cs).cells.toList.drop 5).take (Try.prog.cellsOf 3)) = xs[1]? := hfield 1 _ rfl
  have g2 : DataW.trod enc Try.prog w 0 _ _ n 3 (((Value.agg cs).cells.toList.drop 6).take (Try.prog.cellsOf 3)) = xs[2]? := hfield 2 _ rfl
  have g3 : DataW.trod enc Try.prog w 0 _ _ n 24 (((Value.agg cs).cells.toList.drop 7).take (Try.prog.cellsOf 24)) = xs[3]? := hfield 3 _ rfl
  rw [cellsPol] at g0
  rw [cellsInt] at g1 g2
  rw [cellsInts] at g3
  obtain ⟨cl⟩ := cs
  have hlen4 : xs.length = 4 := hlen
  match cl, hl, xs, hlen4 with
  | [v0, v1, v2, v3, v4, v5, v6, v7], _, [x0, x1, x2, x3], _ =>
    obtain ⟨p, e0⟩ := open_polC g0
    obtain ⟨i1, e1, _, _⟩ := DataW.trod_int Try.underlying3 g1
    obtain ⟨i2, e2, _, _⟩ := DataW.trod_int Try.underlying3 g2
    obtain ⟨a, c, l, e3, hs, hm⟩ := open_ints1 g3
    simp [Value.cells] at e0 e1 e2 e3
    obtain ⟨q0, q1, q2, q3, q4⟩ := e0
    exact ⟨p, i1, i2, a, c, l, by rw [q0, q1, q2, q3, q4, e1, e2, e3], hs, hm⟩
end
end Go.Proofs.Ytjacogadmdjfcaa
