/-
  Arguments of the statements of package arc, opened: a slice of calls.
-/
import Derived.Test.YtnfdcjchobonaaaOpen
namespace Go.Proofs.Ytnfdcjchobonaaa
open Go.ChangeShapes Go.WideShapes Go.ChangeAt Go.RowKit

theorem cellsInt : Try.prog.cellsOf 3 = 1 := by kernel_rfl
theorem cellsStr : Try.prog.cellsOf 9 = 1 := by kernel_rfl
theorem cellsOp : Try.prog.cellsOf 29 = 2 := by kernel_rfl

/-- A call, as data: what, and the key. -/
abbrev OpA := Int × ByteArray
instance : Inhabited OpA := ⟨(0, ⟨#[]⟩)⟩
def OpK (cs : List Value) (x : OpA) : Prop := cs = [.int .i64 x.1, .string x.2]

section
variable {H : Type} {enc : TypeId × Value → H} {w : World}
set_option maxRecDepth 100000 in
theorem open_aop {held : Bool} {fuel : Nat} {cs : List Value} {x : DataW H × List MemPlace} (h : DataW.trod enc Try.prog w 0 (fun _ => true) held fuel 29 cs = some x) : ∃ y, OpK cs y := by
  obtain ⟨xs, n, _, _, hl, hlen, hfield⟩ := DataW.trod_struct Try.underlying29 h
  rw [cellsOp] at hl
  have g0 : DataW.trod enc Try.prog w 0 _ _ n 3 ((cs.drop 0).take (Try.prog.cellsOf 3)) = xs[0]? := hfield 0 _ rfl
  have g1 : DataW.trod enc Try.prog w 0 _ _ n 9 ((cs.drop 1).take (Try.prog.cellsOf 9)) = xs[1]? := hfield 1 _ rfl
  rw [cellsInt] at g0
  rw [cellsStr] at g1
  have hlen2 : xs.length = 2 := hlen
  match cs, hl, xs, hlen2 with
  | [v0, v1], _, [x0, x1], _ =>
    obtain ⟨b, e0, _, _⟩ := DataW.trod_int Try.underlying3 g0
    obtain ⟨t, e1, _, ht⟩ := DataW.trod_string Try.underlying9 g1
    simp at e0 e1
    exact ⟨(b, t), by simp [OpK, e0, e1]⟩

set_option maxRecDepth 100000 in
theorem open_aops {base : Nat} {v : Value} {d : DataW H} {ps : List MemPlace} (hw : Value.okWide Try.prog w .any base 22 v) (h : DataW.Trod enc Try.prog w 0 (fun _ => true) true 22 v d ps) :
    ∃ a cap, ∃ l : List OpA, v = .slice a l.length cap ∧ SlE w 2 OpK a l ∧ l.length ≤ maxLen := by
  obtain ⟨a0, len, cap, rfl⟩ := okWide_slice Try.underlying22 hw
  obtain ⟨fuel, hf⟩ := h
  obtain ⟨a, cap', l, e, hs, hm⟩ := open_slE (n := 2) OpK Try.underlying22 cellsOp (by decide) (fun _ _ _ h => open_aop h) hf
  simp [Value.cells] at e
  obtain ⟨rfl, rfl, rfl⟩ := e
  exact ⟨_, _, l, rfl, hs, hm⟩
end
/-- The cells of the i-th call, in any world behind. -/
theorem SlE.aop {w w' : World} {a : Option Addr} {l : List OpA} (h : SlE w 2 OpK a l) (hb : Below w.heap.size w w') (i : Nat) (hi : i < l.length) : ∃ b off, a = some ⟨b, off, none⟩ ∧ b < w.heap.size ∧
    w'.cell? ⟨b, off + i * 2, none⟩ = some (.int .i64 l[i].1) ∧ w'.cell? ⟨b, off + i * 2 + 1, none⟩ = some (.string l[i].2) := by
  obtain ⟨b, off, e, hl, hc⟩ := h (by intro h; rw [h] at hi; simp at hi)
  obtain ⟨cs, _, hk, hcell⟩ := hc i l[i] (List.getElem?_eq_getElem hi)
  unfold OpK at hk
  subst hk
  exact ⟨b, off, e, hl, (hb.cell (p := ⟨b, off + i * 2, none⟩) hl).trans (hcell 0 _ rfl), (hb.cell (p := ⟨b, off + i * 2 + 1, none⟩) hl).trans (hcell 1 _ rfl)⟩
end Go.Proofs.Ytnfdcjchobonaaa
