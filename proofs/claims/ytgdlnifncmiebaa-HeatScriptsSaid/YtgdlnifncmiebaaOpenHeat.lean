/-
  Arguments of the statements of package heat, opened: a slice of calls; a struct that holds one.
-/
import Derived.Test.YtgdlnifncmiebaaOpen
namespace Go.Proofs.Ytgdlnifncmiebaa
open Go.ChangeShapes Go.WideShapes Go.ChangeAt Go.RowKit

theorem cellsInt : Try.prog.cellsOf 3 = 1 := by kernel_rfl
theorem cellsStr : Try.prog.cellsOf 9 = 1 := by kernel_rfl
theorem cellsHOp : Try.prog.cellsOf 31 = 4 := by kernel_rfl
theorem cellsHOps : Try.prog.cellsOf 22 = 1 := by kernel_rfl
theorem cellsGone : Try.prog.cellsOf 45 = 4 := by kernel_rfl

/-- A call, as data: what, the key, when, how many. -/
abbrev OpH := Int × ByteArray × Int × Int
instance : Inhabited OpH := ⟨(0, ⟨#[]⟩, 0, 0)⟩
def OpHK (cs : List Value) (x : OpH) : Prop := cs = [.int .i64 x.1, .string x.2.1, .int .i64 x.2.2.1, .int .i64 x.2.2.2] ∧ x.2.1.size ≤ maxLen ∧ (Lit.int .i64 x.2.2.1).wf = true ∧ (Lit.int .i64 x.2.2.2).wf = true

section
variable {H : Type} {enc : TypeId × Value → H} {w : World}
set_option maxRecDepth 100000 in
theorem open_hop {held : Bool} {fuel : Nat} {cs : List Value} {x : DataW H × List MemPlace} (h : DataW.trod enc Try.prog w 0 (fun _ => true) held fuel 31 cs = some x) : ∃ y, OpHK cs y := by
  obtain ⟨xs, n, _, _, hl, hlen, hfield⟩ := DataW.trod_struct Try.underlying31 h
  rw [cellsHOp] at hl
  have g0 : DataW.trod enc Try.prog w 0 _ _ n 3 ((cs.drop 0).take (Try.prog.cellsOf 3)) = xs[0]? := hfield 0 _ rfl
  have g1 : DataW.trod enc Try.prog w 0 _ _ n 9 ((cs.drop 1).take (Try.prog.cellsOf 9)) = xs[1]? := hfield 1 _ rfl
  have g2 : DataW.trod enc Try.prog w 0 _ _ n 3 ((cs.drop 2).take (Try.prog.cellsOf 3)) = xs[2]? := hfield 2 _ rfl
  have g3 : DataW.trod enc Try.prog w 0 _ _ n 3 ((cs.drop 3).take (Try.prog.cellsOf 3)) = xs[3]? := hfield 3 _ rfl
  rw [cellsInt] at g0 g2 g3
  rw [cellsStr] at g1
  have hlen4 : xs.length = 4 := hlen
  match cs, hl, xs, hlen4 with
  | [v0, v1, v2, v3], _, [x0, x1, x2, x3], _ =>
    obtain ⟨b, e0, _, _⟩ := DataW.trod_int Try.underlying3 g0
    obtain ⟨t, e1, _, ht⟩ := DataW.trod_string Try.underlying9 g1
    obtain ⟨c, e2, _, hc⟩ := DataW.trod_int Try.underlying3 g2
    obtain ⟨d, e3, _, hd⟩ := DataW.trod_int Try.underlying3 g3
    simp at e0 e1 e2 e3
    exact ⟨(b, t, c, d), by rw [e0, e1, e2, e3], ht, hc, hd⟩

theorem open_hrow {held : Bool} {fuel : Nat} {cs : List Value} {x : DataW H × List MemPlace} (h : DataW.trod enc Try.prog w 0 (fun _ => true) held fuel 22 cs = some x) : ∃ a cap, ∃ l : List OpH, cs = [.slice a l.length cap] ∧ SlE w 4 OpHK a l ∧ l.length ≤ maxLen :=
  open_slE (n := 4) OpHK Try.underlying22 cellsHOp (by decide) (fun _ _ _ h => open_hop h) h
set_option maxRecDepth 100000 in
theorem open_hops {base : Nat} {v : Value} {d : DataW H} {ps : List MemPlace} (hw : Value.okWide Try.prog w .any base 22 v) (h : DataW.Trod enc Try.prog w 0 (fun _ => true) true 22 v d ps) :
    ∃ a cap, ∃ l : List OpH, v = .slice a l.length cap ∧ SlE w 4 OpHK a l ∧ l.length ≤ maxLen := by
  obtain ⟨a0, len, cap, rfl⟩ := okWide_slice Try.underlying22 hw
  obtain ⟨fuel, hf⟩ := h
  obtain ⟨a, cap', l, e, hs, hm⟩ := open_hrow hf
  simp [Value.cells] at e
  obtain ⟨rfl, rfl, rfl⟩ := e
  exact ⟨_, _, l, rfl, hs, hm⟩
set_option maxRecDepth 100000 in
theorem open_gone {base : Nat} {v : Value} {d : DataW H} {ps : List MemPlace} (hw : Value.okWide Try.prog w .any base 45 v) (h : DataW.Trod enc Try.prog w 0 (fun _ => true) true 45 v d ps) :
    ∃ ka kc, ∃ (l : List OpH) (a b : ByteArray) (t : Int), v = .agg #[.slice ka l.length kc, .string a, .string b, .int .i64 t] ∧ SlE w 4 OpHK ka l ∧ l.length ≤ maxLen ∧ a.size ≤ maxLen ∧ b.size ≤ maxLen ∧ (Lit.int .i64 t).wf = true := by
  obtain ⟨cs, rfl, _⟩ := okWide_struct Try.underlying45 hw
  obtain ⟨fuel, hf⟩ := h
  obtain ⟨xs, n, _, _, hl, hlen, hfield⟩ := DataW.trod_struct Try.underlying45 hf
  rw [cellsGone] at hl
  have g0 : DataW.trod enc Try.prog w 0 _ _ n 22 (((Value.agg cs).cells.toList.drop 0).take (Try.prog.cellsOf 22)) = xs[0]? := hfield 0 _ rfl
  have g1 : DataW.trod enc Try.prog w 0 _ _ n 9 (((Value.agg cs).cells.toList.drop 1).take (Try.prog.cellsOf 9)) = xs[1]? := hfield 1 _ rfl
  have g2 : DataW.trod enc Try.prog w 0 _ _ n 9 (((Value.agg cs).cells.toList.drop 2).take (Try.prog.cellsOf 9)) = xs[2]? := hfield 2 _ rfl
  have g3 : DataW.trod enc Try.prog w 0 _ _ n 3 (((Value.agg cs).cells.toList.drop 3).take (Try.prog.cellsOf 3)) = xs[3]? := hfield 3 _ rfl
  rw [cellsHOps] at g0
  rw [cellsStr] at g1 g2
  rw [cellsInt] at g3
  obtain ⟨cl⟩ := cs
  have hlen4 : xs.length = 4 := hlen
  match cl, hl, xs, hlen4 with
  | [v0, v1, v2, v3], _, [x0, x1, x2, x3], _ =>
    obtain ⟨ka, kc, l, e0, hs, hm⟩ := open_hrow g0
    obtain ⟨a, e1, _, ha⟩ := DataW.trod_string Try.underlying9 g1
    obtain ⟨b, e2, _, hb⟩ := DataW.trod_string Try.underlying9 g2
    obtain ⟨t, e3, _, ht⟩ := DataW.trod_int Try.underlying3 g3
    simp [Value.cells] at e0 e1 e2 e3
    exact ⟨ka, kc, l, a, b, t, by rw [e0, e1, e2, e3], hs, hm, ha, hb, ht⟩
end
/-- The cells of the i-th call, in any world behind. -/
theorem SlE.hop {w w' : World} {a : Option Addr} {l : List OpH} (h : SlE w 4 OpHK a l) (hb : Below w.heap.size w w') (i : Nat) (hi : i < l.length) : ∃ b off, a = some ⟨b, off, none⟩ ∧ b < w.heap.size ∧
    w'.cell? ⟨b, off + i * 4, none⟩ = some (.int .i64 l[i].1) ∧ w'.cell? ⟨b, off + i * 4 + 1, none⟩ = some (.string l[i].2.1) ∧ w'.cell? ⟨b, off + i * 4 + 2, none⟩ = some (.int .i64 l[i].2.2.1) ∧ w'.cell? ⟨b, off + i * 4 + 3, none⟩ = some (.int .i64 l[i].2.2.2) ∧
    l[i].2.1.size ≤ maxLen ∧ (Lit.int .i64 l[i].2.2.1).wf = true ∧ (Lit.int .i64 l[i].2.2.2).wf = true := by
  obtain ⟨b, off, e, hl, hc⟩ := h (by intro h; rw [h] at hi; simp at hi)
  obtain ⟨cs, _, ⟨rfl, h1, h2, h3⟩, hcell⟩ := hc i l[i] (List.getElem?_eq_getElem hi)
  exact ⟨b, off, e, hl, (hb.cell (p := ⟨b, off + i * 4, none⟩) hl).trans (hcell 0 _ rfl), (hb.cell (p := ⟨b, off + i * 4 + 1, none⟩) hl).trans (hcell 1 _ rfl), (hb.cell (p := ⟨b, off + i * 4 + 2, none⟩) hl).trans (hcell 2 _ rfl), (hb.cell (p := ⟨b, off + i * 4 + 3, none⟩) hl).trans (hcell 3 _ rfl), h1, h2, h3⟩
end Go.Proofs.Ytgdlnifncmiebaa
