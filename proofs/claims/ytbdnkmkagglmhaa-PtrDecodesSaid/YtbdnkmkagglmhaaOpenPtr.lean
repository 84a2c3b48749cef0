/-
  An argument that is a pointer (package api's Ptr), opened.
-/
import Derived.Test.YtbdnkmkagglmhaaOpen
import Derived.Test.YtbdnkmkagglmhaaPtrPlain
namespace Go.Proofs.Ytbdnkmkagglmhaa
open Go.ChangeShapes Go.WideShapes Go.ChangeAt Go.RowKit

theorem cellsLoc : Try.prog.cellsOf 29 = 2 := by kernel_rfl
theorem cellsInt : Try.prog.cellsOf 3 = 1 := by kernel_rfl
theorem cellsStr : Try.prog.cellsOf 9 = 1 := by kernel_rfl
theorem cellsLocs : Try.prog.cellsOf 35 = 1 := by kernel_rfl
theorem cellsPtr : Try.prog.cellsOf 59 = 4 := by kernel_rfl

section
variable {H : Type} {enc : TypeId × Value → H} {w : World}

set_option maxRecDepth 100000 in
theorem open_loc {spare : Nat → Bool} {held : Bool} {fuel : Nat} {cs : List Value} {x : DataW H × List MemPlace} (h : DataW.trod enc Try.prog w 0 spare held fuel 29 cs = some x) : ∃ y, PairI cs y :=
  open_pairI Try.underlying29 cellsLoc rfl rfl rfl rfl cellsInt cellsInt Try.underlying3 Try.underlying3 h

theorem slP_of {a : Option Addr} {l : List (Int × Int)} (h : SlE w 2 PairI a l) : SlP w a l := by
  intro hne
  obtain ⟨b, off, e, hl, hc⟩ := h hne
  refine ⟨b, off, e, hl, fun i x hx => ?_⟩
  obtain ⟨cs, _, ⟨rfl, _, _⟩, hcell⟩ := hc i x hx
  exact ⟨by simpa using hcell 0 _ rfl, hcell 1 _ rfl⟩

set_option maxRecDepth 100000 in
theorem open_locs {spare : Nat → Bool} {held : Bool} {fuel : Nat} {cs : List Value} {x : DataW H × List MemPlace} (h : DataW.trod enc Try.prog w 0 spare held fuel 35 cs = some x) :
    ∃ a cap, ∃ l : List (Int × Int), cs = [.slice a l.length cap] ∧ SlP w a l ∧ l.length ≤ maxLen := by
  obtain ⟨a, cap, l, h1, h2, h3⟩ := open_slE (n := 2) PairI Try.underlying35 cellsLoc (by decide) (fun _ _ _ h => open_loc h) h
  exact ⟨a, cap, l, h1, slP_of h2, h3⟩

set_option maxRecDepth 100000 in
theorem open_ptr {base : Nat} {v : Value} {d : DataW H} {ps : List MemPlace} (hw : Value.okWide Try.prog w .any base 59 v) (h : DataW.Trod enc Try.prog w 0 (fun _ => true) true 59 v d ps) :
    ∃ a cap p, v = ptrV a cap p ∧ SlP w a p.locs ∧ p.locs.length ≤ maxLen ∧ p.sum.size ≤ maxLen := by
  obtain ⟨cs, rfl, _⟩ := okWide_struct Try.underlying59 hw
  obtain ⟨fuel, hf⟩ := h
  obtain ⟨xs, n, _, _, hl, hlen, hfield⟩ := DataW.trod_struct Try.underlying59 hf
  rw [cellsPtr] at hl
  have g0 : DataW.trod enc Try.prog w 0 _ _ n 35 (((Value.agg cs).cells.toList.drop 0).take (Try.prog.cellsOf 35)) = xs[0]? := hfield 0 _ rfl
  have g1 : DataW.trod enc Try.prog w 0 _ _ n 3 (((Value.agg cs).cells.toList.drop 1).take (Try.prog.cellsOf 3)) = xs[1]? := hfield 1 _ rfl
  have g2 : DataW.trod enc Try.prog w 0 _ _ n 3 (((Value.agg cs).cells.toList.drop 2).take (Try.prog.cellsOf 3)) = xs[2]? := hfield 2 _ rfl
  have g3 : DataW.trod enc Try.prog w 0 _ _ n 9 (((Value.agg cs).cells.toList.drop 3).take (Try.prog.cellsOf 9)) = xs[3]? := hfield 3 _ rfl
  rw [cellsLocs] at g0
  rw [cellsInt] at g1 g2
  rw [cellsStr] at g3
  obtain ⟨cl⟩ := cs
  have hlen4 : xs.length = 4 := hlen
  match cl, hl, xs, hlen4 with
  | [v0, v1, v2, v3], _, [x0, x1, x2, x3], _ =>
    obtain ⟨a, cap, l, e0, hs, hm⟩ := open_locs g0
    obtain ⟨b, e1, _, _⟩ := DataW.trod_int Try.underlying3 g1
    obtain ⟨c, e2, _, _⟩ := DataW.trod_int Try.underlying3 g2
    obtain ⟨t, e3, _, ht⟩ := DataW.trod_string Try.underlying9 g3
    simp [Value.cells] at e0 e1 e2 e3
    exact ⟨a, cap, ⟨l, b, c, t⟩, by rw [e0, e1, e2, e3]; rfl, hs, hm, ht⟩
end
end Go.Proofs.Ytbdnkmkagglmhaa
