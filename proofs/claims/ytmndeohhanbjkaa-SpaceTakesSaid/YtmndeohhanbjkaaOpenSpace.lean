/-
  Arguments of the statements of package space, opened: a run; a slice of runs.
-/
import Derived.Test.YtmndeohhanbjkaaOpen
import Derived.Test.YtmndeohhanbjkaaSpaceB
namespace Go.Proofs.Ytmndeohhanbjkaa
open Go.ChangeShapes Go.WideShapes Go.ChangeAt Go.RowKit

theorem cellsRunR : Try.prog.cellsOf 39 = 2 := by kernel_rfl
theorem cellsIntR : Try.prog.cellsOf 3 = 1 := by kernel_rfl
section
variable {H : Type} {enc : TypeId × Value → H} {w : World}
set_option maxRecDepth 100000 in
theorem open_runC {spare : Nat → Bool} {held : Bool} {fuel : Nat} {cs : List Value} {x : DataW H × List MemPlace} (h : DataW.trod enc Try.prog w 0 spare held fuel 39 cs = some x) : ∃ y, PairI cs y :=
  open_pairI Try.underlying39 cellsRunR rfl rfl rfl rfl cellsIntR cellsIntR Try.underlying3 Try.underlying3 h
theorem open_run {base : Nat} {v : Value} {d : DataW H} {ps : List MemPlace} (hw : Value.okWide Try.prog w .any base 39 v) (h : DataW.Trod enc Try.prog w 0 (fun _ => true) true 39 v d ps) :
    ∃ y : Int × Int, v = .agg #[.int .i64 y.1, .int .i64 y.2] ∧ WfP [y] := by
  obtain ⟨cs, rfl, _⟩ := okWide_struct Try.underlying39 hw
  obtain ⟨fuel, hf⟩ := h
  obtain ⟨y, hy, h1, h2⟩ := open_runC hf
  obtain ⟨cl⟩ := cs
  simp [Value.cells] at hy
  exact ⟨y, by rw [hy], fun x hx => by rw [List.mem_singleton.1 hx]; exact ⟨h1, h2⟩⟩
set_option maxRecDepth 100000 in
theorem open_runs {base : Nat} {v : Value} {d : DataW H} {ps : List MemPlace} (hw : Value.okWide Try.prog w .any base 22 v) (h : DataW.Trod enc Try.prog w 0 (fun _ => true) true 22 v d ps) :
    ∃ a cap, ∃ l : List (Int × Int), v = .slice a l.length cap ∧ SlP w a l ∧ l.length ≤ maxLen ∧ WfP l := by
  obtain ⟨a0, len, cap, rfl⟩ := okWide_slice Try.underlying22 hw
  obtain ⟨fuel, hf⟩ := h
  obtain ⟨a, cap', l, e, hs, hm⟩ := open_slE (n := 2) PairI Try.underlying22 cellsRunR (by decide) (fun _ _ _ h => open_runC h) hf
  simp [Value.cells] at e
  obtain ⟨rfl, rfl, rfl⟩ := e
  refine ⟨_, _, l, rfl, ?_, hm, ?_⟩
  · intro hne
    obtain ⟨b, off, e, hl, hc⟩ := hs hne
    refine ⟨b, off, e, hl, fun i x hx => ?_⟩
    obtain ⟨cs, _, ⟨rfl, _, _⟩, hcell⟩ := hc i x hx
    exact ⟨by simpa using hcell 0 _ rfl, hcell 1 _ rfl⟩
  · intro x hx
    obtain ⟨i, hi, rfl⟩ := List.getElem_of_mem hx
    obtain ⟨b, off, e, hl, hc⟩ := hs (by intro e; rw [e] at hi; simp at hi)
    obtain ⟨cs, _, ⟨_, h1, h2⟩, _⟩ := hc i _ (List.getElem?_eq_getElem hi)
    exact ⟨h1, h2⟩
end
end Go.Proofs.Ytmndeohhanbjkaa
