/-
  Contracts of package space: Give.
-/
import Derived.Test.YtmndeohhanbjkaaSpaceGiveN
import Derived.Test.YtmndeohhanbjkaaSpaceGiveM
import Derived.Test.YtmndeohhanbjkaaSpaceGiveF
import Derived.Deep.RegionHeld3
import Derived.Deep.RegionLaw
import Derived.Deep.RegionWith
import Derived.Deep.QuietTactic
import Derived.BigQuiet
namespace Go.Proofs.Ytmndeohhanbjkaa
open Go.RowKit Go.ChangeShapes Go.WideShapes Go.ChangeAt

theorem give_any (lv : Value) (l : List (Int × Int)) (r : Int × Int) (w : World) (b0 : Nat) (hl : Prs 46 w b0 lv l) (hlen : l.length ≤ 1000) (hw : WfP l) (hr : WfP [r]) :
    Calls Try.prog 22 #[lv, .agg #[.int .i64 r.1, .int .i64 r.2]] w (GvRes 46 w.heap.size w (giveL l r)) := by
  rcases hl.view with ⟨e0, _⟩ | ⟨g, cap, e0, hc, _⟩
  · exact give_nil lv l r w b0 hl hlen hw hr e0
  · have hn : lv ≠ .slice none 0 0 := by rw [e0]; simp
    have hle : giveF l r ≤ l.length := from_le _ _
    by_cases h : giveF l r < cap
    · refine give_mid lv l r w b0 hl hlen hw hr hn fun g' cap' e => ?_
      rw [e0] at e
      injection e with _ _ e
      omega
    · refine give_full lv l r w b0 hl hlen hw hr hn fun g' cap' e => ?_
      rw [e0] at e
      injection e with _ _ e
      omega
end Go.Proofs.Ytmndeohhanbjkaa
