/-
  Many touches, one behind the other: plain data.
-/
import Derived.Test.YtgdlnifncmiebaaHeatLive
import Derived.Test.YtgdlnifncmiebaaOpenHeat
import Derived.Deep.QuietTactic
import Derived.BigQuiet
namespace Go.Proofs.Ytgdlnifncmiebaa
open Go.RowKit Go.ChangeShapes Go.WideShapes Go.ChangeAt

theorem in64_of {n : Int} (h : (Lit.int .i64 n).wf = true) : In64 n := by
  unfold In64
  simp [Lit.wf, IntKind.min, IntKind.max, IntKind.bits, IntKind.signed] at h
  omega
def runH (l : List MkD) (s : List OpH) : List MkD := s.foldl (fun l x => touchM l x.2.1 x.2.2.1) l
theorem run_snoc (l : List MkD) (s : List OpH) (x : OpH) : runH l (s ++ [x]) = touchM (runH l s) x.2.1 x.2.2.1 := by unfold runH; rw [List.foldl_append]; rfl
theorem run_len : ∀ (s : List OpH) (l : List MkD), (runH l s).length ≤ l.length + s.length
  | [], _ => Nat.le_refl _
  | x :: r, l => by
    have h1 := run_len r (touchM l x.2.1 x.2.2.1)
    have h2 := touch_len (l := l) x.2.1 x.2.2.1
    show (runH (touchM l x.2.1 x.2.2.1) r).length ≤ _
    simp only [List.length_cons]
    omega
def OkS (s : List OpH) : Prop := ∀ x ∈ s, x.2.1.size ≤ maxLen ∧ In64 x.2.2.1
theorem run_ok : ∀ (s : List OpH) (l : List MkD), OkM l → OkS s → l.length + s.length ≤ 70000 → OkM (runH l s)
  | [], _, h, _, _ => h
  | x :: r, l, h, hs, hl => by
    have h2 := touch_len (l := l) x.2.1 x.2.2.1
    simp only [List.length_cons] at hl
    exact run_ok r (touchM l x.2.1 x.2.2.1) (touch_ok h x.2.1 (hs x (by simp)).2 (by omega)) (fun y hy => hs y (List.mem_cons_of_mem _ hy)) (by omega)
theorem okS_of {w : World} {a : Option Addr} {l : List OpH} (h : SlE w 4 OpHK a l) : OkS l := by
  intro x hx
  obtain ⟨i, hi, rfl⟩ := List.getElem_of_mem hx
  obtain ⟨_, _, _, _, _, _, _, _, h1, h2, _⟩ := h.hop (Below.refl _ _) i hi
  exact ⟨h1, in64_of h2⟩
theorem OkS.take {l : List OpH} (h : OkS l) (n : Nat) : OkS (l.take n) := fun x hx => h x (List.mem_of_mem_take hx)
end Go.Proofs.Ytgdlnifncmiebaa
