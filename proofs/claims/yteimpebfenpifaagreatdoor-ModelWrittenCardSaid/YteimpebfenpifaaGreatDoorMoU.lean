/-
  Package model: made, doings, New.
-/
import Derived.Test.YteimpebfenpifaaGreatDoorMoT
import Derived.Deep.WholeRow
namespace Go.Proofs.YteimpebfenpifaaGreatDoor
open Go Go.RowKit Go.ChangeShapes Go.WideShapes Go.ChangeAt

set_option maxRecDepth 100000 in
theorem made_any {x : TrD} {w : World} (h : TrAt w x) : Calls Tryz.prog 27 #[.pointer (some ⟨x.b, 0, none⟩)] w fun e w' => e = .returned (.bool true) ∧ w' = w := by
  have t0 : w.cell? ⟨x.b, 0, none⟩ = some (.map (some x.m)) := h.box.cell 0 _ rfl
  have hq : (binOp BinOp.neq 56 (.map (some x.m)) (.map none)).run Tryz.prog w = .ok (.bool true) w := by kernel_rfl
  have hq : (binOp BinOp.neq 56 (.map (some x.m)) (.map none)).run Tryz.prog w = .ok (.bool true) w := by kernel_rfl
  clear h
  go_enter Tryz.func27, Tryz.ntmps27
  go_wp2
  go_ret
  exact ⟨rfl, rfl⟩
set_option maxRecDepth 100000 in
theorem made_nil (w : World) : Calls Tryz.prog 27 #[.pointer none] w fun e w' => e = .returned (.bool false) ∧ w' = w := by
  go_enter Tryz.func27, Tryz.ntmps27
  go_wp2
  go_ret
  exact ⟨rfl, rfl⟩
/-- The table of what may be asked. -/
def doingsA : Array Value := #[.func (.func 44) #[] #[], .func (.func 45) #[] #[], .func (.func 46) #[] #[], .func (.func 47) #[] #[], .func (.func 48) #[] #[], .func (.func 49) #[] #[], .func (.func 50) #[] #[], .func (.func 51) #[] #[], .func (.func 52) #[] #[], .func (.func 53) #[] #[], .func (.func 54) #[] #[]]
def nilsA : Array Value := #[.nilFunc, .nilFunc, .nilFunc, .nilFunc, .nilFunc, .nilFunc, .nilFunc, .nilFunc, .nilFunc, .nilFunc, .nilFunc]
theorem sizeDo : (Tryz.prog.info? 71).map (·.size) = some 11 := by kernel_rfl
theorem table_store {w : World} {ops : Array Oper} {rest : List Oper} {o : Oper} {a : Act} {Q : Exit → Act → World → Prop} (hg : o.guard = none) (x y : Operand) (ho : o.op = Op.store 71 x y)
    (hx : a.eval x = .pointer (some ⟨w.heap.size, 0, none⟩)) (hy : a.eval y = .agg #[.func (.func 44) #[] #[], .func (.func 45) #[] #[], .func (.func 46) #[] #[], .func (.func 47) #[] #[], .func (.func 48) #[] #[], .func (.func 49) #[] #[], .func (.func 50) #[] #[], .func (.func 51) #[] #[], .func (.func 52) #[] #[], .func (.func 53) #[] #[], .func (.func 54) #[] #[]]) (h : wpList Tryz.prog ops Q rest (a.put o.dst undef) (w.alloc (.cells #[.func (.func 44) #[] #[], .func (.func 45) #[] #[], .func (.func 46) #[] #[], .func (.func 47) #[] #[], .func (.func 48) #[] #[], .func (.func 49) #[] #[], .func (.func 50) #[] #[], .func (.func 51) #[] #[], .func (.func 52) #[] #[], .func (.func 53) #[] #[], .func (.func 54) #[] #[]] 71))) : wpList Tryz.prog ops Q (o :: rest) a (w.alloc (.cells #[.nilFunc, .nilFunc, .nilFunc, .nilFunc, .nilFunc, .nilFunc, .nilFunc, .nilFunc, .nilFunc, .nilFunc, .nilFunc] 71)) := by
  refine wpList_plain hg fun _ hK => wp_store_row 71 x y ho w.heap.size doingsA hx hy 71 nilsA (heap_alloc_last w _) sizeDo rfl (by unfold doingsA; simp [Value.oneCell']) (hK _ _ ?_)
  rw [show (w.alloc (.cells #[.nilFunc, .nilFunc, .nilFunc, .nilFunc, .nilFunc, .nilFunc, .nilFunc, .nilFunc, .nilFunc, .nilFunc, .nilFunc] 71)) = w.alloc (.cells nilsA 71) from rfl, World.setRow_alloc_new]
  exact h
set_option maxRecDepth 100000 in
theorem doings_any (w : World) : Calls Tryz.prog 30 #[] w fun e w' => e = .returned (.agg doingsA) ∧ Below w.heap.size w w' := by
  have hb := Box.new w 71 doingsA
  have HB := Lib.hid hb
  clear hb
  unfold doingsA at *
  go_enter Tryz.func30, Tryz.ntmps30
  go_wp2_with (first | (refine table_store rfl _ _ rfl rfl rfl ?_) | fail)
  refine bodyPost_ret (results_cell_row rfl _ _ w.heap.size 71 _ (0, 0) _ rfl HB.out Tryz.underlying71 rfl sizeDo) rfl ?_
  exact ⟨rfl, (Below.refl _ _).alloc (Nat.le_refl _) _⟩
end Go.Proofs.YteimpebfenpifaaGreatDoor
