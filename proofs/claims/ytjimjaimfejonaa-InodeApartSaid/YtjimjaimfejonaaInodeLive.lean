/-
  told; live, the closed part of each statement of package inode.
-/
import Derived.Test.YtjimjaimfejonaaInodeWhich
import Derived.Test.YtjimjaimfejonaaInodeDec
namespace Go.Proofs.Ytjimjaimfejonaa
open Go.RowKit

def kA : ByteArray := ⟨#[100, 0, 0, 1, 2, 97, 98]⟩
def kB : ByteArray := ⟨#[105, 0, 0, 1]⟩
def kT : ByteArray := ⟨#[1, 2, 1, 0, 0, 3, 0, 0, 0]⟩
def kS : ByteArray := ⟨#[115, 104, 111, 114, 116]⟩
theorem l1a : (whichD kA).kind = 1 := by decide +kernel
theorem l1b : (whichD kA).num = 258 := by decide +kernel
theorem l1c : (whichD kA).rest = ⟨#[97, 98]⟩ := by decide +kernel
theorem l1d : (whichD kA).is = true := by decide +kernel
theorem l2 : whichD kB = noW := if_pos (Or.inl (by decide))
theorem l3 : encI true 258 3 = (kT, 0) := by
  have h1 : (encI true 258 3).1 = kT := by decide +kernel
  have h2 : (encI true 258 3).2 = 0 := by decide +kernel
  exact Prod.ext h1 h2
theorem l4 : decI kT = (⟨true, 258, 3⟩, 0) := by
  have h : inoB true 258 3 = kT := by decide +kernel
  rw [← h]
  exact dec_encI true 258 3 (by decide) (by decide)
theorem l5 : decI kS = (⟨false, 0, 0⟩, 2) := if_pos (by decide)
theorem l6 : encI false (-1) 0 = (⟨#[]⟩, 1) := if_neg (by decide)
theorem l7 : keyB 258 = ⟨#[105, 0, 0, 1, 2]⟩ := by decide +kernel
theorem l8 : keyB (-1) = ⟨#[]⟩ := if_neg (by decide)
theorem l9 : entB 1 ⟨#[]⟩ = ⟨#[]⟩ := if_neg (by decide)
theorem l10 : chkB 0 2 = ⟨#[99, 0, 0, 0, 0, 0, 0, 0, 2]⟩ := by decide +kernel

/-- The model's '==' at an inode. -/
theorem eqIno (x1 y1 : Bool) (x2 y2 x3 y3 : Int) (w : World) : (Op.equalIn 10000 34 (.agg #[.bool x1, .int .i64 x2, .int .i64 x3]) (.agg #[.bool y1, .int .i64 y2, .int .i64 y3])).run Try.prog w = .ok (x1 == y1 && (x2 == y2 && x3 == y3)) w := by
  have u3 := Try.underlying3
  have a3 := Try.isAgg3
  have z3 := Try.sizeOf3
  have u9 := Try.underlying4
  have a9 := Try.isAgg4
  have z9 := Try.sizeOf4
  have hS : Try.prog.underlying 34 = some (.struct (Try.prog.fieldsOf 34)) := by kernel_rfl
  have hp : Try.prog.stoodInHeld 34 = false := by kernel_rfl
  rw [show (10000 : Nat) = 9999 + 1 from rfl, run_equalIn_agg w 9999 34 _ _ hS hp]
  simp only [Program.fieldsOf, Try.underlying34]
  go_simp
  by_cases h1 : x1 = y1 <;> by_cases h2 : x2 = y2 <;> by_cases h3 : x3 = y3 <;> simp [h1, h2, h3]

theorem sizeTIno : (Try.prog.info? 30).map (·.size) = some 3 := by kernel_rfl

theorem told_any (x : InoD) (w : World) : Calls Try.prog 21 #[inoV x] w fun e w' => e = .returned (inoV x) ∧ Below w.heap.size w w' := by
  obtain ⟨d, n, m⟩ := x
  have HX : Hid (Below w.heap.size w ((w.alloc (.cells #[.bool d, .int .i64 n, .int .i64 m] 34 (0, 0))).alloc (.cells #[.bool d, .int .i64 n, .int .i64 m] 30 (0, 0)))) := ((Below.refl _ _).alloc (Nat.le_refl _) _).alloc (by rw [size_alloc]; omega) _
  have BC := Box.new (w.alloc (.cells #[.bool d, .int .i64 n, .int .i64 m] 34 (0, 0))) 30 #[.bool d, .int .i64 n, .int .i64 m]
  rw [size_alloc] at BC
  have HC := Lib.hid BC
  clear BC
  unfold inoV
  go_enter Try.func21, Try.ntmps21
  go_wp2
  refine bodyPost_ret (results_cell_row rfl _ _ (w.heap.size + 1) 30 _ (0, 0) _ rfl HC.out Try.underlying30 rfl sizeTIno) rfl ?_
  exact ⟨rfl, HX.out⟩

set_option maxRecDepth 100000 in
set_option maxHeartbeats 2000000 in
theorem live_any (w : World) : Calls Try.prog 8 #[] w fun e w' => e = .returned (.bool true) ∧ Below w.heap.size w w' := by
  go_enter Try.func8, Try.ntmps8
  go_wp2_with fail
  refine (which_any kA _).mono ?_
  rintro e w1 ⟨rfl, hb⟩
  unfold whV
  rw [l1a, l1b, l1c, l1d]
  have HB1 := Lib.hid hb
  clear hb
  go_wp2_with fail
  refine (which_any kB _).mono ?_
  rintro e w2 ⟨rfl, hb⟩
  rw [l2]
  unfold whV noW
  have HB2 := Lib.hid (HB1.out.trans (hb.mono HB1.out.size))
  clear hb HB1
  go_wp2_with fail
  refine (iencode_any true 258 3 _).mono ?_
  rintro e w3 ⟨rfl, hb⟩
  rw [l3]
  unfold kT
  have HB3 := Lib.hid (HB2.out.trans (hb.mono HB2.out.size))
  clear hb HB2
  go_wp2_with fail
  refine (idecode_any ⟨#[1, 2, 1, 0, 0, 3, 0, 0, 0]⟩ _).mono ?_
  rintro e w4 ⟨rfl, hb⟩
  rw [show decI ⟨#[1, 2, 1, 0, 0, 3, 0, 0, 0]⟩ = _ from l4]
  unfold inoV
  have HB4 := Lib.hid (HB3.out.trans (hb.mono HB3.out.size))
  clear hb HB3
  have BX := Box.new w4 34 #[.bool true, .int .i64 258, .int .i64 3]
  have HX : Hid (Below w.heap.size w (w4.alloc (.cells #[.bool true, .int .i64 258, .int .i64 3] 34 (0, 0)))) := HB4.out.alloc HB4.out.size _
  go_wp2_with fail
  generalize World.alloc _ _ = wx at *
  generalize w4.heap.size = g at *
  refine (idecode_any kS _).mono ?_
  rintro e w5 ⟨rfl, hb⟩
  rw [l5]
  unfold inoV
  have BX5 := Lib.hid (BX.keep hb BX.lt)
  have HB5 := Lib.hid (HX.out.trans (hb.mono HX.out.size))
  clear hb BX HX
  have HX : Hid (Below w.heap.size w (w5.alloc (.cells #[.bool false, .int .i64 0, .int .i64 0] 34 (0, 0)))) := HB5.out.alloc HB5.out.size _
  have BX6 := Lib.hid (BX5.out.alloc (.cells #[.bool false, .int .i64 0, .int .i64 0] 34 (0, 0)))
  go_wp2_with fail
  generalize World.alloc _ _ = wy at *
  refine (iencode_any false (-1) 0 _).mono ?_
  rintro e w6 ⟨rfl, hb⟩
  rw [l6]
  have BX7 := Lib.hid (BX6.out.keep hb BX6.out.lt)
  have HB6 := Lib.hid (HX.out.trans (hb.mono HX.out.size))
  clear hb BX5 BX6 HX HB5 HB4
  go_wp2_with fail
  refine (key_any 258 _).mono ?_
  rintro e w7 ⟨rfl, hb⟩
  rw [l7]
  have BX8 := Lib.hid (BX7.out.keep hb BX7.out.lt)
  have HB7 := Lib.hid (HB6.out.trans (hb.mono HB6.out.size))
  clear hb BX7 HB6
  go_wp2_with fail
  refine (key_any (-1) _).mono ?_
  rintro e w8 ⟨rfl, hb⟩
  rw [l8]
  have BX9 := Lib.hid (BX8.out.keep hb BX8.out.lt)
  have HB8 := Lib.hid (HB7.out.trans (hb.mono HB7.out.size))
  clear hb BX8 HB7
  go_wp2_with fail
  refine (entry_any 1 ⟨#[]⟩ _).mono ?_
  rintro e w9 ⟨rfl, hb⟩
  rw [l9]
  have BX10 := Lib.hid (BX9.out.keep hb BX9.out.lt)
  have HB9 := Lib.hid (HB8.out.trans (hb.mono HB8.out.size))
  clear hb BX9 HB8
  go_wp2_with fail
  refine (chunk_any 0 2 _).mono ?_
  rintro e w10 ⟨rfl, hb⟩
  rw [l10]
  have BX11 := BX10.out.keep hb BX10.out.lt
  have HB10 := Lib.hid (HB9.out.trans (hb.mono HB9.out.size))
  clear hb BX10 HB9
  have c0 := BX11.cell 0 _ rfl
  have c1 := BX11.cell 1 _ rfl
  have c2 := BX11.cell 2 _ rfl
  clear BX11
  have q7 : ∀ w, (Op.equalIn 10000 34 (.agg #[.bool true, .int .i64 258, .int .i64 3]) (.agg #[.bool true, .int .i64 258, .int .i64 3])).run Try.prog w = .ok true w := fun w => by rw [eqIno]; simp
  go_wp2
  go_ret
  exact ⟨rfl, HB10.out⟩
end Go.Proofs.Ytjimjaimfejonaa
