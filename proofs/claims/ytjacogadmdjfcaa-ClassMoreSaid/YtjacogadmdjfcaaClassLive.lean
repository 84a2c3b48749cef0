/-
  The contract of law08's live.
-/
import Derived.Test.YtjacogadmdjfcaaClassD
import Derived.Test.YtjacogadmdjfcaaClassE
import Derived.Test.YtjacogadmdjfcaaInts
import Derived.Deep.Cut
import Derived.Deep.QuietTactic
import Derived.BigQuiet
namespace Go.Proofs.Ytjacogadmdjfcaa
open Go.RowKit
open Go.ChangeShapes Go.WideShapes Go.ChangeAt

theorem Sl.keep {α : Type} {w w' : World} {f : α → Value} {a : Option Addr} {l : List α} (h : Sl w f a l) (hb : Below w.heap.size w w') : Sl w' f a l := by
  intro hne
  obtain ⟨b, off, e, hl, hc⟩ := h hne
  exact ⟨b, off, e, Nat.lt_of_lt_of_le hl hb.size, fun i x hx => by rw [hb.cell (p := ⟨b, off + i, none⟩) hl]; exact hc i x hx⟩
theorem Sl.box {w : World} {b : Nat} {t : TypeId} (l : List Int) (h : Box w b t (l.map (Value.int .i64)).toArray) : Sl w (Value.int .i64) (some ⟨b, 0, none⟩) l :=
  Sl.of fun i x hx => by rw [add_plain]; exact h.cell _ _ (by rw [Nat.zero_add, List.getElem?_toArray, List.getElem?_map, hx]; rfl)
theorem small_len {l : List Int} (h : l.length ≤ 100 := by decide) : l.length ≤ maxLen := by unfold maxLen; omega

set_option maxRecDepth 100000 in
set_option maxHeartbeats 2000000 in
theorem live_any (w : World) : Calls Try.prog 14 #[] w fun e w' => e = .returned (.bool true) ∧ Below w.heap.size w w' := by
  have B0 := Lib.hid (Box.new w 23 #[.bool true, .bool true, .int .i64 10, .int .i64 0, .int .i64 0])
  have L0 := Lib.hid ((Below.refl w.heap.size w).alloc (Nat.le_refl _) (.cells #[.bool true, .bool true, .int .i64 10, .int .i64 0, .int .i64 0] 23 (0, 0)))
  go_enter Try.func14, Try.ntmps14
  have k0 := B0.out.cell 0 _ rfl
  have k1 := B0.out.cell 1 _ rfl
  have k2 := B0.out.cell 2 _ rfl
  have k3 := B0.out.cell 3 _ rfl
  have k4 := B0.out.cell 4 _ rfl
  have ha := (Below.refl (w.alloc (.cells #[.bool true, .bool true, .int .i64 10, .int .i64 0, .int .i64 0] 23 (0, 0))).heap.size (w.alloc (.cells #[.bool true, .bool true, .int .i64 10, .int .i64 0, .int .i64 0] 23 (0, 0)))).alloc (Nat.le_refl _) (.cells #[.int .i64 5, .int .i64 5] 3 (0, 0))
  have HF := Lib.hid (Box.new (w.alloc (.cells #[.bool true, .bool true, .int .i64 10, .int .i64 0, .int .i64 0] 23 (0, 0))) 3 #[.int .i64 5, .int .i64 5])
  have B := Lib.hid (B0.out.keep ha B0.out.lt)
  have L := Lib.hid (L0.out.trans (ha.mono L0.out.size))
  rw [size_alloc] at HF
  clear ha
  go_wp2_with fail
  generalize World.alloc (World.alloc w _) _ = u0 at *
  refine (choose_any ⟨true, true, 10, 0, 0⟩ 0 900 _ 2 [5, 5] _ small_len (Sl.box _ HF.out)).mono ?_
  rintro e v1 ⟨a1, c1, rfl, hs, hb⟩
  rw [show chooseP ⟨true, true, 10, 0, 0⟩ 0 900 [5, 5] = ([1, 0], 0) from by decide] at hs ⊢
  have A1 : Hid (Sl v1 (Value.int .i64) a1 [1, 0]) := hs
  have B1 := Lib.hid (B.out.keep hb B.out.lt)
  have L1 := Lib.hid (L.out.trans (hb.mono L.out.size))
  clear hs hb HF B L k0 k1 k2 k3 k4 B0 L0
  have k0 := B1.out.cell 0 _ rfl
  have k1 := B1.out.cell 1 _ rfl
  have k2 := B1.out.cell 2 _ rfl
  have k3 := B1.out.cell 3 _ rfl
  have k4 := B1.out.cell 4 _ rfl
  have ha := (Below.refl v1.heap.size v1).alloc (Nat.le_refl _) (.cells #[.int .i64 5, .int .i64 5] 3 (0, 0))
  have HF := Lib.hid (Box.new v1 3 #[.int .i64 5, .int .i64 5])
  have B := Lib.hid (B1.out.keep ha B1.out.lt)
  have L := Lib.hid (L1.out.trans (ha.mono L1.out.size))
  have A1 := Lib.hid (A1.out.keep ha)
  clear ha
  go_wp2_with fail
  generalize World.alloc v1 _ = u1 at *
  generalize v1.heap.size = g1 at *
  refine (choose_any ⟨true, true, 10, 0, 0⟩ 1 11 _ 2 [5, 5] _ small_len (Sl.box _ HF.out)).mono ?_
  rintro e v2 ⟨a2, c2, rfl, hs, hb⟩
  rw [show chooseP ⟨true, true, 10, 0, 0⟩ 1 11 [5, 5] = ([0], 0) from by decide] at hs ⊢
  have A2 : Hid (Sl v2 (Value.int .i64) a2 [0]) := hs
  have B2 := Lib.hid (B.out.keep hb B.out.lt)
  have L2 := Lib.hid (L.out.trans (hb.mono L.out.size))
  have A1 := Lib.hid (A1.out.keep hb)
  clear hs hb HF B L k0 k1 k2 k3 k4 B1 L1
  have k0 := B2.out.cell 0 _ rfl
  have k1 := B2.out.cell 1 _ rfl
  have k2 := B2.out.cell 2 _ rfl
  have k3 := B2.out.cell 3 _ rfl
  have k4 := B2.out.cell 4 _ rfl
  have ha := (Below.refl v2.heap.size v2).alloc (Nat.le_refl _) (.cells #[.int .i64 5, .int .i64 5] 3 (0, 0))
  have HF := Lib.hid (Box.new v2 3 #[.int .i64 5, .int .i64 5])
  have B := Lib.hid (B2.out.keep ha B2.out.lt)
  have L := Lib.hid (L2.out.trans (ha.mono L2.out.size))
  have A1 := Lib.hid (A1.out.keep ha)
  have A2 := Lib.hid (A2.out.keep ha)
  clear ha
  go_wp2_with fail
  generalize World.alloc v2 _ = u2 at *
  generalize v2.heap.size = g2 at *
  refine (choose_any ⟨true, true, 10, 0, 0⟩ 1 10 _ 2 [5, 5] _ small_len (Sl.box _ HF.out)).mono ?_
  rintro e v3 ⟨a3, c3, rfl, hs, hb⟩
  rw [show chooseP ⟨true, true, 10, 0, 0⟩ 1 10 [5, 5] = ([1], 0) from by decide] at hs ⊢
  have A3 : Hid (Sl v3 (Value.int .i64) a3 [1]) := hs
  have B3 := Lib.hid (B.out.keep hb B.out.lt)
  have L3 := Lib.hid (L.out.trans (hb.mono L.out.size))
  have A1 := Lib.hid (A1.out.keep hb)
  have A2 := Lib.hid (A2.out.keep hb)
  clear hs hb HF B L k0 k1 k2 k3 k4 B2 L2
  have k0 := B3.out.cell 0 _ rfl
  have k1 := B3.out.cell 1 _ rfl
  have k2 := B3.out.cell 2 _ rfl
  have k3 := B3.out.cell 3 _ rfl
  have k4 := B3.out.cell 4 _ rfl
  have ha := (Below.refl v3.heap.size v3).alloc (Nat.le_refl _) (.cells #[.int .i64 0, .int .i64 0] 3 (0, 0))
  have HF := Lib.hid (Box.new v3 3 #[.int .i64 0, .int .i64 0])
  have B := Lib.hid (B3.out.keep ha B3.out.lt)
  have L := Lib.hid (L3.out.trans (ha.mono L3.out.size))
  have A1 := Lib.hid (A1.out.keep ha)
  have A2 := Lib.hid (A2.out.keep ha)
  have A3 := Lib.hid (A3.out.keep ha)
  clear ha
  go_wp2_with fail
  generalize World.alloc v3 _ = u3 at *
  generalize v3.heap.size = g3 at *
  refine (choose_any ⟨true, true, 10, 0, 0⟩ 1 10 _ 2 [0, 0] _ small_len (Sl.box _ HF.out)).mono ?_
  rintro e v4 ⟨a4, c4, rfl, hs, hb⟩
  rw [show chooseP ⟨true, true, 10, 0, 0⟩ 1 10 [0, 0] = ([], 6) from by decide] at hs ⊢
  have A4 : Hid (Sl v4 (Value.int .i64) a4 []) := hs
  have B4 := Lib.hid (B.out.keep hb B.out.lt)
  have L4 := Lib.hid (L.out.trans (hb.mono L.out.size))
  have A1 := Lib.hid (A1.out.keep hb)
  have A2 := Lib.hid (A2.out.keep hb)
  have A3 := Lib.hid (A3.out.keep hb)
  clear hs hb HF B L k0 k1 k2 k3 k4 B3 L3
  have k0 := B4.out.cell 0 _ rfl
  have k1 := B4.out.cell 1 _ rfl
  have k2 := B4.out.cell 2 _ rfl
  have k3 := B4.out.cell 3 _ rfl
  have k4 := B4.out.cell 4 _ rfl
  have ha := (Below.refl v4.heap.size v4).alloc (Nat.le_refl _) (.cells #[.int .i64 5, .int .i64 5] 3 (0, 0))
  have HF := Lib.hid (Box.new v4 3 #[.int .i64 5, .int .i64 5])
  have B := Lib.hid (B4.out.keep ha B4.out.lt)
  have L := Lib.hid (L4.out.trans (ha.mono L4.out.size))
  have A1 := Lib.hid (A1.out.keep ha)
  have A2 := Lib.hid (A2.out.keep ha)
  have A3 := Lib.hid (A3.out.keep ha)
  clear ha
  go_wp2_with fail
  generalize World.alloc v4 _ = u4 at *
  generalize v4.heap.size = g4 at *
  refine (choose_any ⟨true, true, 10, 0, 0⟩ 2 10 _ 2 [5, 5] _ small_len (Sl.box _ HF.out)).mono ?_
  rintro e v5 ⟨a5, c5, rfl, hs, hb⟩
  rw [show chooseP ⟨true, true, 10, 0, 0⟩ 2 10 [5, 5] = ([], 1) from by decide] at hs ⊢
  have A5 : Hid (Sl v5 (Value.int .i64) a5 []) := hs
  have B5 := Lib.hid (B.out.keep hb B.out.lt)
  have L5 := Lib.hid (L.out.trans (hb.mono L.out.size))
  have A1 := Lib.hid (A1.out.keep hb)
  have A2 := Lib.hid (A2.out.keep hb)
  have A3 := Lib.hid (A3.out.keep hb)
  clear hs hb HF B L k0 k1 k2 k3 k4 B4 L4
  have k0 := B5.out.cell 0 _ rfl
  have k1 := B5.out.cell 1 _ rfl
  have k2 := B5.out.cell 2 _ rfl
  have k3 := B5.out.cell 3 _ rfl
  have k4 := B5.out.cell 4 _ rfl
  go_wp2_with fail
  refine (need_any ⟨true, true, 10, 0, 0⟩ 3 4 _).mono ?_
  rintro e v6 ⟨rfl, hb⟩
  rw [show needA ⟨true, true, 10, 0, 0⟩ 3 4 = 7 from by decide, show needB ⟨true, true, 10, 0, 0⟩ 3 4 = 7 from by decide]
  have L6 := Lib.hid (L5.out.trans (hb.mono L5.out.size))
  have A1 := Lib.hid (A1.out.keep hb)
  have A2 := Lib.hid (A2.out.keep hb)
  have A3 := Lib.hid (A3.out.keep hb)
  clear hb k0 k1 k2 k3 k4 L5 B5
  have ha := (Below.refl v6.heap.size v6).alloc (Nat.le_refl _) (.cells #[.int .i64 1, .int .i64 0] 3 (0, 0))
  have HF := Lib.hid (Box.new v6 3 #[.int .i64 1, .int .i64 0])
  have L := Lib.hid (L6.out.trans (ha.mono L6.out.size))
  have A1 := Lib.hid (A1.out.keep ha)
  have A2 := Lib.hid (A2.out.keep ha)
  have A3 := Lib.hid (A3.out.keep ha)
  clear ha
  go_wp2_with fail
  generalize World.alloc v6 _ = u6 at *
  generalize v6.heap.size = g6 at *
  refine (ints_any _ _ _ 2 [1, 0] [1, 0] _ small_len small_len A1.out (Sl.box _ HF.out)).mono ?_
  rintro e v7 ⟨rfl, hb⟩
  rw [show decide (([1, 0] : List Int) = [1, 0]) = true from by decide]
  have L7 := Lib.hid (L.out.trans (hb.mono L.out.size))
  have A2 := Lib.hid (A2.out.keep hb)
  have A3 := Lib.hid (A3.out.keep hb)
  clear hb HF L L6
  have ha := (Below.refl v7.heap.size v7).alloc (Nat.le_refl _) (.cells #[.int .i64 0] 3 (0, 0))
  have HF := Lib.hid (Box.new v7 3 #[.int .i64 0])
  have L := Lib.hid (L7.out.trans (ha.mono L7.out.size))
  have A2 := Lib.hid (A2.out.keep ha)
  have A3 := Lib.hid (A3.out.keep ha)
  clear ha
  go_wp2_with fail
  generalize World.alloc v7 _ = u7 at *
  generalize v7.heap.size = g7 at *
  refine (ints_any _ _ _ 1 [0] [0] _ small_len small_len A2.out (Sl.box _ HF.out)).mono ?_
  rintro e v8 ⟨rfl, hb⟩
  rw [show decide (([0] : List Int) = [0]) = true from by decide]
  have L8 := Lib.hid (L.out.trans (hb.mono L.out.size))
  have A3 := Lib.hid (A3.out.keep hb)
  clear hb HF L L7
  have ha := (Below.refl v8.heap.size v8).alloc (Nat.le_refl _) (.cells #[.int .i64 1] 3 (0, 0))
  have HF := Lib.hid (Box.new v8 3 #[.int .i64 1])
  have L := Lib.hid (L8.out.trans (ha.mono L8.out.size))
  have A3 := Lib.hid (A3.out.keep ha)
  clear ha
  go_wp2_with fail
  generalize World.alloc v8 _ = u8 at *
  generalize v8.heap.size = g8 at *
  refine (ints_any _ _ _ 1 [1] [1] _ small_len small_len A3.out (Sl.box _ HF.out)).mono ?_
  rintro e v9 ⟨rfl, hb⟩
  rw [show decide (([1] : List Int) = [1]) = true from by decide]
  have L9 := Lib.hid (L.out.trans (hb.mono L.out.size))
  clear hb HF L L8
  have ha := (Below.refl v9.heap.size v9).alloc (Nat.le_refl _)
  go_wp2_with fail
  refine (check_any ⟨false, false, 0, 65, 0⟩ _).mono ?_
  rintro e v10 ⟨rfl, hb⟩
  rw [show chkP ⟨false, false, 0, 65, 0⟩ = 1 from by decide]
  have L10 := Lib.hid (L9.out.trans (hb.mono L9.out.size))
  clear hb ha
  go_wp2
  go_ret
  exact ⟨rfl, L10.out⟩
end Go.Proofs.Ytjacogadmdjfcaa
