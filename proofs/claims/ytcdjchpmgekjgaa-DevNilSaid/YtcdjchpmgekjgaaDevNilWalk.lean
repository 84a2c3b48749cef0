/-
  The walk of DevNil.
-/
import Derived.Test.YtcdjchpmgekjgaaDevLive
import Derived.Test.YtcdjchpmgekjgaaFrame
import Derived.Test.YtcdjchpmgekjgaaOpenDev
namespace Go.Proofs.Ytcdjchpmgekjgaa.devNil
open Go.RowKit

set_option maxRecDepth 100000 in
set_option maxHeartbeats 2000000 in
theorem walk (w : World) (y0 : Int × Int) (a1 : ByteArray) (w1 : a1.size ≤ 140737488351232) :
    Calls Try.prog 6 #[.agg #[.int .i64 y0.1, .int .i64 y0.2], .string a1] w fun e w' => e = .returned (.bool true) ∧ Below w.heap.size w w' := by
  obtain ⟨a, b⟩ := y0
  have hx := Lib.hid ((Below.refl w.heap.size w).alloc (Nat.le_refl _) (.cells #[.int .i64 a, .int .i64 b] 29 (0, 0)))
  have BX := Lib.hid (Box.new w 29 #[.int .i64 a, .int .i64 b])
  go_enter Try.func6, Try.ntmps6
  go_wp2_with fail
  generalize World.alloc _ _ = v0 at *
  have k0 : v0.cell? ⟨w.heap.size, 0, none⟩ = some (.int .i64 a) := BX.out.cell 0 _ rfl
  have k1 : v0.cell? ⟨w.heap.size, 1, none⟩ = some (.int .i64 b) := BX.out.cell 1 _ rfl
  refine (dread_nil (a, b) _).mono ?_
  rintro e v1 ⟨rfl, hb⟩
  have H1 := Lib.hid (hx.out.trans (hb.mono hx.out.size))
  have B1 := Lib.hid (BX.out.keep hb BX.out.lt)
  clear hb hx BX k0 k1
  have k0 : v1.cell? ⟨w.heap.size, 0, none⟩ = some (.int .i64 a) := B1.out.cell 0 _ rfl
  have k1 : v1.cell? ⟨w.heap.size, 1, none⟩ = some (.int .i64 b) := B1.out.cell 1 _ rfl
  go_wp2_with fail
  refine (dwrite_nil (a, b) a1 _).mono ?_
  rintro e v2 ⟨rfl, hb⟩
  have H2 := Lib.hid (H1.out.trans (hb.mono H1.out.size))
  have B2 := Lib.hid (B1.out.keep hb B1.out.lt)
  clear hb H1 B1 k0 k1
  have k0 : v2.cell? ⟨w.heap.size, 0, none⟩ = some (.int .i64 a) := B2.out.cell 0 _ rfl
  have k1 : v2.cell? ⟨w.heap.size, 1, none⟩ = some (.int .i64 b) := B2.out.cell 1 _ rfl
  go_wp2_with fail
  refine (flush_nil _).mono ?_
  rintro e u3 ⟨rfl, rfl⟩
  go_wp2_with fail
  refine (crash_nil none 0 0 _).mono ?_
  rintro e u4 ⟨rfl, rfl⟩
  go_wp2_with fail
  refine (lose_nil 0 _).mono ?_
  rintro e v5 ⟨rfl, hb⟩
  have H5 := Lib.hid (H2.out.trans (hb.mono H2.out.size))
  have B5 := Lib.hid (B2.out.keep hb B2.out.lt)
  clear hb H2 B2 k0 k1
  have k0 : v5.cell? ⟨w.heap.size, 0, none⟩ = some (.int .i64 a) := B5.out.cell 0 _ rfl
  have k1 : v5.cell? ⟨w.heap.size, 1, none⟩ = some (.int .i64 b) := B5.out.cell 1 _ rfl
  go_wp2_with fail
  refine (spoil_nil (a, b) a1 _).mono ?_
  rintro e v6 ⟨rfl, hb⟩
  have H6 := Lib.hid (H5.out.trans (hb.mono H5.out.size))
  have B6 := Lib.hid (B5.out.keep hb B5.out.lt)
  clear hb H5 B5 k0 k1
  have k0 : v6.cell? ⟨w.heap.size, 0, none⟩ = some (.int .i64 a) := B6.out.cell 0 _ rfl
  have k1 : v6.cell? ⟨w.heap.size, 1, none⟩ = some (.int .i64 b) := B6.out.cell 1 _ rfl
  go_wp2_with fail
  refine (dsize_nil 0 _).mono ?_
  rintro e u7 ⟨rfl, rfl⟩
  go_wp2_with fail
  refine (dlost_nil 0 _).mono ?_
  rintro e u8 ⟨rfl, rfl⟩
  go_wp2_with fail
  refine (waits_nil _).mono ?_
  rintro e u9 ⟨rfl, rfl⟩
  go_wp2_with fail
  refine (copy_nil _).mono ?_
  rintro e u10 ⟨rfl, rfl⟩
  go_wp2_with fail
  clear k0 k1 B6
  refine (live_any _).mono ?_
  rintro e wl ⟨rfl, hb⟩
  have HL := Lib.hid (H6.out.trans (hb.mono H6.out.size))
  clear hb
  go_wp2
  go_ret
  exact ⟨rfl, HL.out⟩
end Go.Proofs.Ytcdjchpmgekjgaa.devNil
