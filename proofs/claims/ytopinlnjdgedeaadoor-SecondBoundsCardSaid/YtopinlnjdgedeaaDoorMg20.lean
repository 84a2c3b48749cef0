/-
  Texts put together: Right, Quiet, Sched.
-/
import Derived.Test.YtopinlnjdgedeaaDoorRows
import Derived.Test.YtopinlnjdgedeaaDoorMg19
import Derived.WalkKit
import Derived.Deep.QuietTactic
import Derived.BigQuiet
import Derived.WalkSmall
import Derived.ChangeAlike
import Derived.RegionTactic
import Derived.BigRegion
namespace Go.Proofs.YtopinlnjdgedeaaDoor
open Go.RowKit

theorem rot_2 (x : Nat) (w : World) (hx : x < 4294967296) :
    Calls Tryd.prog 92 #[.int .u32 x, .int .i64 (-2)] w fun e w' => e = .returned (.int .u32 (rotr x 2)) ∧ w = w' := by
  have hx1 : (x : Int) < 4294967296 := by omega
  have hb : bits BinOp.and IntKind.u64 (IntKind.u64.wrap (-2)) 31 = 30 := by decide +kernel
  go_enter Tryd.func92, Tryd.ntmps92
  go_wp2
  go_ret
  exact ⟨ret_int (rot_eq x 2 30 1073741824 4 hx rfl rfl (by decide)), rfl⟩

theorem right_2 (x : Nat) (w : World) (hx : x < 4294967296) :
    Calls Tryd.prog 80 #[.int .u32 x, .int .i64 2] w fun e w' => e = .returned (.int .u32 (rotr x 2)) ∧ w = w' := by
  go_enter Tryd.func80, Tryd.ntmps80
  go_wp2_with fail
  refine (rot_2 x _ hx).mono ?_
  rintro e w' ⟨rfl, rfl⟩
  go_wp2
  go_ret
  exact ⟨rfl, rfl⟩

theorem rot_6 (x : Nat) (w : World) (hx : x < 4294967296) :
    Calls Tryd.prog 92 #[.int .u32 x, .int .i64 (-6)] w fun e w' => e = .returned (.int .u32 (rotr x 6)) ∧ w = w' := by
  have hx1 : (x : Int) < 4294967296 := by omega
  have hb : bits BinOp.and IntKind.u64 (IntKind.u64.wrap (-6)) 31 = 26 := by decide +kernel
  go_enter Tryd.func92, Tryd.ntmps92
  go_wp2
  go_ret
  exact ⟨ret_int (rot_eq x 6 26 67108864 64 hx rfl rfl (by decide)), rfl⟩

theorem right_6 (x : Nat) (w : World) (hx : x < 4294967296) :
    Calls Tryd.prog 80 #[.int .u32 x, .int .i64 6] w fun e w' => e = .returned (.int .u32 (rotr x 6)) ∧ w = w' := by
  go_enter Tryd.func80, Tryd.ntmps80
  go_wp2_with fail
  refine (rot_6 x _ hx).mono ?_
  rintro e w' ⟨rfl, rfl⟩
  go_wp2
  go_ret
  exact ⟨rfl, rfl⟩

theorem rot_7 (x : Nat) (w : World) (hx : x < 4294967296) :
    Calls Tryd.prog 92 #[.int .u32 x, .int .i64 (-7)] w fun e w' => e = .returned (.int .u32 (rotr x 7)) ∧ w = w' := by
  have hx1 : (x : Int) < 4294967296 := by omega
  have hb : bits BinOp.and IntKind.u64 (IntKind.u64.wrap (-7)) 31 = 25 := by decide +kernel
  go_enter Tryd.func92, Tryd.ntmps92
  go_wp2
  go_ret
  exact ⟨ret_int (rot_eq x 7 25 33554432 128 hx rfl rfl (by decide)), rfl⟩

theorem right_7 (x : Nat) (w : World) (hx : x < 4294967296) :
    Calls Tryd.prog 80 #[.int .u32 x, .int .i64 7] w fun e w' => e = .returned (.int .u32 (rotr x 7)) ∧ w = w' := by
  go_enter Tryd.func80, Tryd.ntmps80
  go_wp2_with fail
  refine (rot_7 x _ hx).mono ?_
  rintro e w' ⟨rfl, rfl⟩
  go_wp2
  go_ret
  exact ⟨rfl, rfl⟩

theorem rot_11 (x : Nat) (w : World) (hx : x < 4294967296) :
    Calls Tryd.prog 92 #[.int .u32 x, .int .i64 (-11)] w fun e w' => e = .returned (.int .u32 (rotr x 11)) ∧ w = w' := by
  have hx1 : (x : Int) < 4294967296 := by omega
  have hb : bits BinOp.and IntKind.u64 (IntKind.u64.wrap (-11)) 31 = 21 := by decide +kernel
  go_enter Tryd.func92, Tryd.ntmps92
  go_wp2
  go_ret
  exact ⟨ret_int (rot_eq x 11 21 2097152 2048 hx rfl rfl (by decide)), rfl⟩

theorem right_11 (x : Nat) (w : World) (hx : x < 4294967296) :
    Calls Tryd.prog 80 #[.int .u32 x, .int .i64 11] w fun e w' => e = .returned (.int .u32 (rotr x 11)) ∧ w = w' := by
  go_enter Tryd.func80, Tryd.ntmps80
  go_wp2_with fail
  refine (rot_11 x _ hx).mono ?_
  rintro e w' ⟨rfl, rfl⟩
  go_wp2
  go_ret
  exact ⟨rfl, rfl⟩

theorem rot_13 (x : Nat) (w : World) (hx : x < 4294967296) :
    Calls Tryd.prog 92 #[.int .u32 x, .int .i64 (-13)] w fun e w' => e = .returned (.int .u32 (rotr x 13)) ∧ w = w' := by
  have hx1 : (x : Int) < 4294967296 := by omega
  have hb : bits BinOp.and IntKind.u64 (IntKind.u64.wrap (-13)) 31 = 19 := by decide +kernel
  go_enter Tryd.func92, Tryd.ntmps92
  go_wp2
  go_ret
  exact ⟨ret_int (rot_eq x 13 19 524288 8192 hx rfl rfl (by decide)), rfl⟩

theorem right_13 (x : Nat) (w : World) (hx : x < 4294967296) :
    Calls Tryd.prog 80 #[.int .u32 x, .int .i64 13] w fun e w' => e = .returned (.int .u32 (rotr x 13)) ∧ w = w' := by
  go_enter Tryd.func80, Tryd.ntmps80
  go_wp2_with fail
  refine (rot_13 x _ hx).mono ?_
  rintro e w' ⟨rfl, rfl⟩
  go_wp2
  go_ret
  exact ⟨rfl, rfl⟩

theorem rot_17 (x : Nat) (w : World) (hx : x < 4294967296) :
    Calls Tryd.prog 92 #[.int .u32 x, .int .i64 (-17)] w fun e w' => e = .returned (.int .u32 (rotr x 17)) ∧ w = w' := by
  have hx1 : (x : Int) < 4294967296 := by omega
  have hb : bits BinOp.and IntKind.u64 (IntKind.u64.wrap (-17)) 31 = 15 := by decide +kernel
  go_enter Tryd.func92, Tryd.ntmps92
  go_wp2
  go_ret
  exact ⟨ret_int (rot_eq x 17 15 32768 131072 hx rfl rfl (by decide)), rfl⟩

theorem right_17 (x : Nat) (w : World) (hx : x < 4294967296) :
    Calls Tryd.prog 80 #[.int .u32 x, .int .i64 17] w fun e w' => e = .returned (.int .u32 (rotr x 17)) ∧ w = w' := by
  go_enter Tryd.func80, Tryd.ntmps80
  go_wp2_with fail
  refine (rot_17 x _ hx).mono ?_
  rintro e w' ⟨rfl, rfl⟩
  go_wp2
  go_ret
  exact ⟨rfl, rfl⟩

theorem rot_18 (x : Nat) (w : World) (hx : x < 4294967296) :
    Calls Tryd.prog 92 #[.int .u32 x, .int .i64 (-18)] w fun e w' => e = .returned (.int .u32 (rotr x 18)) ∧ w = w' := by
  have hx1 : (x : Int) < 4294967296 := by omega
  have hb : bits BinOp.and IntKind.u64 (IntKind.u64.wrap (-18)) 31 = 14 := by decide +kernel
  go_enter Tryd.func92, Tryd.ntmps92
  go_wp2
  go_ret
  exact ⟨ret_int (rot_eq x 18 14 16384 262144 hx rfl rfl (by decide)), rfl⟩

theorem right_18 (x : Nat) (w : World) (hx : x < 4294967296) :
    Calls Tryd.prog 80 #[.int .u32 x, .int .i64 18] w fun e w' => e = .returned (.int .u32 (rotr x 18)) ∧ w = w' := by
  go_enter Tryd.func80, Tryd.ntmps80
  go_wp2_with fail
  refine (rot_18 x _ hx).mono ?_
  rintro e w' ⟨rfl, rfl⟩
  go_wp2
  go_ret
  exact ⟨rfl, rfl⟩

theorem rot_19 (x : Nat) (w : World) (hx : x < 4294967296) :
    Calls Tryd.prog 92 #[.int .u32 x, .int .i64 (-19)] w fun e w' => e = .returned (.int .u32 (rotr x 19)) ∧ w = w' := by
  have hx1 : (x : Int) < 4294967296 := by omega
  have hb : bits BinOp.and IntKind.u64 (IntKind.u64.wrap (-19)) 31 = 13 := by decide +kernel
  go_enter Tryd.func92, Tryd.ntmps92
  go_wp2
  go_ret
  exact ⟨ret_int (rot_eq x 19 13 8192 524288 hx rfl rfl (by decide)), rfl⟩

theorem right_19 (x : Nat) (w : World) (hx : x < 4294967296) :
    Calls Tryd.prog 80 #[.int .u32 x, .int .i64 19] w fun e w' => e = .returned (.int .u32 (rotr x 19)) ∧ w = w' := by
  go_enter Tryd.func80, Tryd.ntmps80
  go_wp2_with fail
  refine (rot_19 x _ hx).mono ?_
  rintro e w' ⟨rfl, rfl⟩
  go_wp2
  go_ret
  exact ⟨rfl, rfl⟩

theorem rot_22 (x : Nat) (w : World) (hx : x < 4294967296) :
    Calls Tryd.prog 92 #[.int .u32 x, .int .i64 (-22)] w fun e w' => e = .returned (.int .u32 (rotr x 22)) ∧ w = w' := by
  have hx1 : (x : Int) < 4294967296 := by omega
  have hb : bits BinOp.and IntKind.u64 (IntKind.u64.wrap (-22)) 31 = 10 := by decide +kernel
  go_enter Tryd.func92, Tryd.ntmps92
  go_wp2
  go_ret
  exact ⟨ret_int (rot_eq x 22 10 1024 4194304 hx rfl rfl (by decide)), rfl⟩

theorem right_22 (x : Nat) (w : World) (hx : x < 4294967296) :
    Calls Tryd.prog 80 #[.int .u32 x, .int .i64 22] w fun e w' => e = .returned (.int .u32 (rotr x 22)) ∧ w = w' := by
  go_enter Tryd.func80, Tryd.ntmps80
  go_wp2_with fail
  refine (rot_22 x _ hx).mono ?_
  rintro e w' ⟨rfl, rfl⟩
  go_wp2
  go_ret
  exact ⟨rfl, rfl⟩

theorem rot_25 (x : Nat) (w : World) (hx : x < 4294967296) :
    Calls Tryd.prog 92 #[.int .u32 x, .int .i64 (-25)] w fun e w' => e = .returned (.int .u32 (rotr x 25)) ∧ w = w' := by
  have hx1 : (x : Int) < 4294967296 := by omega
  have hb : bits BinOp.and IntKind.u64 (IntKind.u64.wrap (-25)) 31 = 7 := by decide +kernel
  go_enter Tryd.func92, Tryd.ntmps92
  go_wp2
  go_ret
  exact ⟨ret_int (rot_eq x 25 7 128 33554432 hx rfl rfl (by decide)), rfl⟩

theorem right_25 (x : Nat) (w : World) (hx : x < 4294967296) :
    Calls Tryd.prog 80 #[.int .u32 x, .int .i64 25] w fun e w' => e = .returned (.int .u32 (rotr x 25)) ∧ w = w' := by
  go_enter Tryd.func80, Tryd.ntmps80
  go_wp2_with fail
  refine (rot_25 x _ hx).mono ?_
  rintro e w' ⟨rfl, rfl⟩
  go_wp2
  go_ret
  exact ⟨rfl, rfl⟩

theorem right_any (x : Nat) (m : Int) (w : World) (hx : x < 4294967296) (hm : m = 2 ∨ m = 6 ∨ m = 7 ∨ m = 11 ∨ m = 13 ∨ m = 17 ∨ m = 18 ∨ m = 19 ∨ m = 22 ∨ m = 25) :
    Calls Tryd.prog 80 #[.int .u32 x, .int .i64 m] w fun e w' => e = .returned (.int .u32 (rotr x m.toNat)) ∧ w = w' := by
  rcases hm with rfl | rfl | rfl | rfl | rfl | rfl | rfl | rfl | rfl | rfl
  · exact right_2 x w hx
  · exact right_6 x w hx
  · exact right_7 x w hx
  · exact right_11 x w hx
  · exact right_13 x w hx
  · exact right_17 x w hx
  · exact right_18 x w hx
  · exact right_19 x w hx
  · exact right_22 x w hx
  · exact right_25 x w hx
end Go.Proofs.YtopinlnjdgedeaaDoor

namespace Go.Proofs.YtopinlnjdgedeaaDoor

theorem still1 {P : Program} {f : FuncId} {args : Array Value} {w : World} {n : Nat} {v : Value} (h : ∀ W : World, Calls P f args W fun e w' => e = .returned v ∧ W = w') :
    Calls P f args (w.drewN n) fun e w'' => e = .returned v ∧ ∃ m, w'' = w.drewN m := (h _).mono fun _ _ hh => ⟨hh.1, n, hh.2.symm⟩
theorem still2 {P : Program} {f : FuncId} {args : Array Value} {w : World} {a n : Nat} {v : Value} (h : ∀ W : World, Calls P f args W fun e w' => e = .returned v ∧ W = w') :
    Calls P f args (w.drewN (a + n)) fun e w'' => e = .returned v ∧ ∃ m, w'' = w.drewN (a + m) := (h _).mono fun _ _ hh => ⟨hh.1, n, hh.2.symm⟩
end Go.Proofs.YtopinlnjdgedeaaDoor

namespace Go.Proofs.YtopinlnjdgedeaaDoor
open Go.RowKit

/-- Block b is an array of 64 words. -/
def WAt (w : World) (b : Nat) (l : List Nat) : Prop := w.heap[b]? = some (.cells (wrow l).toArray 127 (0, 0))

theorem WAt.cell {w : World} {b : Nat} {l : List Nat} (h : WAt w b l) {i : Nat} (hi : i < l.length) : w.cell? ⟨b, i, none⟩ = some (.int .u32 (l.getD i 0 : Nat)) := by
  rw [cell_of_row w b i _ _ _ h, List.getElem?_toArray, wrow_get l i hi]
  rfl
theorem WAt.next {w : World} {b : Nat} {l : List Nat} (h : WAt w b l) (hl : l.length < 64) : w.cell? ⟨b, l.length, none⟩ = some (.int .u32 0) := by
  rw [cell_of_row w b _ _ _ _ h, List.getElem?_toArray, wrow_zero l hl]
  rfl
theorem WAt.free {w : World} {b : Nat} {l : List Nat} (h : WAt w b l) (i : Nat) : w.frozen? ⟨b, i, none⟩ = false := frozen_of_row w b i _ _ h
theorem WAt.set {w : World} {b : Nat} {l : List Nat} (h : WAt w b l) (hl : l.length < 64) (x : Nat) {u : Value} (hu : u = uV x) {k : Nat} (hk : k = l.length) : WAt (w.setCell ⟨b, k, none⟩ u) b (l ++ [x]) := by
  subst hu hk
  have := heap_setCell_same w b l.length _ _ (uV x) h
  unfold WAt
  rw [this, List.setIfInBounds_toArray, wrow_set l x hl]
theorem WAt.drewN {w : World} {b : Nat} {l : List Nat} (h : WAt w b l) (n : Nat) : WAt (w.drewN n) b l := h

theorem info64 : (Tryd.prog.info? 127).map (·.size) = some 64 := by kernel_rfl
theorem wrow_one (l : List Nat) : (wrow l).toArray.all (·.oneCell') = true := by
  rw [List.all_toArray, List.all_eq_true]
  intro x hx
  unfold wrow at hx
  rcases List.mem_append.1 hx with h | h
  · obtain ⟨n, _, rfl⟩ := List.mem_map.1 h
    rfl
  · rw [(List.mem_replicate.1 h).2]; rfl
theorem belowRow (B b : Nat) (w : World) (cs : Array Value) (h : B ≤ b) : Below B w (w.setRow b cs) :=
  ⟨rfl, rfl, rfl, by simp, fun k hk => setRow_other w b k cs (by omega)⟩
theorem belowUp (B b i : Nat) (w : World) (v : Value) (h : B ≤ b) : Below B w (w.setCell ⟨b, i, none⟩ v) := (Below.refl B w).setCell (p := ⟨b, i, none⟩) h v

set_option maxHeartbeats 1000000 in
theorem sched_any (s : ByteArray) (w : World) (hs : 64 ≤ s.size) : Calls Tryd.prog 73 #[.string s] w fun e w' => e = .returned (.agg (wrow (wk s 64)).toArray) ∧ Below w.heap.size w w' := by
  have hbt := byN_get s
  go_enter Tryd.func73, Tryd.ntmps73
  go_wp2
  go_loopw [8] (fun i wr => ∃ k : Nat, k ≤ 16 ∧ i = .int .i64 k ∧ Hid (WAt wr (w.heap.size + 1) (wk s k)) ∧ Hid (WAt wr w.heap.size []) ∧ Hid (Below w.heap.size w wr)) (fun i _ => 16 - (RowKit.intOf i).toNat)
  case atStart => exact ⟨0, Nat.zero_le _, rfl, (heap_alloc2_new w _ _).trans rfl, (heap_alloc2_old w _ _).trans rfl, ((Below.refl _ _).alloc (Nat.le_refl _) _).alloc (by simp) _⟩
  case round =>
    obtain ⟨k, hk, rfl, HW, HZ, HL⟩ := hrel
    by_cases hlt : k < 16
    · have hl := wk_length s k
      have hc := HW.out.next (by omega)
      have hf := HW.out.free k
      rw [hl] at hc
      clear hl
      have b0 := byN_lt s (4 * k)
      have b1 := byN_lt s (4 * k + 1)
      have b2 := byN_lt s (4 * k + 2)
      have b3 := byN_lt s (4 * k + 3)
      go_wp2
      go_region
      go_wp2
      go_roundw
      case rel =>
        have hl := wk_length s k
        exact ⟨k + 1, by omega, by go_num, HW.out.set (by omega) (wnext s (wk s k) k) (by rw [be4_eq]; unfold wnext; rw [if_pos hlt]; rfl) hl.symm,
          (heap_setCell_other wr ⟨w.heap.size + 1, k, none⟩ w.heap.size _ (by simp)).trans HZ.out, HL.out.trans (belowUp w.heap.size (w.heap.size + 1) k wr _ (by omega)).drew⟩
      case measure => simp [RowKit.intOf]; omega
    · have hk16 : k = 16 := by omega
      subst hk16
      go_wp2
      go_loopw [5] (fun i wr => ∃ k : Nat, 16 ≤ k ∧ k ≤ 64 ∧ i = .int .i64 k ∧ Hid (WAt wr (w.heap.size + 1) (wk s k)) ∧ Hid (WAt wr w.heap.size []) ∧ Hid (Below w.heap.size w wr)) (fun i _ => 64 - (RowKit.intOf i).toNat)
      case atStart => exact ⟨16, by omega, by omega, rfl, HW, HZ, HL⟩
      case round =>
        clear HW HZ HL
        obtain ⟨k, hk0, hk, rfl, HW, HZ, HL⟩ := hrel
        by_cases hlt : k < 64
        · have hl := wk_length s k
          have c15 := HW.out.cell (i := k - 15) (by omega)
          have c2 := HW.out.cell (i := k - 2) (by omega)
          have c7 := HW.out.cell (i := k - 7) (by omega)
          have c16 := HW.out.cell (i := k - 16) (by omega)
          have hc := HW.out.next (by omega)
          have hf := HW.out.free k
          rw [hl] at hc
          have l15 := getD_lt (wk_lt s k) (k - 15)
          have l2 := getD_lt (wk_lt s k) (k - 2)
          have l7 := getD_lt (wk_lt s k) (k - 7)
          have l16 := getD_lt (wk_lt s k) (k - 16)
          have HN : Hid (wnext s (wk s k) k = _) := if_neg (by omega)
          generalize (wk s k).getD (k - 15) 0 = x15 at *
          generalize (wk s k).getD (k - 2) 0 = x2 at *
          generalize (wk s k).getD (k - 7) 0 = x7 at *
          generalize (wk s k).getD (k - 16) 0 = x16 at *
          clear hl
          go_wp2
          go_quiet ((go_at_call 80; exact still1 fun _ => right_any x15 _ _ l15 (by decide)))
          go_wp2
          go_quiet ((go_at_call 80; exact still2 fun _ => right_any x2 _ _ l2 (by decide)))
          go_wp2
          go_region
          go_wp2
          go_roundw
          case rel =>
            have hl := wk_length s k
            exact ⟨k + 1, by omega, by omega, by go_num, WAt.set (w := wr.drewN _) HW.out (by omega) (wnext s (wk s k) k) (by rw [sig1_eq x2 l2, sig0_eq x15 l15, HN.out]; unfold uV; congr 1) hl.symm,
              (heap_setCell_other (wr.drewN _) ⟨w.heap.size + 1, k, none⟩ w.heap.size _ (by simp)).trans HZ.out, (below_drewN HL.out _).trans (belowUp w.heap.size (w.heap.size + 1) k _ _ (by omega))⟩
          case measure => simp [RowKit.intOf]; omega
        · have hk64 : k = 64 := by omega
          subst hk64
          have hz : (wrow (wk s 64)).toArray.size = 64 := by rw [List.size_toArray, wrow_length _ (by rw [wk_length]; omega)]
          have hi : (Tryd.prog.info? 127).map (·.size) = some (wrow (wk s 64)).toArray.size := by rw [hz]; exact info64
          have hone : (wrow (wk s 64)).toArray.all (·.oneCell') = true := wrow_one _
          have hw : (wrow []).toArray.size = (wrow (wk s 64)).toArray.size := by rw [hz, List.size_toArray, wrow_length _ (Nat.zero_le _)]
          go_wp2_with (first
            | (refine wpList_load_row rfl 127 (.tmp 3) rfl (w.heap.size + 1) rfl _ _ _ _ HW.out Tryd.underlying127 rfl hi ?_)
            | (refine wpList_store_row rfl 127 (.tmp 2) (.tmp 96) rfl w.heap.size _ rfl rfl _ _ HZ.out hi hw hone ?_))
          refine bodyPost_ret (v := .agg (wrow (wk s 64)).toArray) (results_cell_row (p := 2) (ty := 127) rfl _ _ w.heap.size 127 _ (0, 0) _ rfl (setRow_heap _ _ _ _ _ _ HZ.out) Tryd.underlying127 rfl hi) rfl ⟨rfl, HL.out.trans (belowRow _ _ _ _ (Nat.le_refl _))⟩
end Go.Proofs.YtopinlnjdgedeaaDoor
