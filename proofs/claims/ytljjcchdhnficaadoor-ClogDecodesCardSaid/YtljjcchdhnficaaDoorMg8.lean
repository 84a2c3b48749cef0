/-
  Texts put together: ClogR, Right.
-/
import Derived.Test.YtljjcchdhnficaaDoorClogP
import Derived.Test.YtljjcchdhnficaaDoorMg7
import Derived.Shelf.SlIterI.Sorted
import Derived.Test.YtljjcchdhnficaaDoorRows
import Derived.Test.YtljjcchdhnficaaDoorMg5
namespace Go.Proofs.YtljjcchdhnficaaDoor
open Go.RowKit Go.Maps Go.Sort Go.Shelf

theorem sortsZ (m : Nat) : AnyZI.SortsIn Tryd.prog Tryd.sortedA_ren Fence.wide m :=
  ⟨fun blk off cap ss W hH hblk hsz => callsIn_wide.2 (Tryd.slices_Sort_int blk off cap ss W hH hblk hsz),
   fun p cap W => callsIn_wide.2 (Tryd.slices_Sort_int_none p cap W)⟩
theorem keys_perm {w : World} {m n : Nat} {D : DataW Unit} {M : List DtD} (hown : w.ownsMap Tryd.prog 3 dtR m n D) (h : DtIs D M) : (M.map (·.1)).Perm (intKeys D) := by
  refine CollectedI.perm (left := fun _ => false) ⟨?_, fun x => ?_⟩ hown keyedZ Tryd.underlying3 (fun _ => rfl)
  · exact List.pairwise_map.2 h.nodup
  · have h1 := h.has x
    unfold kz at h1
    rw [h1]
    constructor
    · intro hx
      obtain ⟨y, hy, rfl⟩ := List.mem_map.1 hx
      rw [dfind_of_mem h.nodup hy]
      exact ⟨rfl, rfl⟩
    · rintro ⟨hx, _⟩
      cases e : findD M x with
      | none => rw [e] at hx; cases hx
      | some v => exact List.mem_map.2 ⟨_, dfind_mem e, rfl⟩

set_option maxHeartbeats 1000000 in
theorem keys_sorted : KeysSorted := by
  intro w m M hM hlen
  obtain ⟨D, hown, hDI⟩ := hM
  have hsize : Maps.size D = M.length := hDI.size
  have hbl := hown.lt
  have cK : CallsIn Fence.wide 5 Tryd.prog 44 #[.map (some m)] w fun e w' => e = .returned (.func (.func 60) #[] #[.pointer (some ⟨w.heap.size, 0, none⟩)]) ∧ w' = w.alloc (.cells #[.map (some m)] 80) := AnyZI.keys_in Tryd.keysA Fence.wide 5 trivial rfl (some m) w
  refine ((callsIn_wide (n := 5)).1 cK).mono ?_
  rintro e w1 ⟨rfl, rfl⟩
  refine ⟨_, rfl, (Below.refl _ w).alloc (Nat.le_refl _) _, ?_⟩
  have hseq : SeqGives Fence.wide 2 Tryd.prog 60 #[.pointer (some ⟨w.heap.size, 0, none⟩)] encZ (fun ss => ss.Perm (intKeys D)) (Maps.size D) (w.alloc (.cells #[.map (some m)] 80)) :=
    AnyZI.keys_gives (ρ := Tryd.keysA_ren) { Tryd.keysA with } Fence.wide _ trivial rfl (by omega) w.heap.size m _ D _ (by simp) (by simp) (by
      obtain ⟨es, clock, hb, Ft, hs, hD⟩ := hown
      exact ⟨es, clock, (Below.heap_alloc _ _ m hbl).trans hb, Ft, hs, hD⟩)
  have cS := AnyZI.sorted_in Tryd.sortedA Fence.wide 5 trivial trivial trivial trivial rfl (by omega) (sortsZ _) (enters_of Tryd.func59 (by kernel_rfl) rfl) 60 #[.pointer (some ⟨w.heap.size, 0, none⟩)] trivial (enters_of Tryd.func60 (by kernel_rfl) rfl) _ _ (by rw [hsize]; unfold maxLen; omega) (by rw [hsize]; omega) _ hseq
  change CallsIn _ _ Tryd.prog 43 _ _ _ at cS
  refine ((callsIn_wide (n := 5)).1 cS).mono ?_
  rintro e w2 ⟨v, ss, rfl, hS, hrow, _, hb⟩
  refine ⟨v, rfl, ?_, hb⟩
  have hp : ss.Perm (M.map (·.1)) := hS.trans (keys_perm hown hDI).symm
  have hk : ss.mergeSort (fun x y => decide (x ≤ y)) = keysD M := mergeSort_of_perm_i hp
  rw [← hk, List.length_mergeSort]
  exact hrow

theorem cmerge_ok (a : Option Addr) (cap : Nat) (l : List BkD) (w : World) (h : SlBk w a l) (hl : l.length ≤ 100) :
    Calls Tryd.prog 20 #[.slice a l.length cap] w fun e w' => ∃ v, e = .returned v ∧ Cgs 54 w' w.heap.size v (mergeL (l.map bkM)) ∧ Below w.heap.size w w' := cmerge_any keys_sorted a cap l w h hl
end Go.Proofs.YtljjcchdhnficaaDoor

namespace Go.Proofs.YtljjcchdhnficaaDoor
open Go.RowKit

theorem rot_2 (x : Nat) (w : World) (hx : x < 4294967296) :
    Calls Tryd.prog 87 #[.int .u32 x, .int .i64 (-2)] w fun e w' => e = .returned (.int .u32 (rotr x 2)) ∧ w = w' := by
  have hx1 : (x : Int) < 4294967296 := by omega
  have hb : bits BinOp.and IntKind.u64 (IntKind.u64.wrap (-2)) 31 = 30 := by decide +kernel
  go_enter Tryd.func87, Tryd.ntmps87
  go_wp2
  go_ret
  exact ⟨ret_int (rot_eq x 2 30 1073741824 4 hx rfl rfl (by decide)), rfl⟩

theorem right_2 (x : Nat) (w : World) (hx : x < 4294967296) :
    Calls Tryd.prog 80 #[.int .u32 x, .int .i64 2] w fun e w' => e = .returned (.int .u32 (rotr x 2)) ∧ w = w' := by
  go_enter Tryd.func80, Tryd.ntmps80
  go_wp2_with fail
  refine (rot_2 x _ hx).mono ?_
  rintro e w' ⟨rfl, rfl⟩
  go_wp2
  go_ret
  exact ⟨rfl, rfl⟩

theorem rot_6 (x : Nat) (w : World) (hx : x < 4294967296) :
    Calls Tryd.prog 87 #[.int .u32 x, .int .i64 (-6)] w fun e w' => e = .returned (.int .u32 (rotr x 6)) ∧ w = w' := by
  have hx1 : (x : Int) < 4294967296 := by omega
  have hb : bits BinOp.and IntKind.u64 (IntKind.u64.wrap (-6)) 31 = 26 := by decide +kernel
  go_enter Tryd.func87, Tryd.ntmps87
  go_wp2
  go_ret
  exact ⟨ret_int (rot_eq x 6 26 67108864 64 hx rfl rfl (by decide)), rfl⟩

theorem right_6 (x : Nat) (w : World) (hx : x < 4294967296) :
    Calls Tryd.prog 80 #[.int .u32 x, .int .i64 6] w fun e w' => e = .returned (.int .u32 (rotr x 6)) ∧ w = w' := by
  go_enter Tryd.func80, Tryd.ntmps80
  go_wp2_with fail
  refine (rot_6 x _ hx).mono ?_
  rintro e w' ⟨rfl, rfl⟩
  go_wp2
  go_ret
  exact ⟨rfl, rfl⟩

theorem rot_7 (x : Nat) (w : World) (hx : x < 4294967296) :
    Calls Tryd.prog 87 #[.int .u32 x, .int .i64 (-7)] w fun e w' => e = .returned (.int .u32 (rotr x 7)) ∧ w = w' := by
  have hx1 : (x : Int) < 4294967296 := by omega
  have hb : bits BinOp.and IntKind.u64 (IntKind.u64.wrap (-7)) 31 = 25 := by decide +kernel
  go_enter Tryd.func87, Tryd.ntmps87
  go_wp2
  go_ret
  exact ⟨ret_int (rot_eq x 7 25 33554432 128 hx rfl rfl (by decide)), rfl⟩

theorem right_7 (x : Nat) (w : World) (hx : x < 4294967296) :
    Calls Tryd.prog 80 #[.int .u32 x, .int .i64 7] w fun e w' => e = .returned (.int .u32 (rotr x 7)) ∧ w = w' := by
  go_enter Tryd.func80, Tryd.ntmps80
  go_wp2_with fail
  refine (rot_7 x _ hx).mono ?_
  rintro e w' ⟨rfl, rfl⟩
  go_wp2
  go_ret
  exact ⟨rfl, rfl⟩

theorem rot_11 (x : Nat) (w : World) (hx : x < 4294967296) :
    Calls Tryd.prog 87 #[.int .u32 x, .int .i64 (-11)] w fun e w' => e = .returned (.int .u32 (rotr x 11)) ∧ w = w' := by
  have hx1 : (x : Int) < 4294967296 := by omega
  have hb : bits BinOp.and IntKind.u64 (IntKind.u64.wrap (-11)) 31 = 21 := by decide +kernel
  go_enter Tryd.func87, Tryd.ntmps87
  go_wp2
  go_ret
  exact ⟨ret_int (rot_eq x 11 21 2097152 2048 hx rfl rfl (by decide)), rfl⟩

theorem right_11 (x : Nat) (w : World) (hx : x < 4294967296) :
    Calls Tryd.prog 80 #[.int .u32 x, .int .i64 11] w fun e w' => e = .returned (.int .u32 (rotr x 11)) ∧ w = w' := by
  go_enter Tryd.func80, Tryd.ntmps80
  go_wp2_with fail
  refine (rot_11 x _ hx).mono ?_
  rintro e w' ⟨rfl, rfl⟩
  go_wp2
  go_ret
  exact ⟨rfl, rfl⟩

theorem rot_13 (x : Nat) (w : World) (hx : x < 4294967296) :
    Calls Tryd.prog 87 #[.int .u32 x, .int .i64 (-13)] w fun e w' => e = .returned (.int .u32 (rotr x 13)) ∧ w = w' := by
  have hx1 : (x : Int) < 4294967296 := by omega
  have hb : bits BinOp.and IntKind.u64 (IntKind.u64.wrap (-13)) 31 = 19 := by decide +kernel
  go_enter Tryd.func87, Tryd.ntmps87
  go_wp2
  go_ret
  exact ⟨ret_int (rot_eq x 13 19 524288 8192 hx rfl rfl (by decide)), rfl⟩

theorem right_13 (x : Nat) (w : World) (hx : x < 4294967296) :
    Calls Tryd.prog 80 #[.int .u32 x, .int .i64 13] w fun e w' => e = .returned (.int .u32 (rotr x 13)) ∧ w = w' := by
  go_enter Tryd.func80, Tryd.ntmps80
  go_wp2_with fail
  refine (rot_13 x _ hx).mono ?_
  rintro e w' ⟨rfl, rfl⟩
  go_wp2
  go_ret
  exact ⟨rfl, rfl⟩

theorem rot_17 (x : Nat) (w : World) (hx : x < 4294967296) :
    Calls Tryd.prog 87 #[.int .u32 x, .int .i64 (-17)] w fun e w' => e = .returned (.int .u32 (rotr x 17)) ∧ w = w' := by
  have hx1 : (x : Int) < 4294967296 := by omega
  have hb : bits BinOp.and IntKind.u64 (IntKind.u64.wrap (-17)) 31 = 15 := by decide +kernel
  go_enter Tryd.func87, Tryd.ntmps87
  go_wp2
  go_ret
  exact ⟨ret_int (rot_eq x 17 15 32768 131072 hx rfl rfl (by decide)), rfl⟩

theorem right_17 (x : Nat) (w : World) (hx : x < 4294967296) :
    Calls Tryd.prog 80 #[.int .u32 x, .int .i64 17] w fun e w' => e = .returned (.int .u32 (rotr x 17)) ∧ w = w' := by
  go_enter Tryd.func80, Tryd.ntmps80
  go_wp2_with fail
  refine (rot_17 x _ hx).mono ?_
  rintro e w' ⟨rfl, rfl⟩
  go_wp2
  go_ret
  exact ⟨rfl, rfl⟩

theorem rot_18 (x : Nat) (w : World) (hx : x < 4294967296) :
    Calls Tryd.prog 87 #[.int .u32 x, .int .i64 (-18)] w fun e w' => e = .returned (.int .u32 (rotr x 18)) ∧ w = w' := by
  have hx1 : (x : Int) < 4294967296 := by omega
  have hb : bits BinOp.and IntKind.u64 (IntKind.u64.wrap (-18)) 31 = 14 := by decide +kernel
  go_enter Tryd.func87, Tryd.ntmps87
  go_wp2
  go_ret
  exact ⟨ret_int (rot_eq x 18 14 16384 262144 hx rfl rfl (by decide)), rfl⟩

theorem right_18 (x : Nat) (w : World) (hx : x < 4294967296) :
    Calls Tryd.prog 80 #[.int .u32 x, .int .i64 18] w fun e w' => e = .returned (.int .u32 (rotr x 18)) ∧ w = w' := by
  go_enter Tryd.func80, Tryd.ntmps80
  go_wp2_with fail
  refine (rot_18 x _ hx).mono ?_
  rintro e w' ⟨rfl, rfl⟩
  go_wp2
  go_ret
  exact ⟨rfl, rfl⟩

theorem rot_19 (x : Nat) (w : World) (hx : x < 4294967296) :
    Calls Tryd.prog 87 #[.int .u32 x, .int .i64 (-19)] w fun e w' => e = .returned (.int .u32 (rotr x 19)) ∧ w = w' := by
  have hx1 : (x : Int) < 4294967296 := by omega
  have hb : bits BinOp.and IntKind.u64 (IntKind.u64.wrap (-19)) 31 = 13 := by decide +kernel
  go_enter Tryd.func87, Tryd.ntmps87
  go_wp2
  go_ret
  exact ⟨ret_int (rot_eq x 19 13 8192 524288 hx rfl rfl (by decide)), rfl⟩

theorem right_19 (x : Nat) (w : World) (hx : x < 4294967296) :
    Calls Tryd.prog 80 #[.int .u32 x, .int .i64 19] w fun e w' => e = .returned (.int .u32 (rotr x 19)) ∧ w = w' := by
  go_enter Tryd.func80, Tryd.ntmps80
  go_wp2_with fail
  refine (rot_19 x _ hx).mono ?_
  rintro e w' ⟨rfl, rfl⟩
  go_wp2
  go_ret
  exact ⟨rfl, rfl⟩

theorem rot_22 (x : Nat) (w : World) (hx : x < 4294967296) :
    Calls Tryd.prog 87 #[.int .u32 x, .int .i64 (-22)] w fun e w' => e = .returned (.int .u32 (rotr x 22)) ∧ w = w' := by
  have hx1 : (x : Int) < 4294967296 := by omega
  have hb : bits BinOp.and IntKind.u64 (IntKind.u64.wrap (-22)) 31 = 10 := by decide +kernel
  go_enter Tryd.func87, Tryd.ntmps87
  go_wp2
  go_ret
  exact ⟨ret_int (rot_eq x 22 10 1024 4194304 hx rfl rfl (by decide)), rfl⟩

theorem right_22 (x : Nat) (w : World) (hx : x < 4294967296) :
    Calls Tryd.prog 80 #[.int .u32 x, .int .i64 22] w fun e w' => e = .returned (.int .u32 (rotr x 22)) ∧ w = w' := by
  go_enter Tryd.func80, Tryd.ntmps80
  go_wp2_with fail
  refine (rot_22 x _ hx).mono ?_
  rintro e w' ⟨rfl, rfl⟩
  go_wp2
  go_ret
  exact ⟨rfl, rfl⟩

theorem rot_25 (x : Nat) (w : World) (hx : x < 4294967296) :
    Calls Tryd.prog 87 #[.int .u32 x, .int .i64 (-25)] w fun e w' => e = .returned (.int .u32 (rotr x 25)) ∧ w = w' := by
  have hx1 : (x : Int) < 4294967296 := by omega
  have hb : bits BinOp.and IntKind.u64 (IntKind.u64.wrap (-25)) 31 = 7 := by decide +kernel
  go_enter Tryd.func87, Tryd.ntmps87
  go_wp2
  go_ret
  exact ⟨ret_int (rot_eq x 25 7 128 33554432 hx rfl rfl (by decide)), rfl⟩

theorem right_25 (x : Nat) (w : World) (hx : x < 4294967296) :
    Calls Tryd.prog 80 #[.int .u32 x, .int .i64 25] w fun e w' => e = .returned (.int .u32 (rotr x 25)) ∧ w = w' := by
  go_enter Tryd.func80, Tryd.ntmps80
  go_wp2_with fail
  refine (rot_25 x _ hx).mono ?_
  rintro e w' ⟨rfl, rfl⟩
  go_wp2
  go_ret
  exact ⟨rfl, rfl⟩

theorem right_any (x : Nat) (m : Int) (w : World) (hx : x < 4294967296) (hm : m = 2 ∨ m = 6 ∨ m = 7 ∨ m = 11 ∨ m = 13 ∨ m = 17 ∨ m = 18 ∨ m = 19 ∨ m = 22 ∨ m = 25) :
    Calls Tryd.prog 80 #[.int .u32 x, .int .i64 m] w fun e w' => e = .returned (.int .u32 (rotr x m.toNat)) ∧ w = w' := by
  rcases hm with rfl | rfl | rfl | rfl | rfl | rfl | rfl | rfl | rfl | rfl
  · exact right_2 x w hx
  · exact right_6 x w hx
  · exact right_7 x w hx
  · exact right_11 x w hx
  · exact right_13 x w hx
  · exact right_17 x w hx
  · exact right_18 x w hx
  · exact right_19 x w hx
  · exact right_22 x w hx
  · exact right_25 x w hx
end Go.Proofs.YtljjcchdhnficaaDoor
