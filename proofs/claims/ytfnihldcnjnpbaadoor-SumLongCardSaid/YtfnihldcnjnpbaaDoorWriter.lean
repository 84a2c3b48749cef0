/-
  The contracts of the writer's methods.
-/
import Derived.Test.YtfnihldcnjnpbaaDoorFinish
import Derived.Test.YtfnihldcnjnpbaaDoorClone
namespace Go.Proofs.YtfnihldcnjnpbaaDoor
open Go.RowKit

/-- Block b is a Writer. -/
def WtAt (w : World) (b : Nat) (st : St) (r : ByteArray) (n : Nat) : Prop := w.heap[b]? = some (.cells (hrow st ++ [Value.string r, Value.int .i64 (n : Int)]).toArray 74 (0, 0))
theorem WtAt.below {N : Nat} {w w' : World} {b : Nat} {st : St} {r : ByteArray} {n : Nat} (h : WtAt w b st r n) (hb : Below N w w') (hn : b < N) : WtAt w' b st r n := (hb.block b hn).trans h
theorem WtAt.lt {w : World} {b : Nat} {st : St} {r : ByteArray} {n : Nat} (h : WtAt w b st r n) : b < w.heap.size := World.block_lt_of_cell? w (⟨b, 0, none⟩ : Addr) (u := uV st.a) (by rw [cell_of_row w b 0 _ _ _ h]; rfl)
theorem WtAt.tail {w : World} {b : Nat} {st : St} {r : ByteArray} {n : Nat} (h : WtAt w b st r n) : w.cell? ⟨b, 8, none⟩ = some (.string r) ∧ w.cell? ⟨b, 9, none⟩ = some (.int .i64 (n : Int)) := by
  refine ⟨?_, ?_⟩ <;> (rw [cell_of_row w b _ _ _ _ h]; rfl)
theorem WtAt.head {w : World} {b : Nat} {st : St} {r : ByteArray} {n : Nat} (h : WtAt w b st r n) :
    w.cell? ⟨b, 0, none⟩ = some (.int .u32 st.a) ∧ w.cell? ⟨b, 1, none⟩ = some (.int .u32 st.b) ∧ w.cell? ⟨b, 2, none⟩ = some (.int .u32 st.c) ∧ w.cell? ⟨b, 3, none⟩ = some (.int .u32 st.d) ∧
    w.cell? ⟨b, 4, none⟩ = some (.int .u32 st.e) ∧ w.cell? ⟨b, 5, none⟩ = some (.int .u32 st.f) ∧ w.cell? ⟨b, 6, none⟩ = some (.int .u32 st.g) ∧ w.cell? ⟨b, 7, none⟩ = some (.int .u32 st.h) := by
  refine ⟨?_, ?_, ?_, ?_, ?_, ?_, ?_, ?_⟩ <;> (rw [cell_of_row w b _ _ _ _ h]; rfl)
theorem WtAt.free {w : World} {b : Nat} {st : St} {r : ByteArray} {n : Nat} (h : WtAt w b st r n) (i : Nat) : w.frozen? ⟨b, i, none⟩ = false := frozen_of_row w b i _ _ h

theorem now_any (b : Nat) (st : St) (r : ByteArray) (n : Nat) (w : World) (h : WtAt w b st r n) :
    Calls Tryd.prog 48 #[.pointer (some ⟨b, 0, none⟩)] w fun e w' => e = .returned (.agg (hrow (nowS st n)).toArray) ∧ Below w.heap.size w w' := by
  obtain ⟨h8, h9⟩ := h.tail
  have hlt := h.lt
  by_cases hn : n < 64
  · rw [show nowS st n = H0 from if_pos hn]
    clear h
    go_enter Tryd.func48, Tryd.ntmps48
    go_wp2_with fail
    refine (roots_any _).mono ?_
    rintro e w1 ⟨rfl, hb⟩
    have G : Hid (w1.heap[w.heap.size]? = some (.cells (hrow ⟨0, 0, 0, 0, 0, 0, 0, 0⟩).toArray 49 (0, 0))) := (hb.block w.heap.size (by simp)).trans (heap_alloc_new w _)
    have HB := Lib.hid (((Below.refl _ _).alloc (Nat.le_refl _) _).trans (hb.mono (by simp)))
    clear hb
    go_wp2_with (refine wpList_store_row rfl 49 (.tmp 2) (.tmp 8) rfl w.heap.size (hrow H0).toArray rfl rfl _ _ G.out (hrow_info _) rfl (hrow_one _) ?_)
    refine bodyPost_ret (v := .agg (hrow H0).toArray) (results_cell_row (p := 2) (ty := 49) rfl _ _ w.heap.size 49 _ (0, 0) _ rfl (setRow_heap _ _ _ _ _ _ G.out) Tryd.underlying49 rfl (hrow_info _)) rfl ⟨rfl, HB.out.trans (belowRow _ _ _ _ (Nat.le_refl _))⟩
  · rw [show nowS st n = st from if_neg hn]
    obtain ⟨c0, c1, c2, c3, c4, c5, c6, c7⟩ := h.head
    clear h
    go_enter Tryd.func48, Tryd.ntmps48
    go_wp2_with (refine wpList_store_row rfl 49 (.tmp 2) (.tmp 12) rfl w.heap.size (hrow st).toArray rfl rfl _ _ (heap_alloc_new w _) (hrow_info _) rfl (hrow_one _) ?_)
    refine bodyPost_ret (v := .agg (hrow st).toArray) (results_cell_row (p := 2) (ty := 49) rfl _ _ w.heap.size 49 _ (0, 0) _ rfl (setRow_heap _ _ _ _ _ _ (heap_alloc_new w _)) Tryd.underlying49 rfl (hrow_info _)) rfl ⟨rfl, ((Below.refl _ _).alloc (Nat.le_refl _) _).trans (belowRow _ _ _ _ (Nat.le_refl _))⟩

set_option maxHeartbeats 1000000 in
theorem sum_any (b : Nat) (st : St) (r : ByteArray) (n : Nat) (w : World) (h : WtAt w b st r n) (hst : st.ok) (hn : n ≤ 140737488355328) (hr : r.size ≤ 140737488355328) (hK : Kt w) :
    Calls Tryd.prog 21 #[.pointer (some ⟨b, 0, none⟩)] w fun e w' => e = .returned (.string (sumW st r n)) ∧ Below w.heap.size w w' := by
  have H := Lib.hid h
  have HK := Lib.hid hK
  have HP := Lib.hid hK.pos
  have HO := Lib.hid (nowS_ok (n := n) hst)
  have hlt := Lib.hid h.lt
  obtain ⟨h8, h9⟩ := h.tail
  clear h hK hst
  go_enter Tryd.func21, Tryd.ntmps21
  go_wp2_with fail
  go_region_held3 (fun w' => w'.cell? ⟨b, 8, none⟩ = some (.string r) ∧ w'.cell? ⟨b, 9, none⟩ = some (.int .i64 (n : Int))) (first | go_keep | exact hk1 | exact hk2)
    (first
      | (go_at_call 48; refine (now_any b st r n _ (by exact H.out)).mono ?_; rintro e w1 ⟨rfl, hb⟩; have hb1 : Below w.heap.size w w1 := ⟨hb.os, hb.tape, hb.output, hb.size, hb.block⟩; have hk1 := (WtAt.below H.out hb1 hlt.out).tail; have HB1 := Lib.hid hb1; have HK1 := Lib.hid (HK.out.below hb1 HP.out); have H1 := Lib.hid (WtAt.below H.out hb1 hlt.out); clear hb hb1)
      | (go_at_call 23; refine (finish_any _ r n _ HO.out hn hr (by exact HK1.out)).mono ?_; rintro e w2 ⟨rfl, hb⟩; have hk2 := (WtAt.below H1.out hb (Nat.lt_of_lt_of_le hlt.out HB1.out.size)).tail; have HB2 := Lib.hid (HB1.out.trans (hb.mono HB1.out.size)); clear hb))
  have HS : Hid ((⟨(digest (finS (nowS st n) r n)).toArray⟩ : ByteArray) = sumW st r n) := rfl
  rw [HS.out]
  go_wp2
  go_ret
  exact ⟨rfl, HB2.out⟩

theorem sum_nil (w : World) (hK : Kt w) : Calls Tryd.prog 21 #[.pointer none] w fun e w' => e = .returned (.string (sha ⟨#[]⟩)) ∧ Below w.heap.size w w' := by
  have HK := Lib.hid hK
  clear hK
  go_enter Tryd.func21, Tryd.ntmps21
  go_wp2_with fail
  refine (of_any _ _ (by decide) HK.out).mono ?_
  rintro e w1 ⟨rfl, hb⟩
  have HB := Lib.hid hb
  clear hb
  go_wp2
  go_ret
  exact ⟨rfl, HB.out⟩

theorem len_any (b : Nat) (st : St) (r : ByteArray) (n : Nat) (w : World) (h : WtAt w b st r n) :
    Calls Tryd.prog 22 #[.pointer (some ⟨b, 0, none⟩)] w fun e w' => e = .returned (.int .i64 (n : Int)) ∧ w = w' := by
  obtain ⟨h8, h9⟩ := h.tail
  clear h
  go_enter Tryd.func22, Tryd.ntmps22
  go_wp2
  go_ret
  exact ⟨rfl, rfl⟩

theorem len_nil (w : World) : Calls Tryd.prog 22 #[.pointer none] w fun e w' => e = .returned (.int .i64 0) ∧ w = w' := by
  go_enter Tryd.func22, Tryd.ntmps22
  go_wp2
  go_ret
  exact ⟨rfl, rfl⟩

theorem write_nil (s : ByteArray) (w : World) : Calls Tryd.prog 20 #[.pointer none, .string s] w fun e w' => e = .returned (.tuple #[]) ∧ w = w' := by
  go_enter Tryd.func20, Tryd.ntmps20
  go_wp2
  refine bodyPost_ret (results_none rfl _ _ _) rfl ?_
  exact ⟨rfl, rfl⟩

theorem new_any (w : World) : Calls Tryd.prog 19 #[] w fun e w' => e = .returned (.pointer (some ⟨w.heap.size, 0, none⟩)) ∧ WtAt w' w.heap.size ⟨0, 0, 0, 0, 0, 0, 0, 0⟩ ⟨#[]⟩ 0 ∧ Below w.heap.size w w' := by
  go_enter Tryd.func19, Tryd.ntmps19
  go_wp2
  go_ret
  exact ⟨rfl, heap_alloc_new w _, (Below.refl _ _).alloc (Nat.le_refl _) _⟩
end Go.Proofs.YtfnihldcnjnpbaaDoor
