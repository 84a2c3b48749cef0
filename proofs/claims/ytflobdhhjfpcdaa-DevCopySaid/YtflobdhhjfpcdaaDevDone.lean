/-
  Contracts of package dev: done.
-/
import Derived.Test.YtflobdhhjfpcdaaDevOps
import Derived.StillTailTactics
namespace Go.Proofs.Ytflobdhhjfpcdaa
open Go.RowKit Go.ChangeShapes Go.WideShapes Go.ChangeAt

def wrA (x : WrD) : Value := .agg #[.int .i64 x.1.1, .int .i64 x.1.2, .string x.2]
set_option maxRecDepth 100000 in
set_option maxHeartbeats 1000000 in
theorem ddone_any (p : DevP) (d : DevD) (x : WrD) (w : World) (h : DevAt w p d) (hx : locOk d x.1) : Calls Try.prog 34 #[.pointer (some ⟨p.b, 0, none⟩), wrA x] w fun e w' => e = .returned (.tuple #[]) ∧ DevAt w' p (setHas d x.1 x.2) ∧ Chg [p.h0, p.h1] w w' := by
  obtain ⟨⟨a, b⟩, s⟩ := x
  unfold wrA
  obtain ⟨ha, h0, h1⟩ := hx
  simp only at ha h0 h1
  obtain ⟨k, rfl⟩ : ∃ k : Nat, b = k := ⟨b.toNat, by omega⟩
  have hbx := (Below.refl w.heap.size w).alloc (Nat.le_refl _) (.cells #[.int .i64 a, .int .i64 k, .string s] 62 (0, 0))
  have BX := Box.new w 62 #[.int .i64 a, .int .i64 k, .string s]
  have HX := Lib.hid (h.chg (Chg.of (S := []) hbx (Nat.le_refl _)) (fun _ _ hm => by cases hm))
  have HC := Lib.hid (Chg.of (S := []) hbx (Nat.le_refl _))
  have l0 := h.l0
  have l1 := h.l1
  clear h hbx
  rcases ha with rfl | rfl
  · have hk : k < d.s0.has.length := by have : devSize d 0 = d.s0.has.length := rfl; omega
    clear h0 h1
    go_enter Try.func34, Try.ntmps34
    go_wp2_with fail
    generalize World.alloc _ _ = wx at *
    have hk1 : (0 : Int) ≤ (k : Int) := by omega
    have hk2 : (k : Int) < (d.s0.has.length : Int) := by omega
    have q0 : wx.cell? ⟨w.heap.size, 0, none⟩ = some (.int .i64 0) := BX.cell 0 _ rfl
    have q1 : wx.cell? ⟨w.heap.size, 1, none⟩ = some (.int .i64 k) := BX.cell 1 _ rfl
    have q2 : wx.cell? ⟨w.heap.size, 2, none⟩ = some (.string s) := BX.cell 2 _ rfl
    have c0 : wx.cell? ⟨p.b, 0, none⟩ = some (.slice (some ⟨p.h0, 0, none⟩) d.s0.has.length p.ch0) := HX.out.box.cell 0 _ rfl
    have ce : wx.cell? ⟨p.h0, k, none⟩ = some (.string (d.s0.has[k])) := HX.out.h0.get k _ (List.getElem?_eq_getElem hk)
    have cf : wx.frozen? ⟨p.h0, k, none⟩ = false := HX.out.h0.free k
    have HS := Lib.hid (HX.out.setHas (0, (k : Int)) (.inl rfl) s)
    clear BX l0 l1
    go_still_tail 15, (by kernel_rfl)
    go_wp2
    go_end0
    exact ⟨rfl, DevAt.drewN HS.out 1, (HC.out.mono (fun _ h => by cases h)).trans ((chg_set wx p.h0 k (.string s)).mono (fun k hk => by rw [List.mem_singleton] at hk; simp [hk])).drew⟩
  · have hk : k < d.s1.has.length := by have : devSize d 1 = d.s1.has.length := rfl; omega
    clear h0 h1
    go_enter Try.func34, Try.ntmps34
    go_wp2_with fail
    generalize World.alloc _ _ = wx at *
    have hk1 : (0 : Int) ≤ (k : Int) := by omega
    have hk2 : (k : Int) < (d.s1.has.length : Int) := by omega
    have q0 : wx.cell? ⟨w.heap.size, 0, none⟩ = some (.int .i64 1) := BX.cell 0 _ rfl
    have q1 : wx.cell? ⟨w.heap.size, 1, none⟩ = some (.int .i64 k) := BX.cell 1 _ rfl
    have q2 : wx.cell? ⟨w.heap.size, 2, none⟩ = some (.string s) := BX.cell 2 _ rfl
    have c0 : wx.cell? ⟨p.b, 3, none⟩ = some (.slice (some ⟨p.h1, 0, none⟩) d.s1.has.length p.ch1) := HX.out.box.cell 3 _ rfl
    have ce : wx.cell? ⟨p.h1, k, none⟩ = some (.string (d.s1.has[k])) := HX.out.h1.get k _ (List.getElem?_eq_getElem hk)
    have cf : wx.frozen? ⟨p.h1, k, none⟩ = false := HX.out.h1.free k
    have HS := Lib.hid (HX.out.setHas (1, (k : Int)) (.inr rfl) s)
    clear BX l0 l1
    go_still_tail 15, (by kernel_rfl)
    go_wp2
    go_end0
    exact ⟨rfl, DevAt.drewN HS.out 1, (HC.out.mono (fun _ h => by cases h)).trans ((chg_set wx p.h1 k (.string s)).mono (fun k hk => by rw [List.mem_singleton] at hk; simp [hk])).drew⟩
end Go.Proofs.Ytflobdhhjfpcdaa
