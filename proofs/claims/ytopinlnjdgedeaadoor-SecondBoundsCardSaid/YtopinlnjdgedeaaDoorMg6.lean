/-
  Texts put together: DevWrite, DevDone.
-/
import Derived.Test.YtopinlnjdgedeaaDoorDevOps
import Derived.StillTailTactics
namespace Go.Proofs.YtopinlnjdgedeaaDoor
open Go.RowKit Go.ChangeShapes Go.WideShapes Go.ChangeAt

def writeD (d : DevD) (l : Int × Int) (s : ByteArray) : DevD := if chkD d l s.size = 0 then { setTell d l s with waits := d.waits ++ [(l, s)] } else d

theorem dwrite_nil (l : Int × Int) (s : ByteArray) (w : World) : Calls Tryd.prog 28 #[.pointer none, locV l, .string s] w fun e w' => e = .returned (.int .i64 1) ∧ Below w.heap.size w w' := by
  obtain ⟨a, b⟩ := l
  unfold locV
  have hx := Lib.hid ((Below.refl w.heap.size w).alloc (Nat.le_refl _) (.cells #[.int .i64 a, .int .i64 b] 48 (0, 0)))
  have k0 : (w.alloc (.cells #[.int .i64 a, .int .i64 b] 48 (0, 0))).cell? ⟨w.heap.size, 0, none⟩ = some (.int .i64 a) := boxed0 _ _ _ _ 0 _ rfl
  have k1 : (w.alloc (.cells #[.int .i64 a, .int .i64 b] 48 (0, 0))).cell? ⟨w.heap.size, 1, none⟩ = some (.int .i64 b) := boxed0 _ _ _ _ 1 _ rfl
  go_enter Tryd.func28, Tryd.ntmps28
  go_wp2_with fail
  generalize World.alloc _ _ = wx at *
  refine (dcheck_nil (a, b) s wx).mono ?_
  rintro e w1 ⟨rfl, hb⟩
  have HB := Lib.hid (hx.out.trans (hb.mono hx.out.size))
  clear hb
  go_wp2
  go_ret
  exact ⟨rfl, HB.out⟩

set_option maxRecDepth 100000 in
set_option maxHeartbeats 1000000 in
theorem dwrite_any (p : DevP) (d : DevD) (l : Int × Int) (s : ByteArray) (w : World) (h : DevAt w p d) (hlen : d.waits.length ≤ 100000) : Calls Tryd.prog 28 #[.pointer (some ⟨p.b, 0, none⟩), locV l, .string s] w fun e w' => e = .returned (.int .i64 (chkD d l s.size)) ∧ DevTo p (writeD d l s) w w' := by
  obtain ⟨a, b⟩ := l
  unfold locV
  have hx := Lib.hid ((Below.refl w.heap.size w).alloc (Nat.le_refl _) (.cells #[.int .i64 a, .int .i64 b] 48 (0, 0)))
  have BX := Lib.hid (Box.new w 48 #[.int .i64 a, .int .i64 b])
  have HX := Lib.hid (h.chg (Chg.of (S := []) hx.out (Nat.le_refl _)) (fun _ _ hm => by cases hm))
  have k0 : (w.alloc (.cells #[.int .i64 a, .int .i64 b] 48 (0, 0))).cell? ⟨w.heap.size, 0, none⟩ = some (.int .i64 a) := boxed0 _ _ _ _ 0 _ rfl
  have k1 : (w.alloc (.cells #[.int .i64 a, .int .i64 b] 48 (0, 0))).cell? ⟨w.heap.size, 1, none⟩ = some (.int .i64 b) := boxed0 _ _ _ _ 1 _ rfl
  have HL := Lib.hid hlen
  have HP := Lib.hid h.lt
  clear h hlen
  have HW : Hid (writeD d (a, b) s = if chkD d (a, b) s.size = 0 then { setTell d (a, b) s with waits := d.waits ++ [((a, b), s)] } else d) := rfl
  go_enter Tryd.func28, Tryd.ntmps28
  go_wp2_with fail
  generalize World.alloc _ _ = wx at *
  refine (dcheck_any p d (a, b) s wx HX.out).mono ?_
  rintro e w1 ⟨rfl, hb⟩
  have HB := Lib.hid (hx.out.trans (hb.mono hx.out.size))
  have H1 := Lib.hid (HX.out.chg (Chg.of (S := []) hb (Nat.le_refl _)) (fun _ _ hm => by cases hm))
  have B1 := Lib.hid (BX.out.keep hb BX.out.lt)
  clear hb HX BX k0 k1 hx
  by_cases hc : chkD d (a, b) s.size = 0
  · obtain ⟨ha, h0, h1, _, _⟩ := chkD_ok hc
    simp only at ha h0 h1
    have HC0 := Lib.hid hc
    rw [hc]
    rw [if_pos hc] at HW
    clear hc
    have k0 : w1.cell? ⟨w.heap.size, 0, none⟩ = some (.int .i64 a) := B1.out.cell 0 _ rfl
    have k1 : w1.cell? ⟨w.heap.size, 1, none⟩ = some (.int .i64 b) := B1.out.cell 1 _ rfl
    have k6 : w1.cell? ⟨p.b, 6, none⟩ = some p.wv := H1.out.box.cell 6 _ rfl
    have HA := Lib.hid ha
    have HI := Lib.hid (And.intro h0 h1)
    clear ha h0 h1
    go_wp2_with fail
    have k00 : w1.drew.cell? ⟨w.heap.size, 0, none⟩ = some (.int .i64 a) := k0
    have k01 : w1.drew.cell? ⟨w.heap.size, 1, none⟩ = some (.int .i64 b) := k1
    have k06 : w1.drew.cell? ⟨p.b, 6, none⟩ = some p.wv := k6
    have kA6 : ∀ o : Obj, (w1.alloc o).cell? ⟨p.b, 6, none⟩ = some p.wv := fun o => (H1.out.box.alloc o).cell 6 _ rfl
    go_region_law
      ((refine step_wr_push rfl (.tmp 19) (.tmp 23) rfl p.wv d.waits (by simp [Act.eval]) (by exact Wrs.below (n := w1.heap.size) H1.out.wt (((Below.refl _ _).drew).alloc (Nat.le_refl _) _) (Nat.le_refl _)) ⟨w1.heap.size, 0, none⟩ 1 ((a, b), s) (by simp [Act.eval]) (by intro j u hj; rw [add_plain, Nat.zero_add]; exact boxed0 w1 _ _ _ j u (by rw [List.getElem?_toArray]; exact hj)) HL.out ?_; intro g cap w5 hr hc hg; have hcw := (Chg.of (S := p.wv.ownBlock.toList) (show Below w1.heap.size w1 _ from ((Below.refl _ _).alloc (Nat.le_refl _) _).drew) (Nat.le_refl _)).trans hc; have hb5 := H1.out.box.of (hcw.block p.b H1.out.box.lt (fun hm => (H1.out.ne.2.2.2.2.2.2.2.2.2.2 p.b (by simpa using hm)).1 rfl)); have c6 : w5.cell? ⟨p.b, 6, none⟩ = some p.wv := hb5.cell 6 _ rfl; have f6 : w5.frozen? ⟨p.b, 6, none⟩ = false := hb5.free 6; have HR5 := Lib.hid hr; have HG5 := Lib.hid hg; have HC5 := Lib.hid hcw; clear hr hg hc hcw hb5))
    all_goals
      have hg := HG5.out
      have hs1 := HB.out.size
      rw [show (World.drew _).heap.size = (w1.alloc _).heap.size from rfl, size_alloc] at hg
      have hN := H1.out.newWaits HC5.out (v' := .slice (some ⟨g, 0, none⟩) (d.waits.length + 1) cap) HR5.out (fun k hk => by
        simp only [Value.ownBlock, Option.some.injEq] at hk
        subst hk
        rcases hg with e | e
        · exact .inl e
        · exact .inr (by omega)) (fun x hx => by
        rcases List.mem_append.1 hx with h1 | h1
        · exact H1.out.wok x h1
        · rw [List.mem_singleton] at h1; subst h1; exact ⟨HA.out, HI.out.1, HI.out.2⟩)
      have hBx : Box (w5.setCell ⟨p.b, 6, none⟩ (.slice (some ⟨g, 0, none⟩) (d.waits.length + 1) cap)) w.heap.size 48 #[.int .i64 a, .int .i64 b] := by
        have hb := B1.out.of (HC5.out.block _ B1.out.lt (fun hm => by have := HP.out _ (show w.heap.size ∈ p.fp by simp only [DevP.fp]; exact List.mem_append_right _ hm); omega))
        exact hb.of ((chg_set w5 p.b 6 _).block _ hb.lt (by have := HP.out p.b (by simp [DevP.fp]); simp; omega))
      have HN := Lib.hid hN.1
      have HM := Lib.hid hN.2
      have HBx := Lib.hid hBx
      clear hN hBx hg hs1 HG5 HR5 HC5 c6 f6 k0 k1 k6 k00 k01 k06 kA6
      generalize World.setCell _ _ _ = w6 at *
      obtain ⟨k, rfl⟩ : ∃ k : Nat, b = k := ⟨b.toNat, by have := HI.out; omega⟩
      have q0 : w6.cell? ⟨w.heap.size, 0, none⟩ = some (.int .i64 a) := HBx.out.cell 0 _ rfl
      have q1 : w6.cell? ⟨w.heap.size, 1, none⟩ = some (.int .i64 k) := HBx.out.cell 1 _ rfl
      have q00 : w6.drew.cell? ⟨w.heap.size, 0, none⟩ = some (.int .i64 a) := q0
      have q01 : w6.drew.cell? ⟨w.heap.size, 1, none⟩ = some (.int .i64 k) := q1
      have hT := HN.out.setTell (a, (k : Int)) HA.out s
      have hM := HM.out.trans (HN.out.mvTell a k (.string s))
      have HT := Lib.hid hT
      have HMM := Lib.hid hM
      clear hT hM
      rcases HA.out with rfl | rfl
      · have hk : k < d.s0.tells.length := by rw [H1.out.l0]; have := HI.out; have : devSize d 0 = d.s0.has.length := rfl; omega
        have hk1 : (0 : Int) ≤ (k : Int) := by omega
        have hk2 : (k : Int) < (d.s0.tells.length : Int) := by omega
        have c1 : w6.cell? ⟨p.b, 1, none⟩ = some (.slice (some ⟨p.t0, 0, none⟩) d.s0.tells.length p.ct0) := HN.out.box.cell 1 _ rfl
        have ce : w6.cell? ⟨p.t0, k, none⟩ = some (.string (d.s0.tells[k])) := HN.out.t0.get k _ (List.getElem?_eq_getElem hk)
        have cf : w6.frozen? ⟨p.t0, k, none⟩ = false := HN.out.t0.free k
        have HCE := Lib.hid hk
        go_wp2_with fail
        go_region
        all_goals
          go_wp2
          go_ret
          refine ⟨ret_int HC0.out.symm, ?_⟩
          rw [HW.out]
          exact (DevTo.ofChg (Chg.of HB.out (Nat.le_refl _)) (DevTo.mk HT.out HMM.out)).drew
      · have hk : k < d.s1.tells.length := by rw [H1.out.l1]; have := HI.out; have : devSize d 1 = d.s1.has.length := rfl; omega
        have hk1 : (0 : Int) ≤ (k : Int) := by omega
        have hk2 : (k : Int) < (d.s1.tells.length : Int) := by omega
        have c1 : w6.cell? ⟨p.b, 4, none⟩ = some (.slice (some ⟨p.t1, 0, none⟩) d.s1.tells.length p.ct1) := HN.out.box.cell 4 _ rfl
        have ce : w6.cell? ⟨p.t1, k, none⟩ = some (.string (d.s1.tells[k])) := HN.out.t1.get k _ (List.getElem?_eq_getElem hk)
        have cf : w6.frozen? ⟨p.t1, k, none⟩ = false := HN.out.t1.free k
        have HCE := Lib.hid hk
        go_wp2_with fail
        go_region
        all_goals
          go_wp2
          go_ret
          refine ⟨ret_int HC0.out.symm, ?_⟩
          rw [HW.out]
          exact (DevTo.ofChg (Chg.of HB.out (Nat.le_refl _)) (DevTo.mk HT.out HMM.out)).drew
    
  · have hq : (chkD d (a, b) s.size != 0) = true := by simpa using hc
    rw [if_neg hc] at HW
    clear hc
    go_wp2
    go_ret
    refine ⟨rfl, ?_⟩
    rw [HW.out]
    exact ⟨p, H1.out, (Mv.refl p w1).ofChg (Chg.of HB.out (Nat.le_refl _))⟩
end Go.Proofs.YtopinlnjdgedeaaDoor

namespace Go.Proofs.YtopinlnjdgedeaaDoor
open Go.RowKit Go.ChangeShapes Go.WideShapes Go.ChangeAt

def wrA (x : WrD) : Value := .agg #[.int .i64 x.1.1, .int .i64 x.1.2, .string x.2]
set_option maxRecDepth 100000 in
set_option maxHeartbeats 1000000 in
theorem ddone_any (p : DevP) (d : DevD) (x : WrD) (w : World) (h : DevAt w p d) (hx : locOk d x.1) : Calls Tryd.prog 32 #[.pointer (some ⟨p.b, 0, none⟩), wrA x] w fun e w' => e = .returned (.tuple #[]) ∧ DevAt w' p (setHas d x.1 x.2) ∧ Chg [p.h0, p.h1] w w' := by
  obtain ⟨⟨a, b⟩, s⟩ := x
  unfold wrA
  obtain ⟨ha, h0, h1⟩ := hx
  simp only at ha h0 h1
  obtain ⟨k, rfl⟩ : ∃ k : Nat, b = k := ⟨b.toNat, by omega⟩
  have hbx := (Below.refl w.heap.size w).alloc (Nat.le_refl _) (.cells #[.int .i64 a, .int .i64 k, .string s] 86 (0, 0))
  have BX := Box.new w 86 #[.int .i64 a, .int .i64 k, .string s]
  have HX := Lib.hid (h.chg (Chg.of (S := []) hbx (Nat.le_refl _)) (fun _ _ hm => by cases hm))
  have HC := Lib.hid (Chg.of (S := []) hbx (Nat.le_refl _))
  have l0 := h.l0
  have l1 := h.l1
  clear h hbx
  rcases ha with rfl | rfl
  · have hk : k < d.s0.has.length := by have : devSize d 0 = d.s0.has.length := rfl; omega
    clear h0 h1
    go_enter Tryd.func32, Tryd.ntmps32
    go_wp2_with fail
    generalize World.alloc _ _ = wx at *
    have hk1 : (0 : Int) ≤ (k : Int) := by omega
    have hk2 : (k : Int) < (d.s0.has.length : Int) := by omega
    have q0 : wx.cell? ⟨w.heap.size, 0, none⟩ = some (.int .i64 0) := BX.cell 0 _ rfl
    have q1 : wx.cell? ⟨w.heap.size, 1, none⟩ = some (.int .i64 k) := BX.cell 1 _ rfl
    have q2 : wx.cell? ⟨w.heap.size, 2, none⟩ = some (.string s) := BX.cell 2 _ rfl
    have c0 : wx.cell? ⟨p.b, 0, none⟩ = some (.slice (some ⟨p.h0, 0, none⟩) d.s0.has.length p.ch0) := HX.out.box.cell 0 _ rfl
    have ce : wx.cell? ⟨p.h0, k, none⟩ = some (.string (d.s0.has[k])) := HX.out.h0.get k _ (List.getElem?_eq_getElem hk)
    have cf : wx.frozen? ⟨p.h0, k, none⟩ = false := HX.out.h0.free k
    have HS := Lib.hid (HX.out.setHas (0, (k : Int)) (.inl rfl) s)
    clear BX l0 l1
    go_still_tail 15, (by kernel_rfl)
    go_wp2
    go_end0
    exact ⟨rfl, DevAt.drewN HS.out 1, (HC.out.mono (fun _ h => by cases h)).trans ((chg_set wx p.h0 k (.string s)).mono (fun k hk => by rw [List.mem_singleton] at hk; simp [hk])).drew⟩
  · have hk : k < d.s1.has.length := by have : devSize d 1 = d.s1.has.length := rfl; omega
    clear h0 h1
    go_enter Tryd.func32, Tryd.ntmps32
    go_wp2_with fail
    generalize World.alloc _ _ = wx at *
    have hk1 : (0 : Int) ≤ (k : Int) := by omega
    have hk2 : (k : Int) < (d.s1.has.length : Int) := by omega
    have q0 : wx.cell? ⟨w.heap.size, 0, none⟩ = some (.int .i64 1) := BX.cell 0 _ rfl
    have q1 : wx.cell? ⟨w.heap.size, 1, none⟩ = some (.int .i64 k) := BX.cell 1 _ rfl
    have q2 : wx.cell? ⟨w.heap.size, 2, none⟩ = some (.string s) := BX.cell 2 _ rfl
    have c0 : wx.cell? ⟨p.b, 3, none⟩ = some (.slice (some ⟨p.h1, 0, none⟩) d.s1.has.length p.ch1) := HX.out.box.cell 3 _ rfl
    have ce : wx.cell? ⟨p.h1, k, none⟩ = some (.string (d.s1.has[k])) := HX.out.h1.get k _ (List.getElem?_eq_getElem hk)
    have cf : wx.frozen? ⟨p.h1, k, none⟩ = false := HX.out.h1.free k
    have HS := Lib.hid (HX.out.setHas (1, (k : Int)) (.inr rfl) s)
    clear BX l0 l1
    go_still_tail 15, (by kernel_rfl)
    go_wp2
    go_end0
    exact ⟨rfl, DevAt.drewN HS.out 1, (HC.out.mono (fun _ h => by cases h)).trans ((chg_set wx p.h1 k (.string s)).mono (fun k hk => by rw [List.mem_singleton] at hk; simp [hk])).drew⟩
end Go.Proofs.YtopinlnjdgedeaaDoor
