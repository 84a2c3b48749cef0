/-
  Texts put together: DevWrite, DevDone, DevEnd.
-/
import Derived.Test.YtphhnhldbajaoaaGreatDoorMg8
import Derived.StillTailTactics
import Derived.Laws.CopyRow
namespace Go.Proofs.YtphhnhldbajaoaaGreatDoor
open Go.RowKit Go.ChangeShapes Go.WideShapes Go.ChangeAt

def writeD (d : DevD) (l : Int × Int) (s : ByteArray) : DevD := if chkD d l s.size = 0 then { setTell d l s with waits := d.waits ++ [(l, s)] } else d

set_option maxRecDepth 100000 in
set_option maxHeartbeats 1000000 in
theorem dwrite_any (p : DevP) (d : DevD) (l : Int × Int) (s : ByteArray) (w : World) (h : DevAt w p d) (hlen : d.waits.length ≤ 100000) : Calls Tryz.prog 106 #[.pointer (some ⟨p.b, 0, none⟩), locV l, .string s] w fun e w' => e = .returned (.int .i64 (chkD d l s.size)) ∧ DevTo p (writeD d l s) w w' := by
  obtain ⟨a, b⟩ := l
  unfold locV
  have hx := Lib.hid ((Below.refl w.heap.size w).alloc (Nat.le_refl _) (.cells #[.int .i64 a, .int .i64 b] 47 (0, 0)))
  have BX := Lib.hid (Box.new w 47 #[.int .i64 a, .int .i64 b])
  have HX := Lib.hid (h.chg (Chg.of (S := []) hx.out (Nat.le_refl _)) (fun _ _ hm => by cases hm))
  have k0 : (w.alloc (.cells #[.int .i64 a, .int .i64 b] 47 (0, 0))).cell? ⟨w.heap.size, 0, none⟩ = some (.int .i64 a) := boxed0 _ _ _ _ 0 _ rfl
  have k1 : (w.alloc (.cells #[.int .i64 a, .int .i64 b] 47 (0, 0))).cell? ⟨w.heap.size, 1, none⟩ = some (.int .i64 b) := boxed0 _ _ _ _ 1 _ rfl
  have HL := Lib.hid hlen
  have HP := Lib.hid h.lt
  clear h hlen
  have HW : Hid (writeD d (a, b) s = if chkD d (a, b) s.size = 0 then { setTell d (a, b) s with waits := d.waits ++ [((a, b), s)] } else d) := rfl
  go_enter Tryz.func106, Tryz.ntmps106
  go_wp2_with fail
  generalize World.alloc _ _ = wx at *
  refine (dcheck_any p d (a, b) s wx HX.out).mono ?_
  rintro e w1 ⟨rfl, hb⟩
  have HB := Lib.hid (hx.out.trans (hb.mono hx.out.size))
  have H1 := Lib.hid (HX.out.chg (Chg.of (S := []) hb (Nat.le_refl _)) (fun _ _ hm => by cases hm))
  have B1 := Lib.hid (BX.out.keep hb BX.out.lt)
  clear hb HX BX k0 k1 hx
  by_cases hc : chkD d (a, b) s.size = 0
  · obtain ⟨ha, h0, h1, _, _⟩ := chkD_ok hc
    simp only at ha h0 h1
    have HC0 := Lib.hid hc
    rw [hc]
    rw [if_pos hc] at HW
    clear hc
    have k0 : w1.cell? ⟨w.heap.size, 0, none⟩ = some (.int .i64 a) := B1.out.cell 0 _ rfl
    have k1 : w1.cell? ⟨w.heap.size, 1, none⟩ = some (.int .i64 b) := B1.out.cell 1 _ rfl
    have k6 : w1.cell? ⟨p.b, 6, none⟩ = some p.wv := H1.out.box.cell 6 _ rfl
    have HA := Lib.hid ha
    have HI := Lib.hid (And.intro h0 h1)
    clear ha h0 h1
    go_wp2_with fail
    have k00 : w1.drew.cell? ⟨w.heap.size, 0, none⟩ = some (.int .i64 a) := k0
    have k01 : w1.drew.cell? ⟨w.heap.size, 1, none⟩ = some (.int .i64 b) := k1
    have k06 : w1.drew.cell? ⟨p.b, 6, none⟩ = some p.wv := k6
    have kA6 : ∀ o : Obj, (w1.alloc o).cell? ⟨p.b, 6, none⟩ = some p.wv := fun o => (H1.out.box.alloc o).cell 6 _ rfl
    go_region_law
      ((refine step_wr_push rfl (.tmp 19) (.tmp 23) rfl p.wv d.waits (by simp [Act.eval]) (by exact Wrs.below (n := w1.heap.size) H1.out.wt (((Below.refl _ _).drew).alloc (Nat.le_refl _) _) (Nat.le_refl _)) ⟨w1.heap.size, 0, none⟩ 1 ((a, b), s) (by simp [Act.eval]) (by intro j u hj; rw [add_plain, Nat.zero_add]; exact boxed0 w1 _ _ _ j u (by rw [List.getElem?_toArray]; exact hj)) HL.out ?_; intro g cap w5 hr hc hg; have hcw := (Chg.of (S := p.wv.ownBlock.toList) (show Below w1.heap.size w1 _ from ((Below.refl _ _).alloc (Nat.le_refl _) _).drew) (Nat.le_refl _)).trans hc; have hb5 := H1.out.box.of (hcw.block p.b H1.out.box.lt (fun hm => (H1.out.ne.2.2.2.2.2.2.2.2.2.2 p.b (by simpa using hm)).1 rfl)); have c6 : w5.cell? ⟨p.b, 6, none⟩ = some p.wv := hb5.cell 6 _ rfl; have f6 : w5.frozen? ⟨p.b, 6, none⟩ = false := hb5.free 6; have HR5 := Lib.hid hr; have HG5 := Lib.hid hg; have HC5 := Lib.hid hcw; clear hr hg hc hcw hb5))
    all_goals
      have hg := HG5.out
      have hs1 := HB.out.size
      rw [show (World.drew _).heap.size = (w1.alloc _).heap.size from rfl, size_alloc] at hg
      have hN := H1.out.newWaits HC5.out (v' := .slice (some ⟨g, 0, none⟩) (d.waits.length + 1) cap) HR5.out (fun k hk => by
        simp only [Value.ownBlock, Option.some.injEq] at hk
        subst hk
        rcases hg with e | e
        · exact .inl e
        · exact .inr (by omega)) (fun x hx => by
        rcases List.mem_append.1 hx with h1 | h1
        · exact H1.out.wok x h1
        · rw [List.mem_singleton] at h1; subst h1; exact ⟨HA.out, HI.out.1, HI.out.2⟩)
      have hBx : Box (w5.setCell ⟨p.b, 6, none⟩ (.slice (some ⟨g, 0, none⟩) (d.waits.length + 1) cap)) w.heap.size 47 #[.int .i64 a, .int .i64 b] := by
        have hb := B1.out.of (HC5.out.block _ B1.out.lt (fun hm => by have := HP.out _ (show w.heap.size ∈ p.fp by simp only [DevP.fp]; exact List.mem_append_right _ hm); omega))
        exact hb.of ((chg_set w5 p.b 6 _).block _ hb.lt (by have := HP.out p.b (by simp [DevP.fp]); simp; omega))
      have HN := Lib.hid hN.1
      have HM := Lib.hid hN.2
      have HBx := Lib.hid hBx
      clear hN hBx hg hs1 HG5 HR5 HC5 c6 f6 k0 k1 k6 k00 k01 k06 kA6
      generalize World.setCell _ _ _ = w6 at *
      obtain ⟨k, rfl⟩ : ∃ k : Nat, b = k := ⟨b.toNat, by have := HI.out; omega⟩
      have q0 : w6.cell? ⟨w.heap.size, 0, none⟩ = some (.int .i64 a) := HBx.out.cell 0 _ rfl
      have q1 : w6.cell? ⟨w.heap.size, 1, none⟩ = some (.int .i64 k) := HBx.out.cell 1 _ rfl
      have q00 : w6.drew.cell? ⟨w.heap.size, 0, none⟩ = some (.int .i64 a) := q0
      have q01 : w6.drew.cell? ⟨w.heap.size, 1, none⟩ = some (.int .i64 k) := q1
      have hT := HN.out.setTell (a, (k : Int)) HA.out s
      have hM := HM.out.trans (HN.out.mvTell a k (.string s))
      have HT := Lib.hid hT
      have HMM := Lib.hid hM
      clear hT hM
      rcases HA.out with rfl | rfl
      · have hk : k < d.s0.tells.length := by rw [H1.out.l0]; have := HI.out; have : devSize d 0 = d.s0.has.length := rfl; omega
        have hk1 : (0 : Int) ≤ (k : Int) := by omega
        have hk2 : (k : Int) < (d.s0.tells.length : Int) := by omega
        have c1 : w6.cell? ⟨p.b, 1, none⟩ = some (.slice (some ⟨p.t0, 0, none⟩) d.s0.tells.length p.ct0) := HN.out.box.cell 1 _ rfl
        have ce : w6.cell? ⟨p.t0, k, none⟩ = some (.string (d.s0.tells[k])) := HN.out.t0.get k _ (List.getElem?_eq_getElem hk)
        have cf : w6.frozen? ⟨p.t0, k, none⟩ = false := HN.out.t0.free k
        have HCE := Lib.hid hk
        go_wp2_with fail
        go_region
        all_goals
          go_wp2
          go_ret
          refine ⟨ret_int HC0.out.symm, ?_⟩
          rw [HW.out]
          exact (DevTo.ofChg (Chg.of HB.out (Nat.le_refl _)) (DevTo.mk HT.out HMM.out)).drew
      · have hk : k < d.s1.tells.length := by rw [H1.out.l1]; have := HI.out; have : devSize d 1 = d.s1.has.length := rfl; omega
        have hk1 : (0 : Int) ≤ (k : Int) := by omega
        have hk2 : (k : Int) < (d.s1.tells.length : Int) := by omega
        have c1 : w6.cell? ⟨p.b, 4, none⟩ = some (.slice (some ⟨p.t1, 0, none⟩) d.s1.tells.length p.ct1) := HN.out.box.cell 4 _ rfl
        have ce : w6.cell? ⟨p.t1, k, none⟩ = some (.string (d.s1.tells[k])) := HN.out.t1.get k _ (List.getElem?_eq_getElem hk)
        have cf : w6.frozen? ⟨p.t1, k, none⟩ = false := HN.out.t1.free k
        have HCE := Lib.hid hk
        go_wp2_with fail
        go_region
        all_goals
          go_wp2
          go_ret
          refine ⟨ret_int HC0.out.symm, ?_⟩
          rw [HW.out]
          exact (DevTo.ofChg (Chg.of HB.out (Nat.le_refl _)) (DevTo.mk HT.out HMM.out)).drew
    
  · have hq : (chkD d (a, b) s.size != 0) = true := by simpa using hc
    rw [if_neg hc] at HW
    clear hc
    go_wp2
    go_ret
    refine ⟨rfl, ?_⟩
    rw [HW.out]
    exact ⟨p, H1.out, (Mv.refl p w1).ofChg (Chg.of HB.out (Nat.le_refl _))⟩
end Go.Proofs.YtphhnhldbajaoaaGreatDoor

namespace Go.Proofs.YtphhnhldbajaoaaGreatDoor
open Go.RowKit Go.ChangeShapes Go.WideShapes Go.ChangeAt

def wrA (x : WrD) : Value := .agg #[.int .i64 x.1.1, .int .i64 x.1.2, .string x.2]
set_option maxRecDepth 100000 in
set_option maxHeartbeats 1000000 in
theorem ddone_any (p : DevP) (d : DevD) (x : WrD) (w : World) (h : DevAt w p d) (hx : locOk d x.1) : Calls Tryz.prog 51 #[.pointer (some ⟨p.b, 0, none⟩), wrA x] w fun e w' => e = .returned (.tuple #[]) ∧ DevAt w' p (setHas d x.1 x.2) ∧ Chg [p.h0, p.h1] w w' := by
  obtain ⟨⟨a, b⟩, s⟩ := x
  unfold wrA
  obtain ⟨ha, h0, h1⟩ := hx
  simp only at ha h0 h1
  obtain ⟨k, rfl⟩ : ∃ k : Nat, b = k := ⟨b.toNat, by omega⟩
  have hbx := (Below.refl w.heap.size w).alloc (Nat.le_refl _) (.cells #[.int .i64 a, .int .i64 k, .string s] 141 (0, 0))
  have BX := Box.new w 141 #[.int .i64 a, .int .i64 k, .string s]
  have HX := Lib.hid (h.chg (Chg.of (S := []) hbx (Nat.le_refl _)) (fun _ _ hm => by cases hm))
  have HC := Lib.hid (Chg.of (S := []) hbx (Nat.le_refl _))
  have l0 := h.l0
  have l1 := h.l1
  clear h hbx
  rcases ha with rfl | rfl
  · have hk : k < d.s0.has.length := by have : devSize d 0 = d.s0.has.length := rfl; omega
    clear h0 h1
    go_enter Tryz.func51, Tryz.ntmps51
    go_wp2_with fail
    generalize World.alloc _ _ = wx at *
    have hk1 : (0 : Int) ≤ (k : Int) := by omega
    have hk2 : (k : Int) < (d.s0.has.length : Int) := by omega
    have q0 : wx.cell? ⟨w.heap.size, 0, none⟩ = some (.int .i64 0) := BX.cell 0 _ rfl
    have q1 : wx.cell? ⟨w.heap.size, 1, none⟩ = some (.int .i64 k) := BX.cell 1 _ rfl
    have q2 : wx.cell? ⟨w.heap.size, 2, none⟩ = some (.string s) := BX.cell 2 _ rfl
    have c0 : wx.cell? ⟨p.b, 0, none⟩ = some (.slice (some ⟨p.h0, 0, none⟩) d.s0.has.length p.ch0) := HX.out.box.cell 0 _ rfl
    have ce : wx.cell? ⟨p.h0, k, none⟩ = some (.string (d.s0.has[k])) := HX.out.h0.get k _ (List.getElem?_eq_getElem hk)
    have cf : wx.frozen? ⟨p.h0, k, none⟩ = false := HX.out.h0.free k
    have HS := Lib.hid (HX.out.setHas (0, (k : Int)) (.inl rfl) s)
    clear BX l0 l1
    go_still_tail 15, (by kernel_rfl)
    go_wp2
    go_end0
    exact ⟨rfl, DevAt.drewN HS.out 1, (HC.out.mono (fun _ h => by cases h)).trans ((chg_set wx p.h0 k (.string s)).mono (fun k hk => by rw [List.mem_singleton] at hk; simp [hk])).drew⟩
  · have hk : k < d.s1.has.length := by have : devSize d 1 = d.s1.has.length := rfl; omega
    clear h0 h1
    go_enter Tryz.func51, Tryz.ntmps51
    go_wp2_with fail
    generalize World.alloc _ _ = wx at *
    have hk1 : (0 : Int) ≤ (k : Int) := by omega
    have hk2 : (k : Int) < (d.s1.has.length : Int) := by omega
    have q0 : wx.cell? ⟨w.heap.size, 0, none⟩ = some (.int .i64 1) := BX.cell 0 _ rfl
    have q1 : wx.cell? ⟨w.heap.size, 1, none⟩ = some (.int .i64 k) := BX.cell 1 _ rfl
    have q2 : wx.cell? ⟨w.heap.size, 2, none⟩ = some (.string s) := BX.cell 2 _ rfl
    have c0 : wx.cell? ⟨p.b, 3, none⟩ = some (.slice (some ⟨p.h1, 0, none⟩) d.s1.has.length p.ch1) := HX.out.box.cell 3 _ rfl
    have ce : wx.cell? ⟨p.h1, k, none⟩ = some (.string (d.s1.has[k])) := HX.out.h1.get k _ (List.getElem?_eq_getElem hk)
    have cf : wx.frozen? ⟨p.h1, k, none⟩ = false := HX.out.h1.free k
    have HS := Lib.hid (HX.out.setHas (1, (k : Int)) (.inr rfl) s)
    clear BX l0 l1
    go_still_tail 15, (by kernel_rfl)
    go_wp2
    go_end0
    exact ⟨rfl, DevAt.drewN HS.out 1, (HC.out.mono (fun _ h => by cases h)).trans ((chg_set wx p.h1 k (.string s)).mono (fun k hk => by rw [List.mem_singleton] at hk; simp [hk])).drew⟩
end Go.Proofs.YtphhnhldbajaoaaGreatDoor

namespace Go.Proofs.YtphhnhldbajaoaaGreatDoor
open Go.RowKit Go.ChangeShapes Go.WideShapes Go.ChangeAt

theorem sizeStr : (Tryz.prog.info? 9).map (·.size) = some 1 := by kernel_rfl
/-- 'copy(dst, src)' of two rows of strings that are as long. -/
theorem wp_copy_strs {ops : Array Oper} {rest : List Oper} {o : Oper} {a : Act} {Q : Exit → Act → World → Prop} (W : World) (hgd : o.guard = none) (x y : Operand)
    (ho : o.op = .call { callee := .builtin .copy, args := #[x, y], argTypes := #[25, 25] })
    (g cg : Nat) (l : List ByteArray) (g2 cg2 : Nat) (l2 : List ByteArray) (hx : a.eval x = .slice (some ⟨g, 0, none⟩) l.length cg) (hy : a.eval y = .slice (some ⟨g2, 0, none⟩) l2.length cg2)
    (h1 : Strs W g cg l) (h2 : Strs W g2 cg2 l2) (hl : l.length = l2.length)
    (h : ∀ w', Strs w' g cg l2 → Chg [g] W w' → wpList Tryz.prog ops Q rest (a.put o.dst (goInt (l2.map Value.string).length)) w') : wpList Tryz.prog ops Q (o :: rest) a W := by
  have hst : ∃ w', (Builtin.copy_ #[25, 25] o.type #[.slice (some ⟨g, 0, none⟩) l.length cg, .slice (some ⟨g2, 0, none⟩) l2.length cg2]).run Tryz.prog W = .ok (goInt (l2.map Value.string).length) w' ∧ Strs w' g cg l2 ∧ Chg [g] W w' := by
    rcases h1.2 with ⟨h', _⟩ | ⟨g', cap', cur, h', hb, hg, hnc, hcm, hcs, htake⟩
    · simp at h'
    · simp only [Value.slice.injEq, Option.some.injEq, Addr.mk.injEq, and_true, true_and] at h'
      obtain ⟨rfl, rfl⟩ := h'
      have hr := run_copy_row (P := Tryz.prog) W 25 25 o.type 9 g 0 l.length cg ⟨g2, 0, none⟩ l2.length cg2 cur 9 (l2.map Value.string) Tryz.underlying25 sizeStr hg
        (by simp [hl]) (World.ownsRow.cells h2 (g := g2) rfl) (by simp; omega) (by intro v hv; simp only [List.mem_map] at hv; obtain ⟨s, _, rfl⟩ := hv; rfl)
      refine ⟨_, hr, ⟨by simp, .inr ⟨g, cg, _, rfl, hb, setRow_heap W g cur _ _ _ hg, by omega, hcm, ?_, ?_⟩⟩, ⟨rfl, rfl, rfl, by simp, fun k _ hk => setRow_other W g k _ (fun e => hk (by simp [e]))⟩⟩
      · simp; omega
      · simp
  obtain ⟨w', hr, hS, hC⟩ := hst
  refine wpList_plain hgd fun K hK => ?_
  unfold Oper.wp execOp
  simp only [ho, resolve, invoke, builtin, Sem.run_bind, Sem.run_pure, Result.andThen_ok, List.map_toArray, List.map_cons, List.map_nil, hx, hy, hr]
  exact hK _ _ (h w' hS hC)

theorem index_side0 (w : World) (x0 x1 x2 x3 x4 x5 : Value) : (Instr.index 103 (.agg #[x0, x1, x2, x3, x4, x5]) (.int .i64 0)).run Tryz.prog w = .ok (.agg #[x0, x1, x2]) w := by
  simp [Instr.index, run_underlying Tryz.underlying103, asIntOf, part, Sem.run_bind, Result.andThen]
theorem index_side1 (w : World) (x0 x1 x2 x3 x4 x5 : Value) : (Instr.index 103 (.agg #[x0, x1, x2, x3, x4, x5]) (.int .i64 1)).run Tryz.prog w = .ok (.agg #[x3, x4, x5]) w := by
  simp [Instr.index, run_underlying Tryz.underlying103, asIntOf, part, Sem.run_bind, Result.andThen]

def foldHas (d : DevD) (l : List WrD) : DevD := l.foldl (fun d x => setHas d x.1 x.2) d
def endT (d : DevD) (k : Nat) : DevD := ⟨if 1 ≤ k then { d.s0 with tells := d.s0.has } else d.s0, if 2 ≤ k then { d.s1 with tells := d.s1.has } else d.s1, d.waits⟩
/-- What end leaves. -/
def endD (d : DevD) (stay : List WrD) : DevD := endT { foldHas d stay with waits := [] } 2
theorem foldHas_snoc (d : DevD) (l : List WrD) (x : WrD) : foldHas d (l ++ [x]) = setHas (foldHas d l) x.1 x.2 := by simp [foldHas]
theorem size_foldHas (l : List WrD) (dev : Int) : ∀ d : DevD, devSize (foldHas d l) dev = devSize d dev := by
  induction l with
  | nil => intro d; rfl
  | cons x l ih =>
    intro d
    show devSize (foldHas (setHas d x.1 x.2) l) dev = _
    rw [ih, size_setHas]
set_option maxRecDepth 100000 in
set_option maxHeartbeats 1000000 in
theorem dend_any (p : DevP) (d : DevD) (sv : Value) (stay : List WrD) (w : World) (h : DevAt w p d) (hs : Wrs w sv stay) (hown : ∀ k, sv.ownBlock = some k → k ≠ p.h0 ∧ k ≠ p.h1) (hok : ∀ x ∈ stay, locOk d x.1) (hlen : stay.length ≤ 100000) :
    Calls Tryz.prog 50 #[.pointer (some ⟨p.b, 0, none⟩), sv, .func (.func 51) #[.pointer (some ⟨p.b, 0, none⟩)] #[]] w fun e w' => e = .returned (.tuple #[]) ∧ DevTo p (endD d stay) w w' := by
  obtain ⟨a, cap, rfl, hag⟩ := hs.form
  have H := Lib.hid h
  have HS := Lib.hid hs
  have HO := Lib.hid hown
  have HK := Lib.hid hok
  have HA := Lib.hid hag
  clear h hs hown hok hag
  go_enter Tryz.func50, Tryz.ntmps50
  go_wp2_with fail
  go_loopw [12] (fun i wr => ∃ k : Nat, k ≤ stay.length ∧ i = .int .i64 k ∧ Hid (DevAt wr p (foldHas d (stay.take k))) ∧ Hid (Chg [p.h0, p.h1] w wr)) (fun i _ => stay.length - (intOf i).toNat)
  case atStart => exact ⟨0, Nat.zero_le _, rfl, by simpa [foldHas] using H, Chg.refl _ _⟩
  case round =>
    obtain ⟨k, hk, rfl, HD, HC⟩ := hrel
    by_cases hlt : k < stay.length
    · obtain ⟨g, rfl⟩ := HA.out (by omega)
      have hW : Wrs wr (.slice (some ⟨g, 0, none⟩) stay.length cap) stay := HS.out.chg HC.out (fun j hj => by have := HO.out j hj; simp; exact this)
      obtain ⟨q0, q1, q2⟩ := hW.get k stay[k] (List.getElem?_eq_getElem hlt)
      have HX : Hid (stay.take (k + 1) = stay.take k ++ [stay[k]]) := List.take_succ_eq_append_getElem hlt
      have HLO : Hid (locOk (foldHas d (stay.take k)) stay[k].1) := by
        have := HK.out stay[k] (List.getElem_mem hlt)
        show locOk _ _
        unfold locOk at *
        rw [size_foldHas]
        exact this
      have hkk : (0 : Int) ≤ (k : Int) := by omega
      have hkl : (k : Int) < (stay.length : Int) := by omega
      generalize hxx : stay[k] = x at *
      clear hxx hW
      go_wp2_with fail
      refine (ddone_any p _ x _ (HD.out.chg (Chg.of (S := []) ((Below.refl _ _).alloc (Nat.le_refl _) _) (Nat.le_refl _)) (fun _ _ hm => by cases hm)) HLO.out).mono ?_
      rintro e w1 ⟨rfl, hd, hc⟩
      rw [← foldHas_snoc, ← HX.out] at hd
      have HD1 := Lib.hid hd
      have HC1 := Lib.hid (HC.out.trans ((Chg.of (S := [p.h0, p.h1]) ((Below.refl wr.heap.size wr).alloc (Nat.le_refl _) _) (Nat.le_refl _)).trans hc))
      clear hd hc q0 q1 q2 HS HO HD HC
      go_wp2
      go_roundw
      case rel => exact ⟨k + 1, by omega, by go_num, HD1, HC1⟩
      case measure => simp [intOf]; omega
    · have hkl : k = stay.length := by omega
      subst hkl
      rw [List.take_of_length_le (Nat.le_refl _)] at HD
      have c6 : wr.cell? ⟨p.b, 6, none⟩ = some p.wv := HD.out.box.cell 6 _ rfl
      have f6 : wr.frozen? ⟨p.b, 6, none⟩ = false := HD.out.box.free 6
      have hN := HD.out.newWaits (w1 := wr) (Chg.refl _ _) (v' := .slice none 0 0) (ws := []) (World.ownsRow_nil _ _ _ _) (fun k hk => by cases hk) (fun x hx => by cases hx)
      have HN := Lib.hid hN.1
      have HM := Lib.hid hN.2
      have HDD : Hid (endD d stay = endT { foldHas d stay with waits := [] } 2) := rfl
      have L0 : Hid ((foldHas d stay).s0.tells.length = (foldHas d stay).s0.has.length) := HN.out.l0
      have L1 : Hid ((foldHas d stay).s1.tells.length = (foldHas d stay).s1.has.length) := HN.out.l1
      clear hN hlt hk
      generalize foldHas d stay = F at *
      have c0 : wr.cell? ⟨p.b, 0, none⟩ = some (.slice (some ⟨p.h0, 0, none⟩) F.s0.has.length p.ch0) := HD.out.box.cell 0 _ rfl
      have c1 : wr.cell? ⟨p.b, 1, none⟩ = some (.slice (some ⟨p.t0, 0, none⟩) F.s0.tells.length p.ct0) := HD.out.box.cell 1 _ rfl
      have c2 : wr.cell? ⟨p.b, 2, none⟩ = some (.bool F.s0.lost) := HD.out.box.cell 2 _ rfl
      have c3 : wr.cell? ⟨p.b, 3, none⟩ = some (.slice (some ⟨p.h1, 0, none⟩) F.s1.has.length p.ch1) := HD.out.box.cell 3 _ rfl
      have c4 : wr.cell? ⟨p.b, 4, none⟩ = some (.slice (some ⟨p.t1, 0, none⟩) F.s1.tells.length p.ct1) := HD.out.box.cell 4 _ rfl
      have c5 : wr.cell? ⟨p.b, 5, none⟩ = some (.bool F.s1.lost) := HD.out.box.cell 5 _ rfl
      go_wp2_with fail
      clear c0 c1 c2 c3 c4 c5 c6 f6
      have HT := Lib.hid (HM.out.ofChg' (HC.out.mono (S' := p.fp) (fun k hk => by simp [DevP.fp] at hk ⊢; omega)))
      clear HM HC HD
      generalize hwx : World.setCell _ _ _ = wx at HN HT ⊢
      clear hwx
      generalize hpp : ({ p with wv := Value.slice none 0 0 } : DevP) = p2 at HN HT
      have e1 : p2.t0 = p.t0 := by rw [← hpp]
      have e2 : p2.t1 = p.t1 := by rw [← hpp]
      have e3 : p2.h0 = p.h0 := by rw [← hpp]
      have e4 : p2.h1 = p.h1 := by rw [← hpp]
      have e5 : p2.b = p.b := by rw [← hpp]
      have e6 : p2.ct0 = p.ct0 := by rw [← hpp]
      have e7 : p2.ct1 = p.ct1 := by rw [← hpp]
      have e8 : p2.ch0 = p.ch0 := by rw [← hpp]
      have e9 : p2.ch1 = p.ch1 := by rw [← hpp]
      have E := Lib.hid (And.intro e1 (And.intro e2 (And.intro e3 (And.intro e4 (And.intro e5 (And.intro e6 (And.intro e7 (And.intro e8 e9))))))))
      clear e1 e2 e3 e4 e5 e6 e7 e8 e9 hpp
      go_loopw [27] (fun i wr => ∃ k : Nat, k ≤ 2 ∧ i = .int .i64 k ∧ Hid (DevAt wr p2 (endT { F with waits := [] } k) ∧ Mv p p2 w wr)) (fun i _ => 2 - (intOf i).toNat)
      case atStart => exact ⟨0, by omega, rfl, by simpa [endT] using HN.out, HT.out⟩
      case round =>
        obtain ⟨k, hk, rfl, HH⟩ := hrel
        have hk3 : k = 0 ∨ k = 1 ∨ k = 2 := by omega
        rcases hk3 with rfl | rfl | rfl
        · obtain ⟨e1, e2, e3, e4, e5, e6, e7, e8, e9⟩ := E.out
          have T0 := Lib.hid (show Strs wr p.t0 p.ct0 F.s0.tells by have := HH.out.1.t0; rw [e1, e6] at this; exact this)
          have T1 := Lib.hid (show Strs wr p.h0 p.ch0 F.s0.has by have := HH.out.1.h0; rw [e3, e8] at this; exact this)
          have hix := fun W => index_side0 W (.slice (some ⟨p.h0, 0, none⟩) F.s0.has.length p.ch0) (.slice (some ⟨p.t0, 0, none⟩) F.s0.tells.length p.ct0) (.bool F.s0.lost) (.slice (some ⟨p.h1, 0, none⟩) F.s1.has.length p.ch1) (.slice (some ⟨p.t1, 0, none⟩) F.s1.tells.length p.ct1) (.bool F.s1.lost)
          clear e1 e2 e3 e4 e5 e6 e7 e8 e9
          have CA : ∀ o : Obj, Hid (Chg [] wr (wr.alloc o)) := fun o => Chg.of ((Below.refl _ _).alloc (Nat.le_refl _) o) (Nat.le_refl _)
          go_wp2_with (with_reducible refine wp_copy_strs _ rfl (.tmp 31) (.tmp 33) rfl p.t0 p.ct0 F.s0.tells p.h0 p.ch0 F.s0.has rfl rfl ?c1 ?c2 ?c3 ?c4)
          case c1 => exact T0.out.chg (CA _).out (fun h => by cases h)
          case c2 => exact T1.out.chg (CA _).out (fun h => by cases h)
          case c3 => exact L0.out
          intro w5 hS hC
          have HR : Hid (DevAt w5 p2 (endT { F with waits := [] } 1) ∧ Mv p p2 w w5) := by
            have hD := (HH.out.1.chg (CA _).out (fun _ _ h => by cases h)).tells0 (by rw [E.out.1, E.out.2.2.2.2.2.1]; exact hS) (by simpa [endT] using L0.out.symm) (by rw [E.out.1]; exact hC)
            refine ⟨by simpa [endT] using hD, HH.out.2.b, HH.out.2.chg.trans (((CA _).out.mono (fun _ h => by cases h)).trans (hC.mono (fun k hk => ?_))), HH.out.2.fp⟩
            rw [List.mem_singleton] at hk
            subst hk
            simp [DevP.fp]
          clear hS hC CA hix T0 T1
          go_wp2
          go_roundw
          case rel => exact ⟨1, by omega, rfl, HR⟩
          case measure => simp [intOf]
        · obtain ⟨e1, e2, e3, e4, e5, e6, e7, e8, e9⟩ := E.out
          have T0 := Lib.hid (show Strs wr p.t1 p.ct1 F.s1.tells by have := HH.out.1.t1; rw [e2, e7] at this; exact this)
          have T1 := Lib.hid (show Strs wr p.h1 p.ch1 F.s1.has by have := HH.out.1.h1; rw [e4, e9] at this; exact this)
          have hix := fun W => index_side1 W (.slice (some ⟨p.h0, 0, none⟩) F.s0.has.length p.ch0) (.slice (some ⟨p.t0, 0, none⟩) F.s0.tells.length p.ct0) (.bool F.s0.lost) (.slice (some ⟨p.h1, 0, none⟩) F.s1.has.length p.ch1) (.slice (some ⟨p.t1, 0, none⟩) F.s1.tells.length p.ct1) (.bool F.s1.lost)
          clear e1 e2 e3 e4 e5 e6 e7 e8 e9
          have CA : ∀ o : Obj, Hid (Chg [] wr (wr.alloc o)) := fun o => Chg.of ((Below.refl _ _).alloc (Nat.le_refl _) o) (Nat.le_refl _)
          go_wp2_with (with_reducible refine wp_copy_strs _ rfl (.tmp 31) (.tmp 33) rfl p.t1 p.ct1 F.s1.tells p.h1 p.ch1 F.s1.has rfl rfl ?d1 ?d2 ?d3 ?d4)
          case d1 => exact T0.out.chg (CA _).out (fun h => by cases h)
          case d2 => exact T1.out.chg (CA _).out (fun h => by cases h)
          case d3 => exact L1.out
          intro w5 hS hC
          have HR : Hid (DevAt w5 p2 (endT { F with waits := [] } 2) ∧ Mv p p2 w w5) := by
            have hD := (HH.out.1.chg (CA _).out (fun _ _ h => by cases h)).tells1 (by rw [E.out.2.1, E.out.2.2.2.2.2.2.1]; exact hS) (by simpa [endT] using L1.out.symm) (by rw [E.out.2.1]; exact hC)
            refine ⟨by simpa [endT] using hD, HH.out.2.b, HH.out.2.chg.trans (((CA _).out.mono (fun _ h => by cases h)).trans (hC.mono (fun k hk => ?_))), HH.out.2.fp⟩
            rw [List.mem_singleton] at hk
            subst hk
            simp [DevP.fp]
          clear hS hC CA hix T0 T1
          go_wp2
          go_roundw
          case rel => exact ⟨2, by omega, rfl, HR⟩
          case measure => simp [intOf]
        · go_wp2
          go_end0
          rw [HDD.out]
          exact ⟨rfl, DevTo.mk HH.out.1 HH.out.2⟩
end Go.Proofs.YtphhnhldbajaoaaGreatDoor
