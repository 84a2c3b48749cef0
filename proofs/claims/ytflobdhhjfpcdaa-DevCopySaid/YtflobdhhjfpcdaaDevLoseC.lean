/-
  Contracts of package dev: Lose.
-/
import Derived.Test.YtflobdhhjfpcdaaDevLose
import Derived.Deep.QuietTactic
namespace Go.Proofs.Ytflobdhhjfpcdaa
open Go.RowKit Go.ChangeShapes Go.WideShapes Go.ChangeAt

theorem zeroStr (w : World) : (zeroValue 9).run Try.prog w = .ok (.string ⟨#[]⟩) w := by kernel_rfl
/-- 'clear(s)' of a row of strings. -/
theorem wp_clear_strs {ops : Array Oper} {rest : List Oper} {o : Oper} {a : Act} {Q : Exit → Act → World → Prop} (W : World) (hgd : o.guard = none) (x : Operand)
    (ho : o.op = .call { callee := .builtin .clear, args := #[x], argTypes := #[53] })
    (g cap : Nat) (l : List ByteArray) (hx : a.eval x = .slice (some ⟨g, 0, none⟩) l.length cap) (hm : Strs W g cap l) (hk : 0 < l.length)
    (h : ∀ w', Strs w' g cap (blanks l) → Chg [g] W w' → wpList Try.prog ops Q rest (a.put o.dst (.tuple #[])) w') : wpList Try.prog ops Q (o :: rest) a W := by
  have hst : ∃ w', (Builtin.clear_ #[53] o.type #[.slice (some ⟨g, 0, none⟩) l.length cap]).run Try.prog W = .ok (.tuple #[]) w' ∧ Strs w' g cap (blanks l) ∧ Chg [g] W w' := by
    rcases hm.2 with ⟨h', _⟩ | ⟨g', cap', cur, h', hb, hg, hnc, hcm, hcs, htake⟩
    · simp at h'
    · simp only [Value.slice.injEq, Option.some.injEq, Addr.mk.injEq, and_true, true_and] at h'
      obtain ⟨rfl, rfl⟩ := h'
      obtain ⟨k, hk1⟩ : ∃ j, l.length = j + 1 := ⟨l.length - 1, by omega⟩
      have hz : (Builtin.zeroCells (Value.string ⟨#[]⟩).cells (k + 1)).toList = (blanks l).map Value.string := by
        unfold blanks
        rw [hk1]
        apply List.ext_getElem?
        intro i
        by_cases hi : i < k + 1
        · simp [Builtin.zeroCells, Value.cells, hi, Nat.mod_one]
        · simp [Builtin.zeroCells, Value.cells, hi]
      have hbl : (blanks l).length = k + 1 := by simp [blanks, hk1]
      have hr := run_storeCells_at Try.prog g 0 9 (Builtin.zeroCells (Value.string ⟨#[]⟩).cells (k + 1)).toList 0 cur W hg (by rw [hz]; simp [hbl]; omega) (by rw [hz]; intro v hv; simp only [List.mem_map] at hv; obtain ⟨s, _, rfl⟩ := hv; rfl)
      rw [hz] at hr
      refine ⟨_, by rw [hk1]; simp [Builtin.clear_, run_underlying Try.underlying53, hz, hr]; rfl, ⟨by simp, .inr ⟨g, cap, _, rfl, hb, setRow_heap W g cur _ _ _ hg, by omega, hcm, ?_, ?_⟩⟩, ⟨rfl, rfl, rfl, by simp, fun k _ hk => setRow_other W g k _ (fun e => hk (by simp [e]))⟩⟩
      · simp [hbl]; omega
      · simp
  obtain ⟨w', hr, hS, hC⟩ := hst
  refine wpList_plain hgd fun K hK => ?_
  unfold Oper.wp execOp
  simp only [ho, resolve, invoke, builtin, Sem.run_bind, Sem.run_pure, Result.andThen_ok, List.map_toArray, List.map_cons, List.map_nil, hx, hr]
  exact hK _ _ (h w' hS hC)

theorem DevAt.lost0 {w : World} {p : DevP} {d : DevD} (h : DevAt w p d) (b : Bool) : DevAt (w.setCell ⟨p.b, 2, none⟩ (.bool b)) p { d with s0 := { d.s0 with lost := b } } := by
  have hc := chg_set w p.b 2 (.bool b)
  obtain ⟨n1, n2, n3, n4, n5, n6, n7, n8, n9, n10, n11⟩ := h.ne
  exact ⟨by simpa using h.box.set 2 (.bool b), h.h0.chg hc (by simpa using Ne.symm n1), h.t0.chg hc (by simpa using Ne.symm n2), h.h1.chg hc (by simpa using Ne.symm n3), h.t1.chg hc (by simpa using Ne.symm n4),
    ownsRow_of h.wt fun k hk hlt => hc.block k hlt (by simpa using Ne.symm (n11 k hk).1), h.nd, h.l0, h.l1, h.n0, h.n1, h.wok⟩
theorem DevAt.lost1 {w : World} {p : DevP} {d : DevD} (h : DevAt w p d) (b : Bool) : DevAt (w.setCell ⟨p.b, 5, none⟩ (.bool b)) p { d with s1 := { d.s1 with lost := b } } := by
  have hc := chg_set w p.b 5 (.bool b)
  obtain ⟨n1, n2, n3, n4, n5, n6, n7, n8, n9, n10, n11⟩ := h.ne
  exact ⟨by simpa using h.box.set 5 (.bool b), h.h0.chg hc (by simpa using Ne.symm n1), h.t0.chg hc (by simpa using Ne.symm n2), h.h1.chg hc (by simpa using Ne.symm n3), h.t1.chg hc (by simpa using Ne.symm n4),
    ownsRow_of h.wt fun k hk hlt => hc.block k hlt (by simpa using Ne.symm (n11 k hk).1), h.nd, h.l0, h.l1, h.n0, h.n1, h.wok⟩
theorem blanks_len (l : List ByteArray) : (blanks l).length = l.length := by simp [blanks]

theorem lose_nil (dev : Int) (w : World) : Calls Try.prog 20 #[.pointer none, .int .i64 dev] w fun e w' => e = .returned (.int .i64 1) ∧ Below w.heap.size w w' := by
  go_enter Try.func20, Try.ntmps20
  go_wp2_with fail
  refine (dsize_nil dev _).mono ?_
  rintro e w' ⟨rfl, rfl⟩
  go_wp2
  go_ret
  exact ⟨rfl, (Below.refl _ _).alloc (Nat.le_refl _) _⟩

theorem lose_bad (p : DevP) (d : DevD) (dev : Int) (w : World) (h : DevAt w p d) (hd : ¬ (dev = 0 ∨ dev = 1)) : Calls Try.prog 20 #[.pointer (some ⟨p.b, 0, none⟩), .int .i64 dev] w fun e w' => e = .returned (.int .i64 1) ∧ Below w.heap.size w w' := by
  have HX := fun o => Lib.hid (h.chg (Chg.of (S := []) ((Below.refl w.heap.size w).alloc (Nat.le_refl _) o) (Nat.le_refl _)) (fun _ _ hm => by cases hm))
  have e2 : devSize d dev = 0 := by unfold devSize; rw [if_neg (by omega), if_neg (by omega)]
  have E2 := Lib.hid e2
  clear h hd e2
  go_enter Try.func20, Try.ntmps20
  go_wp2_with fail
  refine (dsize_any p d dev _ (HX _).out).mono ?_
  rintro e w' ⟨rfl, rfl⟩
  rw [E2.out]
  go_wp2
  go_ret
  exact ⟨rfl, (Below.refl _ _).alloc (Nat.le_refl _) _⟩

set_option maxRecDepth 100000 in
set_option maxHeartbeats 1000000 in
theorem lose_0 (p : DevP) (d : DevD) (w : World) (h : DevAt w p d) (hlen : d.waits.length ≤ 100000) : Calls Try.prog 20 #[.pointer (some ⟨p.b, 0, none⟩), .int .i64 0] w fun e w' => e = .returned (.int .i64 0) ∧ DevTo p (loseD d 0) w w' := by
  have hx := Lib.hid ((Below.refl w.heap.size w).alloc (Nat.le_refl _) (.cells #[.int .i64 0] 3 (0, 0)))
  have BX := Lib.hid (Box.new w 3 #[.int .i64 0])
  have HX := Lib.hid (h.chg (Chg.of (S := []) hx.out (Nat.le_refl _)) (fun _ _ hm => by cases hm))
  have HL := Lib.hid hlen
  have HP := Lib.hid h.lt
  have HZ : Hid (devSize d 0 = d.s0.has.length ∧ 1 ≤ d.s0.has.length) := ⟨rfl, h.n0.1⟩
  clear h hlen
  have HW : Hid (loseD d 0 = forgetD { d with s0 := loseS d.s0 } (fun x => x.1 == 0)) := rfl
  go_enter Try.func20, Try.ntmps20
  go_wp2_with fail
  generalize World.alloc _ _ = wx at *
  refine (dsize_any p d 0 wx HX.out).mono ?_
  rintro e w' ⟨rfl, rfl⟩
  rw [HZ.out.1]
  have hz1 := HZ.out.2
  have k0 : wx.cell? ⟨w.heap.size, 0, none⟩ = some (.int .i64 0) := BX.out.cell 0 _ rfl
  go_wp2_with fail
  go_quiet (fail)
  clear k0
  have hD0 : DevAt (wx.drewN nq) p d := HX.out.drewN nq
  have hB0 : Box (wx.drewN nq) w.heap.size 3 #[.int .i64 0] := BX.out
  have hC0 : Chg [] w (wx.drewN nq) := (Chg.of (S := []) hx.out (Nat.le_refl _)).drewN nq
  generalize wx.drewN nq = w1 at *
  have c2 : w1.cell? ⟨p.b, 2, none⟩ = some (.bool d.s0.lost) := hD0.box.cell 2 _ rfl
  have f2 : w1.frozen? ⟨p.b, 2, none⟩ = false := hD0.box.free 2
  have c0 : w1.cell? ⟨p.b, 0, none⟩ = some (.slice (some ⟨p.h0, 0, none⟩) d.s0.has.length p.ch0) := hD0.box.cell 0 _ rfl
  have c1 : w1.cell? ⟨p.b, 1, none⟩ = some (.slice (some ⟨p.t0, 0, none⟩) d.s0.tells.length p.ct0) := hD0.box.cell 1 _ rfl
  have D1 := Lib.hid (hD0.lost0 true)
  have hns : w.heap.size ∉ p.fp := fun hm => by have := HP.out _ hm; omega
  have B1 := Lib.hid (hB0.of ((chg_set w1 p.b 2 (.bool true)).block _ hB0.lt (by simp; intro e; exact hns (by rw [e]; simp [DevP.fp]))))
  have C1 := Lib.hid ((hC0.mono (S' := p.fp) (fun _ h => by cases h)).trans ((chg_set w1 p.b 2 (.bool true)).mono (fun k hk => by rw [List.mem_singleton] at hk; simp [DevP.fp, hk])))
  have HNS := Lib.hid hns
  clear hD0 hB0 hC0 hns HX BX hx
  go_wp2_with (with_reducible refine wp_clear_strs _ rfl (.tmp 21) rfl p.h0 p.ch0 d.s0.has rfl ?c1 ?c2 ?c3)
  case c1 => exact D1.out.h0
  case c2 => exact hz1
  intro w2 hS2 hC2
  clear c0 c1 c2 f2
  have D2 := Lib.hid (D1.out.has0 hS2 (blanks_len _) hC2)
  have B2 := Lib.hid (B1.out.of (hC2.block _ B1.out.lt (by simp; intro e; exact HNS.out (by rw [e]; simp [DevP.fp]))))
  have C2 := Lib.hid (C1.out.trans (hC2.mono (fun k hk => by rw [List.mem_singleton] at hk; simp [DevP.fp, hk])))
  clear hS2 hC2 D1 B1 C1
  have c1 : w2.cell? ⟨p.b, 1, none⟩ = some (.slice (some ⟨p.t0, 0, none⟩) d.s0.tells.length p.ct0) := D2.out.box.cell 1 _ rfl
  go_wp2_with (with_reducible refine wp_clear_strs _ rfl (.tmp 25) rfl p.t0 p.ct0 d.s0.tells rfl ?d1 ?d2 ?d3)
  case d1 => exact D2.out.t0
  case d2 => have := D2.out.l0; simp [blanks] at this; omega
  intro w3 hS3 hC3
  clear c1
  have D3 : Hid (DevAt w3 p { d with s0 := loseS d.s0 }) := D2.out.tells0 hS3 (blanks_len _) hC3
  have B3 := Lib.hid (B2.out.of (hC3.block _ B2.out.lt (by simp; intro e; exact HNS.out (by rw [e]; simp [DevP.fp]))))
  have C3 := Lib.hid (C2.out.trans (hC3.mono (fun k hk => by rw [List.mem_singleton] at hk; simp [DevP.fp, hk])))
  clear hS3 hC3 D2 B2 C2
  have HOF : Hid (∀ G w4, Chg [] w3 w4 → w4.cell? ⟨G, 0, none⟩ = some (.func (.func 37) #[] #[.pointer (some ⟨w.heap.size, 0, none⟩)]) → G < w4.heap.size → G ∉ p.fp → DelAt G (fun x => x.1.1 == 0) p.wv.ownBlock.toList w4) := by
    intro G w4 hc3 hG hG2 hG3
    have hs : ∀ j ∈ p.wv.ownBlock.toList, j ∈ p.fp := fun j hj => by simp only [DevP.fp]; exact List.mem_append_right _ hj
    refine forget1_lose w.heap.size (fun x => x.1 == 0) _ G w4 (fun w5 hc4 x => ?_) hG hG2 (fun hm => hG3 (hs _ hm))
    have hb4 := (B3.out.of (hc3.block _ B3.out.lt (by simp))).of (hc4.block _ (Nat.lt_of_lt_of_le B3.out.lt hc3.size) (fun hm => HNS.out (hs _ hm)))
    exact lose1_any x w.heap.size 0 w5 (hb4.cell 0 _ rfl) hb4.lt
  go_wp2_with fail
  refine (forget_any 37 w.heap.size (fun x => x.1 == 0) p { d with s0 := loseS d.s0 } _ D3.out HL.out HOF.out).mono ?_
  rintro e w4 ⟨rfl, p2, hd2, hm2⟩
  have HF := Lib.hid (DevTo.mk hd2 (hm2.ofChg' C3.out))
  clear hd2 hm2
  go_wp2
  go_ret
  refine ⟨rfl, ?_⟩
  rw [HW.out]
  exact HF.out
set_option maxRecDepth 100000 in
set_option maxHeartbeats 1000000 in
theorem lose_1 (p : DevP) (d : DevD) (w : World) (h : DevAt w p d) (hlen : d.waits.length ≤ 100000) : Calls Try.prog 20 #[.pointer (some ⟨p.b, 0, none⟩), .int .i64 1] w fun e w' => e = .returned (.int .i64 0) ∧ DevTo p (loseD d 1) w w' := by
  have hx := Lib.hid ((Below.refl w.heap.size w).alloc (Nat.le_refl _) (.cells #[.int .i64 1] 3 (0, 0)))
  have BX := Lib.hid (Box.new w 3 #[.int .i64 1])
  have HX := Lib.hid (h.chg (Chg.of (S := []) hx.out (Nat.le_refl _)) (fun _ _ hm => by cases hm))
  have HL := Lib.hid hlen
  have HP := Lib.hid h.lt
  have HZ : Hid (devSize d 1 = d.s1.has.length ∧ 1 ≤ d.s1.has.length) := ⟨rfl, h.n1.1⟩
  clear h hlen
  have HW : Hid (loseD d 1 = forgetD { d with s1 := loseS d.s1 } (fun x => x.1 == 1)) := rfl
  go_enter Try.func20, Try.ntmps20
  go_wp2_with fail
  generalize World.alloc _ _ = wx at *
  refine (dsize_any p d 1 wx HX.out).mono ?_
  rintro e w' ⟨rfl, rfl⟩
  rw [HZ.out.1]
  have hz1 := HZ.out.2
  have k0 : wx.cell? ⟨w.heap.size, 0, none⟩ = some (.int .i64 1) := BX.out.cell 0 _ rfl
  go_wp2_with fail
  go_quiet (fail)
  clear k0
  have hD0 : DevAt (wx.drewN nq) p d := HX.out.drewN nq
  have hB0 : Box (wx.drewN nq) w.heap.size 3 #[.int .i64 1] := BX.out
  have hC0 : Chg [] w (wx.drewN nq) := (Chg.of (S := []) hx.out (Nat.le_refl _)).drewN nq
  generalize wx.drewN nq = w1 at *
  have c2 : w1.cell? ⟨p.b, 5, none⟩ = some (.bool d.s1.lost) := hD0.box.cell 5 _ rfl
  have f2 : w1.frozen? ⟨p.b, 5, none⟩ = false := hD0.box.free 5
  have c0 : w1.cell? ⟨p.b, 3, none⟩ = some (.slice (some ⟨p.h1, 0, none⟩) d.s1.has.length p.ch1) := hD0.box.cell 3 _ rfl
  have c1 : w1.cell? ⟨p.b, 4, none⟩ = some (.slice (some ⟨p.t1, 0, none⟩) d.s1.tells.length p.ct1) := hD0.box.cell 4 _ rfl
  have D1 := Lib.hid (hD0.lost1 true)
  have hns : w.heap.size ∉ p.fp := fun hm => by have := HP.out _ hm; omega
  have B1 := Lib.hid (hB0.of ((chg_set w1 p.b 5 (.bool true)).block _ hB0.lt (by simp; intro e; exact hns (by rw [e]; simp [DevP.fp]))))
  have C1 := Lib.hid ((hC0.mono (S' := p.fp) (fun _ h => by cases h)).trans ((chg_set w1 p.b 5 (.bool true)).mono (fun k hk => by rw [List.mem_singleton] at hk; simp [DevP.fp, hk])))
  have HNS := Lib.hid hns
  clear hD0 hB0 hC0 hns HX BX hx
  go_wp2_with (with_reducible refine wp_clear_strs _ rfl (.tmp 21) rfl p.h1 p.ch1 d.s1.has rfl ?c1 ?c2 ?c3)
  case c1 => exact D1.out.h1
  case c2 => exact hz1
  intro w2 hS2 hC2
  clear c0 c1 c2 f2
  have D2 := Lib.hid (D1.out.has1 hS2 (blanks_len _) hC2)
  have B2 := Lib.hid (B1.out.of (hC2.block _ B1.out.lt (by simp; intro e; exact HNS.out (by rw [e]; simp [DevP.fp]))))
  have C2 := Lib.hid (C1.out.trans (hC2.mono (fun k hk => by rw [List.mem_singleton] at hk; simp [DevP.fp, hk])))
  clear hS2 hC2 D1 B1 C1
  have c1 : w2.cell? ⟨p.b, 4, none⟩ = some (.slice (some ⟨p.t1, 0, none⟩) d.s1.tells.length p.ct1) := D2.out.box.cell 4 _ rfl
  go_wp2_with (with_reducible refine wp_clear_strs _ rfl (.tmp 25) rfl p.t1 p.ct1 d.s1.tells rfl ?d1 ?d2 ?d3)
  case d1 => exact D2.out.t1
  case d2 => have := D2.out.l1; simp [blanks] at this; omega
  intro w3 hS3 hC3
  clear c1
  have D3 : Hid (DevAt w3 p { d with s1 := loseS d.s1 }) := D2.out.tells1 hS3 (blanks_len _) hC3
  have B3 := Lib.hid (B2.out.of (hC3.block _ B2.out.lt (by simp; intro e; exact HNS.out (by rw [e]; simp [DevP.fp]))))
  have C3 := Lib.hid (C2.out.trans (hC3.mono (fun k hk => by rw [List.mem_singleton] at hk; simp [DevP.fp, hk])))
  clear hS3 hC3 D2 B2 C2
  have HOF : Hid (∀ G w4, Chg [] w3 w4 → w4.cell? ⟨G, 0, none⟩ = some (.func (.func 37) #[] #[.pointer (some ⟨w.heap.size, 0, none⟩)]) → G < w4.heap.size → G ∉ p.fp → DelAt G (fun x => x.1.1 == 1) p.wv.ownBlock.toList w4) := by
    intro G w4 hc3 hG hG2 hG3
    have hs : ∀ j ∈ p.wv.ownBlock.toList, j ∈ p.fp := fun j hj => by simp only [DevP.fp]; exact List.mem_append_right _ hj
    refine forget1_lose w.heap.size (fun x => x.1 == 1) _ G w4 (fun w5 hc4 x => ?_) hG hG2 (fun hm => hG3 (hs _ hm))
    have hb4 := (B3.out.of (hc3.block _ B3.out.lt (by simp))).of (hc4.block _ (Nat.lt_of_lt_of_le B3.out.lt hc3.size) (fun hm => HNS.out (hs _ hm)))
    exact lose1_any x w.heap.size 1 w5 (hb4.cell 0 _ rfl) hb4.lt
  go_wp2_with fail
  refine (forget_any 37 w.heap.size (fun x => x.1 == 1) p { d with s1 := loseS d.s1 } _ D3.out HL.out HOF.out).mono ?_
  rintro e w4 ⟨rfl, p2, hd2, hm2⟩
  have HF := Lib.hid (DevTo.mk hd2 (hm2.ofChg' C3.out))
  clear hd2 hm2
  go_wp2
  go_ret
  refine ⟨rfl, ?_⟩
  rw [HW.out]
  exact HF.out
end Go.Proofs.Ytflobdhhjfpcdaa
