/-
  The reference's devices: Write; the waiting writes in another row.
-/
import Derived.Test.YtflobdhhjfpcdaaRfC
namespace Go.Proofs.Ytflobdhhjfpcdaa
open Go.RowKit Go.ChangeShapes Go.WideShapes Go.ChangeAt

theorem RefAt.as {w : World} {p : RefP} {d d' : DevD} (h : RefAt w p d) (e0 : d'.s0.has = d.s0.has) (e1 : d'.s1.has = d.s1.has) (l0 : d'.s0.lost = d.s0.lost) (l1 : d'.s1.lost = d.s1.lost) (hw : d'.waits = d.waits) : RefAt w p d' := by
  have hz : ∀ l, locOk d l → locOk d' l := fun l hl => by
    unfold locOk devSize at *
    rw [e0, e1]
    exact hl
  refine ⟨h.box, ?_, ?_, ?_, ?_, ?_, h.nd, ?_, ?_, ?_⟩
  · rw [e0, e1]; exact h.s
  · rw [l0, l1]; exact h.g
  · rw [e0]; exact h.h0
  · rw [e1]; exact h.h1
  · rw [hw]; exact h.wt
  · rw [e0]; exact h.n0
  · rw [e1]; exact h.n1
  · rw [hw]; exact fun x hx => hz _ (h.wok x hx)
theorem RefTo.as {p : RefP} {d d' : DevD} {w w' : World} (h : RefTo p d w w') (e0 : d'.s0.has = d.s0.has) (e1 : d'.s1.has = d.s1.has) (l0 : d'.s0.lost = d.s0.lost) (l1 : d'.s1.lost = d.s1.lost) (hw : d'.waits = d.waits) : RefTo p d' w w' := by
  obtain ⟨p', h1, h2, h3⟩ := h
  exact ⟨p', h1, h2.as e0 e1 l0 l1 hw, h3⟩
/-- The waiting writes in another row. -/
theorem RefAt.waitsTo {w0 W W' : World} {p : RefP} {d : DevD} {v' : Value} {ws : List WrD} (h : RefAt W p d) (hc0 : Chg p.fp w0 W) (hc : Chg p.wv.ownBlock.toList W W') (hr : Rws W' v' ws)
    (hv : ∀ k, v'.ownBlock = some k → p.wv.ownBlock = some k ∨ (k ∉ p.fp ∧ w0.heap.size ≤ k)) (hok : ∀ x ∈ ws, locOk d x.1) :
    Box W' p.b 45 #[.slice (some ⟨p.sb, 0, none⟩) 2 2, .slice (some ⟨p.gb, 0, none⟩) 2 2, p.wv] ∧ RefTo p { d with waits := ws } w0 (W'.setCell ⟨p.b, 2, none⟩ v') := by
  obtain ⟨n1, n2, n3, n4, n5, n6, n7, n8, n9, n10, n11⟩ := h.ne
  have far : ∀ k, k ∉ p.wv.ownBlock.toList ↔ p.wv.ownBlock ≠ some k := fun k => by rw [Option.mem_toList]
  have hb := h.box.of (hc.block p.b h.box.lt ((far _).2 fun e => (n11 _ e).1 rfl))
  have hs := chg_set W' p.b 2 v'
  have ob : ∀ k, k < W.heap.size → p.b ≠ k → p.wv.ownBlock ≠ some k → (W'.setCell ⟨p.b, 2, none⟩ v').heap[k]? = W.heap[k]? := fun k hk h1 h2 =>
    (hs.block k (Nat.lt_of_lt_of_le hk hc.size) (by simpa using Ne.symm h1)).trans (hc.block k hk ((far k).2 h2))
  have hcs : Chg (p.b :: p.wv.ownBlock.toList) W (W'.setCell ⟨p.b, 2, none⟩ v') := (hc.mono (fun k hk => List.mem_cons_of_mem _ hk)).trans (hs.mono (fun k hk => by rw [List.mem_singleton] at hk; rw [hk]; exact List.mem_cons_self))
  have vb : ∀ k, v'.ownBlock = some k → p.b ≠ k ∧ p.sb ≠ k ∧ p.gb ≠ k ∧ p.r0 ≠ k ∧ p.r1 ≠ k := fun k hk => by
    rcases hv k hk with e | ⟨e, _⟩
    · exact n11 k e
    · simp only [RefP.fp, List.mem_append, List.mem_cons, List.not_mem_nil, or_false, not_or] at e
      exact ⟨fun h => e.1.1 h.symm, fun h => e.1.2.1 h.symm, fun h => e.1.2.2.1 h.symm, fun h => e.1.2.2.2.1 h.symm, fun h => e.1.2.2.2.2 h.symm⟩
  refine ⟨hb, { p with wv := v' }, rfl, ⟨hb.set 2 v', h.s.of (ob _ h.s.lt n1 fun e => (n11 _ e).2.1 rfl), h.g.of (ob _ h.g.lt n2 fun e => (n11 _ e).2.2.1 rfl), ?_, ?_, ?_, ?_, h.n0, h.n1, hok⟩, ?_, ?_⟩
  · exact h.h0.chg hcs (by simp only [List.mem_cons, not_or]; exact ⟨Ne.symm n3, (far _).2 fun e => (n11 _ e).2.2.2.1 rfl⟩)
  · exact h.h1.chg hcs (by simp only [List.mem_cons, not_or]; exact ⟨Ne.symm n4, (far _).2 fun e => (n11 _ e).2.2.2.2 rfl⟩)
  · exact hr.of fun k hk hlt => hs.block k hlt (by simpa using Ne.symm (vb k hk).1)
  · show List.Nodup ([p.b, p.sb, p.gb, p.r0, p.r1] ++ v'.ownBlock.toList)
    simp only [List.cons_append, List.nil_append, List.nodup_cons, List.mem_cons, not_or, Option.mem_toList]
    refine ⟨⟨n1, n2, n3, n4, fun e => (vb _ e).1 rfl⟩, ⟨n5, n6, n7, fun e => (vb _ e).2.1 rfl⟩, ⟨n8, n9, fun e => (vb _ e).2.2.1 rfl⟩, ⟨n10, fun e => (vb _ e).2.2.2.1 rfl⟩, fun e => (vb _ e).2.2.2.2 rfl, ?_⟩
    cases v'.ownBlock <;> simp
  · refine hc0.then hcs (fun k hk => .inl ?_)
    rcases List.mem_cons.1 hk with rfl | hk
    · simp [RefP.fp]
    · simp only [RefP.fp]; exact List.mem_append_right _ hk
  · intro k hk
    simp only [RefP.fp] at hk
    rcases List.mem_append.1 hk with hk | hk
    · left; simp only [RefP.fp]; exact List.mem_append_left _ hk
    · rw [Option.mem_toList] at hk
      rcases hv k hk with e | ⟨_, e⟩
      · left; simp only [RefP.fp]; exact List.mem_append_right _ (by rw [Option.mem_toList]; exact e)
      · exact .inr e
/-- 'append(out, x)' of one write, at a step of a region. -/
theorem step_rws_push {ops : Array Oper} {o : Oper} {a : Act} {W : World} {K : Act → World → Prop} {Q : Exit → Act → World → Prop} {E : Prop} (hgd : o.guard = none) (s x : Operand)
    (ho : o.op = .call { callee := .builtin .append, args := #[s, x], argTypes := #[43, 43] })
    (v : Value) (l : List WrD) (hs : a.eval s = v) (hb : Rws W v l)
    (g c : Nat) (p : WrD) (hx : a.eval x = .slice (some ⟨g, 0, none⟩) 1 c) (hcell : ∀ j u, (WrV p)[j]? = some u → W.cell? ⟨g, j, none⟩ = some u)
    (hbytes : l.length ≤ 100000)
    (h : ∀ v' w', Rws w' v' (l ++ [p]) → W.grownBy w' v.ownBlock → (v'.ownBlock = v.ownBlock ∨ v'.ownBlock = some W.heap.size) → K (a.put o.dst v') w') :
    if Region.wanted o (yielded ops a.tmps) = true then Oper.wp Try.prog o a W K Q else E := by
  have hw : Region.wanted o (yielded ops a.tmps) = true := by simp [Region.wanted, hgd]
  rw [if_pos hw]
  obtain ⟨i0, hi, hz0, hz1, hz2⟩ := info_parts infoRw
  obtain ⟨v', w', hr, hown, hg, _, hob⟩ := run_append_own_at (P := Try.prog) W 0 43 o.type 64 i0 (.agg #[.int .i64 0, .int .i64 0, .string ⟨#[]⟩]) 3 32 Try.underlying43 hi hz0 hz1 hz2 rfl (by decide) v l.length _ hb ⟨g, 0, none⟩ 1 c (WrV p) rfl
    (fun j u hj => by
      rw [add_plain, Nat.zero_add]
      exact hcell j u hj) (wrV_one p) (by unfold maxLen; omega) (by omega) (Nat.zero_le _)
  unfold Oper.wp execOp
  simp only [ho, resolve, invoke, builtin, Sem.run_bind, Sem.run_pure, Result.andThen_ok, List.map_toArray, List.map_cons, List.map_nil, hs, hx, hr]
  refine h v' w' ?_ hg hob
  unfold Rws
  rw [List.flatMap_append, List.length_append, List.flatMap_cons, List.flatMap_nil, List.append_nil]
  exact hown

set_option maxRecDepth 100000 in
set_option maxHeartbeats 4000000 in
theorem rwrite_any (p : RefP) (d : DevD) (l : Int × Int) (s : ByteArray) (w : World) (h : RefAt w p d) (hlen : d.waits.length ≤ 100000) : Calls Try.prog 24 #[.pointer (some ⟨p.b, 0, none⟩), locV l, .string s] w fun e w' => e = .returned (.int .i64 (chkD d l s.size)) ∧ RefTo p (writeD d l s) w w' := by
  have HP := Lib.hid h.lt
  have hwr := writeD_has d l s
  have hwl := fun dev => lost_writeD d l s dev
  have hww := writeD_waits d l s
  have HD : Hid ((writeD d l s).s0.has = d.s0.has ∧ (writeD d l s).s1.has = d.s1.has ∧ (writeD d l s).s0.lost = d.s0.lost ∧ (writeD d l s).s1.lost = d.s1.lost ∧ (writeD d l s).waits = if chkD d l s.size = 0 then d.waits ++ [(l, s)] else d.waits) :=
    ⟨hwr.1, hwr.2, hwl 0, hwl 1, hww⟩
  clear hwr hwl hww
  have HWR := Lib.hid (fun W (h : RefAt W p d) => rwrong_any p d l s W h)
  have HOK := Lib.hid (fun (h : chkD d l s.size = 0) => chkD_ok h)
  obtain ⟨d', hd'⟩ : ∃ d', d' = writeD d l s := ⟨_, rfl⟩
  rw [← hd'] at HD ⊢
  clear hd'
  obtain ⟨a, b⟩ := l
  unfold locV at HWR ⊢
  have hx := (Below.refl w.heap.size w).alloc (Nat.le_refl _) (.cells #[.int .i64 a, .int .i64 b] 29)
  have J0 : Hid (RdJ w p d w.heap.size a b (w.alloc (.cells #[.int .i64 a, .int .i64 b] 29))) := ⟨Box.new w _ _, h.keep hx, hx⟩
  have HL := Lib.hid hlen
  clear h hx hlen
  go_enter Try.func24, Try.ntmps24
  have k0 := J0.out.bx.cell 0 _ rfl
  have k1 := J0.out.bx.cell 1 _ rfl
  go_wp2_with fail
  generalize World.alloc w _ = wx at *
  obtain ⟨g, hg⟩ : ∃ g, g = w.heap.size := ⟨_, rfl⟩
  have HG := Lib.hid hg
  rw [← hg] at J0 ⊢
  clear hg k0 k1
  refine (HWR.out wx J0.out.rf).mono ?_
  rintro e w1 ⟨rfl, hb⟩
  have J1 := Lib.hid (J0.out.keep hb)
  clear hb J0 HWR
  obtain ⟨ck, hck⟩ : ∃ ck, ck = chkD d (a, b) s.size := ⟨_, rfl⟩
  have HCK := Lib.hid hck
  rw [← hck] at HD HOK ⊢
  clear hck
  by_cases hc : ck = 0
  rotate_left
  · rw [if_neg hc] at HD
    have hn : (ck == 0) = false := beq_eq_false_iff_ne.2 hc
    clear hc HOK
    go_wp2
    go_ret
    exact ⟨by rw [← HCK.out]; rfl, ((RefTo.same (p := p) J1.out.rf (Below.refl _ _)).ahead J1.out.bl).as HD.out.1 HD.out.2.1 HD.out.2.2.1 HD.out.2.2.2.1 HD.out.2.2.2.2⟩
  obtain ⟨ha, h0, h1, _, _⟩ := HOK.out hc
  have HLK : Hid (locOk d (a, b)) := ⟨ha, h0, h1⟩
  rw [if_pos hc] at HD
  subst hc
  clear ha h0 h1 HOK
  have J2 := Lib.hid J1.out.drew
  have g0 := J2.out.bx.cell 0 _ rfl
  have g1 := J2.out.bx.cell 1 _ rfl
  have g2 := J2.out.rf.box.cell 2 _ rfl
  have hz := (Below.refl w1.heap.size w1.drew).alloc (Nat.le_refl _) (.cells #[.int .i64 a, .int .i64 b, .string s] 64)
  have EB := Lib.hid (Box.new w1.drew 64 #[.int .i64 a, .int .i64 b, .string s])
  have J3 := Lib.hid (J2.out.keep hz)
  have HS3 := Lib.hid hz.size
  clear hz J1
  go_wp2_with fail
  refine wp_region_tree (fun W => W.cell? ⟨g, 0, none⟩ = some (.int .i64 a) ∧ W.cell? ⟨g, 1, none⟩ = some (.int .i64 b) ∧ W.cell? ⟨p.b, 2, none⟩ = some p.wv) 10 (.quiet 0 (.quiet 1 (.quiet 2 (.quiet 3 (.quiet 4 (.quiet 5 (.quiet 6 (.quiet 7 (.make 8 (.make 9 .nil)))))))))) (by kernel_rfl) (by kernel_rfl) ⟨g0, g1, g2⟩ ?_
  simp only [List.drop_succ_cons, List.drop_zero]
  clear g0 g1 g2
  iterate 8 (apply wpTr_step rfl; (intro W hS K hK; obtain ⟨z0, z1, z2⟩ := hS; go_simp; exact hK _ rfl))
  refine wpTr_make rfl (fun K' hK => ?_)
  go_simp
  refine hK _ _ _ (fun _ h => h) ⟨J3.out.bx.cell 0 _ rfl, J3.out.bx.cell 1 _ rfl, J3.out.rf.box.cell 2 _ rfl⟩ ?_
  clear hK K' J2
  refine wpTr_make rfl (fun K' hK => ?_)
  refine step_rws_push rfl (.tmp 18) (.tmp 22) rfl p.wv d.waits rfl J3.out.rf.wt w1.heap.size 1 ((a, b), s) rfl ?_ HL.out ?_
  · intro j u hj
    exact EB.out.cell j u (by simpa [WrV] using hj)
  intro v' w4 hr hgr hob
  have hcg := chg_grown hgr
  obtain ⟨hbx, hto⟩ := J3.out.rf.waitsTo (Chg.of (S := p.fp) J3.out.bl (Nat.le_refl _)) hcg hr (fun k hk => by
    rcases hob with e | e
    · exact .inl (by rw [← e]; exact hk)
    · rw [e] at hk
      injection hk with hk
      have hk2 : w1.heap.size + 1 = k := by
        rw [← hk]
        show _ = (w1.alloc _).heap.size
        rw [size_alloc]
      have h2 : w.heap.size ≤ w1.heap.size + 1 := by
        have := J3.out.bl.size
        rw [size_alloc] at this
        exact this
      refine .inr ⟨fun hm => ?_, ?_⟩
      · have := HP.out k hm
        omega
      · omega) (fun x hx => by
    rcases List.mem_append.1 hx with h | h
    · exact J3.out.rf.wok x h
    · rw [List.mem_singleton.1 h]; exact HLK.out)
  have hbg : Box w4 g 29 #[.int .i64 a, .int .i64 b] := J3.out.bx.of (hcg.block g J3.out.bx.lt (fun hm => by
    have := HP.out g (by simp only [RefP.fp]; exact List.mem_append_right _ hm)
    have := HG.out
    omega))
  have HTO := Lib.hid hto
  have HBX := Lib.hid hbx
  obtain ⟨va, vc, hv', _⟩ := hr.view
  rw [show (d.waits ++ [((a, b), s)]).length = d.waits.length + 1 by simp] at hv'
  subst hv'
  refine hK _ _ _ (fun _ h => h) ⟨hbg.cell 0 _ rfl, hbg.cell 1 _ rfl, hbx.cell 2 _ rfl⟩ ?_
  have d2 := hbx.cell 2 _ rfl
  have f2 := hbx.free 2
  clear hK K' hr hgr hob hcg hbx hto hbg J3 EB HS3
  refine wpTr_nil ?_
  go_wp2
  go_ret
  exact ⟨by rw [← HCK.out]; rfl, HTO.out.as HD.out.1 HD.out.2.1 HD.out.2.2.1 HD.out.2.2.2.1 HD.out.2.2.2.2⟩
end Go.Proofs.Ytflobdhhjfpcdaa
