/-
  The reference's devices: Lose.
-/
import Derived.Test.YtflobdhhjfpcdaaRfG
namespace Go.Proofs.Ytflobdhhjfpcdaa
open Go.RowKit Go.ChangeShapes Go.WideShapes Go.ChangeAt

theorem RefTo.next {p p1 : RefP} {d' : DevD} {w w1 w2 : World} (e : p1.b = p.b) (hc : Chg p.fp w w1) (hf : ∀ k ∈ p1.fp, k ∈ p.fp ∨ w.heap.size ≤ k) (h : RefTo p1 d' w1 w2) : RefTo p d' w w2 := by
  obtain ⟨p2, e2, h2, hc2, hf2⟩ := h
  refine ⟨p2, e2.trans e, h2, hc.then hc2 hf, fun k hk => ?_⟩
  rcases hf2 k hk with h | h
  · exact hf k h
  · exact .inr (Nat.le_trans hc.size h)
/-- Device 0 is lost, its sectors in a new row. -/
def gone0 (d : DevD) : DevD := { d with s0 := { d.s0 with has := blanks d.s0.has, lost := true } }
theorem RefAt.gone0 {w : World} {p : RefP} {d : DevD} (h : RefAt w p d) : RefAt (w.setCell ⟨p.gb, 0, none⟩ (.bool true)) p { d with s0 := { d.s0 with lost := true } } := by
  obtain ⟨n1, n2, n3, n4, n5, n6, n7, n8, n9, n10, n11⟩ := h.ne
  have hc := chg_set w p.gb 0 (.bool true)
  exact ⟨h.box.of (hc.block p.b h.box.lt (by simpa using n2)), h.s.of (hc.block p.sb h.s.lt (by simpa using n5)), h.g.set 0 _, h.h0.chg hc (by simpa using Ne.symm n8), h.h1.chg hc (by simpa using Ne.symm n9),
    h.wt.of fun b hb hlt => hc.block b hlt (by simpa using Ne.symm (n11 b hb).2.2.1), h.nd, h.n0, h.n1, h.wok⟩
theorem RefAt.blank0 {w : World} {p : RefP} {d : DevD} (h : RefAt w p d) : RefAt ((w.alloc (.cells (madeCells #[Value.string ⟨#[]⟩] d.s0.has.length) 9)).setCell ⟨p.sb, 0, none⟩ (.slice (some ⟨w.heap.size, 0, none⟩) d.s0.has.length d.s0.has.length)) { p with r0 := w.heap.size, c0 := d.s0.has.length } { d with s0 := { d.s0 with has := blanks d.s0.has } } := by
  obtain ⟨n1, n2, n3, n4, n5, n6, n7, n8, n9, n10, n11⟩ := h.ne
  have hlt := h.lt
  have hl : (blanks d.s0.has).length = d.s0.has.length := by simp [blanks]
  have hm := Strs.made w d.s0.has.length (by have := h.n0; omega)
  have hs0 := h.keep ((Below.refl w.heap.size w).alloc (Nat.le_refl _) (.cells (madeCells #[Value.string ⟨#[]⟩] d.s0.has.length) 9))
  generalize World.alloc w _ = w1 at *
  have hc := chg_set w1 p.sb 0 (.slice (some ⟨w.heap.size, 0, none⟩) d.s0.has.length d.s0.has.length)
  have hne : ∀ k ∈ p.fp, k ≠ w.heap.size := fun k hk => Nat.ne_of_lt (hlt k hk)
  have hb : p.b ≠ w.heap.size := hne _ (by simp [RefP.fp])
  have hsb : p.sb ≠ w.heap.size := hne _ (by simp [RefP.fp])
  have hgb : p.gb ≠ w.heap.size := hne _ (by simp [RefP.fp])
  have hr : p.r1 ≠ w.heap.size := hne _ (by simp [RefP.fp])
  have hw : ∀ k, p.wv.ownBlock = some k → k ≠ w.heap.size := fun k hk => hne k (by simp only [RefP.fp]; exact List.mem_append_right _ (by rw [Option.mem_toList]; exact hk))
  have hst : Strs (w1.setCell ⟨p.sb, 0, none⟩ (.slice (some ⟨w.heap.size, 0, none⟩) d.s0.has.length d.s0.has.length)) w.heap.size d.s0.has.length (blanks d.s0.has) := by
    have : blanks d.s0.has = List.replicate d.s0.has.length emp := rfl
    rw [this]
    exact hm.chg hc (by simpa using Ne.symm hsb)
  have hok : ∀ x ∈ d.waits, locOk { d with s0 := { d.s0 with has := blanks d.s0.has } } x.1 := fun x hx => by
    have := h.wok x hx
    unfold locOk devSize at *
    rw [hl]
    exact this
  refine ⟨hs0.box.of (hc.block p.b hs0.box.lt (by simpa using n1)), ?_, hs0.g.of (hc.block p.gb hs0.g.lt (by simpa using Ne.symm n5)), ?_, ?_, hs0.wt.of fun b hb hlt => hc.block b hlt (by simpa using Ne.symm (n11 b hb).2.1), ?_, ?_, ?_, hok⟩
  · have := hs0.s.set 0 (.slice (some ⟨w.heap.size, 0, none⟩) d.s0.has.length d.s0.has.length)
    rw [hl]
    exact this
  · exact hst
  · exact hs0.h1.chg hc (by simpa using Ne.symm n7)
  · show List.Nodup ([p.b, p.sb, p.gb, w.heap.size, p.r1] ++ p.wv.ownBlock.toList)
    simp only [List.cons_append, List.nil_append, List.nodup_cons, List.mem_cons, not_or, Option.mem_toList]
    refine ⟨⟨n1, n2, hb, n4, fun e => (n11 _ e).1 rfl⟩, ⟨n5, hsb, n7, fun e => (n11 _ e).2.1 rfl⟩, ⟨hgb, n9, fun e => (n11 _ e).2.2.1 rfl⟩, ⟨Ne.symm hr, fun e => hw _ e rfl⟩, fun e => (n11 _ e).2.2.2.2 rfl, ?_⟩
    cases p.wv.ownBlock <;> simp
  · rw [hl]; exact h.n0
  · exact h.n1
/-- Device 1 is lost, its sectors in a new row. -/
def gone1 (d : DevD) : DevD := { d with s1 := { d.s1 with has := blanks d.s1.has, lost := true } }
theorem RefAt.gone1 {w : World} {p : RefP} {d : DevD} (h : RefAt w p d) : RefAt (w.setCell ⟨p.gb, 1, none⟩ (.bool true)) p { d with s1 := { d.s1 with lost := true } } := by
  obtain ⟨n1, n2, n3, n4, n5, n6, n7, n8, n9, n10, n11⟩ := h.ne
  have hc := chg_set w p.gb 1 (.bool true)
  exact ⟨h.box.of (hc.block p.b h.box.lt (by simpa using n2)), h.s.of (hc.block p.sb h.s.lt (by simpa using n5)), h.g.set 1 _, h.h0.chg hc (by simpa using Ne.symm n8), h.h1.chg hc (by simpa using Ne.symm n9),
    h.wt.of fun b hb hlt => hc.block b hlt (by simpa using Ne.symm (n11 b hb).2.2.1), h.nd, h.n0, h.n1, h.wok⟩
theorem RefAt.blank1 {w : World} {p : RefP} {d : DevD} (h : RefAt w p d) : RefAt ((w.alloc (.cells (madeCells #[Value.string ⟨#[]⟩] d.s1.has.length) 9)).setCell ⟨p.sb, 1, none⟩ (.slice (some ⟨w.heap.size, 0, none⟩) d.s1.has.length d.s1.has.length)) { p with r1 := w.heap.size, c1 := d.s1.has.length } { d with s1 := { d.s1 with has := blanks d.s1.has } } := by
  obtain ⟨n1, n2, n3, n4, n5, n6, n7, n8, n9, n10, n11⟩ := h.ne
  have hlt := h.lt
  have hl : (blanks d.s1.has).length = d.s1.has.length := by simp [blanks]
  have hm := Strs.made w d.s1.has.length (by have := h.n1; omega)
  have hs0 := h.keep ((Below.refl w.heap.size w).alloc (Nat.le_refl _) (.cells (madeCells #[Value.string ⟨#[]⟩] d.s1.has.length) 9))
  generalize World.alloc w _ = w1 at *
  have hc := chg_set w1 p.sb 1 (.slice (some ⟨w.heap.size, 0, none⟩) d.s1.has.length d.s1.has.length)
  have hne : ∀ k ∈ p.fp, k ≠ w.heap.size := fun k hk => Nat.ne_of_lt (hlt k hk)
  have hb : p.b ≠ w.heap.size := hne _ (by simp [RefP.fp])
  have hsb : p.sb ≠ w.heap.size := hne _ (by simp [RefP.fp])
  have hgb : p.gb ≠ w.heap.size := hne _ (by simp [RefP.fp])
  have hr : p.r0 ≠ w.heap.size := hne _ (by simp [RefP.fp])
  have hw : ∀ k, p.wv.ownBlock = some k → k ≠ w.heap.size := fun k hk => hne k (by simp only [RefP.fp]; exact List.mem_append_right _ (by rw [Option.mem_toList]; exact hk))
  have hst : Strs (w1.setCell ⟨p.sb, 1, none⟩ (.slice (some ⟨w.heap.size, 0, none⟩) d.s1.has.length d.s1.has.length)) w.heap.size d.s1.has.length (blanks d.s1.has) := by
    have : blanks d.s1.has = List.replicate d.s1.has.length emp := rfl
    rw [this]
    exact hm.chg hc (by simpa using Ne.symm hsb)
  have hok : ∀ x ∈ d.waits, locOk { d with s1 := { d.s1 with has := blanks d.s1.has } } x.1 := fun x hx => by
    have := h.wok x hx
    unfold locOk devSize at *
    rw [hl]
    exact this
  refine ⟨hs0.box.of (hc.block p.b hs0.box.lt (by simpa using n1)), ?_, hs0.g.of (hc.block p.gb hs0.g.lt (by simpa using Ne.symm n5)), ?_, ?_, hs0.wt.of fun b hb hlt => hc.block b hlt (by simpa using Ne.symm (n11 b hb).2.1), ?_, ?_, ?_, hok⟩
  · have := hs0.s.set 1 (.slice (some ⟨w.heap.size, 0, none⟩) d.s1.has.length d.s1.has.length)
    rw [hl]
    exact this
  · exact hs0.h0.chg hc (by simpa using Ne.symm n6)
  · exact hst
  · show List.Nodup ([p.b, p.sb, p.gb, p.r0, w.heap.size] ++ p.wv.ownBlock.toList)
    simp only [List.cons_append, List.nil_append, List.nodup_cons, List.mem_cons, not_or, Option.mem_toList]
    refine ⟨⟨n1, n2, n3, hb, fun e => (n11 _ e).1 rfl⟩, ⟨n5, n6, hsb, fun e => (n11 _ e).2.1 rfl⟩, ⟨n8, hgb, fun e => (n11 _ e).2.2.1 rfl⟩, ⟨hr, fun e => (n11 _ e).2.2.2.1 rfl⟩, fun e => hw _ e rfl, ?_⟩
    cases p.wv.ownBlock <;> simp
  · exact h.n0
  · rw [hl]; exact h.n1

/-- The loop of Lose: the devices, what is left. -/
structure LoJ (w2 : World) (p : RefP) (d : DevD) (v : Value) (ws : List WrD) (W : World) : Prop where
  rf : RefAt W p d
  bl : Below w2.heap.size w2 W
  lf : Rws W v ws
  ow : ∀ k, v.ownBlock = some k → w2.heap.size ≤ k
theorem LoJ.keep {w2 : World} {p : RefP} {d : DevD} {v : Value} {ws : List WrD} {W W' : World} (h : LoJ w2 p d v ws W) (hb : Below W.heap.size W W') : LoJ w2 p d v ws W' :=
  ⟨h.rf.keep hb, h.bl.trans (hb.mono h.bl.size), h.lf.keep hb, h.ow⟩
theorem LoJ.push {w2 : World} {p : RefP} {d : DevD} {v v' : Value} {ws ws' : List WrD} {W W' : World} (h : LoJ w2 p d v ws W) (hp : ∀ k ∈ p.fp, k < w2.heap.size) (hg : W.grownBy W' v.ownBlock) (hr : Rws W' v' ws') (ho : v'.ownBlock = v.ownBlock ∨ v'.ownBlock = some W.heap.size) : LoJ w2 p d v' ws' W' := by
  have hc := chg_grown hg
  refine ⟨h.rf.chg hc (fun k hk hm => ?_), h.bl.grown hg h.bl.size h.ow, hr, fun k hk => ?_⟩
  · rw [Option.mem_toList] at hm
    have := h.ow k hm
    have := hp k hk
    omega
  · rcases ho with e | e
    · exact h.ow k (by rw [← e]; exact hk)
    · rw [e] at hk
      injection hk with hk
      rw [← hk]
      exact h.bl.size

set_option maxRecDepth 100000 in
set_option maxHeartbeats 4000000 in
theorem rlose_0 (p : RefP) (d : DevD) (w : World) (h : RefAt w p d) (hlen : d.waits.length ≤ 100000) : Calls Try.prog 28 #[.pointer (some ⟨p.b, 0, none⟩), .int .i64 0] w fun e w' => e = .returned (.int .i64 0) ∧ RefTo p (loseD d 0) w w' := by
  have HL := Lib.hid hlen
  have hn := h.n0
  have hmk := fun W => run_make_row' (P := Try.prog) 53 9 (.string ⟨#[]⟩) 16 Try.underlying53 infoStr rfl .i64 .i64 d.s0.has.length (by omega) (by omega) W
  have b0 := h.box.cell 0 _ rfl
  have b1 := h.box.cell 1 _ rfl
  have g0 := h.g.cell 0 _ rfl
  have f0 := h.g.free 0
  have H1 := Lib.hid h.gone0
  have C1 : Hid (Chg p.fp w (w.setCell ⟨p.gb, 0, none⟩ (.bool true))) := (Chg.refl _ _).set p.gb 0 _ (.inl (by simp [RefP.fp]))
  clear h
  go_enter Try.func28, Try.ntmps28
  go_wp2_with fail
  clear b0 b1 g0 f0
  generalize World.setCell w _ _ = w1 at *
  have H1d := Lib.hid (H1.out.keep (Below.refl _ _).drew)
  have H2 := Lib.hid H1d.out.blank0
  have b0 := H1d.out.box.cell 0 _ rfl
  have s0 := H1d.out.s.cell 0 _ rfl
  have hz := (Below.refl w1.heap.size w1.drew).alloc (Nat.le_refl _) (.cells (madeCells #[Value.string ⟨#[]⟩] d.s0.has.length) 9)
  have H1a := Lib.hid (H1d.out.keep hz)
  have C2 : Hid (Chg p.fp w ((w1.drew.alloc (.cells (madeCells #[Value.string ⟨#[]⟩] d.s0.has.length) 9)).setCell ⟨p.sb, 0, none⟩ (.slice (some ⟨w1.drew.heap.size, 0, none⟩) d.s0.has.length d.s0.has.length))) := (C1.out.drew.alloc _).set p.sb 0 _ (.inl (by simp [RefP.fp]))
  have HF : Hid (∀ i ∈ ({ p with r0 := w1.drew.heap.size, c0 := d.s0.has.length } : RefP).fp, i ∈ p.fp ∨ w.heap.size ≤ i) := fun i hi => by
    have hsz : w.heap.size ≤ w1.drew.heap.size := C1.out.size
    simp only [RefP.fp, List.mem_append, List.mem_cons, List.not_mem_nil, or_false] at hi ⊢
    rcases hi with (h | h | h | h | h) | h
    · exact .inl (.inl (.inl h))
    · exact .inl (.inl (.inr (.inl h)))
    · exact .inl (.inl (.inr (.inr (.inl h))))
    · exact .inr (by rw [h]; exact hsz)
    · exact .inl (.inl (.inr (.inr (.inr (.inr h)))))
    · exact .inl (.inr h)
  clear hz C1
  go_wp2_with fail
  refine wp_region_tree (fun W => W.cell? ⟨p.b, 0, none⟩ = some (.slice (some ⟨p.sb, 0, none⟩) 2 2) ∧ W.cell? ⟨p.sb, 0, none⟩ = some (.slice (some ⟨p.r0, 0, none⟩) d.s0.has.length p.c0)) 14 (.quiet 0 (.quiet 1 (.quiet 2 (.quiet 3 (.quiet 4 (.quiet 5 (.quiet 6 (.quiet 7 (.quiet 8 (.quiet 9 (.quiet 10 (.quiet 11 (.quiet 12 (.make 13 .nil)))))))))))))) (by kernel_rfl) (by kernel_rfl) ⟨b0, s0⟩ ?_
  simp only [List.drop_succ_cons, List.drop_zero]
  clear b0 s0
  iterate 13 (apply wpTr_step rfl; (intro W hS K hK; obtain ⟨z0, z1⟩ := hS; go_simp; exact hK _ rfl))
  refine wpTr_make rfl (fun K' hK => ?_)
  go_simp
  refine hK _ _ _ (fun _ h => h) ⟨H1a.out.box.cell 0 _ rfl, H1a.out.s.cell 0 _ rfl⟩ ?_
  clear hK K' hmk
  have s1 : ((w1.alloc (.cells (madeCells #[Value.string ⟨#[]⟩] d.s0.has.length) 9)).drew).cell? ⟨p.sb, 0, none⟩ = some (.slice (some ⟨p.r0, 0, none⟩) d.s0.has.length p.c0) := H1a.out.s.cell 0 _ rfl
  have sf : ((w1.alloc (.cells (madeCells #[Value.string ⟨#[]⟩] d.s0.has.length) 9)).drew).frozen? ⟨p.sb, 0, none⟩ = false := H1a.out.s.free 0
  refine wpTr_nil ?_
  obtain ⟨p1, hp1⟩ : ∃ p1, p1 = ({ p with r0 := w1.drew.heap.size, c0 := d.s0.has.length } : RefP) := ⟨_, rfl⟩
  have HB1 : Hid (p1.b = p.b) := by show _ = _; rw [hp1]
  rw [← hp1] at H2 HF
  clear hp1 H1 H1d H1a
  go_wp2
  obtain ⟨w2, hw2⟩ : ∃ w2, w2 = ((w1.alloc (.cells (madeCells #[Value.string ⟨#[]⟩] d.s0.has.length) 9)).setCell ⟨p.sb, 0, none⟩ (.slice (some ⟨w1.heap.size, 0, none⟩) d.s0.has.length d.s0.has.length)).drew := ⟨_, rfl⟩
  rw [← hw2]
  have H2 : Hid (RefAt w2 p1 (gone0 d)) := by rw [hw2]; exact H2.out
  have C2 : Hid (Chg p.fp w w2) := by rw [hw2]; exact C2.out
  clear s1 sf hw2
  have J0 : Hid (LoJ w2 p1 (gone0 d) (.slice none 0 0) (keepL (fun x => x.1.1 == 0) (d.waits.take 0)) w2) := ⟨H2.out, Below.refl _ _, Rws.nil _, fun k hk => by cases hk⟩
  have HP1 := Lib.hid H2.out.lt
  clear H2
  obtain ⟨P, hP⟩ : ∃ P : WrD → Bool, P = fun x => x.1.1 == 0 := ⟨_, rfl⟩
  have HPF := Lib.hid hP
  rw [← hP] at J0
  clear hP
  go_loopw [5, 6] (fun o i wr => ∃ (j : Nat) (v : Value), j ≤ d.waits.length ∧ i = .int .i64 j ∧ v = o ∧ Hid (LoJ w2 p1 (gone0 d) v (keepL P (d.waits.take j)) wr)) (fun _ i _ => d.waits.length - (RowKit.intOf i).toNat)
  case atStart => exact ⟨0, _, Nat.zero_le _, rfl, rfl, J0⟩
  case round =>
    clear J0
    obtain ⟨j, v, hj, rfl, rfl, HJ⟩ := hrel
    obtain ⟨wa, wc, hwv, hget⟩ := HJ.out.rf.wt.view
    rw [show (gone0 d).waits = d.waits from rfl] at hwv hget
    have g2 := HJ.out.rf.box.cell 2 _ rfl
    rw [hwv, HB1.out] at g2
    by_cases hlt : j < d.waits.length
    · have hj0 : (0 : Int) ≤ (j : Int) := by omega
      have hjl : (j : Int) < (d.waits.length : Int) := by omega
      have hjh : (j : Int) ≤ 100000 := by have := HL.out; omega
      have HLT := Lib.hid hlt
      have HSN := Lib.hid (keepL_snocR P d.waits j hlt)
      obtain ⟨wg, rfl, _, c0, c1, c2⟩ := hget j hlt
      have HLN : Hid ((keepL P (d.waits.take j)).length ≤ 100000) := by
        have h1 := keepL_len P (d.waits.take j)
        rw [List.length_take] at h1
        have := HL.out
        show _ ≤ _
        omega
      generalize d.waits[j] = x at *
      obtain ⟨⟨x1, x2⟩, xs⟩ := x
      dsimp only at c0 c1 c2
      obtain ⟨t, ht⟩ : ∃ t, t = keepL P (d.waits.take j) := ⟨_, rfl⟩
      obtain ⟨t', ht'⟩ : ∃ t', t' = keepL P (d.waits.take (j + 1)) := ⟨_, rfl⟩
      have HT' := Lib.hid ht'
      rw [← ht] at HSN HLN HJ
      rw [← ht'] at HSN
      clear hlt hget ht ht'
      have HPX : Hid (P ((x1, x2), xs) = (x1 == 0)) := by show _ = _; rw [HPF.out]
      cases hbx : (x1 == 0)
      · have hbn : (x1 != 0) = true := by rw [bne, hbx]; rfl
        rw [hbx] at HPX
        rw [if_neg (by rw [HPX.out]; decide)] at HSN
        clear HPX
        have hz := (Below.refl wr.heap.size wr).alloc (Nat.le_refl _) (.cells #[.int .i64 x1, .int .i64 x2, .string xs] 64)
        have EB := Lib.hid (Box.new wr 64 #[.int .i64 x1, .int .i64 x2, .string xs])
        have J3 := Lib.hid (HJ.out.keep hz)
        clear hz HJ
        go_wp2_with (with_reducible refine wp_rws_push _ rfl (.tmp 54) (.tmp 62) rfl _ t rfl ?a1 wr.heap.size 1 ((x1, x2), xs) ?a2 ?a3 ?a4 ?a5)
        case a1 => exact J3.out.lf
        try (case a2 => rfl)
        case a3 => intro i u hi; exact EB.out.cell i u (by simpa [WrV] using hi)
        case a4 => exact HLN.out
        intro v' wA hpv hgr hob
        rw [← HSN.out, HT'.out] at hpv
        have JA := Lib.hid (J3.out.push HP1.out hgr hpv (by rw [size_alloc]; exact hob))
        clear hpv hgr hob J3 EB g2 c0 c1 c2
        go_wp2
        go_roundw
        case rel => exact ⟨j + 1, _, HLT.out, by go_num, rfl, JA⟩
        case measure => have := HLT.out; simp [RowKit.intOf]; omega
      · have hbn : (x1 != 0) = false := by rw [bne, hbx]; rfl
        rw [hbx] at HPX
        rw [if_pos HPX.out, List.append_nil] at HSN
        rw [← HSN.out, HT'.out] at HJ
        clear HPX
        go_wp2
        go_roundw
        case rel => exact ⟨j + 1, _, HLT.out, by go_num, rfl, HJ⟩
        case measure => have := HLT.out; simp [RowKit.intOf]; omega
    · obtain rfl : j = d.waits.length := by omega
      rw [List.take_length] at HJ
      have f2 := HJ.out.rf.box.free 2
      rw [HB1.out] at f2
      obtain ⟨_, hto⟩ := HJ.out.rf.waitsTo (v' := v) (ws := keepL P d.waits) (Chg.of (S := p1.fp) HJ.out.bl (Nat.le_refl _)) (Chg.refl _ _) HJ.out.lf (fun k hk => .inr ⟨fun hm => by have := HP1.out k hm; have := HJ.out.ow k hk; omega, HJ.out.ow k hk⟩) (fun x hx => HJ.out.rf.wok x (List.mem_filter.1 hx).1)
      rw [HB1.out] at hto
      have HTO : Hid (RefTo p (loseD d 0) w (wr.setCell ⟨p.b, 2, none⟩ v)) := by
        refine (hto.next HB1.out C2.out HF.out).as (d' := loseD d 0) ?_ ?_ ?_ ?_ ?_ <;> first | rfl | (rw [HPF.out]; rfl)
      obtain ⟨va, vc, hv', _⟩ := HJ.out.lf.view
      subst hv'
      clear hto HJ hget
      go_wp2
      go_ret
      exact ⟨rfl, HTO.out⟩

set_option maxRecDepth 100000 in
set_option maxHeartbeats 4000000 in
theorem rlose_1 (p : RefP) (d : DevD) (w : World) (h : RefAt w p d) (hlen : d.waits.length ≤ 100000) : Calls Try.prog 28 #[.pointer (some ⟨p.b, 0, none⟩), .int .i64 1] w fun e w' => e = .returned (.int .i64 0) ∧ RefTo p (loseD d 1) w w' := by
  have HL := Lib.hid hlen
  have hn := h.n1
  have hmk := fun W => run_make_row' (P := Try.prog) 53 9 (.string ⟨#[]⟩) 16 Try.underlying53 infoStr rfl .i64 .i64 d.s1.has.length (by omega) (by omega) W
  have b0 := h.box.cell 0 _ rfl
  have b1 := h.box.cell 1 _ rfl
  have g0 := h.g.cell 1 _ rfl
  have f0 := h.g.free 1
  have H1 := Lib.hid h.gone1
  have C1 : Hid (Chg p.fp w (w.setCell ⟨p.gb, 1, none⟩ (.bool true))) := (Chg.refl _ _).set p.gb 1 _ (.inl (by simp [RefP.fp]))
  clear h
  go_enter Try.func28, Try.ntmps28
  go_wp2_with fail
  clear b0 b1 g0 f0
  generalize World.setCell w _ _ = w1 at *
  have H1d := Lib.hid (H1.out.keep (Below.refl _ _).drew)
  have H2 := Lib.hid H1d.out.blank1
  have b0 := H1d.out.box.cell 0 _ rfl
  have s0 := H1d.out.s.cell 1 _ rfl
  have hz := (Below.refl w1.heap.size w1.drew).alloc (Nat.le_refl _) (.cells (madeCells #[Value.string ⟨#[]⟩] d.s1.has.length) 9)
  have H1a := Lib.hid (H1d.out.keep hz)
  have C2 : Hid (Chg p.fp w ((w1.drew.alloc (.cells (madeCells #[Value.string ⟨#[]⟩] d.s1.has.length) 9)).setCell ⟨p.sb, 1, none⟩ (.slice (some ⟨w1.drew.heap.size, 0, none⟩) d.s1.has.length d.s1.has.length))) := (C1.out.drew.alloc _).set p.sb 1 _ (.inl (by simp [RefP.fp]))
  have HF : Hid (∀ i ∈ ({ p with r1 := w1.drew.heap.size, c1 := d.s1.has.length } : RefP).fp, i ∈ p.fp ∨ w.heap.size ≤ i) := fun i hi => by
    have hsz : w.heap.size ≤ w1.drew.heap.size := C1.out.size
    simp only [RefP.fp, List.mem_append, List.mem_cons, List.not_mem_nil, or_false] at hi ⊢
    rcases hi with (h | h | h | h | h) | h
    · exact .inl (.inl (.inl h))
    · exact .inl (.inl (.inr (.inl h)))
    · exact .inl (.inl (.inr (.inr (.inl h))))
    · exact .inl (.inl (.inr (.inr (.inr (.inl h)))))
    · exact .inr (by rw [h]; exact hsz)
    · exact .inl (.inr h)
  clear hz C1
  go_wp2_with fail
  refine wp_region_tree (fun W => W.cell? ⟨p.b, 0, none⟩ = some (.slice (some ⟨p.sb, 0, none⟩) 2 2) ∧ W.cell? ⟨p.sb, 1, none⟩ = some (.slice (some ⟨p.r1, 0, none⟩) d.s1.has.length p.c1)) 14 (.quiet 0 (.quiet 1 (.quiet 2 (.quiet 3 (.quiet 4 (.quiet 5 (.quiet 6 (.quiet 7 (.quiet 8 (.quiet 9 (.quiet 10 (.quiet 11 (.quiet 12 (.make 13 .nil)))))))))))))) (by kernel_rfl) (by kernel_rfl) ⟨b0, s0⟩ ?_
  simp only [List.drop_succ_cons, List.drop_zero]
  clear b0 s0
  iterate 13 (apply wpTr_step rfl; (intro W hS K hK; obtain ⟨z0, z1⟩ := hS; go_simp; exact hK _ rfl))
  refine wpTr_make rfl (fun K' hK => ?_)
  go_simp
  refine hK _ _ _ (fun _ h => h) ⟨H1a.out.box.cell 0 _ rfl, H1a.out.s.cell 1 _ rfl⟩ ?_
  clear hK K' hmk
  have s1 : ((w1.alloc (.cells (madeCells #[Value.string ⟨#[]⟩] d.s1.has.length) 9)).drew).cell? ⟨p.sb, 1, none⟩ = some (.slice (some ⟨p.r1, 0, none⟩) d.s1.has.length p.c1) := H1a.out.s.cell 1 _ rfl
  have sf : ((w1.alloc (.cells (madeCells #[Value.string ⟨#[]⟩] d.s1.has.length) 9)).drew).frozen? ⟨p.sb, 1, none⟩ = false := H1a.out.s.free 1
  refine wpTr_nil ?_
  obtain ⟨p1, hp1⟩ : ∃ p1, p1 = ({ p with r1 := w1.drew.heap.size, c1 := d.s1.has.length } : RefP) := ⟨_, rfl⟩
  have HB1 : Hid (p1.b = p.b) := by show _ = _; rw [hp1]
  rw [← hp1] at H2 HF
  clear hp1 H1 H1d H1a
  go_wp2
  obtain ⟨w2, hw2⟩ : ∃ w2, w2 = ((w1.alloc (.cells (madeCells #[Value.string ⟨#[]⟩] d.s1.has.length) 9)).setCell ⟨p.sb, 1, none⟩ (.slice (some ⟨w1.heap.size, 0, none⟩) d.s1.has.length d.s1.has.length)).drew := ⟨_, rfl⟩
  rw [← hw2]
  have H2 : Hid (RefAt w2 p1 (gone1 d)) := by rw [hw2]; exact H2.out
  have C2 : Hid (Chg p.fp w w2) := by rw [hw2]; exact C2.out
  clear s1 sf hw2
  have J0 : Hid (LoJ w2 p1 (gone1 d) (.slice none 0 0) (keepL (fun x => x.1.1 == 1) (d.waits.take 0)) w2) := ⟨H2.out, Below.refl _ _, Rws.nil _, fun k hk => by cases hk⟩
  have HP1 := Lib.hid H2.out.lt
  clear H2
  obtain ⟨P, hP⟩ : ∃ P : WrD → Bool, P = fun x => x.1.1 == 1 := ⟨_, rfl⟩
  have HPF := Lib.hid hP
  rw [← hP] at J0
  clear hP
  go_loopw [5, 6] (fun o i wr => ∃ (j : Nat) (v : Value), j ≤ d.waits.length ∧ i = .int .i64 j ∧ v = o ∧ Hid (LoJ w2 p1 (gone1 d) v (keepL P (d.waits.take j)) wr)) (fun _ i _ => d.waits.length - (RowKit.intOf i).toNat)
  case atStart => exact ⟨0, _, Nat.zero_le _, rfl, rfl, J0⟩
  case round =>
    clear J0
    obtain ⟨j, v, hj, rfl, rfl, HJ⟩ := hrel
    obtain ⟨wa, wc, hwv, hget⟩ := HJ.out.rf.wt.view
    rw [show (gone1 d).waits = d.waits from rfl] at hwv hget
    have g2 := HJ.out.rf.box.cell 2 _ rfl
    rw [hwv, HB1.out] at g2
    by_cases hlt : j < d.waits.length
    · have hj0 : (0 : Int) ≤ (j : Int) := by omega
      have hjl : (j : Int) < (d.waits.length : Int) := by omega
      have hjh : (j : Int) ≤ 100000 := by have := HL.out; omega
      have HLT := Lib.hid hlt
      have HSN := Lib.hid (keepL_snocR P d.waits j hlt)
      obtain ⟨wg, rfl, _, c0, c1, c2⟩ := hget j hlt
      have HLN : Hid ((keepL P (d.waits.take j)).length ≤ 100000) := by
        have h1 := keepL_len P (d.waits.take j)
        rw [List.length_take] at h1
        have := HL.out
        show _ ≤ _
        omega
      generalize d.waits[j] = x at *
      obtain ⟨⟨x1, x2⟩, xs⟩ := x
      dsimp only at c0 c1 c2
      obtain ⟨t, ht⟩ : ∃ t, t = keepL P (d.waits.take j) := ⟨_, rfl⟩
      obtain ⟨t', ht'⟩ : ∃ t', t' = keepL P (d.waits.take (j + 1)) := ⟨_, rfl⟩
      have HT' := Lib.hid ht'
      rw [← ht] at HSN HLN HJ
      rw [← ht'] at HSN
      clear hlt hget ht ht'
      have HPX : Hid (P ((x1, x2), xs) = (x1 == 1)) := by show _ = _; rw [HPF.out]
      cases hbx : (x1 == 1)
      · have hbn : (x1 != 1) = true := by rw [bne, hbx]; rfl
        rw [hbx] at HPX
        rw [if_neg (by rw [HPX.out]; decide)] at HSN
        clear HPX
        have hz := (Below.refl wr.heap.size wr).alloc (Nat.le_refl _) (.cells #[.int .i64 x1, .int .i64 x2, .string xs] 64)
        have EB := Lib.hid (Box.new wr 64 #[.int .i64 x1, .int .i64 x2, .string xs])
        have J3 := Lib.hid (HJ.out.keep hz)
        clear hz HJ
        go_wp2_with (with_reducible refine wp_rws_push _ rfl (.tmp 54) (.tmp 62) rfl _ t rfl ?a1 wr.heap.size 1 ((x1, x2), xs) ?a2 ?a3 ?a4 ?a5)
        case a1 => exact J3.out.lf
        try (case a2 => rfl)
        case a3 => intro i u hi; exact EB.out.cell i u (by simpa [WrV] using hi)
        case a4 => exact HLN.out
        intro v' wA hpv hgr hob
        rw [← HSN.out, HT'.out] at hpv
        have JA := Lib.hid (J3.out.push HP1.out hgr hpv (by rw [size_alloc]; exact hob))
        clear hpv hgr hob J3 EB g2 c0 c1 c2
        go_wp2
        go_roundw
        case rel => exact ⟨j + 1, _, HLT.out, by go_num, rfl, JA⟩
        case measure => have := HLT.out; simp [RowKit.intOf]; omega
      · have hbn : (x1 != 1) = false := by rw [bne, hbx]; rfl
        rw [hbx] at HPX
        rw [if_pos HPX.out, List.append_nil] at HSN
        rw [← HSN.out, HT'.out] at HJ
        clear HPX
        go_wp2
        go_roundw
        case rel => exact ⟨j + 1, _, HLT.out, by go_num, rfl, HJ⟩
        case measure => have := HLT.out; simp [RowKit.intOf]; omega
    · obtain rfl : j = d.waits.length := by omega
      rw [List.take_length] at HJ
      have f2 := HJ.out.rf.box.free 2
      rw [HB1.out] at f2
      obtain ⟨_, hto⟩ := HJ.out.rf.waitsTo (v' := v) (ws := keepL P d.waits) (Chg.of (S := p1.fp) HJ.out.bl (Nat.le_refl _)) (Chg.refl _ _) HJ.out.lf (fun k hk => .inr ⟨fun hm => by have := HP1.out k hm; have := HJ.out.ow k hk; omega, HJ.out.ow k hk⟩) (fun x hx => HJ.out.rf.wok x (List.mem_filter.1 hx).1)
      rw [HB1.out] at hto
      have HTO : Hid (RefTo p (loseD d 1) w (wr.setCell ⟨p.b, 2, none⟩ v)) := by
        refine (hto.next HB1.out C2.out HF.out).as (d' := loseD d 1) ?_ ?_ ?_ ?_ ?_ <;> first | rfl | (rw [HPF.out]; rfl)
      obtain ⟨va, vc, hv', _⟩ := HJ.out.lf.view
      subst hv'
      clear hto HJ hget
      go_wp2
      go_ret
      exact ⟨rfl, HTO.out⟩

theorem rlose_any (p : RefP) (d : DevD) (dev : Int) (w : World) (h : RefAt w p d) (hlen : d.waits.length ≤ 100000) : Calls Try.prog 28 #[.pointer (some ⟨p.b, 0, none⟩), .int .i64 dev] w fun e w' => e = .returned (.int .i64 (loseE dev)) ∧ RefTo p (loseD d dev) w w' := by
  by_cases h0 : dev = 0
  · subst h0
    exact rlose_0 p d w h hlen
  by_cases h1 : dev = 1
  · subst h1
    exact rlose_1 p d w h hlen
  have e1 : loseE dev = 1 := if_neg (by rintro (e | e); exact h0 e; exact h1 e)
  have e2 : loseD d dev = d := by unfold loseD; rw [if_neg h0, if_neg h1]
  rw [e1, e2]
  have HS := Lib.hid (RefTo.same h (Below.refl _ _))
  have d0 : (dev != 0) = true := bne_iff_ne.2 h0
  have d1 : (dev != 1) = true := bne_iff_ne.2 h1
  clear h0 h1 e1 e2 h
  go_enter Try.func28, Try.ntmps28
  go_wp2
  go_ret
  exact ⟨rfl, HS.out⟩
end Go.Proofs.Ytflobdhhjfpcdaa
