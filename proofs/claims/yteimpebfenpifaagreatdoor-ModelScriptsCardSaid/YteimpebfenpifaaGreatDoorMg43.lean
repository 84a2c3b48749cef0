/-
  Texts put together: MrH, MrQ.
-/
import Derived.Test.YteimpebfenpifaaGreatDoorMrA
import Derived.Test.YteimpebfenpifaaGreatDoorMrP
import Derived.Test.YteimpebfenpifaaGreatDoorMg35
namespace Go.Proofs.YteimpebfenpifaaGreatDoor
open Go Go.RowKit Go.ChangeShapes Go.WideShapes Go.ChangeAt

/-- A tree of its own: all its blocks are new. -/
def RmNew (w : World) (G : GD) (p : RmP) (w' : World) : Prop := RmAt w' p G ∧ Below w.heap.size w w' ∧ ∀ k ∈ p.fp, w.heap.size ≤ k
theorem tgs_one (w : World) (t : Th) : Tgs (w.alloc (.cells #[.bool t.dir, .string t.text] 60 (0, 0))) (.slice (some ⟨w.heap.size, 0, none⟩) 1 1) [t] := by
  have h := World.ownsRow_lit (e := 60) (size := 2) w #[.bool t.dir, .string t.text] 1 (Nat.zero_le w.heap.size) (by unfold maxLen; omega) (by rfl)
  exact ⟨rfl, h.2⟩
set_option maxRecDepth 100000 in
set_option maxHeartbeats 4000000 in
theorem rnew_any (w : World) : Calls Tryz.prog 13 #[] w fun e w' => ∃ p, e = .returned (.pointer (some ⟨p.b, 0, none⟩)) ∧ RmNew w newG p w' := by
  have h1 := tgs_one w ⟨true, noB⟩
  have hb := (Below.refl w.heap.size w).alloc (Nat.le_refl _) (.cells #[.bool true, .string noB] 60 (0, 0))
  have HZ : Hid ((w.alloc (.cells #[.bool true, .string noB] 60 (0, 0))).heap.size = w.heap.size + 1) := size_alloc _ _
  have H1 := Lib.hid h1
  have HB := Lib.hid hb
  clear h1 hb
  unfold noB at H1 HB HZ
  dsimp only at H1
  go_enter Tryz.func13, Tryz.ntmps13
  go_wp2
  go_ret
  refine ⟨⟨w.heap.size + 1, .slice none 0 0, .slice (some ⟨w.heap.size, 0, none⟩) 1 1⟩, rfl, ?_⟩
  generalize World.alloc w _ = w1 at *
  have hz := HZ.out
  have hb2 := HB.out.alloc HB.out.size (.cells #[.slice none 0 0, .slice (some ⟨w.heap.size, 0, none⟩) 1 1] 64 (0, 0))
  have hx := Box.new w1 64 #[.slice none 0 0, .slice (some ⟨w.heap.size, 0, none⟩) 1 1]
  rw [hz] at hx
  refine ⟨⟨hx, Ens.nil _, H1.out.keep ((Below.refl _ _).alloc (Nat.le_refl _) _), (fun k hk => by cases hk), fun k hk => ?_⟩, hb2, fun k hk => ?_⟩
  · have hk : some w.heap.size = some k := hk
    injection hk with hk
    show w.heap.size + 1 ≠ k
    omega
  · rcases fp_mem.1 hk with hk | hk | hk
    · rw [hk]; show w.heap.size ≤ w.heap.size + 1; omega
    · cases hk
    · have hk : some w.heap.size = some k := hk
      injection hk with hk
      omega
set_option maxRecDepth 100000 in
set_option maxHeartbeats 4000000 in
theorem rcopy_any (p : RmP) (G : GD) (w : World) (h : RmAt w p G) (hk : G.E.length ≤ 50000) (ht : G.T.length ≤ 50000) :
    Calls Tryz.prog 15 #[.pointer (some ⟨p.b, 0, none⟩)] w fun e w' => ∃ q, e = .returned (.pointer (some ⟨q.b, 0, none⟩)) ∧ RmNew w G q w' := by
  have HA := Lib.hid h
  have HK := Lib.hid hk
  have HT := Lib.hid ht
  have hb := (Below.refl w.heap.size w).alloc (Nat.le_refl _) (.cells #[.slice none 0 0, .slice none 0 0] 64 (0, 0))
  have hx := Box.new w 64 #[.slice none 0 0, .slice none 0 0]
  have HC : Hid (RmAt (w.alloc (.cells #[.slice none 0 0, .slice none 0 0] 64 (0, 0))) ⟨w.heap.size, .slice none 0 0, .slice none 0 0⟩ ⟨[], []⟩) := ⟨hx, Ens.nil _, Tgs.nil _, (fun k hk => by cases hk), fun k hk => by cases hk⟩
  have HB := Lib.hid hb
  clear h hk ht hb hx
  go_enter Tryz.func15, Tryz.ntmps15
  go_wp2_with fail
  generalize World.alloc w _ = w1 at *
  obtain ⟨cb, hcb⟩ : ∃ cb, cb = w.heap.size := ⟨_, rfl⟩
  have HCB := Lib.hid hcb
  rw [← hcb] at HC ⊢
  clear hcb
  have HA1 := Lib.hid (HA.out.keep HB.out)
  have HA2 := Lib.hid HA1.out.drew
  have HC2 := Lib.hid HC.out.drew
  have c0 : w1.drew.cell? ⟨cb, 0, none⟩ = some (.slice none 0 0) := HC2.out.box.cell 0 _ rfl
  have e0 : w1.drew.cell? ⟨p.b, 0, none⟩ = some p.ev := HA2.out.box.cell 0 _ rfl
  have HBD : Hid (Below w.heap.size w w1.drew) := HB.out.drew
  clear HA1 HC HB
  refine wp_region_tree (fun W => W.cell? ⟨cb, 0, none⟩ = some (.slice none 0 0) ∧ W.cell? ⟨p.b, 0, none⟩ = some p.ev) 10 (.quiet 0 (.quiet 1 (.quiet 2 (.quiet 3 (.quiet 4 (.quiet 5 (.quiet 6 (.quiet 7 (.quiet 8 (.make 9 .nil)))))))))) (by kernel_rfl) (by kernel_rfl) ⟨c0, e0⟩ ?_
  simp only [List.drop_succ_cons, List.drop_zero]
  clear c0 e0
  generalize w1.drew = w2 at *
  iterate 9 (apply wpTr_step rfl; (intro W hS K hK; obtain ⟨u0, u1⟩ := hS; go_simp; exact hK _ rfl))
  refine wpTr_make rfl (fun K' hK => ?_)
  refine step_ens_all rfl (.tmp 10) (.tmp 14) rfl G.E rfl p.ev rfl HA2.out.e (by have := HK.out; omega) ?_
  intro v3 w3 h3 hg3 hn3
  have hc3 : Chg ([] : List Nat) w2 w3 := Chg.grown hg3 (fun k hk => by cases hk)
  have hb3 : Below w2.heap.size w2 w3 := hc3.below (Nat.le_refl _) (fun k hk => by cases hk)
  have HA3 := Lib.hid (HA2.out.keep hb3)
  have HC3 := Lib.hid (HC2.out.keep hb3)
  have c0 : w3.cell? ⟨cb, 0, none⟩ = some (.slice none 0 0) := HC3.out.box.cell 0 _ rfl
  have e0 : w3.cell? ⟨p.b, 0, none⟩ = some p.ev := HA3.out.box.cell 0 _ rfl
  have f0 : w3.frozen? ⟨cb, 0, none⟩ = false := HC3.out.box.free 0
  obtain ⟨va, vc, rfl⟩ := h3.shape
  have HT3 := Lib.hid (HC2.out.atE (hc3.mono (fun k hk => by cases hk)) h3 (fun k hk => by
    rcases hn3 with e | e
    · rw [e] at hk; cases hk
    · rw [e] at hk; injection hk with hk; exact .inr (by omega)))
  refine hK _ _ _ (fun _ h => h) ⟨c0, e0⟩ ?_
  clear hK K' h3 hg3 hn3 hc3
  refine wpTr_nil ?_
  have HBE := Lib.hid (HBD.out.trans (hb3.mono HBD.out.size))
  have HBZ : Hid (w.heap.size ≤ w2.heap.size) := HBD.out.size
  clear hb3 HC2 HC3 HA2 HBD
  go_wp2_with fail
  obtain ⟨_, hC4, hg4, hn4⟩ := HT3.out
  have hch := rm_chg w3 cb 0 (.slice va G.E.length vc)
  have hA4 : RmAt (w3.setCell ⟨cb, 0, none⟩ (.slice va G.E.length vc)) p G := HA3.out.of fun k hk hl => hch.block k hl (fun hm => by
    have h1 := HA.out.lt k hk
    have h2 := HCB.out
    rw [List.mem_singleton] at hm
    omega)
  have hb4 := HBE.out.trans (hch.below HBE.out.size (fun k hk => by rw [List.mem_singleton] at hk; have := HCB.out; omega))
  have HN4 : Hid (∀ k ∈ (⟨cb, .slice va G.E.length vc, .slice none 0 0⟩ : RmP).fp, w.heap.size ≤ k) := fun k hk => by
    rcases hn4 k hk with h | h
    · rcases fp_mem.1 h with h | h | h
      · have := HCB.out; have h : k = cb := h; omega
      · cases h
      · cases h
    · have := HBZ.out; omega
  have HC4 := Lib.hid hC4
  have HA4 := Lib.hid hA4
  have HB4 := Lib.hid hb4
  clear hC4 hg4 hn4 hch hA4 hb4 HT3 HBE HA3 c0 e0 f0
  generalize w3.setCell _ _ = w4 at *
  have HA5 := Lib.hid HA4.out.drew
  have HC5 := Lib.hid HC4.out.drew
  have HB5 : Hid (Below w.heap.size w w4.drew) := HB4.out.drew
  clear HA4 HC4 HB4
  have c0 : w4.drew.cell? ⟨cb, 1, none⟩ = some (.slice none 0 0) := HC5.out.box.cell 1 _ rfl
  have e0 : w4.drew.cell? ⟨p.b, 1, none⟩ = some p.tv := HA5.out.box.cell 1 _ rfl
  refine wp_region_tree (fun W => W.cell? ⟨cb, 1, none⟩ = some (.slice none 0 0) ∧ W.cell? ⟨p.b, 1, none⟩ = some p.tv) 10 (.quiet 0 (.quiet 1 (.quiet 2 (.quiet 3 (.quiet 4 (.quiet 5 (.quiet 6 (.quiet 7 (.quiet 8 (.make 9 .nil)))))))))) (by kernel_rfl) (by kernel_rfl) ⟨c0, e0⟩ ?_
  simp only [List.drop_succ_cons, List.drop_zero]
  clear c0 e0
  generalize w4.drew = w5 at *
  iterate 9 (apply wpTr_step rfl; (intro W hS K hK; obtain ⟨u0, u1⟩ := hS; go_simp; exact hK _ rfl))
  refine wpTr_make rfl (fun K' hK => ?_)
  refine step_tgs_all rfl (.tmp 22) (.tmp 26) rfl G.T rfl p.tv rfl HA5.out.t (by have := HT.out; omega) ?_
  intro v6 w6 h6 hg6 hn6
  have hc6 : Chg ([] : List Nat) w5 w6 := Chg.grown hg6 (fun k hk => by cases hk)
  have hb6 : Below w5.heap.size w5 w6 := hc6.below (Nat.le_refl _) (fun k hk => by cases hk)
  have HC6 := Lib.hid (HC5.out.keep hb6)
  have c0 : w6.cell? ⟨cb, 1, none⟩ = some (.slice none 0 0) := HC6.out.box.cell 1 _ rfl
  have e0 : w6.cell? ⟨p.b, 1, none⟩ = some p.tv := (HA5.out.keep hb6).box.cell 1 _ rfl
  have f0 : w6.frozen? ⟨cb, 1, none⟩ = false := HC6.out.box.free 1
  obtain ⟨vb, vd, rfl⟩ := h6.shape
  have HT6 := Lib.hid (HC5.out.atT (hc6.mono (fun k hk => by cases hk)) h6 (fun k hk => by
    rcases hn6 with e | e
    · rw [e] at hk; cases hk
    · rw [e] at hk; injection hk with hk; exact .inr (by omega)))
  have HBE := Lib.hid (HB5.out.trans (hb6.mono HB5.out.size))
  have HB5Z : Hid (w.heap.size ≤ w5.heap.size) := HB5.out.size
  refine hK _ _ _ (fun _ h => h) ⟨c0, e0⟩ ?_
  clear hK K' h6 hg6 hn6 hc6 hb6 HC5 HC6 HA5 HB5
  refine wpTr_nil ?_
  go_wp2
  go_ret
  obtain ⟨_, hC7, hg7, hn7⟩ := HT6.out
  refine ⟨⟨cb, .slice va G.E.length vc, .slice vb G.T.length vd⟩, rfl, hC7, HBE.out.trans ((rm_chg w6 cb 1 (.slice vb G.T.length vd)).below HBE.out.size (fun k hk => by rw [List.mem_singleton] at hk; have := HCB.out; omega)), fun k hk => ?_⟩
  rcases hn7 k hk with h | h
  · exact HN4.out k h
  · exact Nat.le_trans HB5Z.out h
end Go.Proofs.YteimpebfenpifaaGreatDoor

namespace Go.Proofs.YteimpebfenpifaaGreatDoor
open Go Go.RowKit Go.ChangeShapes Go.WideShapes Go.ChangeAt

theorem TK.chg {b : Nat} {G : GD} {k : Nat} {K : Nat → Prop} {w w' : World} {S : List Nat} (h : TK b G k K w) (hc : Chg S w w') (hS : ∀ j ∈ S, K j) (N : Nat → Prop) (hN : ∀ j, N j → w.heap.size ≤ j ∧ j < w'.heap.size) : TK b G k (fun j => K j ∨ N j) w' := by
  obtain ⟨x, h1, h2, h3, h4⟩ := h
  refine ⟨x, h1, h2.of (fun j hj => hc.block j (h2.lt j hj) (fun hm => (h4 j (hS j hm)).2 hj)), h3, fun j hj => ?_⟩
  rcases hj with hj | hj
  · exact ⟨Nat.lt_of_lt_of_le (h4 j hj).1 hc.size, (h4 j hj).2⟩
  · exact ⟨(hN j hj).2, fun hm => by have := h2.lt j hm; have := (hN j hj).1; omega⟩
theorem T2.chg {b : Nat} {G : GD} {k : Nat} {b2 : Nat} {G2 : GD} {k2 : Nat} {K : Nat → Prop} {w w' : World} {S : List Nat} (h : T2 b G k b2 G2 k2 K w) (hc : Chg S w w') (hS : ∀ j ∈ S, K j) (N : Nat → Prop) (hN : ∀ j, N j → w.heap.size ≤ j ∧ j < w'.heap.size) : T2 b G k b2 G2 k2 (fun j => K j ∨ N j) w' := by
  obtain ⟨y, h1, h2, h3, h4, h5⟩ := h
  refine ⟨y, h1, h2.of (fun j hj => hc.block j (h2.lt j hj) (fun hm => h5 j (hS j hm) hj)), h3, (h4.chg hc (fun j hj => .inl (hS j hj)) N hN).mono (fun j hj => ?_), fun j hj => ?_⟩
  · rcases hj with (q | q) | q
    · exact .inl (.inl q)
    · exact .inr q
    · exact .inl (.inr q)
  · rcases hj with q | q
    · exact h5 j q
    · exact fun hm => by have := h2.lt j hm; have := (hN j q).1; omega
theorem TK.bT {b : Nat} {G : GD} {k : Nat} {K : Nat → Prop} {w : World} (h : TK b G k K w) : G.T.length ≤ k + 1 := by
  obtain ⟨x, _, _, h3, _⟩ := h
  exact h3.bT
/-- No path is longer. -/
def SzG (G : GD) (m : Nat) : Prop := ∀ x ∈ G.E, (joinD x.1).size ≤ m
theorem split_nil {s : ByteArray} (h : (splitD s).2 ≠ 0) : (splitD s).1 = [] := by
  unfold splitD at h ⊢
  by_cases h1 : (pb s).head? ≠ some 47
  · rw [if_pos h1]
  · rw [if_neg h1] at h ⊢
    by_cases h2 : (restP s).size = 0
    · rw [if_pos h2]
    · rw [if_neg h2] at h ⊢
      by_cases h3 : ∀ x ∈ piecesB (restP s), okN x
      · rw [if_pos h3] at h; exact absurd rfl h
      · rw [if_neg h3]
theorem join_split_le (s : ByteArray) : (joinD (splitD s).1).size ≤ s.size + 1 := by
  by_cases h : (splitD s).2 = 0
  · rw [join_split h]; omega
  · rw [split_nil h]
    have h1 : (joinD []).size = 1 := by decide +kernel
    omega
theorem accL_app (a t : PathD) : (accL (a ++ t)).length = (accL a).length + (accL t).length := by simp [accL]
theorem join_acc {l : PathD} (h : l ≠ []) : (joinD l).size = (accL l).length := by
  rw [accB_join l h, ← pb_size]
  unfold accB mkB
  rw [pb_mk]
theorem join_move (a b t : PathD) : (joinD (b ++ t)).size ≤ (joinD b).size + (joinD (a ++ t)).size := by
  have h0 : (joinD []).size = 1 := by decide +kernel
  by_cases ht : t = []
  · subst ht; rw [List.append_nil]; omega
  · rw [join_acc (l := b ++ t) (by simp [ht]), join_acc (l := a ++ t) (by simp [ht]), accL_app, accL_app]
    by_cases hb : b = []
    · subst hb; simp [accL]
      omega
    · rw [join_acc hb]; omega
theorem doG_snd {P : GD → Prop} {G : GD} {o : OpD} (h0 : P G) (h1 : ∀ d, P (addG G o.path d)) (h2 : ∀ n, P (linkG G n o.dst)) (h3 : P (dropG G o.path)) (h4 : P (moveG G o.path o.dst)) (h5 : ∀ n s, P (textSet G n s)) : P (doG G o).2 := by
  unfold doG makeG fileG
  repeat' (first | exact h0 | exact h1 _ | exact h2 _ | exact h3 | exact h4 | exact h5 _ _ | apply ite_of (P := fun q => P q.2))
theorem sz_do {G : GD} {m : Nat} (h : SzG G m) (o : OpD) (ho : okO o) : SzG (doG G o).2 (m + 601) := by
  have hm : SzG G (m + 601) := fun x hx => Nat.le_trans (h x hx) (Nat.le_add_right _ _)
  have hp := join_split_le o.path
  have hd := join_split_le o.dst
  have h1 := ho.1
  have h2 := ho.2.1
  refine doG_snd (P := fun G2 => SzG G2 (m + 601)) hm (fun d x hx => ?_) (fun n x hx => ?_) (fun x hx => ?_) (fun x hx => ?_) (fun n s => hm)
  · rcases List.mem_append.1 hx with e | e
    · exact hm x e
    · rw [List.mem_singleton.1 e]; show (joinD (splitD o.path).1).size ≤ _; omega
  · rcases List.mem_append.1 hx with e | e
    · exact hm x e
    · rw [List.mem_singleton.1 e]; show (joinD (splitD o.dst).1).size ≤ _; omega
  · exact hm x (List.mem_filter.1 hx).1
  · obtain ⟨y, hy, rfl⟩ := List.mem_map.1 hx
    show (joinD (mvP (splitD o.path).1 (splitD o.dst).1 y.1)).size ≤ _
    by_cases hp : (splitD o.path).1 <+: y.1
    · obtain ⟨t, ht⟩ := hp
      have h3 := h y hy
      rw [← ht] at h3 ⊢
      rw [mv_pre]
      have h4 := join_move (splitD o.path).1 (splitD o.dst).1 t
      omega
    · rw [mv_not hp]; exact hm y hy
structure L4 (w0 : World) (b : Nat) (G : GD) (k b2 : Nat) (G2 : GD) (k2 : Nat) (p : RmP) (Gp : GD) (q : RmP) (Gq : GD) (w : World) : Prop where
  t2 : T2 b G k b2 G2 k2 (fun j => j < w0.heap.size ∨ j ∈ p.fp ∨ j ∈ q.fp) w
  rp : RmAt w p Gp
  rq : RmAt w q Gq
  dj : ∀ j ∈ p.fp, j ∉ q.fp
  lp : ∀ j ∈ p.fp, w0.heap.size ≤ j
  lq : ∀ j ∈ q.fp, w0.heap.size ≤ j
  bl : Below w0.heap.size w0 w
  it : It w
section
variable {w0 : World} {b : Nat} {G : GD} {k b2 : Nat} {G2 : GD} {k2 : Nat} {p : RmP} {Gp : GD} {q : RmP} {Gq : GD} {w w' : World}
theorem L4.swap (h : L4 w0 b G k b2 G2 k2 p Gp q Gq w) : L4 w0 b2 G2 k2 b G k q Gq p Gp w :=
  ⟨h.t2.swap.mono (fun j hj => hj.elim .inl (fun e => e.elim (fun e => .inr (.inr e)) (fun e => .inr (.inl e)))), h.rq, h.rp, fun j h1 h2 => h.dj j h2 h1, h.lq, h.lp, h.bl, h.it⟩
theorem L4.keep (h : L4 w0 b G k b2 G2 k2 p Gp q Gq w) (hb : Below w.heap.size w w') : L4 w0 b G k b2 G2 k2 p Gp q Gq w' :=
  ⟨h.t2.keep hb, h.rp.keep hb, h.rq.keep hb, h.dj, h.lp, h.lq, h.bl.trans (hb.mono h.bl.size), h.it.keep hb⟩
theorem L4.lvs (h : L4 w0 b G k b2 G2 k2 p Gp q Gq w) : LvS w0 b G k (fun j => j < w0.heap.size ∨ j ∈ p.fp) w :=
  ⟨h.t2.one.mono (fun j hj => hj.elim .inl (fun e => .inr (.inl e))), h.bl, h.it, fun _ hj => .inl hj⟩
theorem l4_do (h : L4 w0 b G k b2 G2 k2 p Gp q Gq w) (h0 : It w0) (hk : k ≤ 1000000) (o : OpD) (ho : okO o) :
    Calls Tryz.prog 17 #[.pointer (some ⟨b, 0, none⟩), opV o] w fun e w' => ∃ va vc, e = .returned (ansV (doG G o).1.code (doG G o).1.n (doG G o).1.data (.slice va (doG G o).1.names.length vc)) ∧
      L4 w0 b (doG G o).2 (k + 1) b2 G2 k2 p Gp q Gq w' ∧ Ks w' w.heap.size (.slice va (doG G o).1.names.length vc) (doG G o).1.names ∧ w.heap.size ≤ w'.heap.size := by
  refine (t2_do h.t2 hk o (by have := ho.1; omega) (by have := ho.2.1; omega) (by have := ho.2.2; omega) h.it).mono ?_
  rintro e w' ⟨va, vc, rfl, hks, hkp, ht⟩
  exact ⟨va, vc, rfl, ⟨ht.mono (fun j hj => .inl hj), h.rp.of (fun j hj hl => hkp.block j (.inr (.inl hj)) hl), h.rq.of (fun j hj hl => hkp.block j (.inr (.inr hj)) hl), h.dj, h.lp, h.lq, h.bl.trans (hkp.below h.bl.size (fun j hj => .inl hj)), hkp.it h.it (.inl h0.lt)⟩, hks, hkp.size⟩
theorem l4_rdo (h : L4 w0 b G k b2 G2 k2 p Gp q Gq w) (hw : WfG Gp) (he : Gp.E.length ≤ 50000) (hT : Gp.T.length ≤ 50000) (hz : SzG Gp 90000) (h0 : It w0) (o : OpD) (ho : okO o) :
    Calls Tryz.prog 18 #[.pointer (some ⟨p.b, 0, none⟩), opV o] w fun e w' => ∃ va vc p', e = .returned (ansV (doG Gp o).1.code (doG Gp o).1.n (doG Gp o).1.data (.slice va (doG Gp o).1.names.length vc)) ∧ p'.b = p.b ∧
      L4 w0 b G k b2 G2 k2 p' (doG Gp o).2 q Gq w' ∧ Ks w' w.heap.size (.slice va (doG Gp o).1.names.length vc) (doG Gp o).1.names ∧ Chg p.fp w w' := by
  refine (rdo_any p Gp w h.rp hw he hT hz o (by have := ho.1; omega) (by have := ho.2.1; omega) (by have := ho.2.2; omega)).mono ?_
  rintro e w' ⟨va, vc, rfl, ⟨p', e1, h1, h2, h3⟩, hks⟩
  have hq : ∀ j ∈ q.fp, j ∉ p.fp := fun j hj hm => h.dj j hm hj
  refine ⟨va, vc, p', rfl, e1, ⟨(h.t2.chg h2 (fun j hj => .inr (.inl hj)) (fun j => w.heap.size ≤ j ∧ j ∈ p'.fp) (fun j hj => ⟨hj.1, h1.lt j hj.2⟩)).mono (fun j hj => ?_), h1, h.rq.of (fun j hj hl => h2.block j hl (hq j hj)), fun j hj hm => ?_, fun j hj => ?_, h.lq, h.bl.trans (h2.below h.bl.size (fun j hj => h.lp j hj)), h.it.of (h2.block _ (Nat.lt_of_lt_of_le h0.lt h.bl.size) (fun hm => by have := h.lp _ hm; have := h0.lt; omega))⟩, hks, h2⟩
  · rcases hj with e | e | e
    · exact .inl (.inl e)
    · rcases h3 j e with e2 | e2
      · exact .inl (.inr (.inl e2))
      · exact .inr ⟨e2, e⟩
    · exact .inl (.inr (.inr e))
  · rcases h3 j hj with e2 | e2
    · exact h.dj j e2 hm
    · have := h.rq.lt j hm; omega
  · rcases h3 j hj with e2 | e2
    · exact h.lp j e2
    · have := h.bl.size; omega
theorem l4_make {K : Nat → Prop} (h : LvT w0 b G k b2 G2 k2 K w) (hK : ∀ j, (j < w0.heap.size ∨ j ∈ p.fp) → K j) (hp : RmAt w p Gp) (lp : ∀ j ∈ p.fp, w0.heap.size ≤ j) (he : Gp.E.length ≤ 50000) (hT : Gp.T.length ≤ 50000) :
    Calls Tryz.prog 15 #[.pointer (some ⟨p.b, 0, none⟩)] w fun e w' => ∃ q, e = .returned (.pointer (some ⟨q.b, 0, none⟩)) ∧ L4 w0 b G k b2 G2 k2 p Gp q Gp w' := by
  refine (rcopy_any p Gp w hp he hT).mono ?_
  rintro e w' ⟨q, rfl, h1, h2, h3⟩
  refine ⟨q, rfl, (h.t2.more h2 (fun j => j ∈ q.fp) (fun j hj => ⟨h3 j hj, h1.lt j hj⟩)).mono (fun j hj => ?_), hp.keep h2, h1, fun j hj hm => ?_, lp, fun j hj => ?_, h.bl.trans (h2.mono h.bl.size), h.it.keep h2⟩
  · rcases hj with e | e | e
    · exact .inl (hK j (.inl e))
    · exact .inl (hK j (.inr e))
    · exact .inr e
  · have := hp.lt j hj; have := h3 j hm; omega
  · have := h3 j hj; have := h.bl.size; omega
end
end Go.Proofs.YteimpebfenpifaaGreatDoor
