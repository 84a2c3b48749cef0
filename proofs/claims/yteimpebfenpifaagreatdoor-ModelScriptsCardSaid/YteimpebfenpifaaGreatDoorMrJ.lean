/-
  The reference's tree of files: make (Create, Mkdir, Link).
-/
import Derived.Test.YteimpebfenpifaaGreatDoorMg32
import Derived.Test.YteimpebfenpifaaGreatDoorMg27
namespace Go.Proofs.YteimpebfenpifaaGreatDoor
open Go Go.RowKit Go.ChangeShapes Go.WideShapes Go.ChangeAt

section
variable {W w' : World} {p : RmP} {G : GD} {v' : Value}
theorem RmAt.pushE {l : List EnD} (h : RmAt W p G) (h1 : Ens w' v' l) (h2 : W.grownBy w' p.ev.ownBlock) (h3 : v'.ownBlock = p.ev.ownBlock ∨ v'.ownBlock = some W.heap.size) : RmTo p ⟨l, G.T⟩ W (w'.setCell ⟨p.b, 0, none⟩ v') ∧ Box w' p.b 64 #[p.ev, p.tv] := by
  have hc : Chg p.ev.ownBlock.toList W w' := Chg.grown h2 (fun k hk => Option.mem_toList.2 hk)
  refine ⟨h.toE hc h1 (fun k hk => ?_), h.box.of (hc.block p.b h.box.lt (fun hm => (h.ne _ (Option.mem_toList.1 hm)).1 rfl))⟩
  rcases h3 with e | e
  · exact .inl (e ▸ hk)
  · rw [e] at hk; injection hk with hk; exact .inr (by omega)
theorem RmAt.pushT {l : List Th} (h : RmAt W p G) (h1 : Tgs w' v' l) (h2 : W.grownBy w' p.tv.ownBlock) (h3 : v'.ownBlock = p.tv.ownBlock ∨ v'.ownBlock = some W.heap.size) : RmTq p ⟨p.b, p.ev, v'⟩ ⟨G.E, l⟩ W (w'.setCell ⟨p.b, 1, none⟩ v') ∧ Box w' p.b 64 #[p.ev, p.tv] := by
  have hc : Chg p.tv.ownBlock.toList W w' := Chg.grown h2 (fun k hk => Option.mem_toList.2 hk)
  refine ⟨h.atT hc h1 (fun k hk => ?_), h.box.of (hc.block p.b h.box.lt (fun hm => h.nt _ (Option.mem_toList.1 hm) rfl))⟩
  rcases h3 with e | e
  · exact .inl (e ▸ hk)
  · rw [e] at hk; injection hk with hk; exact .inr (by omega)
theorem RmTq.ahead {w1 : World} {q : RmP} (hb : Below W.heap.size W w1) (h : RmTq p q G w1 w') : RmTq p q G W w' := by
  obtain ⟨e, h1, h2, h3⟩ := h
  refine ⟨e, h1, (Chg.of (S := p.fp) hb (Nat.le_refl _)).trans h2, fun k hk => ?_⟩
  rcases h3 k hk with h | h
  · exact .inl h
  · exact .inr (Nat.le_trans hb.size h)
theorem RmTq.then {w1 : World} {q : RmP} {G2 : GD} (h : RmTq p q G W w1) (k : RmTo q G2 w1 w') : RmTo p G2 W w' := by
  obtain ⟨e, _, h2, h3⟩ := h
  obtain ⟨r, f, k1, k2, k3⟩ := k
  refine ⟨r, f.trans e, k1, h2.then k2 h3, fun j hj => ?_⟩
  rcases k3 j hj with h | h
  · exact h3 j h
  · exact .inr (Nat.le_trans h2.size h)
/-- A box that the tree does not own stays. -/
theorem RmTo.box {w1 : World} {G' : GD} {b : Nat} {t : TypeId} {cs : Array Value} (h : RmTo p G' W w1) (hb : Box W b t cs) (hn : b ∉ p.fp) : Box w1 b t cs := by
  obtain ⟨_, _, _, hc, _⟩ := h
  exact hb.of (hc.block b hb.lt hn)
end
theorem file_eq (G : GD) (s : ByteArray) (k : Nat → AnsD × GD) : fileG G s k = if (leadG G s).2 ≠ 0 then (noA (leadG G s).2, G) else if dirG G (leadG G s).1 = true then (noA 10, G) else k (leadG G s).1 := rfl
theorem op_box (w : World) (o : OpD) : Box (w.alloc (.cells #[.int .i64 o.do_, .string o.path, .string o.dst, .int .i64 o.off, .int .i64 o.len, .string o.data] 36 (0, 0))) w.heap.size 36 #[.int .i64 o.do_, .string o.path, .string o.dst, .int .i64 o.off, .int .i64 o.len, .string o.data] := Box.new w _ _
/-- Where an op lies in a block of its own, beside a tree. -/
structure OpJ (w : World) (p : RmP) (G : GD) (ob : Nat) (o : OpD) (wr : World) : Prop where
  r : RmAt wr p G
  x : Box wr ob 36 #[.int .i64 o.do_, .string o.path, .string o.dst, .int .i64 o.off, .int .i64 o.len, .string o.data]
  b : Below w.heap.size w wr
  l : w.heap.size ≤ ob
  f : ∀ k ∈ p.fp, k < w.heap.size
theorem OpJ.keep {w wr w' : World} {p : RmP} {G : GD} {ob : Nat} {o : OpD} (h : OpJ w p G ob o wr) (hb : Below wr.heap.size wr w') : OpJ w p G ob o w' := ⟨h.r.keep hb, h.x.keep hb h.x.lt, h.b.trans (hb.mono h.b.size), h.l, h.f⟩
theorem OpJ.drew {w wr : World} {p : RmP} {G : GD} {ob : Nat} {o : OpD} (h : OpJ w p G ob o wr) : OpJ w p G ob o wr.drew := h.keep ⟨rfl, rfl, rfl, Nat.le_refl _, fun _ _ => rfl⟩
theorem OpJ.new {w : World} {p : RmP} {G : GD} (h : RmAt w p G) (o : OpD) : OpJ w p G w.heap.size o (w.alloc (.cells #[.int .i64 o.do_, .string o.path, .string o.dst, .int .i64 o.off, .int .i64 o.len, .string o.data] 36 (0, 0))) :=
  ⟨h.keep ((Below.refl _ _).alloc (Nat.le_refl _) _), op_box w o, (Below.refl _ _).alloc (Nat.le_refl _) _, Nat.le_refl _, h.lt⟩
theorem OpJ.out {w wr w' : World} {p : RmP} {G G' : GD} {ob : Nat} {o : OpD} (h : OpJ w p G ob o wr) (ht : RmTo p G' wr w') : RmTo p G' w w' := ht.ahead h.b
theorem OpJ.same {w wr : World} {p : RmP} {G : GD} {ob : Nat} {o : OpD} (h : OpJ w p G ob o wr) : RmTo p G w wr := (RmTo.same h.r (Below.refl _ _)).ahead h.b
set_option maxRecDepth 100000 in
set_option maxHeartbeats 8000000 in
theorem rmake_any (p : RmP) (G : GD) (w : World) (h : RmAt w p G) (hw : WfG G) (hk : G.E.length ≤ 50000) (hT : G.T.length ≤ 50000) (o : OpD) (hp : o.path.size ≤ 100000) (hd : o.dst.size ≤ 100000) (ho : o.do_ = 0 ∨ o.do_ = 1 ∨ o.do_ = 2) :
    Calls Tryz.prog 32 #[.pointer (some ⟨p.b, 0, none⟩), opV o] w fun e w' => e = .returned (.int .i64 (doG G o).1.code) ∧ RmTo p (doG G o).2 w w' := by
  obtain ⟨R, hR⟩ : ∃ R, R = doG G o := ⟨_, rfl⟩
  rw [← hR]
  have HR := Lib.hid hR
  have HO := Lib.hid (OpJ.new h o)
  have HW := Lib.hid hw
  have HK := Lib.hid hk
  have HTL := Lib.hid hT
  have HP := Lib.hid hp
  have HD := Lib.hid hd
  have HDO := Lib.hid ho
  have c0 := (OpJ.new h o).x.cell 0 _ rfl
  clear hR h hw hk hT hp hd ho
  unfold opV opA
  go_enter Tryz.func32, Tryz.ntmps32
  by_cases h2 : o.do_ = 2
  · have HQ : Hid (R = fileG G o.path fun n => if freeG G o.dst ≠ 0 then (noA (freeG G o.dst), G) else (noA 0, linkG G n o.dst)) := by
      show _ = _
      rw [HR.out]
      unfold doG
      rw [if_neg (by omega), if_neg (by omega), if_pos h2]
    have f0 : (o.do_ == 2) = true := by rw [h2]; rfl
    rw [file_eq] at HQ
    clear h2 HR HDO
    have c1 := HO.out.x.cell 1 _ rfl
    go_wp2_with fail
    generalize World.alloc w _ = w1 at *
    obtain ⟨ob, hob⟩ : ∃ ob, ob = w.heap.size := ⟨_, rfl⟩
    rw [← hob] at HO ⊢
    clear hob c0 c1
    refine (rleads_any p G w1 HO.out.r HW.out (by have := HK.out; omega) o.path HP.out).mono ?_
    rintro e w2 ⟨rfl, hb⟩
    have HO2 := Lib.hid (HO.out.keep hb)
    have HAT : Hid ((leadG G o.path).2 = 0 → atE G (splitD o.path).1 = some (leadG G o.path).1) := fun e => (leadG_at e).2
    clear hb HO
    obtain ⟨LD, hLD⟩ : ∃ x, x = leadG G o.path := ⟨_, rfl⟩
    rw [← hLD] at HQ HAT ⊢
    clear hLD
    obtain ⟨n, er⟩ := LD
    dsimp only at *
    by_cases h1 : er = 0
    case neg =>
      have HQ2 : Hid (R = (noA er, G)) := HQ.out.trans (if_pos h1)
      have f1 : (er != 0) = true := by simpa using h1
      clear h1
      go_wp2
      go_ret
      exact ⟨by rw [HQ2.out]; rfl, by rw [HQ2.out]; exact HO2.out.same⟩
    subst h1
    have hnl := at_lt HW.out (HAT.out rfl)
    have HQ2 := Lib.hid (HQ.out.trans (if_neg (fun e => e rfl)))
    have t0 : w2.cell? ⟨p.b, 1, none⟩ = some p.tv := HO2.out.r.box.cell 1 _ rfl
    obtain ⟨ta, tc, htv⟩ := HO2.out.r.t.shape
    rw [htv] at t0
    have HTG : Hid (Tgs w2 (.slice ta G.T.length tc) G.T) := by have := HO2.out.r.t; rw [htv] at this; exact this
    obtain ⟨g, rfl, -, m0, -, -, -⟩ := HTG.out.at hnl
    have m1 : w2.cell? ⟨g, n * 2, none⟩ = some (.bool (dirG G n)) := by rw [dir_at hnl]; exact m0
    have n0 : (0 : Int) ≤ (n : Int) := by omega
    have n1 : (n : Int) < (G.T.length : Int) := by omega
    clear m0 hnl htv HTG HQ
    by_cases hd : dirG G n = true
    · have HQ3 : Hid (R = (noA 10, G)) := HQ2.out.trans (if_pos hd)
      rw [hd] at m1
      clear hd
      go_wp2
      go_ret
      exact ⟨by rw [HQ3.out]; rfl, by rw [HQ3.out]; exact HO2.out.same⟩
    have HQ3 := Lib.hid (HQ2.out.trans (if_neg hd))
    have hd : dirG G n = false := by simpa using hd
    rw [hd] at m1
    have c2 : w2.cell? ⟨ob, 2, none⟩ = some (.string o.dst) := HO2.out.x.cell 2 _ rfl
    clear hd HQ2
    go_wp2_with fail
    refine (rfree_any p G w2 HO2.out.r HW.out (by have := HK.out; omega) o.dst HD.out).mono ?_
    rintro e w3 ⟨rfl, hb⟩
    have HO3 := Lib.hid (HO2.out.keep hb)
    have HFO : Hid (freeG G o.dst = 0 → (splitD o.dst).2 = 0) := fun e => by
      rcases Decidable.em ((splitD o.dst).2 ≠ 0) with h | h
      · unfold freeG at e; rw [if_pos h] at e; exact e
      · exact Decidable.not_not.1 h
    clear hb HO2 c2 t0 m1 n0 n1
    generalize freeG G o.dst = fr at *
    by_cases hf : fr = 0
    case neg =>
      have HQ4 : Hid (R = (noA fr, G)) := HQ3.out.trans (if_pos hf)
      have f1 : (fr == 0) = false := by simpa using hf
      clear hf
      go_wp2
      go_ret
      exact ⟨by rw [HQ4.out]; rfl, by rw [HQ4.out]; exact HO3.out.same⟩
    subst hf
    have HQ4 : Hid (R = (noA 0, linkG G n o.dst)) := HQ3.out.trans (if_neg (fun e => e rfl))
    have HJD : Hid (joinD (splitD o.dst).1 = o.dst) := join_split (HFO.out rfl)
    clear HQ3 HFO
    go_wp2_with fail
    have HX := Lib.hid HO3.out.drew
    have c2 : w3.drew.cell? ⟨ob, 2, none⟩ = some (.string o.dst) := HX.out.x.cell 2 _ rfl
    have e0 : w3.drew.cell? ⟨p.b, 0, none⟩ = some p.ev := HX.out.r.box.cell 0 _ rfl
    clear HO3
    have hz := (Below.refl w3.drew.heap.size w3.drew).alloc (Nat.le_refl _) (.cells #[.string o.dst, .int .i64 n] 89 (0, 0))
    have HX2 := Lib.hid (HX.out.keep hz)
    have EB := Lib.hid (Box.new w3.drew 89 #[.string o.dst, .int .i64 n])
    clear hz
    refine wp_region_tree (fun W => W.cell? ⟨ob, 2, none⟩ = some (.string o.dst) ∧ W.cell? ⟨p.b, 0, none⟩ = some p.ev) 11 (.quiet 0 (.quiet 1 (.quiet 2 (.quiet 3 (.quiet 4 (.quiet 5 (.quiet 6 (.quiet 7 (.quiet 8 (.make 9 (.make 10 .nil))))))))))) (by kernel_rfl) (by kernel_rfl) ⟨c2, e0⟩ ?_
    simp only [List.drop_succ_cons, List.drop_zero]
    clear c2 e0
    iterate 9 (apply wpTr_step rfl; (intro W hS K hK; obtain ⟨u0, u1⟩ := hS; go_simp; exact hK _ rfl))
    refine wpTr_make rfl (fun K' hK => ?_)
    go_simp
    refine hK _ _ _ (fun _ h => h) ⟨HX2.out.x.cell 2 _ rfl, HX2.out.r.box.cell 0 _ rfl⟩ ?_
    clear hK K' HX
    refine wpTr_make rfl (fun K' hK => ?_)
    refine step_ens_push rfl (.tmp 39) (.tmp 44) rfl p.ev G.E rfl HX2.out.r.e ⟨w3.heap.size, 0, none⟩ 1 1 [((splitD o.dst).1, n)] rfl rfl ?_ (by have := HK.out; omega) ?_
    · intro j u hj
      rw [add_plain, Nat.zero_add]
      exact EB.out.cell j u (by rw [← hj]; simp only [List.flatMap_cons, List.flatMap_nil, List.append_nil, EnV, HJD.out]; simp)
    intro v4 w4 hv4 hg4 hn4
    obtain ⟨hto, hbx⟩ := HX2.out.r.pushE hv4 hg4 hn4
    have HT5 := Lib.hid (HX2.out.out hto)
    have hox : Box w4 ob 36 _ := HX2.out.x.of ((Chg.grown (S := p.ev.ownBlock.toList) hg4 (fun k hk => Option.mem_toList.2 hk)).block ob HX2.out.x.lt (fun hm => by
      have h1 := HX2.out.f ob (fp_mem.2 (.inr (.inl (Option.mem_toList.1 hm))))
      have h2 := HX2.out.l
      omega))
    obtain ⟨va, vc, rfl⟩ := hv4.shape
    have e0 : w4.cell? ⟨p.b, 0, none⟩ = some p.ev := hbx.cell 0 _ rfl
    have f0 : w4.frozen? ⟨p.b, 0, none⟩ = false := hbx.free 0
    obtain ⟨ea, ec, hev⟩ := HX2.out.r.e.shape
    refine hK _ _ _ (fun _ h => h) ⟨hox.cell 2 _ rfl, e0⟩ ?_
    rw [hev] at e0
    clear hK K' hv4 hg4 hn4 hto hbx hox hev HX2 EB
    refine wpTr_nil ?_
    go_wp2
    go_ret
    exact ⟨by rw [HQ4.out]; rfl, by rw [HQ4.out]; have h := HT5.out; rw [List.length_append] at h; exact h⟩
  · have f0 : (o.do_ == 2) = false := by simpa using h2
    have HQ : Hid (R = makeG G o.path (o.do_ == 1)) := by
      show _ = _
      rw [HR.out]
      unfold doG
      rcases HDO.out with h | h | h
      · rw [if_pos h, h]; rfl
      · rw [if_neg (by omega), if_pos h, h]; rfl
      · exact absurd h h2
    unfold makeG at HQ
    clear h2 HR HDO
    have c1 := HO.out.x.cell 1 _ rfl
    go_wp2_with fail
    generalize World.alloc w _ = w1 at *
    obtain ⟨ob, hob⟩ : ∃ ob, ob = w.heap.size := ⟨_, rfl⟩
    rw [← hob] at HO ⊢
    clear hob c0 c1
    refine (rfree_any p G w1 HO.out.r HW.out (by have := HK.out; omega) o.path HP.out).mono ?_
    rintro e w3 ⟨rfl, hb⟩
    have HO3 := Lib.hid (HO.out.keep hb)
    have HFO : Hid (freeG G o.path = 0 → (splitD o.path).2 = 0) := fun e => by
      rcases Decidable.em ((splitD o.path).2 ≠ 0) with h | h
      · unfold freeG at e; rw [if_pos h] at e; exact e
      · exact Decidable.not_not.1 h
    clear hb HO
    generalize freeG G o.path = fr at *
    by_cases hf : fr = 0
    case neg =>
      have HQ4 : Hid (R = (noA fr, G)) := HQ.out.trans (if_pos hf)
      have f1 : (fr == 0) = false := by simpa using hf
      clear hf
      go_wp2
      go_ret
      exact ⟨by rw [HQ4.out]; rfl, by rw [HQ4.out]; exact HO3.out.same⟩
    subst hf
    have HQ4 : Hid (R = (noA 0, addG G o.path (o.do_ == 1))) := HQ.out.trans (if_neg (fun e => e rfl))
    have HJD : Hid (joinD (splitD o.path).1 = o.path) := join_split (HFO.out rfl)
    clear HQ HFO
    go_wp2_with fail
    have HX := Lib.hid HO3.out.drew
    have c2 : w3.drew.cell? ⟨ob, 0, none⟩ = some (.int .i64 o.do_) := HX.out.x.cell 0 _ rfl
    have e0 : w3.drew.cell? ⟨p.b, 1, none⟩ = some p.tv := HX.out.r.box.cell 1 _ rfl
    clear HO3
    have hz := (Below.refl w3.drew.heap.size w3.drew).alloc (Nat.le_refl _) (.cells #[.bool (o.do_ == 1), .string ⟨#[]⟩] 60 (0, 0))
    have HX2 := Lib.hid (HX.out.keep hz)
    have EB := Lib.hid (Box.new w3.drew 60 #[.bool (o.do_ == 1), .string ⟨#[]⟩])
    clear hz
    refine wp_region_tree (fun W => W.cell? ⟨ob, 0, none⟩ = some (.int .i64 o.do_) ∧ W.cell? ⟨p.b, 1, none⟩ = some p.tv) 11 (.quiet 0 (.quiet 1 (.quiet 2 (.quiet 3 (.quiet 4 (.quiet 5 (.quiet 6 (.quiet 7 (.quiet 8 (.make 9 (.make 10 .nil))))))))))) (by kernel_rfl) (by kernel_rfl) ⟨c2, e0⟩ ?_
    simp only [List.drop_succ_cons, List.drop_zero]
    clear c2 e0
    iterate 9 (apply wpTr_step rfl; (intro W hS K hK; obtain ⟨u0, u1⟩ := hS; go_simp; exact hK _ rfl))
    refine wpTr_make rfl (fun K' hK => ?_)
    go_simp
    refine hK _ _ _ (fun _ h => h) ⟨HX2.out.x.cell 0 _ rfl, HX2.out.r.box.cell 1 _ rfl⟩ ?_
    clear hK K' HX
    refine wpTr_make rfl (fun K' hK => ?_)
    refine step_tgs_push rfl (.tmp 59) (.tmp 64) rfl p.tv G.T rfl HX2.out.r.t ⟨w3.heap.size, 0, none⟩ 1 1 [⟨o.do_ == 1, noB⟩] rfl rfl ?_ (by have := HTL.out; omega) ?_
    · intro j u hj
      rw [add_plain, Nat.zero_add]
      exact EB.out.cell j u (by rw [← hj]; simp only [List.flatMap_cons, List.flatMap_nil, List.append_nil, TgV]; simp)
    intro v4 w4 hv4 hg4 hn4
    obtain ⟨hto, hbx⟩ := HX2.out.r.pushT hv4 hg4 hn4
    have hox : Box w4 ob 36 _ := HX2.out.x.of ((Chg.grown (S := p.tv.ownBlock.toList) hg4 (fun k hk => Option.mem_toList.2 hk)).block ob HX2.out.x.lt (fun hm => by
      have h1 := HX2.out.f ob (fp_mem.2 (.inr (.inr (Option.mem_toList.1 hm))))
      have h2 := HX2.out.l
      omega))
    obtain ⟨va, vc, rfl⟩ := hv4.shape
    have hox5 : Box (w4.setCell ⟨p.b, 1, none⟩ (.slice va (G.T ++ [(⟨o.do_ == 1, noB⟩ : Th)]).length vc)) ob 36 _ := hox.of ((rm_chg w4 p.b 1 _).block ob hox.lt (fun hm => by
      have h1 := HX2.out.f p.b (fp_mem.2 (.inl rfl))
      have h2 := HX2.out.l
      rw [List.mem_singleton] at hm
      omega))
    have htq := hto.ahead HX2.out.b
    have HTQ := Lib.hid htq
    have HO5 := Lib.hid hox5
    have HOL : Hid (w.heap.size ≤ ob) := HX2.out.l
    have HPF : Hid (∀ k ∈ p.fp, k < w.heap.size) := HX2.out.f
    have e0 : w4.cell? ⟨p.b, 1, none⟩ = some p.tv := hbx.cell 1 _ rfl
    have f0 : w4.frozen? ⟨p.b, 1, none⟩ = false := hbx.free 1
    obtain ⟨ta, tc, htv⟩ := HX2.out.r.t.shape
    refine hK _ _ _ (fun _ h => h) ⟨hox.cell 0 _ rfl, e0⟩ ?_
    rw [htv] at e0
    clear hK K' hv4 hg4 hn4 hto hbx hox hox5 htq htv HX2 EB
    refine wpTr_nil ?_
    go_wp2_with fail
    have hln : (G.T ++ [(⟨o.do_ == 1, noB⟩ : Th)]).length = G.T.length + 1 := by simp
    rw [hln] at HTQ HO5
    clear e0 f0
    generalize World.setCell w4 _ _ = w6 at *
    have HX := Lib.hid HTQ.out.2.1.drew
    clear hln
    have HB6 : Hid (w.heap.size ≤ w6.heap.size) := HTQ.out.2.2.1.size
    have hb6 : Below w6.heap.size w6 w6.drew := ⟨rfl, rfl, rfl, Nat.le_refl _, fun _ _ => rfl⟩
    have HOD : Hid (Box w6.drew ob 36 _) := HO5.out.keep hb6 HO5.out.lt
    have c1 : w6.drew.cell? ⟨ob, 1, none⟩ = some (.string o.path) := HOD.out.cell 1 _ rfl
    have e0 : w6.drew.cell? ⟨p.b, 0, none⟩ = some p.ev := HX.out.box.cell 0 _ rfl
    have e1 : w6.drew.cell? ⟨p.b, 1, none⟩ = some (.slice va (G.T.length + 1) vc) := HX.out.box.cell 1 _ rfl
    have hwt : IntKind.i64.wrap (G.T.length : Int) = (G.T.length : Int) := by rw [IntKind.wrap_i64]; have := HTL.out; omega
    have hwt2 : IntKind.i64.wrap ((G.T.length : Int) + 1 - 1) = (G.T.length : Int) := by rw [IntKind.wrap_i64]; have := HTL.out; omega
    have hz := (Below.refl w6.drew.heap.size w6.drew).alloc (Nat.le_refl _) (.cells #[.string o.path, .int .i64 G.T.length] 89 (0, 0))
    have HX2 := Lib.hid (HX.out.keep hz)
    have HOE := Lib.hid (HOD.out.keep hz HOD.out.lt)
    have EB := Lib.hid (Box.new w6.drew 89 #[.string o.path, .int .i64 G.T.length])
    clear hz hb6
    refine wp_region_tree (fun W => W.cell? ⟨ob, 1, none⟩ = some (.string o.path) ∧ W.cell? ⟨p.b, 0, none⟩ = some p.ev ∧ W.cell? ⟨p.b, 1, none⟩ = some (.slice va (G.T.length + 1) vc)) 16 (.quiet 0 (.quiet 1 (.quiet 2 (.quiet 3 (.quiet 4 (.quiet 5 (.quiet 6 (.quiet 7 (.quiet 8 (.quiet 9 (.quiet 10 (.quiet 11 (.quiet 12 (.quiet 13 (.make 14 (.make 15 .nil)))))))))))))))) (by kernel_rfl) (by kernel_rfl) ⟨c1, e0, e1⟩ ?_
    simp only [List.drop_succ_cons, List.drop_zero]
    clear c1 e0 e1
    iterate 14 (apply wpTr_step rfl; (intro W hS K hK; obtain ⟨u0, u1, u2⟩ := hS; go_simp; exact hK _ rfl))
    refine wpTr_make rfl (fun K' hK => ?_)
    go_simp
    refine hK _ _ _ (fun _ h => h) ⟨HOE.out.cell 1 _ rfl, HX2.out.box.cell 0 _ rfl, HX2.out.box.cell 1 _ rfl⟩ ?_
    clear hK K' HX
    refine wpTr_make rfl (fun K' hK => ?_)
    refine step_ens_push rfl (.tmp 72) (.tmp 82) rfl p.ev G.E rfl HX2.out.e ⟨w6.heap.size, 0, none⟩ 1 1 [((splitD o.path).1, G.T.length)] rfl rfl ?_ (by have := HK.out; omega) ?_
    · intro j u hj
      rw [add_plain, Nat.zero_add]
      exact EB.out.cell j u (by rw [← hj]; simp only [List.flatMap_cons, List.flatMap_nil, List.append_nil, EnV, HJD.out]; simp)
    intro v7 w7 hv7 hg7 hn7
    obtain ⟨hto, hbx⟩ := HX2.out.pushE hv7 hg7 hn7
    have HT8 : Hid (RmTo p ⟨G.E ++ [((splitD o.path).1, G.T.length)], G.T ++ [⟨o.do_ == 1, noB⟩]⟩ w (w7.setCell ⟨p.b, 0, none⟩ v7)) := RmTq.then (q := ⟨p.b, p.ev, .slice va (G.T.length + 1) vc⟩) (G := ⟨G.E, G.T ++ [⟨o.do_ == 1, noB⟩]⟩) ⟨rfl, HTQ.out.2⟩ (hto.ahead ((⟨rfl, rfl, rfl, Nat.le_refl _, fun _ _ => rfl⟩ : Below w6.heap.size w6 w6.drew).alloc (Nat.le_refl _) _))
    have hox : Box w7 ob 36 _ := HOE.out.of ((Chg.grown (S := p.ev.ownBlock.toList) hg7 (fun k hk => Option.mem_toList.2 hk)).block ob HOE.out.lt (fun hm => by
      have h1 := HPF.out ob (fp_mem.2 (.inr (.inl (Option.mem_toList.1 hm))))
      have h2 := HOL.out
      omega))
    obtain ⟨vb, vd, rfl⟩ := hv7.shape
    have e0 : w7.cell? ⟨p.b, 0, none⟩ = some p.ev := hbx.cell 0 _ rfl
    have e1 : w7.cell? ⟨p.b, 1, none⟩ = some (.slice va (G.T.length + 1) vc) := hbx.cell 1 _ rfl
    have f0 : w7.frozen? ⟨p.b, 0, none⟩ = false := hbx.free 0
    obtain ⟨ea, ec, hev⟩ := HX2.out.e.shape
    refine hK _ _ _ (fun _ h => h) ⟨hox.cell 1 _ rfl, e0, e1⟩ ?_
    have hev : p.ev = .slice ea G.E.length ec := hev
    rw [hev] at e0
    clear hK K' hv7 hg7 hn7 hto hbx hox hev HX2 EB HTQ
    refine wpTr_nil ?_
    go_wp2
    go_ret
    exact ⟨by rw [HQ4.out]; rfl, by rw [HQ4.out]; have h := HT8.out; rw [List.length_append] at h; exact h⟩
end Go.Proofs.YteimpebfenpifaaGreatDoor
