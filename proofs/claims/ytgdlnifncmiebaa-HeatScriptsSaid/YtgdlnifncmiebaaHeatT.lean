/-
  The reference's heat: Touch.
-/
import Derived.Test.YtgdlnifncmiebaaHeatQ
import Derived.Deep.RegionLaw
namespace Go.Proofs.Ytgdlnifncmiebaa
open Go.RowKit Go.ChangeShapes Go.WideShapes Go.ChangeAt

theorem step_ct_push {ops : Array Oper} {o : Oper} {a : Act} {W : World} {K : Act → World → Prop} {Q : Exit → Act → World → Prop} {E : Prop} (hgd : o.guard = none) (s x : Operand)
    (ho : o.op = .call { callee := .builtin .append, args := #[s, x], argTypes := #[27, 27] })
    (base : Nat) (v : Value) (l : List MkD) (hs : a.eval s = v) (hb : Cs W base v l)
    (ad : Addr) (c : Nat) (p : MkD) (hx : a.eval x = .slice (some ad) 1 c) (hcell : ∀ j u, (CtV p)[j]? = some u → W.cell? (ad.add j) = some u)
    (hbytes : l.length ≤ 100000) (hbase : base ≤ W.heap.size)
    (h : ∀ v' w', Cs w' base v' (l ++ [p]) → W.grownBy w' v.ownBlock → (v'.ownBlock = v.ownBlock ∨ v'.ownBlock = some W.heap.size) → K (a.put o.dst v') w') :
    if Region.wanted o (yielded ops a.tmps) = true then Oper.wp Try.prog o a W K Q else E := by
  have hw : Region.wanted o (yielded ops a.tmps) = true := by simp [Region.wanted, hgd]
  rw [if_pos hw]
  obtain ⟨i0, hi, hz0, hz1, hz2⟩ := info_parts infoCt
  have h1 : ∀ u ∈ CtV p, u.oneCell' = true := by
    intro u hu
    simp [CtV] at hu
    rcases hu with rfl | rfl | rfl <;> rfl
  obtain ⟨v', w', hr, hown, hg, _, hob⟩ := run_append_own_at (P := Try.prog) W base 27 o.type 56 i0 (.agg #[.string ⟨#[]⟩, .int .i64 0, .int .i64 0]) 3 32 Try.underlying27 hi hz0 hz1 hz2 rfl (by decide) v l.length (l.flatMap CtV) hb ad 1 c (CtV p) rfl hcell h1 (by unfold maxLen; omega) (by omega) hbase
  have hown' : Cs w' base v' (l ++ [p]) := by
    unfold Cs
    rw [List.flatMap_append, List.length_append]
    exact hown
  unfold Oper.wp execOp
  simp only [ho, resolve, invoke, builtin, Sem.run_bind, Sem.run_pure, Result.andThen_ok, List.map_toArray, List.map_cons, List.map_nil, hs, hx, hr]
  exact h v' w' hown' hg hob

set_option maxRecDepth 100000 in
set_option maxHeartbeats 4000000 in
theorem rtouch (b : Nat) (v : Value) (l : List MkD) (k : ByteArray) (now : Int) (w : World) (h : RefAt w b v l) (hok : OkM l) (hn : In64 now) :
    Calls Try.prog 12 #[.pointer (some ⟨b, 0, none⟩), .string k, .int .i64 now] w fun e w' => e = .returned (.tuple #[]) ∧ Tod (RefF b (touchM l k now)) (b :: v.ownBlock.toList) w w' := by
  have HFI := Lib.hid (rfind b v l k w h (by have := hok.1; omega))
  have HFL : Hid (l.length ≤ 80000) := hok.1
  obtain ⟨F, hF⟩ : ∃ F, F = b :: v.ownBlock.toList := ⟨_, rfl⟩
  have HF := Lib.hid hF
  have HFLT : Hid (∀ i ∈ F, i < w.heap.size) := by
    intro i hi
    rw [hF] at hi
    rcases List.mem_cons.1 hi with rfl | hi
    · exact h.box.lt
    · exact h.row.lt i (by simpa using hi)
  rw [← hF]
  clear hF
  have HR := Lib.hid h
  have HOK := Lib.hid hok
  have HN := Lib.hid hn
  have c0 := h.box.cell 0 _ rfl
  have HFO : Hid (∀ W, RefAt W b v l → Calls Try.prog 14 #[.pointer (some ⟨b, 0, none⟩), .string k] W fun e w' => e = .returned (.tuple #[]) ∧ Tod (RefF b (forgetM l k)) F W w') := fun W hW => by rw [HF.out]; exact rforget b v l k W hW (by have := HFL.out; omega)
  have HKEEP : Hid (∀ W, Below w.heap.size w W → RefAt W b v l) := fun W hW => ⟨HR.out.box.keep hW HR.out.box.lt, HR.out.row.keep hW, HR.out.ne⟩
  clear h hok hn
  go_enter Try.func12, Try.ntmps12
  go_wp2_with fail
  refine HFI.out.mono ?_
  rintro e w1 ⟨r, rfl, hr, rfl⟩
  rcases hr with ⟨hf, rfl⟩ | ⟨i, hi, rfl, hk, hf⟩
  · have HV : Hid (newM l k now = (16, now)) := by show _ = _; unfold newM; rw [hf]
    clear hf
    have HPX0 := Lib.hid (Box.new w 56 #[.string k, .int .i64 16, .int .i64 now])
    have HAB0 : Hid (Below w.heap.size w (w.alloc (.cells #[.string k, .int .i64 16, .int .i64 now] 56))) := (Below.refl _ _).alloc (Nat.le_refl _) _
    have HPT0 : Hid ((w.alloc (.cells #[.string k, .int .i64 16, .int .i64 now] 56)).heap.size = w.heap.size + 1) := size_alloc _ _
    obtain ⟨P, hP⟩ : ∃ P, P = w.heap.size := ⟨_, rfl⟩
    have HPG : Hid (P = w.heap.size) := hP
    go_wp2_with fail
    have HAB := HAB0
    have HPX : Hid (Box (w.alloc (.cells #[.string k, .int .i64 16, .int .i64 now] 56)) P 56 #[.string k, .int .i64 16, .int .i64 now]) := by rw [hP]; exact HPX0.out
    rw [← hP]
    have HPT : Hid (P + 1 ≤ (w.alloc (.cells #[.string k, .int .i64 16, .int .i64 now] 56)).heap.size) := by rw [hP]; exact Nat.le_of_eq HPT0.out.symm
    clear hP HPX0 HAB0 HPT0
    generalize w.alloc (.cells #[.string k, .int .i64 16, .int .i64 now] 56) = w1 at *
    refine (HFO.out _ (HKEEP.out _ HAB.out)).mono ?_
    rintro e w2 ⟨rfl, F2, ⟨v2, hr2, hf2⟩, hc2, hn2⟩
    obtain ⟨L2, hl2⟩ : ∃ L, L = forgetM l k := ⟨_, rfl⟩
    rw [← hl2] at hr2
    have HPB : Hid (Box w2 P 56 #[.string k, .int .i64 16, .int .i64 now]) := HPX.out.of (hc2.block P HPX.out.lt (fun hm => by have := HFLT.out P hm; have := HPG.out; omega))
    have HC2 : Hid (Chg F w w2) := (Chg.of HAB.out (Nat.le_refl _)).trans hc2
    have HOW2 : Hid (∀ i, v2.ownBlock = some i → i ∈ F ∨ w.heap.size ≤ i) := fun i hi => by
      rcases hn2 i (by rw [hf2]; simp [hi]) with h | h
      · exact .inl h
      · exact .inr (Nat.le_trans HAB.out.size h)
    have HL2 : Hid (L2.length ≤ 100000) := by show L2.length ≤ _; have := forget_le l k; have := HFL.out; rw [hl2]; omega
    have HL2E := Lib.hid hl2
    have HBF : Hid (b ∈ F) := by rw [HF.out]; exact List.mem_cons_self
    obtain ⟨a2, c2, rfl⟩ := hr2.slice
    have HPN : Hid ((Value.slice a2 L2.length c2).ownBlock ≠ some P) := by
      intro e
      rcases hn2 P (by rw [hf2, e]; simp) with h | h
      · have := HFLT.out P h; have := HPG.out; omega
      · have := HPX.out.lt; have := HPT.out; omega
    generalize hn2' : L2.length = n2 at hr2 HPN HOW2
    have HR2 := Lib.hid hr2
    have q0 := hr2.box.cell 0 _ rfl
    have q1 := HPB.out.cell 0 _ rfl
    have q2 := HPB.out.cell 1 _ rfl
    have q3 := HPB.out.cell 2 _ rfl
    clear hr2 hf2 hc2 hn2 hl2 hn2' HFO HKEEP
    go_wp2_with fail
    refine wp_region_sched (fun W => W.cell? ⟨b, 0, none⟩ = some (.slice a2 n2 c2) ∧ W.cell? ⟨P, 0, none⟩ = some (.string k) ∧ W.cell? ⟨P, 1, none⟩ = some (.int .i64 16) ∧ W.cell? ⟨P, 2, none⟩ = some (.int .i64 now)) 8 [(0, false), (1, false), (2, false), (3, false), (4, false), (5, false), (6, true), (7, true)] (by kernel_rfl) (by kernel_rfl) ⟨q0, q1, q2, q3⟩ ?_
    simp only [List.drop_succ_cons, List.drop_zero]
    iterate 6 (apply wpSch_step rfl; (intro W hS K hK; obtain ⟨r0, r1, r2, r3⟩ := hS; go_simp; exact hK _ rfl))
    refine wpSch_make rfl (fun K' hK => ?_)
    go_simp
    have HAL : Hid (Below w2.heap.size w2 ((w2.alloc (.cells #[.string k, .int .i64 16, .int .i64 now] 56)).drew)) := ((Below.refl _ w2).alloc (Nat.le_refl _) _).drew
    refine hK _ _ _ (fun _ h => h) ⟨(HAL.out.cell (p := ⟨b, 0, none⟩) (lt_of_cell q0)).trans q0, (HAL.out.cell (p := ⟨P, 0, none⟩) (lt_of_cell q1)).trans q1, (HAL.out.cell (p := ⟨P, 1, none⟩) (lt_of_cell q1)).trans q2, (HAL.out.cell (p := ⟨P, 2, none⟩) (lt_of_cell q1)).trans q3⟩ ?_
    clear hK K'
    have HSZ : Hid (w2.heap.size ≤ ((w2.alloc (.cells #[.string k, .int .i64 16, .int .i64 now] 56)).drew).heap.size) := HAL.out.size
    have HCL : Hid (∀ j u, (CtV (k, 16, now))[j]? = some u → ((w2.alloc (.cells #[.string k, .int .i64 16, .int .i64 now] 56)).drew).cell? (Addr.add ⟨w2.heap.size, 0, none⟩ j) = some u) := by
      intro j u hu
      rw [add_plain, Nat.zero_add]
      exact boxed0 w2 _ _ _ j _ (by simpa [CtV] using hu)
    have HRA := Lib.hid (HR2.out.row.keep HAL.out)
    have HP3 := Lib.hid (HPB.out.keep HAL.out HPB.out.lt)
    generalize (w2.alloc (.cells #[.string k, .int .i64 16, .int .i64 now] 56)).drew = w3 at *
    clear q0 q1 q2 q3
    refine wpSch_make rfl (fun K' hK => ?_)
    refine step_ct_push rfl (.tmp 46) (.tmp 48) rfl 0 (.slice a2 n2 c2) L2 (by simp [Act.eval]) HRA.out ⟨w2.heap.size, 0, none⟩ 1 (k, 16, now) (by simp [Act.eval]) HCL.out HL2.out (Nat.zero_le _) ?_
    intro v5 w5 hp5 hg5 ho5
    have HB5 := (HR2.out.box.keep HAL.out HR2.out.box.lt).of (hg5.block b (Nat.lt_of_lt_of_le HR2.out.box.lt HSZ.out) (fun e => HR2.out.ne e.symm))
    have HC5 : Hid (Chg F w w5) := HC2.out.then (S' := (Value.slice a2 n2 c2).ownBlock.toList) ((Chg.of HAL.out (Nat.le_refl _)).trans (Chg.grown hg5 (fun i hi => by simp [hi]))) (fun i hi => HOW2.out i (by simpa using hi))
    obtain ⟨xa, xn, xc, hxf⟩ : ∃ a n c, v5 = .slice a n c := by
      rcases hp5.form with ⟨rfl, _⟩ | ⟨g, cap, rfl, _⟩ <;> exact ⟨_, _, _, rfl⟩
    subst hxf
    have HX5 := Lib.hid HB5
    have HP5 := Lib.hid hp5
    have HO5 : Hid (∀ i, (Value.slice xa xn xc).ownBlock = some i → i ≠ b ∧ (i ∈ F ∨ w.heap.size ≤ i)) := by
      intro i hi
      rcases ho5 with h | h
      · rw [h] at hi
        exact ⟨fun e => HR2.out.ne (by rw [hi, e]), HOW2.out i hi⟩
      · rw [h] at hi
        simp only [Option.some.injEq] at hi
        have := HR2.out.box.lt
        have := HSZ.out
        have := HC2.out.size
        exact ⟨by omega, .inr (by omega)⟩
    have HPC : Hid (∀ W, w3.grownBy W (Value.slice a2 n2 c2).ownBlock → Box W P 56 #[.string k, .int .i64 16, .int .i64 now]) := fun W hg => HP3.out.of (hg.block P HP3.out.lt (fun e => HPN.out e.symm))
    have hpc := HPC.out w5 hg5
    have q0 := (HR2.out.box.keep HAL.out HR2.out.box.lt).of (hg5.block b (Nat.lt_of_lt_of_le HR2.out.box.lt HSZ.out) (fun e => HR2.out.ne e.symm)) |>.cell 0 _ rfl
    have f0 := HX5.out.free 0
    refine hK _ _ (fun W => W.cell? ⟨b, 0, none⟩ = some (.slice a2 n2 c2) ∧ W.cell? ⟨P, 0, none⟩ = some (.string k) ∧ W.cell? ⟨P, 1, none⟩ = some (.int .i64 16) ∧ W.cell? ⟨P, 2, none⟩ = some (.int .i64 now)) (fun _ h => h) ⟨q0, ?p1, ?p2, ?p3⟩ ?_
    case p1 => exact hpc.cell 0 _ rfl
    case p2 => exact hpc.cell 1 _ rfl
    case p3 => exact hpc.cell 2 _ rfl
    clear hK K' hp5 hg5 ho5 HB5 hpc q0
    refine wpSch_nil ?_
    have q0 := HX5.out.cell 0 _ rfl
    go_wp2
    go_end0
    have HE : touchM l k now = L2 ++ [(k, 16, now)] := by unfold touchM; rw [HV.out, HL2E.out]
    rw [HE]
    refine ⟨rfl, b :: (Value.slice xa xn xc).ownBlock.toList, ⟨.slice xa xn xc, ⟨HX5.out.set 0 _, HP5.out.chg (S := [b]) ((Chg.refl _ _).set b 0 _ (.inl (by simp))) (fun i hi => by simpa using (HO5.out i hi).1), fun e => (HO5.out b e).1 rfl⟩, rfl⟩, HC5.out.set b 0 _ (.inl HBF.out), ?_⟩
    intro i hi
    rcases List.mem_cons.1 hi with rfl | hi
    · exact .inl HBF.out
    · exact (HO5.out i (by simpa using hi)).2
  · obtain ⟨a, c, rfl⟩ := HR.out.slice
    have HPX0 := Lib.hid (Box.new w 56 #[.string k, .int .i64 16, .int .i64 now])
    have HAB0 : Hid (Below w.heap.size w (w.alloc (.cells #[.string k, .int .i64 16, .int .i64 now] 56))) := (Below.refl _ _).alloc (Nat.le_refl _) _
    have HPT0 : Hid ((w.alloc (.cells #[.string k, .int .i64 16, .int .i64 now] 56)).heap.size = w.heap.size + 1) := size_alloc _ _
    obtain ⟨P, hP⟩ : ∃ P, P = w.heap.size := ⟨_, rfl⟩
    have HPG : Hid (P = w.heap.size) := hP
    obtain ⟨g, rfl, x0, x1, x2⟩ := HR.out.at_ HAB0.out i hi
    have hx := HOK.out.2 _ (List.getElem_mem hi)
    have HW : Hid (∀ W, Calls Try.prog 23 #[.agg #[.string l[i].1, .int .i64 l[i].2.1, .int .i64 l[i].2.2], .int .i64 now] W fun e w' => e = .returned (.int .i64 (worthOf l[i].2.1 l[i].2.2 now)) ∧ Below W.heap.size W w') := fun W => rworth l[i].1 l[i].2.1 l[i].2.2 now W hx.1 hx.2.1 hx.2.2.1 HN.out.2
    have hwl := worth_le l[i].2.2 now hx.1
    obtain ⟨NN, hNN⟩ : ∃ N, N = min (worthOf l[i].2.1 l[i].2.2 now + 16) 1048576 := ⟨_, rfl⟩
    obtain ⟨MM, hMM⟩ : ∃ M, M = max l[i].2.2 now := ⟨_, rfl⟩
    have HV : Hid (newM l k now = (NN, MM)) := by show _ = _; unfold newM; rw [hf, hNN, hMM]
    have h0 : (0 : Int) ≤ (i : Int) := by omega
    have h1 : (i : Int) < (l.length : Int) := by omega
    have d0 : decide ((0 : Int) ≤ (i : Int)) = true := decide_eq_true (by omega)
    clear hf hk
    generalize l[i] = x at *
    obtain ⟨xk, xc, xt⟩ := x
    dsimp only at x0 x1 x2 HW hx hwl hNN hMM
    generalize worthOf xc xt now = gw at *
    have w16 : IntKind.i64.wrap (gw + 16) = gw + 16 := IntWalk.i64_in _ ⟨by omega, by omega⟩
    have e1 : (if 1048576 < gw + 16 then (1048576 : Int) else gw + 16) = NN := by rw [hNN]; split <;> omega
    have e2 : (if now < xt then xt else now) = MM := by rw [hMM]; split <;> omega
    have cb := (HAB0.out.cell (p := ⟨b, 0, none⟩) HR.out.box.lt).trans c0
    clear hNN hMM hwl hx
    go_wp2_with fail
    rw [← hP] at HPX0 HPT0 ⊢
    clear hP
    generalize w.alloc (.cells #[.string k, .int .i64 16, .int .i64 now] 56) = wa at *
    refine wp_region_sched (fun W => W.cell? ⟨b, 0, none⟩ = some (.slice (some ⟨g, 0, none⟩) l.length c) ∧ W.cell? ⟨g, i * 3, none⟩ = some (.string xk) ∧ W.cell? ⟨g, i * 3 + 1, none⟩ = some (.int .i64 xc) ∧ W.cell? ⟨g, i * 3 + 2, none⟩ = some (.int .i64 xt)) 22 [(0, false), (1, false), (2, false), (3, false), (4, false), (5, false), (6, false), (7, false), (8, false), (12, false), (13, false), (14, false), (15, false), (16, false), (17, false), (18, false), (19, false), (20, false), (21, false), (9, true), (10, false), (11, false)] (by kernel_rfl) (by kernel_rfl) ⟨cb, x0, x1, x2⟩ ?_
    simp only [List.drop_succ_cons, List.drop_zero]
    iterate 18 (apply wpSch_step rfl; (intro W hS K hK; obtain ⟨r0, r1, r2, r3⟩ := hS; go_simp; exact hK _ rfl))
    apply wpSch_step rfl
    · intro W hS K hK
      go_simp
      try rw [e2]
      exact hK _ rfl
    refine wpSch_make rfl (fun K' hK => ?_)
    go_simp
    refine (HW.out _).mono ?_
    rintro e w2 ⟨rfl, hb⟩
    have HBW : Hid (Below wa.heap.size wa w2) := ⟨hb.os, hb.tape, hb.output, hb.size, hb.block⟩
    refine hK _ _ _ (fun _ h => h) ⟨(HBW.out.cell (p := ⟨b, 0, none⟩) (lt_of_cell cb)).trans cb, (HBW.out.cell (p := ⟨g, i * 3, none⟩) (lt_of_cell x0)).trans x0, (HBW.out.cell (p := ⟨g, i * 3 + 1, none⟩) (lt_of_cell x0)).trans x1, (HBW.out.cell (p := ⟨g, i * 3 + 2, none⟩) (lt_of_cell x0)).trans x2⟩ ?_
    clear hK K' hb cb x0 x1 x2
    apply wpSch_step rfl
    · intro W hS K hK
      go_simp
      try rw [w16]
      exact hK _ rfl
    apply wpSch_step rfl
    · intro W hS K hK
      go_simp
      try rw [e1]
      exact hK _ rfl
    refine wpSch_nil ?_
    have hbx := HPX0.out.keep HBW.out HPX0.out.lt
    have p0 := hbx.cell 0 _ rfl
    have p1 := hbx.cell 1 _ rfl
    have p2 := hbx.cell 2 _ rfl
    have f0 := hbx.free 0
    have f1 := hbx.free 1
    have f2 := hbx.free 2
    have HBX := Lib.hid hbx
    clear hbx
    go_wp2_with fail
    have HAB : Hid (Below w.heap.size w (((w2.setCell ⟨P, 0, none⟩ (.string k)).setCell ⟨P, 1, none⟩ (.int .i64 NN)).setCell ⟨P, 2, none⟩ (.int .i64 MM))) := by
      have h1 : Chg [P] wa (((w2.setCell ⟨P, 0, none⟩ (.string k)).setCell ⟨P, 1, none⟩ (.int .i64 NN)).setCell ⟨P, 2, none⟩ (.int .i64 MM)) := (((Chg.of HBW.out (Nat.le_refl _)).set P 0 _ (.inl (by simp))).set P 1 _ (.inl (by simp))).set P 2 _ (.inl (by simp))
      exact HAB0.out.trans (h1.below HAB0.out.size (fun i hi => by rw [List.mem_singleton] at hi; rw [hi, HPG.out]; exact Nat.le_refl _))
    have HPX : Hid (Box (((w2.setCell ⟨P, 0, none⟩ (.string k)).setCell ⟨P, 1, none⟩ (.int .i64 NN)).setCell ⟨P, 2, none⟩ (.int .i64 MM)) P 56 #[.string k, .int .i64 NN, .int .i64 MM]) := ((HBX.out.set 0 _).set 1 _).set 2 _
    have HPT : Hid (P + 1 ≤ (((w2.setCell ⟨P, 0, none⟩ (.string k)).setCell ⟨P, 1, none⟩ (.int .i64 NN)).setCell ⟨P, 2, none⟩ (.int .i64 MM)).heap.size) := HPX.out.lt
    clear p0 p1 p2 f0 f1 f2
    generalize ((w2.setCell ⟨P, 0, none⟩ (.string k)).setCell ⟨P, 1, none⟩ (.int .i64 NN)).setCell ⟨P, 2, none⟩ (.int .i64 MM) = w1 at *
    refine (HFO.out _ (HKEEP.out _ HAB.out)).mono ?_
    rintro e w2 ⟨rfl, F2, ⟨v2, hr2, hf2⟩, hc2, hn2⟩
    obtain ⟨L2, hl2⟩ : ∃ L, L = forgetM l k := ⟨_, rfl⟩
    rw [← hl2] at hr2
    have HPB : Hid (Box w2 P 56 #[.string k, .int .i64 NN, .int .i64 MM]) := HPX.out.of (hc2.block P HPX.out.lt (fun hm => by have := HFLT.out P hm; have := HPG.out; omega))
    have HC2 : Hid (Chg F w w2) := (Chg.of HAB.out (Nat.le_refl _)).trans hc2
    have HOW2 : Hid (∀ i, v2.ownBlock = some i → i ∈ F ∨ w.heap.size ≤ i) := fun i hi => by
      rcases hn2 i (by rw [hf2]; simp [hi]) with h | h
      · exact .inl h
      · exact .inr (Nat.le_trans HAB.out.size h)
    have HL2 : Hid (L2.length ≤ 100000) := by show L2.length ≤ _; have := forget_le l k; have := HFL.out; rw [hl2]; omega
    have HL2E := Lib.hid hl2
    have HBF : Hid (b ∈ F) := by rw [HF.out]; exact List.mem_cons_self
    obtain ⟨a2, c2, rfl⟩ := hr2.slice
    have HPN : Hid ((Value.slice a2 L2.length c2).ownBlock ≠ some P) := by
      intro e
      rcases hn2 P (by rw [hf2, e]; simp) with h | h
      · have := HFLT.out P h; have := HPG.out; omega
      · have := HPX.out.lt; have := HPT.out; omega
    generalize hn2' : L2.length = n2 at hr2 HPN HOW2
    have HR2 := Lib.hid hr2
    have q0 := hr2.box.cell 0 _ rfl
    have q1 := HPB.out.cell 0 _ rfl
    have q2 := HPB.out.cell 1 _ rfl
    have q3 := HPB.out.cell 2 _ rfl
    clear hr2 hf2 hc2 hn2 hl2 hn2' HFO HKEEP
    go_wp2_with fail
    refine wp_region_sched (fun W => W.cell? ⟨b, 0, none⟩ = some (.slice a2 n2 c2) ∧ W.cell? ⟨P, 0, none⟩ = some (.string k) ∧ W.cell? ⟨P, 1, none⟩ = some (.int .i64 NN) ∧ W.cell? ⟨P, 2, none⟩ = some (.int .i64 MM)) 8 [(0, false), (1, false), (2, false), (3, false), (4, false), (5, false), (6, true), (7, true)] (by kernel_rfl) (by kernel_rfl) ⟨q0, q1, q2, q3⟩ ?_
    simp only [List.drop_succ_cons, List.drop_zero]
    iterate 6 (apply wpSch_step rfl; (intro W hS K hK; obtain ⟨r0, r1, r2, r3⟩ := hS; go_simp; exact hK _ rfl))
    refine wpSch_make rfl (fun K' hK => ?_)
    go_simp
    have HAL : Hid (Below w2.heap.size w2 ((w2.alloc (.cells #[.string k, .int .i64 NN, .int .i64 MM] 56)).drew)) := ((Below.refl _ w2).alloc (Nat.le_refl _) _).drew
    refine hK _ _ _ (fun _ h => h) ⟨(HAL.out.cell (p := ⟨b, 0, none⟩) (lt_of_cell q0)).trans q0, (HAL.out.cell (p := ⟨P, 0, none⟩) (lt_of_cell q1)).trans q1, (HAL.out.cell (p := ⟨P, 1, none⟩) (lt_of_cell q1)).trans q2, (HAL.out.cell (p := ⟨P, 2, none⟩) (lt_of_cell q1)).trans q3⟩ ?_
    clear hK K'
    have HSZ : Hid (w2.heap.size ≤ ((w2.alloc (.cells #[.string k, .int .i64 NN, .int .i64 MM] 56)).drew).heap.size) := HAL.out.size
    have HCL : Hid (∀ j u, (CtV (k, NN, MM))[j]? = some u → ((w2.alloc (.cells #[.string k, .int .i64 NN, .int .i64 MM] 56)).drew).cell? (Addr.add ⟨w2.heap.size, 0, none⟩ j) = some u) := by
      intro j u hu
      rw [add_plain, Nat.zero_add]
      exact boxed0 w2 _ _ _ j _ (by simpa [CtV] using hu)
    have HRA := Lib.hid (HR2.out.row.keep HAL.out)
    have HP3 := Lib.hid (HPB.out.keep HAL.out HPB.out.lt)
    generalize (w2.alloc (.cells #[.string k, .int .i64 NN, .int .i64 MM] 56)).drew = w3 at *
    clear q0 q1 q2 q3
    refine wpSch_make rfl (fun K' hK => ?_)
    refine step_ct_push rfl (.tmp 46) (.tmp 48) rfl 0 (.slice a2 n2 c2) L2 (by simp [Act.eval]) HRA.out ⟨w2.heap.size, 0, none⟩ 1 (k, NN, MM) (by simp [Act.eval]) HCL.out HL2.out (Nat.zero_le _) ?_
    intro v5 w5 hp5 hg5 ho5
    have HB5 := (HR2.out.box.keep HAL.out HR2.out.box.lt).of (hg5.block b (Nat.lt_of_lt_of_le HR2.out.box.lt HSZ.out) (fun e => HR2.out.ne e.symm))
    have HC5 : Hid (Chg F w w5) := HC2.out.then (S' := (Value.slice a2 n2 c2).ownBlock.toList) ((Chg.of HAL.out (Nat.le_refl _)).trans (Chg.grown hg5 (fun i hi => by simp [hi]))) (fun i hi => HOW2.out i (by simpa using hi))
    obtain ⟨xa, xn, xc, hxf⟩ : ∃ a n c, v5 = .slice a n c := by
      rcases hp5.form with ⟨rfl, _⟩ | ⟨g, cap, rfl, _⟩ <;> exact ⟨_, _, _, rfl⟩
    subst hxf
    have HX5 := Lib.hid HB5
    have HP5 := Lib.hid hp5
    have HO5 : Hid (∀ i, (Value.slice xa xn xc).ownBlock = some i → i ≠ b ∧ (i ∈ F ∨ w.heap.size ≤ i)) := by
      intro i hi
      rcases ho5 with h | h
      · rw [h] at hi
        exact ⟨fun e => HR2.out.ne (by rw [hi, e]), HOW2.out i hi⟩
      · rw [h] at hi
        simp only [Option.some.injEq] at hi
        have := HR2.out.box.lt
        have := HSZ.out
        have := HC2.out.size
        exact ⟨by omega, .inr (by omega)⟩
    have HPC : Hid (∀ W, w3.grownBy W (Value.slice a2 n2 c2).ownBlock → Box W P 56 #[.string k, .int .i64 NN, .int .i64 MM]) := fun W hg => HP3.out.of (hg.block P HP3.out.lt (fun e => HPN.out e.symm))
    have hpc := HPC.out w5 hg5
    have q0 := (HR2.out.box.keep HAL.out HR2.out.box.lt).of (hg5.block b (Nat.lt_of_lt_of_le HR2.out.box.lt HSZ.out) (fun e => HR2.out.ne e.symm)) |>.cell 0 _ rfl
    have f0 := HX5.out.free 0
    refine hK _ _ (fun W => W.cell? ⟨b, 0, none⟩ = some (.slice a2 n2 c2) ∧ W.cell? ⟨P, 0, none⟩ = some (.string k) ∧ W.cell? ⟨P, 1, none⟩ = some (.int .i64 NN) ∧ W.cell? ⟨P, 2, none⟩ = some (.int .i64 MM)) (fun _ h => h) ⟨q0, ?p1, ?p2, ?p3⟩ ?_
    case p1 => exact hpc.cell 0 _ rfl
    case p2 => exact hpc.cell 1 _ rfl
    case p3 => exact hpc.cell 2 _ rfl
    clear hK K' hp5 hg5 ho5 HB5 hpc q0
    refine wpSch_nil ?_
    have q0 := HX5.out.cell 0 _ rfl
    go_wp2
    go_end0
    have HE : touchM l k now = L2 ++ [(k, NN, MM)] := by unfold touchM; rw [HV.out, HL2E.out]
    rw [HE]
    refine ⟨rfl, b :: (Value.slice xa xn xc).ownBlock.toList, ⟨.slice xa xn xc, ⟨HX5.out.set 0 _, HP5.out.chg (S := [b]) ((Chg.refl _ _).set b 0 _ (.inl (by simp))) (fun i hi => by simpa using (HO5.out i hi).1), fun e => (HO5.out b e).1 rfl⟩, rfl⟩, HC5.out.set b 0 _ (.inl HBF.out), ?_⟩
    intro i hi
    rcases List.mem_cons.1 hi with rfl | hi
    · exact .inl HBF.out
    · exact (HO5.out i (by simpa using hi)).2
end Go.Proofs.Ytgdlnifncmiebaa
