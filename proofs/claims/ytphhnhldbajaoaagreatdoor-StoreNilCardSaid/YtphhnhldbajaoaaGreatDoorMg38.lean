/-
  Texts put together: StP, BlkI, BlkJ.
-/
import Derived.Test.YtphhnhldbajaoaaGreatDoorMg37
import Derived.Test.YtphhnhldbajaoaaGreatDoorMg19
import Derived.Test.YtphhnhldbajaoaaGreatDoorMg10
import Derived.Laws.ResultCell
import Derived.Deep.QuietTactic
import Derived.BigQuiet
namespace Go.Proofs.YtphhnhldbajaoaaGreatDoor
open Go Go.RowKit Go.ChangeShapes Go.WideShapes Go.ChangeAt

theorem own_loc {B : Nat} {l : List (List Nat → World → Prop)} {w w' : World} {a : Option Addr} {q : List (Int × Int)} (hl : AllF l) (h : Own B l w) (hb : Below w.heap.size w w') (hf : FrS w.heap.size a q w') : Own B (LocP a q :: l) w' := by
  by_cases hq : q = []
  · exact h.more hl hb (H := []) (.inl ⟨hq, rfl⟩) (fun _ h => by cases h)
  · obtain ⟨b, off, e, hlt, hc⟩ := hf.1 hq
    exact h.more hl hb (H := [b]) (.inr ⟨b, off, e, rfl, hlt, hc⟩) (fun k hk => by rw [List.mem_singleton] at hk; rw [hk]; exact hf.2 b off e)
theorem loc_sl {a : Option Addr} {q : List (Int × Int)} {G : List Nat} {w : World} (h : LocP a q G w) : SlP w a q := by
  intro hne
  rcases h with ⟨h, _⟩ | ⟨b, off, e, _, hlt, hc⟩
  · exact absurd h hne
  · exact ⟨b, off, e, hlt, hc⟩
theorem dec_ok {s : ByteArray} (h : (decP s).2 = 0) : s.size ≤ 64 ∧ (decP s).1.locs.length ≤ 2 := by
  unfold decP at h ⊢
  split at h
  · cases h
  · split at h
    · cases h
    · next h1 h2 =>
      split at h
      · next h3 => exact absurd h h3
      · next h3 =>
        rw [if_neg h1, if_neg h2, if_neg h3]
        split at h
        · cases h
        · next h4 =>
          rw [if_neg h4]
          refine ⟨?_, by show ((List.range (valN s 0 1)).map (locAt s)).length ≤ 2; rw [List.length_map, List.length_range]; omega⟩
          have h5 : posEnd s (41 + 3 * valN s 0 1) = 0 := by simpa using h3
          have h6 : valN s 0 1 ≤ 2 := by omega
          unfold posEnd at h5
          split at h5 <;> (try split at h5) <;> (first | omega | cases h5)
section
variable {B : Nat} {l : List (List Nat → World → Prop)} {s : Nat} {p : StP} {σ : StD} {w : World}
set_option maxRecDepth 100000 in
theorem sget_nil (ref : ByteArray) (w : World) : Calls Tryz.prog 14 #[.pointer none, .string ref] w fun e w' => e = .returned (.tuple #[.string ⟨#[]⟩, .int .i64 1]) ∧ w = w' := by
  go_enter Tryz.func14, Tryz.ntmps14
  go_wp2_with fail
  refine (smade_nil _).mono ?_
  rintro e w1 ⟨rfl, rfl⟩
  go_wp2
  go_ret2
  exact ⟨rfl, rfl⟩
/-- Ahead of the k-th way. -/
def GetJ (few B s : Nat) (p : StP) (l : List (List Nat → World → Prop)) (ref : ByteArray) (q : PtrD) (pb : Nat) (pa : Option Addr) (pc : Nat) (R : (ByteArray × Int) × StD) (w : World) (k : Nat) (W : World) : Prop :=
  ∃ τ, Own B (stL s p τ ++ LocP pa q.locs :: BoxP pb 37 #[.slice pa q.locs.length pc, .int .i64 q.len, .int .i64 q.birth, .string q.sum] :: l) W ∧ Below B w W ∧ WfS few τ ∧ goS ref q (3 - k) k τ = R
set_option maxRecDepth 100000 in
set_option maxHeartbeats 8000000 in
theorem sget_any {few : Nat} (hl : AllF l) (h : Own B (stL s p σ ++ l) w) (hw : WfS few σ) (hfew : few ≤ 8000) (hK : Kt w) (hB : 0 < B) (ref : ByteArray) (hr : ref.size ≤ 140737488351232) :
    Calls Tryz.prog 14 #[.pointer (some ⟨s, 0, none⟩), .string ref] w fun e w' => e = .returned (.tuple #[.string (getS σ ref).1.1, .int .i64 (getS σ ref).1.2]) ∧ Own B (stL s p (getS σ ref).2 ++ l) w' ∧ Below B w w' := by
  have HL := Lib.hid hl
  have HO := Lib.hid h
  have HWF := Lib.hid hw
  have HFE := Lib.hid hfew
  have HK := Lib.hid hK
  have HBP := Lib.hid hB
  have HM := Lib.hid (smade_any s _ w (sto_box h))
  have HDC := Lib.hid (decodeF_any ref w hr)
  obtain ⟨q, hq⟩ : ∃ x, x = (decP ref).1 := ⟨_, rfl⟩
  obtain ⟨er, her⟩ : ∃ x, x = (decP ref).2 := ⟨_, rfl⟩
  have HOK : Hid (er = 0 → ref.size ≤ 64 ∧ q.locs.length ≤ 2) := fun e => by rw [her] at e; rw [hq]; exact dec_ok e
  obtain ⟨R, hR⟩ : ∃ R, R = getS σ ref := ⟨_, rfl⟩
  have HR1 : Hid (¬ er = 0 → R = ((⟨#[]⟩, 3), σ)) := fun e => by rw [hR]; unfold getS; rw [← her]; exact if_pos e
  have HR2 : Hid (er = 0 → R = goS ref q 3 0 σ) := fun e => by rw [hR, hq]; unfold getS; rw [← her]; exact if_neg (fun h => h e)
  rw [← hq, ← her] at HDC
  rw [← hR]
  clear h hl hw hfew hK hB hr hq her hR
  go_enter Tryz.func14, Tryz.ntmps14
  go_wp2_with fail
  refine HM.out.mono ?_
  rintro e w1 ⟨rfl, rfl⟩
  go_wp2_with fail
  refine HDC.out.mono ?_
  rintro e w1 ⟨pa, pc, rfl, hs1, hb1⟩
  have HL1 : Hid (AllF (LocP pa q.locs :: l)) := .cons (fixed_loc _ _) HL.out
  have HO1 : Hid (Own B (stL s p σ ++ LocP pa q.locs :: l) w1) := (own_loc (sto_all HL.out) HO.out hb1 hs1).back (stL s p σ)
  have HB1 := Lib.hid (hb1.mono HO.out.size)
  clear hs1 hb1 HM HDC
  by_cases he : er = 0
  · have hne : (er != 0) = false := by simp [he]
    have HZ := Lib.hid (HOK.out he)
    have HRR := Lib.hid (HR2.out he)
    clear HOK HR1 HR2
    obtain ⟨pb, hpb⟩ : ∃ pb, pb = w1.heap.size := ⟨_, rfl⟩
    obtain ⟨w2, hw2⟩ : ∃ w2, w2 = w1.alloc (.cells #[.slice pa q.locs.length pc, .int .i64 q.len, .int .i64 q.birth, .string q.sum] 37 (0, 0)) := ⟨_, rfl⟩
    have HL2 : Hid (AllF (LocP pa q.locs :: BoxP pb 37 #[.slice pa q.locs.length pc, .int .i64 q.len, .int .i64 q.birth, .string q.sum] :: l)) := .cons (fixed_loc _ _) (.cons (fixed_box _ _ _) HL.out)
    have HO2 : Hid (Own B (stL s p σ ++ LocP pa q.locs :: BoxP pb 37 #[.slice pa q.locs.length pc, .int .i64 q.len, .int .i64 q.birth, .string q.sum] :: l) w2) := by
      show Own _ _ _
      rw [hw2, hpb]
      exact (HO1.out.alloc (sto_all HL1.out) _ _).perm ((List.perm_middle (l₁ := stL s p σ ++ [LocP pa q.locs])).symm.trans (by simp))
    have HB2 : Hid (Below B w w2) := by show Below _ _ _; rw [hw2]; exact HB1.out.trans (((Below.refl _ _).alloc (Nat.le_refl _) _).mono HO1.out.size)
    have hpb2 := hpb.symm
    have hw22 := hw2.symm
    clear hpb hw2 HO1 HB1 HL1 HO
    unfold ptrV
    go_wp2_with fail
    try rw [hw22, hpb2]
    clear hw22 hpb2
    refine (stries_any s w2).mono ?_
    rintro e w3 ⟨rfl, hb3⟩
    have HI0 : Hid (GetJ few B s p l ref q pb pa pc R w 0 w3) := ⟨σ, HO2.out.keep (sto_all HL2.out) hb3, HB2.out.trans (hb3.mono HO2.out.size), HWF.out, HRR.out.symm⟩
    clear hb3 HO2 HB2 HRR HWF
    unfold tryV
    go_wp2_with fail
    go_loopw [24] (fun iv wr => ∃ k : Nat, k ≤ 3 ∧ iv = .int .i64 k ∧ Hid (GetJ few B s p l ref q pb pa pc R w k wr)) (fun iv _ => ((3 : Int) - RowKit.intOf iv).toNat)
    case atStart => exact ⟨0, by omega, rfl, HI0⟩
    case round =>
      clear HI0
      obtain ⟨k, hk, rfl, HI⟩ := hrel
      obtain ⟨τ, ho, hb, hwf, hgo⟩ := HI.out
      clear HI
      have HOT := Lib.hid ho
      have HBT := Lib.hid hb
      have HWT := Lib.hid hwf
      have HGO := Lib.hid hgo
      have bp := ((ho.pick (stL s p τ ++ [LocP pa q.locs])).boxed)
      have k0 : wr.cell? ⟨pb, 0, none⟩ = some (.slice pa q.locs.length pc) := bp.cell 0 _ rfl
      have k1 : wr.cell? ⟨pb, 1, none⟩ = some (.int .i64 q.len) := bp.cell 1 _ rfl
      have k2 : wr.cell? ⟨pb, 2, none⟩ = some (.int .i64 q.birth) := bp.cell 2 _ rfl
      have k3 : wr.cell? ⟨pb, 3, none⟩ = some (.string q.sum) := bp.cell 3 _ rfl
      have HSL : Hid (SlP wr pa q.locs) := by
        obtain ⟨F, h9, _⟩ := (ho.pick (stL s p τ)).fst
        exact loc_sl h9
      clear ho hb hwf hgo bp
      rcases (show k = 0 ∨ k = 1 ∨ k = 2 ∨ k = 3 by omega) with rfl | rfl | rfl | rfl
      · have HC : Hid (Calls Tryz.prog 84 #[.pointer (some ⟨s, 0, none⟩), .string ref, ptrV pa pc q] wr fun e w' => e = .returned (.tuple #[.string (triesS τ ref q 0).1.1, .bool (triesS τ ref q 0).1.2]) ∧ Own B (stL s p (triesS τ ref q 0).2 ++ LocP pa q.locs :: BoxP pb 37 #[.slice pa q.locs.length pc, .int .i64 q.len, .int .i64 q.birth, .string q.sum] :: l) w' ∧ Below B wr w') := srecall_own HL2.out HOT.out ref (Nat.le_trans HZ.out.1 (by decide)) pa pc q
        have HWV := Lib.hid (wf_tries HWT.out ref q 0)
        have HG1 : Hid ((triesS τ ref q 0).1.2 = true → R = (((triesS τ ref q 0).1.1, 0), keepS (hitS (triesS τ ref q 0).2 0) ref (triesS τ ref q 0).1.1)) := fun e => by rw [← HGO.out]; show goS ref q (2 + 1) 0 τ = _; unfold goS; rw [if_pos e]
        have HG2 : Hid ((triesS τ ref q 0).1.2 = false → goS ref q 2 1 (triesS τ ref q 0).2 = R) := fun e => by rw [← HGO.out]; show _ = goS ref q (2 + 1) 0 τ; conv => rhs; unfold goS; rw [if_neg (by rw [e]; simp)]
        obtain ⟨⟨⟨tx, is⟩, υ⟩, hv⟩ : ∃ x, x = triesS τ ref q 0 := ⟨_, rfl⟩
        rw [← hv] at HC HWV HG1 HG2
        clear hv HOT HWT HGO HSL
        unfold ptrV at HC
        have hix : (Instr.index 83 (.agg #[.func (.func 84) #[.pointer (some ⟨s, 0, none⟩)] #[], .func (.func 85) #[.pointer (some ⟨s, 0, none⟩)] #[], .func (.func 86) #[.pointer (some ⟨s, 0, none⟩)] #[]]) (.int .i64 0)).run Tryz.prog wr = .ok (.func (.func 84) #[.pointer (some ⟨s, 0, none⟩)] #[]) wr := by kernel_rfl
        go_wp2_with fail
        refine HC.out.mono ?_
        rintro e w4 ⟨rfl, ho4, hb4⟩
        have HO4 := Lib.hid ho4
        have HB4 := Lib.hid (HBT.out.trans hb4)
        clear ho4 hb4 k0 k1 k2 k3 HBT HC
        cases is
        · have HN2 : Hid (GetJ few B s p l ref q pb pa pc R w 1 w4) := ⟨υ, HO4.out, HB4.out, HWV.out, HG2.out rfl⟩
          clear HG1 HG2 HO4 HB4 HWV
          go_wp2_with fail
          go_roundw
          case rel => exact ⟨1, by omega, by go_num, HN2⟩
          case measure => simp [RowKit.intOf]
        · have HRE := Lib.hid (HG1.out rfl)
          have HH := HWV.out.hits
          have HHB : Hid (0 ≤ υ.h0 ∧ υ.h0 ≤ 8000) := by have := HFE.out; exact ⟨by omega, by omega⟩
          have hu : wrap64 (υ.h0 + 1) = υ.h0 + 1 := IntWalk.wrap64_in _ (by have := HHB.out; omega)
          have hi : IntKind.i64.wrap (υ.h0 + 1) = υ.h0 + 1 := IntWalk.i64_in _ (by have := HHB.out; constructor <;> omega)
          clear HG1 HG2 HH
          have HOD := Lib.hid (HO4.out.drew (sto_all HL2.out))
          have HBD := Lib.hid (HB4.out.drew)
          have c0 : w4.drew.cell? ⟨s, 12, none⟩ = some (.int .i64 υ.h0) := (sto_box HOD.out).cell 12 _ rfl
          have f0 := (sto_box HOD.out).free 12
          have HS5 := Lib.hid ((HOD.out).set (AllF.tail (P := BoxP s 93 (stV p υ).cells) (sto_all (s := s) (p := p) (σ := υ) HL2.out)) 12 (.int .i64 (υ.h0 + 1)))
          have HO5 : Hid (Own B (stL s p (hitS υ 0) ++ LocP pa q.locs :: BoxP pb 37 #[.slice pa q.locs.length pc, .int .i64 q.len, .int .i64 q.birth, .string q.sum] :: l) (w4.drew.setCell ⟨s, 12, none⟩ (.int .i64 (υ.h0 + 1)))) := HS5.out.1
          have HB5 := Lib.hid (HBD.out.trans HS5.out.2)
          have HKP := Lib.hid (skeep_any HL2.out HO5.out (wf_hit HWV.out 0) (by have := HFE.out; omega) (HK.out.below HB5.out HBP.out) HBP.out ref tx HZ.out.1)
          clear HO4 HB4 HS5 HO5 HHB
          go_wp2_with fail
          refine wp_region_tree (fun W => W.cell? ⟨s, 12, none⟩ = some (.int .i64 υ.h0)) 9 (.quiet 0 (.quiet 1 (.quiet 2 (.quiet 3 (.quiet 4 (.quiet 5 (.quiet 6 (.quiet 7 (.quiet 8 .nil))))))))) (by kernel_rfl) (by kernel_rfl) c0 ?_
          simp only [List.drop_succ_cons, List.drop_zero]
          iterate 9 (apply wpTr_step rfl; (intro W y0 K hK; go_simp; exact hK _ rfl))
          refine wpTr_nil ?_
          go_wp2_with fail
          refine HKP.out.mono ?_
          rintro e w6 ⟨rfl, ho6, hb6⟩
          have HO6 := Lib.hid (((ho6.pick (stL s p (keepS (hitS υ 0) ref tx))).weak.pick (stL s p (keepS (hitS υ 0) ref tx))).weak)
          have HB6 := Lib.hid (HB5.out.trans hb6)
          clear ho6 hb6 HKP HB5 c0 f0
          go_wp2
          go_ret2
          rw [HRE.out]
          exact ⟨rfl, HO6.out, HB6.out⟩
      · have HC : Hid (Calls Tryz.prog 85 #[.pointer (some ⟨s, 0, none⟩), .string ref, ptrV pa pc q] wr fun e w' => e = .returned (.tuple #[.string (triesS τ ref q 1).1.1, .bool (triesS τ ref q 1).1.2]) ∧ Own B (stL s p (triesS τ ref q 1).2 ++ LocP pa q.locs :: BoxP pb 37 #[.slice pa q.locs.length pc, .int .i64 q.len, .int .i64 q.birth, .string q.sum] :: l) w' ∧ Below B wr w') := sfind_own HL2.out HOT.out HWT.out (HK.out.below HBT.out HBP.out) HBP.out ref pa pc q
        have HWV := Lib.hid (wf_tries HWT.out ref q 1)
        have HG1 : Hid ((triesS τ ref q 1).1.2 = true → R = (((triesS τ ref q 1).1.1, 0), keepS (hitS (triesS τ ref q 1).2 1) ref (triesS τ ref q 1).1.1)) := fun e => by rw [← HGO.out]; show goS ref q (1 + 1) 1 τ = _; unfold goS; rw [if_pos e]
        have HG2 : Hid ((triesS τ ref q 1).1.2 = false → goS ref q 1 2 (triesS τ ref q 1).2 = R) := fun e => by rw [← HGO.out]; show _ = goS ref q (1 + 1) 1 τ; conv => rhs; unfold goS; rw [if_neg (by rw [e]; simp)]
        obtain ⟨⟨⟨tx, is⟩, υ⟩, hv⟩ : ∃ x, x = triesS τ ref q 1 := ⟨_, rfl⟩
        rw [← hv] at HC HWV HG1 HG2
        clear hv HOT HWT HGO HSL
        unfold ptrV at HC
        have hix : (Instr.index 83 (.agg #[.func (.func 84) #[.pointer (some ⟨s, 0, none⟩)] #[], .func (.func 85) #[.pointer (some ⟨s, 0, none⟩)] #[], .func (.func 86) #[.pointer (some ⟨s, 0, none⟩)] #[]]) (.int .i64 1)).run Tryz.prog wr = .ok (.func (.func 85) #[.pointer (some ⟨s, 0, none⟩)] #[]) wr := by kernel_rfl
        go_wp2_with fail
        refine HC.out.mono ?_
        rintro e w4 ⟨rfl, ho4, hb4⟩
        have HO4 := Lib.hid ho4
        have HB4 := Lib.hid (HBT.out.trans hb4)
        clear ho4 hb4 k0 k1 k2 k3 HBT HC
        cases is
        · have HN2 : Hid (GetJ few B s p l ref q pb pa pc R w 2 w4) := ⟨υ, HO4.out, HB4.out, HWV.out, HG2.out rfl⟩
          clear HG1 HG2 HO4 HB4 HWV
          go_wp2_with fail
          go_roundw
          case rel => exact ⟨2, by omega, by go_num, HN2⟩
          case measure => simp [RowKit.intOf]
        · have HRE := Lib.hid (HG1.out rfl)
          have HH := HWV.out.hits
          have HHB : Hid (0 ≤ υ.h1 ∧ υ.h1 ≤ 8000) := by have := HFE.out; exact ⟨by omega, by omega⟩
          have hu : wrap64 (υ.h1 + 1) = υ.h1 + 1 := IntWalk.wrap64_in _ (by have := HHB.out; omega)
          have hi : IntKind.i64.wrap (υ.h1 + 1) = υ.h1 + 1 := IntWalk.i64_in _ (by have := HHB.out; constructor <;> omega)
          clear HG1 HG2 HH
          have HOD := Lib.hid (HO4.out.drew (sto_all HL2.out))
          have HBD := Lib.hid (HB4.out.drew)
          have c0 : w4.drew.cell? ⟨s, 13, none⟩ = some (.int .i64 υ.h1) := (sto_box HOD.out).cell 13 _ rfl
          have f0 := (sto_box HOD.out).free 13
          have HS5 := Lib.hid ((HOD.out).set (AllF.tail (P := BoxP s 93 (stV p υ).cells) (sto_all (s := s) (p := p) (σ := υ) HL2.out)) 13 (.int .i64 (υ.h1 + 1)))
          have HO5 : Hid (Own B (stL s p (hitS υ 1) ++ LocP pa q.locs :: BoxP pb 37 #[.slice pa q.locs.length pc, .int .i64 q.len, .int .i64 q.birth, .string q.sum] :: l) (w4.drew.setCell ⟨s, 13, none⟩ (.int .i64 (υ.h1 + 1)))) := HS5.out.1
          have HB5 := Lib.hid (HBD.out.trans HS5.out.2)
          have HKP := Lib.hid (skeep_any HL2.out HO5.out (wf_hit HWV.out 1) (by have := HFE.out; omega) (HK.out.below HB5.out HBP.out) HBP.out ref tx HZ.out.1)
          clear HO4 HB4 HS5 HO5 HHB
          go_wp2_with fail
          refine wp_region_tree (fun W => W.cell? ⟨s, 13, none⟩ = some (.int .i64 υ.h1)) 9 (.quiet 0 (.quiet 1 (.quiet 2 (.quiet 3 (.quiet 4 (.quiet 5 (.quiet 6 (.quiet 7 (.quiet 8 .nil))))))))) (by kernel_rfl) (by kernel_rfl) c0 ?_
          simp only [List.drop_succ_cons, List.drop_zero]
          iterate 9 (apply wpTr_step rfl; (intro W y0 K hK; go_simp; exact hK _ rfl))
          refine wpTr_nil ?_
          go_wp2_with fail
          refine HKP.out.mono ?_
          rintro e w6 ⟨rfl, ho6, hb6⟩
          have HO6 := Lib.hid (((ho6.pick (stL s p (keepS (hitS υ 1) ref tx))).weak.pick (stL s p (keepS (hitS υ 1) ref tx))).weak)
          have HB6 := Lib.hid (HB5.out.trans hb6)
          clear ho6 hb6 HKP HB5 c0 f0
          go_wp2
          go_ret2
          rw [HRE.out]
          exact ⟨rfl, HO6.out, HB6.out⟩
      · have HC : Hid (Calls Tryz.prog 86 #[.pointer (some ⟨s, 0, none⟩), .string ref, ptrV pa pc q] wr fun e w' => e = .returned (.tuple #[.string (triesS τ ref q 2).1.1, .bool (triesS τ ref q 2).1.2]) ∧ Own B (stL s p (triesS τ ref q 2).2 ++ LocP pa q.locs :: BoxP pb 37 #[.slice pa q.locs.length pc, .int .i64 q.len, .int .i64 q.birth, .string q.sum] :: l) w' ∧ Below B wr w') := sread_own HL2.out HOT.out HWT.out (HK.out.below HBT.out HBP.out) HBP.out ref pa pc q (Nat.le_trans HZ.out.2 (by decide)) HSL.out
        have HWV := Lib.hid (wf_tries HWT.out ref q 2)
        have HG1 : Hid ((triesS τ ref q 2).1.2 = true → R = (((triesS τ ref q 2).1.1, 0), keepS (hitS (triesS τ ref q 2).2 2) ref (triesS τ ref q 2).1.1)) := fun e => by rw [← HGO.out]; show goS ref q (0 + 1) 2 τ = _; unfold goS; rw [if_pos e]
        have HG2 : Hid ((triesS τ ref q 2).1.2 = false → goS ref q 0 3 (triesS τ ref q 2).2 = R) := fun e => by rw [← HGO.out]; show _ = goS ref q (0 + 1) 2 τ; conv => rhs; unfold goS; rw [if_neg (by rw [e]; simp)]
        obtain ⟨⟨⟨tx, is⟩, υ⟩, hv⟩ : ∃ x, x = triesS τ ref q 2 := ⟨_, rfl⟩
        rw [← hv] at HC HWV HG1 HG2
        clear hv HOT HWT HGO HSL
        unfold ptrV at HC
        have hix : (Instr.index 83 (.agg #[.func (.func 84) #[.pointer (some ⟨s, 0, none⟩)] #[], .func (.func 85) #[.pointer (some ⟨s, 0, none⟩)] #[], .func (.func 86) #[.pointer (some ⟨s, 0, none⟩)] #[]]) (.int .i64 2)).run Tryz.prog wr = .ok (.func (.func 86) #[.pointer (some ⟨s, 0, none⟩)] #[]) wr := by kernel_rfl
        go_wp2_with fail
        refine HC.out.mono ?_
        rintro e w4 ⟨rfl, ho4, hb4⟩
        have HO4 := Lib.hid ho4
        have HB4 := Lib.hid (HBT.out.trans hb4)
        clear ho4 hb4 k0 k1 k2 k3 HBT HC
        cases is
        · have HN2 : Hid (GetJ few B s p l ref q pb pa pc R w 3 w4) := ⟨υ, HO4.out, HB4.out, HWV.out, HG2.out rfl⟩
          clear HG1 HG2 HO4 HB4 HWV
          go_wp2_with fail
          go_roundw
          case rel => exact ⟨3, by omega, by go_num, HN2⟩
          case measure => simp [RowKit.intOf]
        · have HRE := Lib.hid (HG1.out rfl)
          have HH := HWV.out.hits
          have HHB : Hid (0 ≤ υ.h2 ∧ υ.h2 ≤ 8000) := by have := HFE.out; exact ⟨by omega, by omega⟩
          have hu : wrap64 (υ.h2 + 1) = υ.h2 + 1 := IntWalk.wrap64_in _ (by have := HHB.out; omega)
          have hi : IntKind.i64.wrap (υ.h2 + 1) = υ.h2 + 1 := IntWalk.i64_in _ (by have := HHB.out; constructor <;> omega)
          clear HG1 HG2 HH
          have HOD := Lib.hid (HO4.out.drew (sto_all HL2.out))
          have HBD := Lib.hid (HB4.out.drew)
          have c0 : w4.drew.cell? ⟨s, 14, none⟩ = some (.int .i64 υ.h2) := (sto_box HOD.out).cell 14 _ rfl
          have f0 := (sto_box HOD.out).free 14
          have HS5 := Lib.hid ((HOD.out).set (AllF.tail (P := BoxP s 93 (stV p υ).cells) (sto_all (s := s) (p := p) (σ := υ) HL2.out)) 14 (.int .i64 (υ.h2 + 1)))
          have HO5 : Hid (Own B (stL s p (hitS υ 2) ++ LocP pa q.locs :: BoxP pb 37 #[.slice pa q.locs.length pc, .int .i64 q.len, .int .i64 q.birth, .string q.sum] :: l) (w4.drew.setCell ⟨s, 14, none⟩ (.int .i64 (υ.h2 + 1)))) := HS5.out.1
          have HB5 := Lib.hid (HBD.out.trans HS5.out.2)
          have HKP := Lib.hid (skeep_any HL2.out HO5.out (wf_hit HWV.out 2) (by have := HFE.out; omega) (HK.out.below HB5.out HBP.out) HBP.out ref tx HZ.out.1)
          clear HO4 HB4 HS5 HO5 HHB
          go_wp2_with fail
          refine wp_region_tree (fun W => W.cell? ⟨s, 14, none⟩ = some (.int .i64 υ.h2)) 9 (.quiet 0 (.quiet 1 (.quiet 2 (.quiet 3 (.quiet 4 (.quiet 5 (.quiet 6 (.quiet 7 (.quiet 8 .nil))))))))) (by kernel_rfl) (by kernel_rfl) c0 ?_
          simp only [List.drop_succ_cons, List.drop_zero]
          iterate 9 (apply wpTr_step rfl; (intro W y0 K hK; go_simp; exact hK _ rfl))
          refine wpTr_nil ?_
          go_wp2_with fail
          refine HKP.out.mono ?_
          rintro e w6 ⟨rfl, ho6, hb6⟩
          have HO6 := Lib.hid (((ho6.pick (stL s p (keepS (hitS υ 2) ref tx))).weak.pick (stL s p (keepS (hitS υ 2) ref tx))).weak)
          have HB6 := Lib.hid (HB5.out.trans hb6)
          clear ho6 hb6 HKP HB5 c0 f0
          go_wp2
          go_ret2
          rw [HRE.out]
          exact ⟨rfl, HO6.out, HB6.out⟩
      · have HE : Hid (R = ((⟨#[]⟩, 7), τ)) := HGO.out.symm
        have HO9 := Lib.hid (((HOT.out.pick (stL s p τ)).weak.pick (stL s p τ)).weak)
        clear HGO HWT HSL HOT k0 k1 k2 k3
        go_wp2
        go_ret2
        rw [HE.out]
        exact ⟨rfl, HO9.out, HBT.out⟩
  · have hne : (er != 0) = true := by simpa using he
    have HRR := Lib.hid (HR1.out he)
    obtain ⟨w2, hw2⟩ : ∃ w2, w2 = w1.alloc (.cells #[.slice pa q.locs.length pc, .int .i64 q.len, .int .i64 q.birth, .string q.sum] 37 (0, 0)) := ⟨_, rfl⟩
    have hba : Below w1.heap.size w1 w2 := by rw [hw2]; exact (Below.refl _ _).alloc (Nat.le_refl _) _
    have HO2 := Lib.hid ((HO1.out.keep (sto_all HL1.out) hba).pick (stL s p σ)).weak
    have HB2 := Lib.hid (HB1.out.trans (hba.mono HO1.out.size))
    rw [hw2] at HO2 HB2
    clear HOK HR1 HR2 hw2 hba he
    unfold ptrV
    go_wp2
    go_ret2
    rw [HRR.out]
    exact ⟨rfl, HO2.out, HB2.out⟩
end
end Go.Proofs.YtphhnhldbajaoaaGreatDoor

namespace Go.Proofs.YtphhnhldbajaoaaGreatDoor
open Go.RowKit Go.ChangeShapes Go.WideShapes Go.ChangeAt

theorem sizePtrB : (Tryz.prog.info? 37).map (·.size) = some 4 := by kernel_rfl
theorem results_cell_row_tmp2 {P : Program} {fn : Func} {p u : Tmp} {ty : TypeId} (h : fn.results = #[.cell p ty, .tmp u]) (tmps : Array Value) (w : World) (g : Nat) (t : TypeId) (cs : Array Value) (fr : Nat × Nat) (d : TypeDesc)
    (hp : tmps.getD p undef = .pointer (some ⟨g, 0, none⟩)) (hg : w.heap[g]? = some (.cells cs t fr))
    (hu : P.underlying ty = some d) (hd : (match d with | .struct _ | .array _ _ => true | _ => false) = true) (hi : (P.info? ty).map (·.size) = some cs.size) :
    (results fn tmps).run P w = .ok (.tuple #[.agg cs, tmps.getD u undef]) w := by
  rw [results_cell_tmp h, hp]
  simp [asAddr, run_loadVar_row w g t ty cs fr d hg hu hd hi]
def wrP (l : List (Int × Int)) (s : ByteArray) (birth : Int) : PtrD := ⟨l, s.size, birth, sha s⟩
def farW (sz : Int → Nat) (l : Int × Int) : Bool := decide ((sz l.1 : Int) ≤ l.2)
theorem box4 {w : World} {g : Nat} {t : TypeId} {a b c d x y z u : Value} (h : Box w g t #[a, b, c, d]) : Box ((((w.setCell ⟨g, 0, none⟩ x).setCell ⟨g, 1, none⟩ y).setCell ⟨g, 2, none⟩ z).setCell ⟨g, 3, none⟩ u) g t #[x, y, z, u] := (((h.set 0 x).set 1 y).set 2 z).set 3 u
theorem chg4 {w : World} {g : Nat} {x y z u : Value} : Chg [g] w ((((w.setCell ⟨g, 0, none⟩ x).setCell ⟨g, 1, none⟩ y).setCell ⟨g, 2, none⟩ z).setCell ⟨g, 3, none⟩ u) := ((((Chg.refl [g] w).set g 0 x (.inl (by simp))).set g 1 y (.inl (by simp))).set g 2 z (.inl (by simp))).set g 3 u (.inl (by simp))
/-- What the devices say of their sizes, and of what is lost, as long as old memory stays. -/
def SzF (x : Option Addr) (sz : Int → Nat) (w : World) : Prop := ∀ W, Below w.heap.size w W → ∀ dev, Calls Tryz.prog 55 #[.pointer x, .int .i64 dev] W fun e W' => e = .returned (.int .i64 (sz dev : Nat)) ∧ W = W'
def LoF (x : Option Addr) (lo : Int → Bool) (w : World) : Prop := ∀ W, Below w.heap.size w W → ∀ dev, Calls Tryz.prog 91 #[.pointer x, .int .i64 dev] W fun e W' => e = .returned (.bool (lo dev)) ∧ W = W'
theorem one_szf {B : Nat} {P : List Nat → World → Prop} (hP : Fixed P) {b : Nat} {d : DevD} {w : World} (h : One B P b d w) : SzF (some ⟨b, 0, none⟩) (devSize d) w := fun _ hW dev => one_size (h.keep hP hW) dev
theorem one_lof {B : Nat} {P : List Nat → World → Prop} (hP : Fixed P) {b : Nat} {d : DevD} {w : World} (h : One B P b d w) : LoF (some ⟨b, 0, none⟩) (devLost d) w := fun _ hW dev => one_lost (h.keep hP hW) dev
theorem SzF.keep {x : Option Addr} {sz : Int → Nat} {w w' : World} (h : SzF x sz w) (hb : Below w.heap.size w w') : SzF x sz w' := fun W hW dev => h W (hb.trans (hW.mono hb.size)) dev
theorem LoF.keep {x : Option Addr} {lo : Int → Bool} {w w' : World} (h : LoF x lo w) (hb : Below w.heap.size w w') : LoF x lo w' := fun W hW dev => h W (hb.trans (hW.mono hb.size)) dev
theorem of_w1 {x : Option Addr} {sz : Int → Nat} {C : Nat} {w : World} (hc : w.cell? ⟨C, 0, none⟩ = some (.pointer x)) (h : SzF x sz w) : OfB 104 C (farW sz) w := fun W hW l =>
  write1_any x sz l C W ((hW.cell (p := ⟨C, 0, none⟩) (lt_of_cell hc)).trans hc) (h.keep hW)
theorem of_w2 {x : Option Addr} {lo : Int → Bool} {C : Nat} {w : World} (hc : w.cell? ⟨C, 0, none⟩ = some (.pointer x)) (h : LoF x lo w) : OfB 105 C (fun l => lo l.1) w := fun W hW l =>
  write2_any x lo l C W ((hW.cell (p := ⟨C, 0, none⟩) (lt_of_cell hc)).trans hc) (h.keep hW)

end Go.Proofs.YtphhnhldbajaoaaGreatDoor

namespace Go.Proofs.YtphhnhldbajaoaaGreatDoor
open Go.RowKit Go.ChangeShapes Go.WideShapes Go.ChangeAt

theorem One.swapR {B : Nat} {P Q R : List Nat → World → Prop} {b : Nat} {d : DevD} {w : World} (h : One B (Both (Both P Q) R) b d w) : One B (Both (Both P R) Q) b d w := by
  obtain ⟨hz, F, _, h1, ⟨_, G3, rfl, ⟨G1, G2, rfl, h2, h3, h4⟩, h5, h6⟩, h7, h8⟩ := h
  have m1 : ∀ k ∈ G1, k ∈ G1 ++ G2 ++ G3 := fun k hk => List.mem_append_left _ (List.mem_append_left _ hk)
  have m2 : ∀ k ∈ G2, k ∈ G1 ++ G2 ++ G3 := fun k hk => List.mem_append_left _ (List.mem_append_right _ hk)
  have m3 : ∀ k ∈ G3, k ∈ G1 ++ G2 ++ G3 := fun k hk => List.mem_append_right _ hk
  have mm : ∀ k ∈ G1 ++ G3 ++ G2, k ∈ G1 ++ G2 ++ G3 := fun k hk => by
    rcases List.mem_append.1 hk with hk | hk
    · rcases List.mem_append.1 hk with hk | hk
      · exact m1 k hk
      · exact m3 k hk
    · exact m2 k hk
  refine ⟨hz, F, _, h1, ⟨G1 ++ G3, G2, rfl, ⟨G1, G3, rfl, h2, h5, fun k hk => h6 k (List.mem_append_left _ hk)⟩, h3, fun k hk hm => ?_⟩, fun k hk => ⟨(h7 k hk).1, fun hm => (h7 k hk).2 (mm k hm)⟩, fun k hk => h8 k (mm k hk)⟩
  rcases List.mem_append.1 hk with hk | hk
  · exact h4 k hk hm
  · exact h6 k (List.mem_append_right _ hm) hk
def wrK (d : DevD) (locs : List (Int × Int)) (s : ByteArray) (k : Nat) : DevD := (locs.take k).foldl (fun d l => writeD d l s) d
def wrB (d : DevD) (locs : List (Int × Int)) (s : ByteArray) : DevD := locs.foldl (fun d l => writeD d l s) d
theorem wrK_succ (d : DevD) (locs : List (Int × Int)) (s : ByteArray) (k : Nat) (h : k < locs.length) : wrK d locs s (k + 1) = writeD (wrK d locs s k) locs[k] s := by
  unfold wrK
  rw [List.take_succ_eq_append_getElem h, List.foldl_append]
  rfl
theorem wrK_end (d : DevD) (locs : List (Int × Int)) (s : ByteArray) : wrK d locs s locs.length = wrB d locs s := by unfold wrK wrB; rw [List.take_length]
theorem wrK_len (d : DevD) (locs : List (Int × Int)) (s : ByteArray) : ∀ k, k ≤ locs.length → (wrK d locs s k).waits.length ≤ d.waits.length + k
  | 0, _ => Nat.le_refl _
  | k + 1, h => by
    have h1 := wrK_len d locs s k (by omega)
    rw [wrK_succ d locs s k (by omega)]
    have h3 : (writeD (wrK d locs s k) locs[k] s).waits.length ≤ (wrK d locs s k).waits.length + 1 := by
      unfold writeD
      split <;> simp
    omega

def objW (g b : Nat) (r : Array Value) : List (Nat × Obj) := [(g, .cells #[.pointer (some ⟨b, 0, none⟩)] 56 (0, 0)), (g + 1, .cells r 37 (0, 0))]

set_option maxRecDepth 100000 in
set_option maxHeartbeats 2000000 in
theorem bwrite_ok {B : Nat} {P : List Nat → World → Prop} (hP : Fixed P) {b : Nat} {d : DevD} {w : World} (h : One B P b d w) (hB : 0 < B) (a : Option Addr) (cap : Nat) (locs : List (Int × Int)) (s : ByteArray) (birth : Int) (hl : locs.length ≤ 1000) (hs : SlP w a locs) (hz : s.size ≤ 140737488355328) (hK : Kt w)
    (hbad : ¬ badP (wrP locs s birth)) (hfar : locs.any (farW (devSize d)) = false) (hgone : locs.any (fun l => devLost d l.1) = false) (hw : d.waits.length ≤ 90000) :
    Calls Tryz.prog 64 #[.pointer (some ⟨b, 0, none⟩), .slice a locs.length cap, .string s, .int .i64 birth] w fun e w' => ∃ a' c', e = .returned (.tuple #[ptrV a' c' (wrP locs s birth), .int .i64 0]) ∧ One B (Both P (LocP a' locs)) b (wrB d locs s) w' ∧ Below B w w' := by
  obtain ⟨Wa, hWa⟩ : ∃ Wa, Wa = (w.alloc (.cells #[.pointer (some ⟨b, 0, none⟩)] 56)).alloc (.cells #[.slice none 0 0, .int .i64 0, .int .i64 0, .string ⟨#[]⟩] 37) := ⟨_, rfl⟩
  have hba : Below w.heap.size w Wa := by rw [hWa]; exact ((Below.refl _ w).alloc (Nat.le_refl _) _).alloc (by rw [size_alloc]; omega) _
  have hbd : Box Wa w.heap.size 56 #[.pointer (some ⟨b, 0, none⟩)] := by rw [hWa]; exact (Box.new w _ _).alloc _
  have hbr : Box Wa (w.heap.size + 1) 37 #[.slice none 0 0, .int .i64 0, .int .i64 0, .string ⟨#[]⟩] := by
    rw [hWa]
    have := Box.new (w.alloc (.cells #[.pointer (some ⟨b, 0, none⟩)] 56)) 37 #[.slice none 0 0, .int .i64 0, .int .i64 0, .string ⟨#[]⟩]
    rwa [size_alloc] at this
  have hoa : One B (Both P (ObjP (objW w.heap.size b #[.slice none 0 0, .int .i64 0, .int .i64 0, .string ⟨#[]⟩]))) b d Wa := h.add hP hba ⟨_, ⟨rfl, fun x hx => by
    simp only [objW, List.mem_cons, List.not_mem_nil, or_false] at hx
    rcases hx with rfl | rfl
    · exact hbd
    · exact hbr⟩, fun k hk => by
    simp only [objW, List.map_cons, List.map_nil, List.mem_cons, List.not_mem_nil, or_false] at hk
    omega⟩
  have HFA := Lib.hid (fixed_both hP (fixed_obj (objW w.heap.size b #[.slice none 0 0, .int .i64 0, .int .i64 0, .string ⟨#[]⟩])))
  have HOA := Lib.hid hoa
  have HBA : Hid (Below B w Wa) := hba.mono h.1
  have HZB : Hid (B ≤ w.heap.size) := h.1
  have HS := Lib.hid (hs.keep hba)
  have HK := Lib.hid hK
  have HP := Lib.hid hB
  have HBAD := Lib.hid hbad
  have HFAR := Lib.hid hfar
  have HGN := Lib.hid hgone
  have HW := Lib.hid hw
  clear hba hbd hbr hs hK hoa hB hbad hfar hgone h hw
  go_enter Tryz.func64, Tryz.ntmps64
  go_wp2_with fail
  rw [← hWa]
  clear hWa
  refine (clone_locs a cap locs Wa HS.out hl).mono ?_
  rintro e w1 ⟨a', c', rfl, hG, hb⟩
  have HO1 := Lib.hid (HOA.out.add HFA.out hb hG)
  have HFL := Lib.hid (fixed_both HFA.out (fixed_loc a' locs))
  have HB1 := Lib.hid (HBA.out.trans (hb.mono HOA.out.1))
  clear hb hG HBA HS HOA
  go_wp2_with fail
  refine (of_any s w1 (Nat.le_trans hz (by decide)) (HK.out.below HB1.out HP.out)).mono ?_
  rintro e w2 ⟨rfl, hb⟩
  have HO2 := Lib.hid (HO1.out.keep HFL.out hb)
  have HB2 := Lib.hid (HB1.out.trans (hb.mono HO1.out.1))
  clear hb HB1 HO1
  have HWP : Hid (wrP locs s birth = ⟨locs, s.size, birth, sha s⟩) := rfl
  generalize sha s = sh at *
  have HO3 := Lib.hid (HO2.out.addBox HFL.out 37 #[.slice a' locs.length c', .int .i64 s.size, .int .i64 birth, .string sh])
  have HFP := Lib.hid (fixed_both HFL.out (fixed_box w2.heap.size 37 #[.slice a' locs.length c', .int .i64 s.size, .int .i64 birth, .string sh]))
  have HB3 := Lib.hid (HB2.out.trans (((Below.refl w2.heap.size w2).alloc (Nat.le_refl _) (.cells #[.slice a' locs.length c', .int .i64 s.size, .int .i64 birth, .string sh] 37)).mono HO2.out.1))
  clear HB2 HO2
  have k0 := HO3.out.box.cell 0 _ rfl
  have k1 := HO3.out.box.cell 1 _ rfl
  have k2 := HO3.out.box.cell 2 _ rfl
  have k3 := HO3.out.box.cell 3 _ rfl
  go_wp2_with fail
  generalize World.alloc w2 _ = w3 at *
  generalize w2.heap.size = np at *
  have hck := check_any a' c' ⟨locs, s.size, birth, sh⟩ w3 HO3.out.drop.row hl
  unfold ptrV at hck
  refine hck.mono ?_
  rintro e w4 ⟨rfl, hb⟩
  rw [show chkP ⟨locs, s.size, birth, sh⟩ = 0 from by rw [← HWP.out]; exact if_neg HBAD.out]
  have HO4 := Lib.hid (HO3.out.keep HFP.out hb)
  have HB4 := Lib.hid (HB3.out.trans (hb.mono HO3.out.1))
  clear hb hck k0 k1 k2 k3 HB3 HO3
  have hdc : ∀ W, One B (Both (Both (Both P (ObjP (objW w.heap.size b #[.slice none 0 0, .int .i64 0, .int .i64 0, .string ⟨#[]⟩]))) (LocP a' locs)) (BoxP np 37 #[.slice a' locs.length c', .int .i64 s.size, .int .i64 birth, .string sh])) b d W → W.cell? ⟨w.heap.size, 0, none⟩ = some (.pointer (some ⟨b, 0, none⟩)) := fun W hW => Box.cell (t := 56) (hW.drop.drop.obj (w.heap.size, .cells #[.pointer (some ⟨b, 0, none⟩)] 56 (0, 0)) (by simp [objW])) 0 _ rfl
  have HDC := Lib.hid hdc
  clear hdc
  have k0 := HO4.out.box.cell 0 _ rfl
  go_wp2_with fail
  refine (contains_w1 a' c' locs w.heap.size (farW (devSize d)) w4 HO4.out.drop.row hl (of_w1 (HDC.out _ HO4.out) (one_szf HFP.out HO4.out))).mono ?_
  rintro e w5 ⟨rfl, hb⟩
  rw [HFAR.out]
  have HO5 := Lib.hid (HO4.out.keep HFP.out hb)
  have HB5 := Lib.hid (HB4.out.trans (hb.mono HO4.out.1))
  clear hb k0 HO4 HB4
  have k0 := HO5.out.box.cell 0 _ rfl
  go_wp2_with fail
  refine (contains_w2 a' c' locs w.heap.size (fun l => devLost d l.1) w5 HO5.out.drop.row hl (of_w2 (HDC.out _ HO5.out) (one_lof HFP.out HO5.out))).mono ?_
  rintro e w6 ⟨rfl, hb⟩
  rw [HGN.out]
  have HO6 := Lib.hid (HO5.out.keep HFP.out hb)
  have HB6 := Lib.hid (HB5.out.trans (hb.mono HO5.out.1))
  clear hb k0 HO5 HB5 HDC
  have k0 := HO6.out.box.cell 0 _ rfl
  obtain ⟨g, hg⟩ : ∃ g, g = w.heap.size := ⟨_, rfl⟩
  rw [← hg] at HO6 HFP HFL HFA HZB ⊢
  have HG := Lib.hid hg
  clear hg
  go_wp2_with fail
  clear k0
  go_loopw [12, 39] (fun _ i wr => ∃ k : Nat, k ≤ locs.length ∧ i = .int .i64 k ∧ Hid (One B (Both (Both (Both P (ObjP (objW g b #[.slice none 0 0, .int .i64 0, .int .i64 0, .string ⟨#[]⟩]))) (LocP a' locs)) (BoxP np 37 #[.slice a' locs.length c', .int .i64 s.size, .int .i64 birth, .string sh])) b (wrK d locs s k) wr) ∧ Hid (Below B w wr)) (fun _ i _ => locs.length - (intOf i).toNat)
  case atStart => exact ⟨0, Nat.zero_le _, rfl, HO6, HB6⟩
  case round =>
    clear HO6 HB6
    obtain ⟨k, hk, rfl, HO, HL⟩ := hrel
    by_cases hlt : k < locs.length
    · obtain ⟨bb, off, rfl, hb, hc0, hc1⟩ := HO.out.drop.row.get k hlt
      have HLT := Lib.hid hlt
      have HK1 := Lib.hid (wrK_succ d locs s k hlt)
      have HKL := Lib.hid (wrK_len d locs s k hk)
      generalize wrK d locs s k = dk at *
      generalize locs[k] = lk at *
      obtain ⟨la, lb⟩ := lk
      simp only at hc0 hc1
      have hx := (Below.refl wr.heap.size wr).alloc (Nat.le_refl _) (.cells #[.int .i64 la, .int .i64 lb] 47)
      have HO1 := Lib.hid (HO.out.keep HFP.out hx)
      have HL1 := Lib.hid (HL.out.trans (hx.mono HO.out.1))
      have BX := Lib.hid (Box.new wr 47 #[.int .i64 la, .int .i64 lb])
      have x0 := BX.out.cell 0 _ rfl
      have x1 := BX.out.cell 1 _ rfl
      have x2 : (wr.alloc (.cells #[.int .i64 la, .int .i64 lb] 47)).cell? ⟨g, 0, none⟩ = some (.pointer (some ⟨b, 0, none⟩)) := Box.cell (t := 56) (HO1.out.drop.drop.obj (g, .cells #[.pointer (some ⟨b, 0, none⟩)] 56 (0, 0)) (by simp [objW])) 0 _ rfl
      have hwr := one_write HFP.out HO1.out (la, lb) s (by have := HKL.out; have := HW.out; omega)
      unfold locV at hwr
      clear hx hb HO HL
      go_wp2_with fail
      refine hwr.mono ?_
      rintro e w8 ⟨rfl, ho, hb⟩
      have HO8 := Lib.hid ho
      have HL8 := Lib.hid (HL1.out.trans hb)
      clear ho hb hwr x0 x1 x2 hc0 hc1
      go_wp2
      go_roundw
      case rel => exact ⟨k + 1, HLT.out, by go_num, by show One _ _ _ _ _; rw [HK1.out]; exact HO8.out, HL8⟩
      case measure => have := HLT.out; simp [intOf]; omega
    · obtain rfl : k = locs.length := by omega
      rw [wrK_end] at HO
      have k0 := HO.out.box.cell 0 _ rfl
      have k1 := HO.out.box.cell 1 _ rfl
      have k2 := HO.out.box.cell 2 _ rfl
      have k3 := HO.out.box.cell 3 _ rfl
      have hbr : Box wr (g + 1) 37 #[.slice none 0 0, .int .i64 0, .int .i64 0, .string ⟨#[]⟩] := HO.out.drop.drop.obj (g + 1, .cells #[.slice none 0 0, .int .i64 0, .int .i64 0, .string ⟨#[]⟩] 37 (0, 0)) (by simp [objW])
      have HBR := Lib.hid hbr
      clear hbr
      have r0 := HBR.out.cell 0 _ rfl
      have r1 := HBR.out.cell 1 _ rfl
      have r2 := HBR.out.cell 2 _ rfl
      have r3 := HBR.out.cell 3 _ rfl
      have f0 := HBR.out.free 0
      have f1 := HBR.out.free 1
      have f2 := HBR.out.free 2
      have f3 := HBR.out.free 3
      go_wp2
      refine bodyPost_ret (results_cell_row_tmp2 rfl _ _ (g + 1) 37 _ (0, 0) _ rfl (box4 HBR.out) Tryz.underlying37 rfl sizePtrB) rfl ?_
      have ht := HO.out.drop.swapR.touch (fixed_both hP (fixed_loc a' locs)) (w' := (((wr.setCell ⟨g + 1, 0, none⟩ (.slice a' locs.length c')).setCell ⟨g + 1, 1, none⟩ (.int .i64 s.size)).setCell ⟨g + 1, 2, none⟩ (.int .i64 birth)).setCell ⟨g + 1, 3, none⟩ (.string sh)) (L' := objW g b #[.slice a' locs.length c', .int .i64 s.size, .int .i64 birth, .string sh]) (g + 1) (by simp [objW]) chg4 rfl (by
        intro x hx
        simp only [objW, List.mem_cons, List.not_mem_nil, or_false] at hx
        rcases hx with rfl | rfl
        · exact (chg4.block g (by have := HBR.out.lt; omega) (by simp)).trans (HO.out.drop.drop.obj (g, .cells #[.pointer (some ⟨b, 0, none⟩)] 56 (0, 0)) (by simp [objW]))
        · exact box4 HBR.out)
      exact ⟨a', c', by rw [HWP.out]; rfl, ht.drop, HL.out.trans (chg4.below HO.out.1 (by intro k hk; rw [List.mem_singleton] at hk; have := HZB.out; omega))⟩
end Go.Proofs.YtphhnhldbajaoaaGreatDoor
