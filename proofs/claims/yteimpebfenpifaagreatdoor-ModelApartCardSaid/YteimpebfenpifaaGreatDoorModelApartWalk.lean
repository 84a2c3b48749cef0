/-
  The walk of ModelApart.
-/
import Derived.Test.YteimpebfenpifaaGreatDoorMoKept
namespace Go.Proofs.YteimpebfenpifaaGreatDoor.modelApart
open Go Go.RowKit Go.ChangeShapes Go.WideShapes Go.ChangeAt

theorem small_iff {l : List OpD} {m : Int} (h : smallB l m = true) : (∀ o ∈ l, okO o) ∧ (l.length : Int) ≤ m := of_decide_eq_true h
theorem LvS.keep {w0 : World} {b : Nat} {G : GD} {k : Nat} {K : Nat → Prop} {w w' : World} (h : LvS w0 b G k K w) (hb : Below w.heap.size w w') : LvS w0 b G k K w' := ⟨h.tk.keep hb, h.bl.trans (hb.mono h.bl.size), h.it.keep hb, h.low⟩
theorem aside_nil : Aside [] := fun h => by cases h
theorem aside_cons {c : ByteArray} {r : PathD} (h : c ≠ kpB) : Aside (c :: r) := fun e => h (Option.some.inj e)
theorem kp_list : kpB.toList = [107, 101, 112, 116] := by simp [ByteArray.toList_eq]
theorem kp_yes {c : ByteArray} (h : c = kpB) : (c.toList == [107, 101, 112, 116]) = true := by rw [h, kp_list]; rfl
theorem kp_ne {c : ByteArray} (h : c ≠ kpB) : ¬ c.toList = [107, 101, 112, 116] := fun e => h (toList_inj (e.trans kp_list.symm))
theorem kp_no {c : ByteArray} (h : c ≠ kpB) : (c.toList == [107, 101, 112, 116]) = false := by simpa using kp_ne h
theorem head_cases (L : PathD) : (L = [] ∧ Aside L) ∨ ∃ c, 0 < L.length ∧ L[0]? = some c ∧ (c = kpB ∨ (c ≠ kpB ∧ Aside L)) := by
  cases L with
  | nil => exact .inl ⟨rfl, aside_nil⟩
  | cons c r =>
    refine .inr ⟨c, by simp, rfl, ?_⟩
    by_cases h : c = kpB
    · exact .inl h
    · exact .inr ⟨h, aside_cons h⟩
set_option maxRecDepth 100000 in
set_option maxHeartbeats 8000000 in
theorem walk (w : World) (hI : It w) (x0 : Option Addr) (c0 : Nat) (l0 : List OpD) (s0 : SlE w 6 MopK x0 l0) (m0 : l0.length ≤ maxLen) :
    Calls Tryz.prog 5 #[.slice x0 l0.length c0] w fun e w' => e = .returned (.bool true) ∧ Below w.heap.size w w' := by
  have HI := Lib.hid hI
  have HS := Lib.hid s0
  have HM := Lib.hid m0
  clear hI s0 m0
  go_enter Tryz.func5, Tryz.ntmps5
  go_wp2_with fail
  refine (small_any w x0 c0 l0 30 HS.out HM.out).mono ?_
  rintro e w1 ⟨rfl, rfl⟩
  by_cases hs1 : smallB l0 30 = true
  case neg =>
    have hs1 : smallB l0 30 = false := by simpa using hs1
    rw [hs1]
    go_wp2_with fail
    refine (live_any _ HI.out).mono ?_
    rintro e wl ⟨rfl, hb⟩
    have HL := Lib.hid hb
    clear hb
    go_wp2
    go_ret
    exact ⟨rfl, HL.out⟩
  have HO := Lib.hid (small_iff hs1)
  rw [hs1]
  clear hs1
  have HNW := Lib.hid (lv_new w1 HI.out)
  go_wp2_with fail
  refine HNW.out.mono ?_
  rintro e w3 ⟨b, rfl, hs⟩
  have HLS := Lib.hid hs
  clear hs HNW
  have HD := Lib.hid (lv_ask HLS.out HI.out (by omega) ko1 (by decide))
  unfold opV opA at HD
  unfold ko1 noB at HD
  go_wp2_with fail
  refine HD.out.mono ?_
  rintro e wa1 ⟨⟨v1, rfl⟩, hs⟩
  have HLS := Lib.hid hs
  clear hs HD
  have HD := Lib.hid (lv_ask HLS.out HI.out (by omega) ko2 (by decide))
  unfold opV opA at HD
  unfold ko2 noB at HD
  go_wp2_with fail
  refine HD.out.mono ?_
  rintro e wa2 ⟨⟨v2, rfl⟩, hs⟩
  have HLS := Lib.hid hs
  clear hs HD
  have HD := Lib.hid (lv_ask HLS.out HI.out (by omega) ko3 (by decide))
  unfold opV opA at HD
  unfold ko3 noB at HD
  go_wp2_with fail
  refine HD.out.mono ?_
  rintro e wa3 ⟨⟨v3, rfl⟩, hs⟩
  have HLS := Lib.hid hs
  clear hs HD
  have HLS : Hid (LvS w1 b kg3 3 (fun j => j < w1.heap.size) wa3) := by
    have h := HLS.out
    exact kc3 ▸ h
  have HKP := Lib.hid kept_kg3
  go_wp2_with fail
  go_loopw [4] (fun i wr => ∃ j : Nat, ∃ wz : World, wz = wr ∧ j ≤ l0.length ∧ i = .int .i64 j ∧ Hid (∃ G, Kept G ∧ LvS w1 b G (j + 3) (fun j => j < w1.heap.size) wr)) (fun i _ => l0.length - (intOf i).toNat)
  case atStart => exact ⟨0, _, rfl, Nat.zero_le _, rfl, ⟨kg3, HKP.out, HLS.out⟩⟩
  case round =>
    clear HLS HKP
    rename_i hkl1
    obtain ⟨j, wr, rfl, hj, rfl, HLJ⟩ := hrel
    obtain ⟨G, hkG, hsG⟩ := HLJ.out
    have HKG := Lib.hid hkG
    have HSG := Lib.hid hsG
    clear hkG hsG HLJ
    have HLEN := Lib.hid HO.out.2
    by_cases hlt : j < l0.length
    · clear hkl1
      obtain ⟨x0b, x0o, rfl, _, q0, q1, q2, q3, q4, q5⟩ := HS.out.mop HSG.out.bl j hlt
      have HOJ : Hid (okO l0[j]) := HO.out.1 _ (List.getElem_mem hlt)
      have h0 : (0 : Int) ≤ (j : Int) := by omega
      have hj1 : (j : Int) < (l0.length : Int) := by omega
      have HLT := Lib.hid hlt
      generalize l0[j] = x at *
      clear hlt
      have hba := (Below.refl wr.heap.size wr).alloc (Nat.le_refl _) (.cells #[.int .i64 x.do_, .string x.path, .string x.dst, .int .i64 x.off, .int .i64 x.len, .string x.data] 36 (0, 0))
      have hbx := Box.new wr 36 #[.int .i64 x.do_, .string x.path, .string x.dst, .int .i64 x.off, .int .i64 x.len, .string x.data]
      have HBA := Lib.hid hba
      have HBX := Lib.hid hbx
      have p1 := hbx.cell 1 _ rfl
      clear hba hbx
      go_wp2_with fail
      clear p1 q0 q1 q2 q3 q4 q5
      generalize World.alloc wr _ = w5 at *
      obtain ⟨g, hg⟩ : ∃ g, g = wr.heap.size := ⟨_, rfl⟩
      rw [← hg] at HBX
      rw [← hg]
      clear hg
      refine (rsplit_any x.path (by have := HOJ.out.1; omega) _).mono ?_
      rintro e w6 ⟨v, rfl, hks, hb⟩
      obtain ⟨va, vc, rfl, hsl, _⟩ := hks.shape
      have HSL := Lib.hid hsl
      have HBX := Lib.hid (HBX.out.keep hb HBX.out.lt)
      have HBA := Lib.hid (HBA.out.trans (hb.mono HBA.out.size))
      clear hks hsl hb
      have p2 := HBX.out.cell 2 _ rfl
      go_wp2_with fail
      refine (rsplit_any x.dst (by have := HOJ.out.2.1; omega) _).mono ?_
      rintro e w7 ⟨v, rfl, hks, hb⟩
      obtain ⟨vb, vd, rfl, hsl, _⟩ := hks.shape
      have HSK := Lib.hid hsl
      have HSL := Lib.hid (HSL.out.keepB hb)
      have HBX := Lib.hid (HBX.out.keep hb HBX.out.lt)
      have HBA := Lib.hid (HBA.out.trans (hb.mono HBA.out.size))
      clear hks hsl hb p2
      have HSG := Lib.hid (LvS.keep (HSG.out) HBA.out)
      clear HBA
      obtain ⟨L, hL⟩ : ∃ L, L = (splitD x.path).1 := ⟨_, rfl⟩
      obtain ⟨M, hM⟩ : ∃ M, M = (splitD x.dst).1 := ⟨_, rfl⟩
      have HND : Hid (Aside L → Aside M → Kept (doG G x).2) := fun a c => kept_do HKG.out x (hL ▸ a) (hM ▸ c)
      rw [← hL] at HSL
      rw [← hM] at HSK
      rw [← hL, ← hM]
      have HDO := Lib.hid (lv_ask HSG.out HI.out (by have := HLEN.out; have := HLT.out; omega) x HOJ.out)
      unfold opV opA at HDO
      clear hL hM
      have p0 := HBX.out.cell 0 _ rfl
      have p1 := HBX.out.cell 1 _ rfl
      have p2 := HBX.out.cell 2 _ rfl
      have p3 := HBX.out.cell 3 _ rfl
      have p4 := HBX.out.cell 4 _ rfl
      have p5 := HBX.out.cell 5 _ rfl
      rcases head_cases L with ⟨rfl, haL⟩ | ⟨c, hl0, hc0, hcc⟩
      · have HAL := Lib.hid haL
        clear haL
        simp only [List.length_nil]
        rcases head_cases M with ⟨rfl, haM⟩ | ⟨cm, hm0, hcm0, hcm⟩
        · have HAM := Lib.hid haM
          clear haM
          simp only [List.length_nil]
          have HKN := Lib.hid (HND.out HAL.out HAM.out)
          clear HND
          go_wp2_with fail
          refine HDO.out.mono ?_
          rintro e w8 ⟨⟨vv, rfl⟩, hs⟩
          have HLS2 := Lib.hid hs
          clear hs HDO p0 p1 p2 p3 p4 p5 HBX HSG HSL HSK
          have hlt := HLT.out
          have hkk : j + 1 ≤ 30 := by have := HLEN.out; omega
          go_wp2
          go_roundw
          case rel => exact ⟨j + 1, _, rfl, by omega, by go_num, ⟨_, HKN.out, by have h := HLS2.out; rw [show j + 1 + 3 = j + 3 + 1 from by omega]; exact h⟩⟩
          case measure => simp [intOf]; omega
        · have d3 : ((0 : Int) < (M.length : Int)) = True := eq_true (by omega)
          have d4 : (0 : Int) < (M.length : Int) := by omega
          obtain ⟨mb, mo, rfl, _, hmc⟩ := HSK.out (by intro e; rw [e] at hm0; simp at hm0)
          have k0 : w7.cell? ⟨mb, mo, none⟩ = some (.string cm) := hmc 0 cm hcm0
          clear hmc hcm0
          rcases hcm with hcm | ⟨hcm, haM⟩
          · have e2 : (cm.toList == [107, 101, 112, 116]) = true := kp_yes hcm
            clear hcm
            go_wp2_with fail
            refine (live_any _ HSG.out.it).mono ?_
            rintro e wl ⟨rfl, hb⟩
            have HLV := Lib.hid (HSG.out.bl.trans (hb.mono HSG.out.bl.size))
            clear hb
            go_wp2
            go_ret
            exact ⟨rfl, HLV.out⟩
          · have e2 : (cm.toList == [107, 101, 112, 116]) = false := kp_no hcm
            have e22 : ¬ cm.toList = [107, 101, 112, 116] := kp_ne hcm
            have HAM := Lib.hid haM
            clear hcm haM
            have HKN := Lib.hid (HND.out HAL.out HAM.out)
            clear HND
            go_wp2_with fail
            refine HDO.out.mono ?_
            rintro e w8 ⟨⟨vv, rfl⟩, hs⟩
            have HLS2 := Lib.hid hs
            clear hs HDO p0 p1 p2 p3 p4 p5 HBX HSG HSL HSK
            have hlt := HLT.out
            have hkk : j + 1 ≤ 30 := by have := HLEN.out; omega
            go_wp2
            go_roundw
            case rel => exact ⟨j + 1, _, rfl, by omega, by go_num, ⟨_, HKN.out, by have h := HLS2.out; rw [show j + 1 + 3 = j + 3 + 1 from by omega]; exact h⟩⟩
            case measure => simp [intOf]; omega
      · have d1 : ((0 : Int) < (L.length : Int)) = True := eq_true (by omega)
        have d2 : (0 : Int) < (L.length : Int) := by omega
        obtain ⟨lb, lo, rfl, _, hlc⟩ := HSL.out (by intro e; rw [e] at hl0; simp at hl0)
        have k1 : w7.cell? ⟨lb, lo, none⟩ = some (.string c) := hlc 0 c hc0
        clear hlc hc0
        rcases hcc with hcc | ⟨hcc, haL⟩
        · have e1 : (c.toList == [107, 101, 112, 116]) = true := kp_yes hcc
          clear hcc
          go_wp2_with fail
          refine (live_any _ HSG.out.it).mono ?_
          rintro e wl ⟨rfl, hb⟩
          have HLV := Lib.hid (HSG.out.bl.trans (hb.mono HSG.out.bl.size))
          clear hb
          go_wp2
          go_ret
          exact ⟨rfl, HLV.out⟩
        · have e1 : (c.toList == [107, 101, 112, 116]) = false := kp_no hcc
          have e12 : ¬ c.toList = [107, 101, 112, 116] := kp_ne hcc
          have HAL := Lib.hid haL
          clear hcc haL
          rcases head_cases M with ⟨rfl, haM⟩ | ⟨cm, hm0, hcm0, hcm⟩
          · have HAM := Lib.hid haM
            clear haM
            simp only [List.length_nil]
            have HKN := Lib.hid (HND.out HAL.out HAM.out)
            clear HND
            go_wp2_with fail
            refine HDO.out.mono ?_
            rintro e w8 ⟨⟨vv, rfl⟩, hs⟩
            have HLS2 := Lib.hid hs
            clear hs HDO p0 p1 p2 p3 p4 p5 HBX HSG HSL HSK
            have hlt := HLT.out
            have hkk : j + 1 ≤ 30 := by have := HLEN.out; omega
            go_wp2
            go_roundw
            case rel => exact ⟨j + 1, _, rfl, by omega, by go_num, ⟨_, HKN.out, by have h := HLS2.out; rw [show j + 1 + 3 = j + 3 + 1 from by omega]; exact h⟩⟩
            case measure => simp [intOf]; omega
          · have d3 : ((0 : Int) < (M.length : Int)) = True := eq_true (by omega)
            have d4 : (0 : Int) < (M.length : Int) := by omega
            obtain ⟨mb, mo, rfl, _, hmc⟩ := HSK.out (by intro e; rw [e] at hm0; simp at hm0)
            have k0 : w7.cell? ⟨mb, mo, none⟩ = some (.string cm) := hmc 0 cm hcm0
            clear hmc hcm0
            rcases hcm with hcm | ⟨hcm, haM⟩
            · have e2 : (cm.toList == [107, 101, 112, 116]) = true := kp_yes hcm
              clear hcm
              go_wp2_with fail
              refine (live_any _ HSG.out.it).mono ?_
              rintro e wl ⟨rfl, hb⟩
              have HLV := Lib.hid (HSG.out.bl.trans (hb.mono HSG.out.bl.size))
              clear hb
              go_wp2
              go_ret
              exact ⟨rfl, HLV.out⟩
            · have e2 : (cm.toList == [107, 101, 112, 116]) = false := kp_no hcm
              have e22 : ¬ cm.toList = [107, 101, 112, 116] := kp_ne hcm
              have HAM := Lib.hid haM
              clear hcm haM
              have HKN := Lib.hid (HND.out HAL.out HAM.out)
              clear HND
              go_wp2_with fail
              refine HDO.out.mono ?_
              rintro e w8 ⟨⟨vv, rfl⟩, hs⟩
              have HLS2 := Lib.hid hs
              clear hs HDO p0 p1 p2 p3 p4 p5 HBX HSG HSL HSK
              have hlt := HLT.out
              have hkk : j + 1 ≤ 30 := by have := HLEN.out; omega
              go_wp2
              go_roundw
              case rel => exact ⟨j + 1, _, rfl, by omega, by go_num, ⟨_, HKN.out, by have h := HLS2.out; rw [show j + 1 + 3 = j + 3 + 1 from by omega]; exact h⟩⟩
              case measure => simp [intOf]; omega
    · have hke : j = l0.length := by omega
      clear hlt
      subst hke
      have HK : Hid (l0.length ≤ 30) := by have := HLEN.out; show _ ≤ _; omega
      clear hj
      have HD := Lib.hid (lv_do HSG.out HI.out (by have := HK.out; omega) ko4 (by decide) (by decide) (by decide) (kept_read HSG.out.tk.wf HKG.out))
      unfold opV opA ko4 noB at HD
      go_wp2_with fail
      refine HD.out.mono ?_
      rintro e w5 ⟨va, vc, rfl, K1, hm, hs, ha, hk⟩
      have HS1 := Lib.hid hs
      have HA1 := Lib.hid ha
      clear hm hs ha hk HD HSG
      simp only [ansV]
      have HD := Lib.hid (lv_do HS1.out HI.out (by have := HK.out; omega) ko5 (by decide) (by decide) (by decide) (kept_list HS1.out.tk.wf HKG.out))
      unfold opV opA ko5 noB at HD
      go_wp2_with fail
      refine HD.out.mono ?_
      rintro e w6 ⟨vb, vd, rfl, K2, hm, hs, ha, hk⟩
      have HS2 : Hid (LvS w1 b G (l0.length + 3 + 1 + 1) K2 (w6.alloc (.cells #[.int .i64 0, .int .i64 0, .string ⟨#[]⟩, .slice vb 1 vd] 33 (0, 0)))) := hs
      have HA2 : Hid (AnsAt K2 (w6.alloc (.cells #[.int .i64 0, .int .i64 0, .string ⟨#[]⟩, .slice vb 1 vd] 33 (0, 0))) w6.heap.size ⟨0, 0, noB, [kfB]⟩ vb vd) := ha
      have HA1 : Hid (AnsAt K2 (w6.alloc (.cells #[.int .i64 0, .int .i64 0, .string ⟨#[]⟩, .slice vb 1 vd] 33 (0, 0))) w5.heap.size ⟨0, 5, stB, []⟩ va vc) := HA1.out.go hk hm
      clear hm hs ha hk HD HS1
      simp only [ansV]
      have c1 : (w6.alloc (.cells #[.int .i64 0, .int .i64 0, .string ⟨#[]⟩, .slice vb 1 vd] 33 (0, 0))).cell? ⟨w5.heap.size, 2, none⟩ = some (.string ⟨#[115, 116, 97, 121, 115]⟩) := HA1.out.box.cell 2 _ rfl
      have d0 : (w6.alloc (.cells #[.int .i64 0, .int .i64 0, .string ⟨#[]⟩, .slice vb 1 vd] 33 (0, 0))).cell? ⟨w6.heap.size, 0, none⟩ = some (.int .i64 0) := HA2.out.box.cell 0 _ rfl
      have d1 : (w6.alloc (.cells #[.int .i64 0, .int .i64 0, .string ⟨#[]⟩, .slice vb 1 vd] 33 (0, 0))).cell? ⟨w6.heap.size, 1, none⟩ = some (.int .i64 0) := HA2.out.box.cell 1 _ rfl
      have d2 : (w6.alloc (.cells #[.int .i64 0, .int .i64 0, .string ⟨#[]⟩, .slice vb 1 vd] 33 (0, 0))).cell? ⟨w6.heap.size, 2, none⟩ = some (.string ⟨#[]⟩) := HA2.out.box.cell 2 _ rfl
      have d3 : (w6.alloc (.cells #[.int .i64 0, .int .i64 0, .string ⟨#[]⟩, .slice vb 1 vd] 33 (0, 0))).cell? ⟨w6.heap.size, 3, none⟩ = some (.slice vb 1 vd) := HA2.out.box.cell 3 _ rfl
      have hbd := (Below.refl (w6.alloc (.cells #[.int .i64 0, .int .i64 0, .string ⟨#[]⟩, .slice vb 1 vd] 33 (0, 0))).heap.size (w6.alloc (.cells #[.int .i64 0, .int .i64 0, .string ⟨#[]⟩, .slice vb 1 vd] 33 (0, 0)))).alloc (Nat.le_refl _) (.cells #[.string ⟨#[102]⟩] 9 (0, 0))
      have h1 := slm_one (w6.alloc (.cells #[.int .i64 0, .int .i64 0, .string ⟨#[]⟩, .slice vb 1 vd] 33 (0, 0))) ⟨#[102]⟩
      rw [size_alloc] at h1
      have hss := same_ans ⟨0, 0, noB, [kfB]⟩ ⟨0, 0, noB, [kfB]⟩ vb (some ⟨w6.heap.size + 1, 0, none⟩) vd 1 _ (HA2.out.sl.keepB hbd) h1 (by decide)
      rw [decide_eq_true (rfl : (⟨0, 0, noB, [kfB]⟩ : AnsD) = _)] at hss
      have HSS := Lib.hid hss
      have HS3 := Lib.hid (LvS.keep HS2.out hbd)
      clear hss h1 hbd HA1 HA2 HS2
      go_wp2_with fail
      refine HSS.out.mono ?_
      rintro e w7 ⟨rfl, hb⟩
      have HS4 := Lib.hid (LvS.keep HS3.out hb)
      clear hb HSS HS3 c1 d0 d1 d2 d3
      have HLV := Lib.hid (live_any w7 HS4.out.it)
      go_wp2_with fail
      refine HLV.out.mono ?_
      rintro e wl ⟨rfl, hb⟩
      have HL := Lib.hid (HS4.out.bl.trans (hb.mono HS4.out.bl.size))
      clear hb HLV
      go_wp2
      go_ret
      exact ⟨rfl, HL.out⟩
end Go.Proofs.YteimpebfenpifaaGreatDoor.modelApart
