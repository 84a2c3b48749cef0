/-
  The walk of ModelMoves.
-/
import Derived.Test.YteimpebfenpifaaGreatDoorMg43
namespace Go.Proofs.YteimpebfenpifaaGreatDoor.modelMoves
open Go Go.RowKit Go.ChangeShapes Go.WideShapes Go.ChangeAt

theorem small_iff {l : List OpD} {m : Int} (h : smallB l m = true) : (∀ o ∈ l, okO o) ∧ (l.length : Int) ≤ m := of_decide_eq_true h
theorem lvs_keep {w0 : World} {b : Nat} {G : GD} {k : Nat} {K : Nat → Prop} {w w' : World} (h : LvS w0 b G k K w) (hb : Below w.heap.size w w') : LvS w0 b G k K w' := ⟨h.tk.keep hb, h.bl.trans (hb.mono h.bl.size), h.it.keep hb, h.low⟩
theorem sle_keep {w w' : World} {a : Option Addr} {l : List OpD} (h : SlE w 6 MopK a l) (hb : Below w.heap.size w w') : SlE w' 6 MopK a l := fun hne => by
  obtain ⟨b, off, e, hl, hc⟩ := h hne
  exact ⟨b, off, e, Nat.lt_of_lt_of_le hl hb.size, fun i x hi => by
    obtain ⟨cs, h1, h2, h3⟩ := hc i x hi
    exact ⟨cs, h1, h2, fun j u hj => (hb.cell (p := ⟨b, off + i * 6 + j, none⟩) hl).trans (h3 j u hj)⟩⟩
set_option maxRecDepth 100000 in
set_option maxHeartbeats 8000000 in
theorem walk (w : World) (hI : It w) (x0 : Option Addr) (c0 : Nat) (l0 : List OpD) (n0 o0 t0 : ByteArray) (s0 : SlE w 6 MopK x0 l0) (m0 : l0.length ≤ maxLen) (_ : n0.size ≤ maxLen) (_ : o0.size ≤ maxLen) (_ : t0.size ≤ maxLen) :
    Calls Tryz.prog 6 #[.agg #[.slice x0 l0.length c0, .string n0, .string o0, .string t0]] w fun e w' => e = .returned (.bool true) ∧ Below w.heap.size w w' := by
  have hb := (Below.refl w.heap.size w).alloc (Nat.le_refl _) (.cells #[.slice x0 l0.length c0, .string n0, .string o0, .string t0] 47 (0, 0))
  have hx := Box.new w 47 #[.slice x0 l0.length c0, .string n0, .string o0, .string t0]
  have HI := Lib.hid (hI.keep hb)
  have HS := Lib.hid (sle_keep s0 hb)
  have HM := Lib.hid m0
  have HB := Lib.hid hb
  have r0 := hx.cell 0 _ rfl
  have r1 := hx.cell 1 _ rfl
  have r2 := hx.cell 2 _ rfl
  have r3 := hx.cell 3 _ rfl
  clear hI s0 m0 hb hx
  go_enter Tryz.func6, Tryz.ntmps6
  go_wp2_with fail
  obtain ⟨w1, hw1⟩ : ∃ x, x = w.alloc (.cells #[.slice x0 l0.length c0, .string n0, .string o0, .string t0] 47 (0, 0)) := ⟨_, rfl⟩
  rw [← hw1] at HI HS HB r0 r1 r2 r3
  rw [← hw1]
  clear hw1
  go_quiet (fail)
  have hd : Below w1.heap.size w1 (w1.drewN nq) := ⟨rfl, rfl, rfl, Nat.le_refl _, fun _ _ => rfl⟩
  have HB := Lib.hid (HB.out.trans (hd.mono HB.out.size))
  have HI := Lib.hid (HI.out.keep hd)
  have HS := Lib.hid (sle_keep HS.out hd)
  clear hd r0 r1 r2 r3
  generalize w1.drewN nq = w2 at *
  have HSM := Lib.hid (small_any w2 x0 c0 l0 30 HS.out HM.out)
  by_cases hs1 : smallB l0 30 = true
  case neg =>
    have hs1 : smallB l0 30 = false := by simpa using hs1
    rw [hs1] at HSM
    go_wp2_with fail
    refine HSM.out.mono ?_
    rintro e w2' ⟨rfl, rfl⟩
    go_wp2_with fail
    refine (live_any _ HI.out).mono ?_
    rintro e wl ⟨rfl, hb⟩
    have HL := Lib.hid (HB.out.trans (hb.mono HB.out.size))
    clear hb
    go_wp2
    go_ret
    exact ⟨rfl, HL.out⟩
  have HO := Lib.hid (small_iff hs1)
  rw [hs1] at HSM
  clear hs1
  by_cases h0 : n0.size ≤ 300
  case neg =>
    have d0 : ((300 : Int) < (n0.size : Int)) = True := eq_true (by omega)
    clear h0
    go_wp2_with fail
    refine HSM.out.mono ?_
    rintro e w2' ⟨rfl, rfl⟩
    go_wp2_with fail
    refine (live_any _ HI.out).mono ?_
    rintro e wl ⟨rfl, hb⟩
    have HL := Lib.hid (HB.out.trans (hb.mono HB.out.size))
    clear hb
    go_wp2
    go_ret
    exact ⟨rfl, HL.out⟩
  have d0 : ((300 : Int) < (n0.size : Int)) = False := eq_false (by omega)
  by_cases h1 : o0.size ≤ 300
  case neg =>
    have d1 : ((300 : Int) < (o0.size : Int)) = True := eq_true (by omega)
    clear h1
    go_wp2_with fail
    refine HSM.out.mono ?_
    rintro e w2' ⟨rfl, rfl⟩
    go_wp2_with fail
    refine (live_any _ HI.out).mono ?_
    rintro e wl ⟨rfl, hb⟩
    have HL := Lib.hid (HB.out.trans (hb.mono HB.out.size))
    clear hb
    go_wp2
    go_ret
    exact ⟨rfl, HL.out⟩
  have d1 : ((300 : Int) < (o0.size : Int)) = False := eq_false (by omega)
  by_cases h2 : t0.size ≤ 300
  case neg =>
    have d2 : ((300 : Int) < (t0.size : Int)) = True := eq_true (by omega)
    clear h2
    go_wp2_with fail
    refine HSM.out.mono ?_
    rintro e w2' ⟨rfl, rfl⟩
    go_wp2_with fail
    refine (live_any _ HI.out).mono ?_
    rintro e wl ⟨rfl, hb⟩
    have HL := Lib.hid (HB.out.trans (hb.mono HB.out.size))
    clear hb
    go_wp2
    go_ret
    exact ⟨rfl, HL.out⟩
  have d2 : ((300 : Int) < (t0.size : Int)) = False := eq_false (by omega)
  have H0 := Lib.hid h0
  have H1 := Lib.hid h1
  have H2 := Lib.hid h2
  clear h0 h1 h2
  rcases below_cases t0 with ⟨hz, g1⟩ | ⟨g1, hlt, hat, h47⟩ | ⟨g1, hlt, hat⟩
  · have HBE : Hid (t0.size = 0 ∨ (pb t0).head? = some 47) := .inl hz
    clear hz
    have HNW := Lib.hid (lv_new w2 HI.out)
    go_wp2_with fail
    refine HSM.out.mono ?_
    rintro e w2' ⟨rfl, rfl⟩
    clear HSM
    go_wp2_with fail
    refine HNW.out.mono ?_
    rintro e w3 ⟨b, rfl, hs⟩
    have HLS := Lib.hid hs
    clear hs HNW
    go_wp2_with fail
    go_loopw [8] (fun i wr => ∃ j : Nat, j ≤ l0.length ∧ i = .int .i64 j ∧ Hid (LvS w2' b (runG newG (l0.take j)) j (fun j => j < w2'.heap.size) wr)) (fun i _ => l0.length - (intOf i).toNat)
    case atStart => exact ⟨0, Nat.zero_le _, rfl, HLS⟩
    case round =>
      clear HLS
      rename_i hkl1
      obtain ⟨j, hj, rfl, HLJ⟩ := hrel
      have HLEN := Lib.hid HO.out.2
      by_cases hlt : j < l0.length
      · clear hkl1
        obtain ⟨x0b, x0o, rfl, _, q0, q1, q2, q3, q4, q5⟩ := HS.out.mop HLJ.out.bl j hlt
        have HOJ : Hid (okO l0[j]) := HO.out.1 _ (List.getElem_mem hlt)
        have HRJ : Hid (runG newG (l0.take (j + 1)) = (doG (runG newG (l0.take j)) l0[j]).2) := runG_take hlt
        have h0 : (0 : Int) ≤ (j : Int) := by omega
        have hj1 : (j : Int) < (l0.length : Int) := by omega
        have HLT := Lib.hid hlt
        generalize l0[j] = x at *
        have HD := Lib.hid (lv_ask HLJ.out HI.out (by have := HLEN.out; omega) x HOJ.out)
        rw [← HRJ.out] at HD
        unfold opV opA at HD
        clear hlt
        go_wp2_with fail
        refine HD.out.mono ?_
        rintro e w4 ⟨⟨v, rfl⟩, hs⟩
        have HLS2 := Lib.hid hs
        clear hs HD q0 q1 q2 q3 q4 q5
        have hlt := HLT.out
        have hkk : j + 1 ≤ 30 := by have := HLEN.out; omega
        go_wp2
        go_roundw
        case rel => exact ⟨j + 1, by omega, by go_num, HLS2⟩
        case measure => simp [intOf]; omega
      · have hke : j = l0.length := by omega
        clear hlt
        rw [hke] at HLJ
        rw [List.take_length] at HLJ
        subst hke
        have HK : Hid (l0.length ≤ 30) := by have := HLEN.out; show _ ≤ _; omega
        clear hj
        generalize runG newG l0 = G at *
        have HBN : Hid (n0.size ≤ 100000) := Nat.le_trans H0.out (by decide)
        have HBO : Hid (o0.size ≤ 100000) := Nat.le_trans H1.out (by decide)
        have HBX : Hid ((n0 ++ t0).size ≤ 100000) := by have := H0.out; have := H2.out; show _ ≤ _; rw [ByteArray.size_append]; omega
        have HBY : Hid ((o0 ++ t0).size ≤ 100000) := by have := H1.out; have := H2.out; show _ ≤ _; rw [ByteArray.size_append]; omega
        have HC := Lib.hid (lt_copy HLJ.out (by have := HK.out; omega))
        go_wp2_with fail
        refine HC.out.mono ?_
        rintro e w4 ⟨b2, rfl, hs, hb⟩
        have HT := Lib.hid hs
        have HWF := Lib.hid HLJ.out.tk.wf
        clear hs hb HC HLJ
        obtain ⟨q, G1, hq⟩ : ∃ q G1, doG G (mvO n0 o0) = (q, G1) := ⟨_, _, rfl⟩
        have HQ := Lib.hid hq
        clear hq
        have HD := Lib.hid (lt_dos HT.out HI.out (by have := HK.out; omega) (mvO n0 o0) HBN.out HBO.out (by show 0 ≤ 1000000; omega) HQ.out)
        unfold opV opA mvO noB at HD
        go_wp2_with fail
        refine HD.out.mono ?_
        rintro e v1 ⟨va1, vc1, rfl, K1, hm, hs, ha, hk⟩
        have HT := Lib.hid hs
        have HA1 := Lib.hid ha
        clear hm hs ha hk HD
        simp only [ansV]
        obtain ⟨W, hW⟩ : ∃ x, x = v1.alloc (.cells #[.int .i64 q.code, .int .i64 q.n, .string q.data, .slice va1 q.names.length vc1] 33 (0, 0)) := ⟨_, rfl⟩
        rw [← hW] at HT HA1
        have c1 : W.cell? ⟨v1.heap.size, 0, none⟩ = some (.int .i64 q.code) := HA1.out.box.cell 0 _ rfl
        rw [hW] at c1
        by_cases hqc : q.code = 0
        case neg =>
          have f1 : (q.code != 0) = true := by simpa using hqc
          clear hqc
          have HLV := Lib.hid (live_any W HT.out.it)
          have HB := Lib.hid (HB.out.trans (HT.out.bl.mono HB.out.size))
          rw [hW] at HLV HB
          go_wp2_with fail
          refine HLV.out.mono ?_
          rintro e wl ⟨rfl, hb⟩
          have HL := Lib.hid (HB.out.trans (hb.mono HB.out.size))
          clear hb
          go_wp2
          go_ret
          exact ⟨rfl, HL.out⟩
        have f1 : (q.code != 0) = false := by rw [hqc]; rfl
        obtain ⟨r, G2, e1, e2, e3, e4, e5, e6⟩ := moved HWF.out HBE.out (by rw [HQ.out]; exact hqc) (by rw [HQ.out]; exact HT.out.t2.one.wf)
        obtain rfl : G2 = G1 := (Prod.mk.inj (e1.symm.trans HQ.out)).2
        have E2 := Lib.hid e2
        have E3 := Lib.hid e3
        have E4 := Lib.hid e4
        have E5 := Lib.hid e5
        have E6 := Lib.hid e6
        have HNL : Hid (r.names.length ≤ 100000) := by
          have h1 := names_len G (stO (n0 ++ t0))
          rw [e2] at h1
          dsimp only at h1
          have h2 := HT.out.swap.bE
          have h3 := HK.out
          show _ ≤ _
          omega
        have z1 : (n0.size : Int) + (t0.size : Int) ≤ 1000000 := by have := H0.out; have := H2.out; omega
        have z2 : (o0.size : Int) + (t0.size : Int) ≤ 1000000 := by have := H1.out; have := H2.out; omega
        rw [hW] at HT HA1
        clear hqc e1 e2 e3 e4 e5 e6 HWF HQ hW
        have HD := Lib.hid (lt_dos HT.out.swap HI.out (by have := HK.out; omega) (stO (n0 ++ t0)) HBX.out (by show 0 ≤ 100000; omega) (by show 0 ≤ 1000000; omega) E2.out)
        unfold opV opA stO noB at HD
        go_wp2_with fail
        clear c1 f1
        refine HD.out.mono ?_
        rintro e v2 ⟨va2, vc2, rfl, K2, hm, hs, ha, hk⟩
        have HA1 := Lib.hid (HA1.out.go hk hm)
        have HT := Lib.hid hs
        have HA2 := Lib.hid ha
        clear hm hs ha hk HD
        simp only [ansV]
        have HD := Lib.hid (lt_dos HT.out.swap HI.out (by have := HK.out; omega) (stO (o0 ++ t0)) HBY.out (by show 0 ≤ 100000; omega) (by show 0 ≤ 1000000; omega) E3.out)
        unfold opV opA stO noB at HD
        go_wp2_with fail
        refine HD.out.mono ?_
        rintro e v3 ⟨va3, vc3, rfl, K3, hm, hs, ha, hk⟩
        have HA1 := Lib.hid (HA1.out.go hk hm)
        have HA2 := Lib.hid (HA2.out.go hk hm)
        have HT := Lib.hid hs
        have HA3 := Lib.hid ha
        clear hm hs ha hk HD
        simp only [ansV]
        have HD := Lib.hid (lt_dos HT.out HI.out (by have := HK.out; omega) (stO n0) HBN.out (by show 0 ≤ 100000; omega) (by show 0 ≤ 1000000; omega) E4.out)
        unfold opV opA stO noB at HD
        go_wp2_with fail
        refine HD.out.mono ?_
        rintro e v4 ⟨va4, vc4, rfl, K4, hm, hs, ha, hk⟩
        have HA1 := Lib.hid (HA1.out.go hk hm)
        have HA2 := Lib.hid (HA2.out.go hk hm)
        have HA3 := Lib.hid (HA3.out.go hk hm)
        have HT := Lib.hid hs
        have HA4 := Lib.hid ha
        clear hm hs ha hk HD
        simp only [ansV]
        obtain ⟨W, hW⟩ : ∃ x, x = v4.alloc (.cells #[.int .i64 (noA 8).code, .int .i64 (noA 8).n, .string (noA 8).data, .slice va4 (noA 8).names.length vc4] 33 (0, 0)) := ⟨_, rfl⟩
        rw [← hW] at HT HA1 HA2 HA3 HA4
        have d0 : W.cell? ⟨v2.heap.size, 0, none⟩ = some (.int .i64 r.code) := HA2.out.box.cell 0 _ rfl
        have d1 : W.cell? ⟨v2.heap.size, 1, none⟩ = some (.int .i64 r.n) := HA2.out.box.cell 1 _ rfl
        have d2 : W.cell? ⟨v2.heap.size, 2, none⟩ = some (.string r.data) := HA2.out.box.cell 2 _ rfl
        have d3 : W.cell? ⟨v2.heap.size, 3, none⟩ = some (.slice va2 r.names.length vc2) := HA2.out.box.cell 3 _ rfl
        have e0 : W.cell? ⟨v3.heap.size, 0, none⟩ = some (.int .i64 r.code) := HA3.out.box.cell 0 _ rfl
        have e1 : W.cell? ⟨v3.heap.size, 1, none⟩ = some (.int .i64 r.n) := HA3.out.box.cell 1 _ rfl
        have e2 : W.cell? ⟨v3.heap.size, 2, none⟩ = some (.string r.data) := HA3.out.box.cell 2 _ rfl
        have e3 : W.cell? ⟨v3.heap.size, 3, none⟩ = some (.slice va3 r.names.length vc3) := HA3.out.box.cell 3 _ rfl
        have hss := same_ans r r va2 va3 vc2 vc3 W HA2.out.sl HA3.out.sl HNL.out
        rw [decide_eq_true (rfl : r = r)] at hss
        have HSS := Lib.hid hss
        unfold ansV at HSS
        rw [hW] at d0 d1 d2 d3 e0 e1 e2 e3 HSS
        clear hss z1 z2
        go_wp2_with fail
        refine HSS.out.mono ?_
        rintro e v5 ⟨rfl, hb⟩
        rw [← hW] at hb
        have HT := Lib.hid (HT.out.keep hb)
        have HA2 := Lib.hid (HA2.out.keep hb)
        have HA4 := Lib.hid (HA4.out.keep hb)
        clear hb HSS d0 d1 d2 d3 e0 e1 e2 e3 hW HA1 HA3
        have g0 : v5.cell? ⟨v4.heap.size, 0, none⟩ = some (.int .i64 8) := HA4.out.box.cell 0 _ rfl
        have HWI := Lib.hid (within_any n0 o0 HBN.out HBO.out v5)
        rw [E6.out] at HWI
        go_wp2_with fail
        refine HWI.out.mono ?_
        rintro e v6 ⟨rfl, hb⟩
        have HT := Lib.hid (HT.out.keep hb)
        have HA2 := Lib.hid (HA2.out.keep hb)
        clear hb g0 HWI HA4
        have z1 : (n0.size : Int) + (t0.size : Int) ≤ 1000000 := by have := H0.out; have := H2.out; omega
        have HD := Lib.hid (lt_dos HT.out HI.out (by have := HK.out; omega) (mvO o0 n0) HBO.out HBN.out (by show 0 ≤ 1000000; omega) E5.out)
        unfold opV opA mvO noB at HD
        go_wp2_with fail
        refine HD.out.mono ?_
        rintro e v7 ⟨va7, vc7, rfl, K7, hm, hs, ha, hk⟩
        have HA2 := Lib.hid (HA2.out.go hk hm)
        have HT := Lib.hid hs
        have HA7 := Lib.hid ha
        clear hm hs ha hk HD
        simp only [ansV]
        have HD := Lib.hid (lt_dos HT.out HI.out (by have := HK.out; omega) (stO (n0 ++ t0)) HBX.out (by show 0 ≤ 100000; omega) (by show 0 ≤ 1000000; omega) E2.out)
        unfold opV opA stO noB at HD
        go_wp2_with fail
        refine HD.out.mono ?_
        rintro e v8 ⟨va8, vc8, rfl, K8, hm, hs, ha, hk⟩
        have HA2 := Lib.hid (HA2.out.go hk hm)
        have HA7 := Lib.hid (HA7.out.go hk hm)
        have HT := Lib.hid hs
        have HA8 := Lib.hid ha
        clear hm hs ha hk HD
        simp only [ansV]
        obtain ⟨W, hW⟩ : ∃ x, x = v8.alloc (.cells #[.int .i64 r.code, .int .i64 r.n, .string r.data, .slice va8 r.names.length vc8] 33 (0, 0)) := ⟨_, rfl⟩
        rw [← hW] at HT HA2 HA7 HA8
        have c0 : W.cell? ⟨v7.heap.size, 0, none⟩ = some (.int .i64 0) := HA7.out.box.cell 0 _ rfl
        have d0 : W.cell? ⟨v2.heap.size, 0, none⟩ = some (.int .i64 r.code) := HA2.out.box.cell 0 _ rfl
        have d1 : W.cell? ⟨v2.heap.size, 1, none⟩ = some (.int .i64 r.n) := HA2.out.box.cell 1 _ rfl
        have d2 : W.cell? ⟨v2.heap.size, 2, none⟩ = some (.string r.data) := HA2.out.box.cell 2 _ rfl
        have d3 : W.cell? ⟨v2.heap.size, 3, none⟩ = some (.slice va2 r.names.length vc2) := HA2.out.box.cell 3 _ rfl
        have e0 : W.cell? ⟨v8.heap.size, 0, none⟩ = some (.int .i64 r.code) := HA8.out.box.cell 0 _ rfl
        have e1 : W.cell? ⟨v8.heap.size, 1, none⟩ = some (.int .i64 r.n) := HA8.out.box.cell 1 _ rfl
        have e2 : W.cell? ⟨v8.heap.size, 2, none⟩ = some (.string r.data) := HA8.out.box.cell 2 _ rfl
        have e3 : W.cell? ⟨v8.heap.size, 3, none⟩ = some (.slice va8 r.names.length vc8) := HA8.out.box.cell 3 _ rfl
        have hss := same_ans r r va2 va8 vc2 vc8 W HA2.out.sl HA8.out.sl HNL.out
        rw [decide_eq_true (rfl : r = r)] at hss
        have HSS := Lib.hid hss
        unfold ansV at HSS
        rw [hW] at c0 d0 d1 d2 d3 e0 e1 e2 e3 HSS
        clear hss z1
        go_wp2_with fail
        refine HSS.out.mono ?_
        rintro e v9 ⟨rfl, hb⟩
        rw [← hW] at hb
        have HT := Lib.hid (HT.out.keep hb)
        clear hb HSS c0 d0 d1 d2 d3 e0 e1 e2 e3 hW HA2 HA7 HA8
        have HLV := Lib.hid (live_any v9 HT.out.it)
        have HB := Lib.hid (HB.out.trans (HT.out.bl.mono HB.out.size))
        go_wp2_with fail
        refine HLV.out.mono ?_
        rintro e wl ⟨rfl, hb⟩
        have HL := Lib.hid (HB.out.trans (hb.mono HB.out.size))
        clear hb
        go_wp2
        go_ret
        exact ⟨rfl, HL.out⟩
  · have HBE : Hid (t0.size = 0 ∨ (pb t0).head? = some 47) := .inr h47
    have hat2 : ((t0[0].toNat : Int) != 47) = false := by rw [hat]; rfl
    clear h47 hat
    have HNW := Lib.hid (lv_new w2 HI.out)
    go_wp2_with fail
    refine HSM.out.mono ?_
    rintro e w2' ⟨rfl, rfl⟩
    clear HSM
    go_wp2_with fail
    refine HNW.out.mono ?_
    rintro e w3 ⟨b, rfl, hs⟩
    have HLS := Lib.hid hs
    clear hs HNW
    go_wp2_with fail
    go_loopw [8] (fun i wr => ∃ j : Nat, j ≤ l0.length ∧ i = .int .i64 j ∧ Hid (LvS w2' b (runG newG (l0.take j)) j (fun j => j < w2'.heap.size) wr)) (fun i _ => l0.length - (intOf i).toNat)
    case atStart => exact ⟨0, Nat.zero_le _, rfl, HLS⟩
    case round =>
      clear HLS
      rename_i hkl1
      obtain ⟨j, hj, rfl, HLJ⟩ := hrel
      have HLEN := Lib.hid HO.out.2
      by_cases hlt : j < l0.length
      · clear hkl1
        obtain ⟨x0b, x0o, rfl, _, q0, q1, q2, q3, q4, q5⟩ := HS.out.mop HLJ.out.bl j hlt
        have HOJ : Hid (okO l0[j]) := HO.out.1 _ (List.getElem_mem hlt)
        have HRJ : Hid (runG newG (l0.take (j + 1)) = (doG (runG newG (l0.take j)) l0[j]).2) := runG_take hlt
        have h0 : (0 : Int) ≤ (j : Int) := by omega
        have hj1 : (j : Int) < (l0.length : Int) := by omega
        have HLT := Lib.hid hlt
        generalize l0[j] = x at *
        have HD := Lib.hid (lv_ask HLJ.out HI.out (by have := HLEN.out; omega) x HOJ.out)
        rw [← HRJ.out] at HD
        unfold opV opA at HD
        clear hlt
        go_wp2_with fail
        refine HD.out.mono ?_
        rintro e w4 ⟨⟨v, rfl⟩, hs⟩
        have HLS2 := Lib.hid hs
        clear hs HD q0 q1 q2 q3 q4 q5
        have hlt := HLT.out
        have hkk : j + 1 ≤ 30 := by have := HLEN.out; omega
        go_wp2
        go_roundw
        case rel => exact ⟨j + 1, by omega, by go_num, HLS2⟩
        case measure => simp [intOf]; omega
      · have hke : j = l0.length := by omega
        clear hlt
        rw [hke] at HLJ
        rw [List.take_length] at HLJ
        subst hke
        have HK : Hid (l0.length ≤ 30) := by have := HLEN.out; show _ ≤ _; omega
        clear hj
        generalize runG newG l0 = G at *
        have HBN : Hid (n0.size ≤ 100000) := Nat.le_trans H0.out (by decide)
        have HBO : Hid (o0.size ≤ 100000) := Nat.le_trans H1.out (by decide)
        have HBX : Hid ((n0 ++ t0).size ≤ 100000) := by have := H0.out; have := H2.out; show _ ≤ _; rw [ByteArray.size_append]; omega
        have HBY : Hid ((o0 ++ t0).size ≤ 100000) := by have := H1.out; have := H2.out; show _ ≤ _; rw [ByteArray.size_append]; omega
        have HC := Lib.hid (lt_copy HLJ.out (by have := HK.out; omega))
        go_wp2_with fail
        refine HC.out.mono ?_
        rintro e w4 ⟨b2, rfl, hs, hb⟩
        have HT := Lib.hid hs
        have HWF := Lib.hid HLJ.out.tk.wf
        clear hs hb HC HLJ
        obtain ⟨q, G1, hq⟩ : ∃ q G1, doG G (mvO n0 o0) = (q, G1) := ⟨_, _, rfl⟩
        have HQ := Lib.hid hq
        clear hq
        have HD := Lib.hid (lt_dos HT.out HI.out (by have := HK.out; omega) (mvO n0 o0) HBN.out HBO.out (by show 0 ≤ 1000000; omega) HQ.out)
        unfold opV opA mvO noB at HD
        go_wp2_with fail
        refine HD.out.mono ?_
        rintro e v1 ⟨va1, vc1, rfl, K1, hm, hs, ha, hk⟩
        have HT := Lib.hid hs
        have HA1 := Lib.hid ha
        clear hm hs ha hk HD
        simp only [ansV]
        obtain ⟨W, hW⟩ : ∃ x, x = v1.alloc (.cells #[.int .i64 q.code, .int .i64 q.n, .string q.data, .slice va1 q.names.length vc1] 33 (0, 0)) := ⟨_, rfl⟩
        rw [← hW] at HT HA1
        have c1 : W.cell? ⟨v1.heap.size, 0, none⟩ = some (.int .i64 q.code) := HA1.out.box.cell 0 _ rfl
        rw [hW] at c1
        by_cases hqc : q.code = 0
        case neg =>
          have f1 : (q.code != 0) = true := by simpa using hqc
          clear hqc
          have HLV := Lib.hid (live_any W HT.out.it)
          have HB := Lib.hid (HB.out.trans (HT.out.bl.mono HB.out.size))
          rw [hW] at HLV HB
          go_wp2_with fail
          refine HLV.out.mono ?_
          rintro e wl ⟨rfl, hb⟩
          have HL := Lib.hid (HB.out.trans (hb.mono HB.out.size))
          clear hb
          go_wp2
          go_ret
          exact ⟨rfl, HL.out⟩
        have f1 : (q.code != 0) = false := by rw [hqc]; rfl
        obtain ⟨r, G2, e1, e2, e3, e4, e5, e6⟩ := moved HWF.out HBE.out (by rw [HQ.out]; exact hqc) (by rw [HQ.out]; exact HT.out.t2.one.wf)
        obtain rfl : G2 = G1 := (Prod.mk.inj (e1.symm.trans HQ.out)).2
        have E2 := Lib.hid e2
        have E3 := Lib.hid e3
        have E4 := Lib.hid e4
        have E5 := Lib.hid e5
        have E6 := Lib.hid e6
        have HNL : Hid (r.names.length ≤ 100000) := by
          have h1 := names_len G (stO (n0 ++ t0))
          rw [e2] at h1
          dsimp only at h1
          have h2 := HT.out.swap.bE
          have h3 := HK.out
          show _ ≤ _
          omega
        have z1 : (n0.size : Int) + (t0.size : Int) ≤ 1000000 := by have := H0.out; have := H2.out; omega
        have z2 : (o0.size : Int) + (t0.size : Int) ≤ 1000000 := by have := H1.out; have := H2.out; omega
        rw [hW] at HT HA1
        clear hqc e1 e2 e3 e4 e5 e6 HWF HQ hW
        have HD := Lib.hid (lt_dos HT.out.swap HI.out (by have := HK.out; omega) (stO (n0 ++ t0)) HBX.out (by show 0 ≤ 100000; omega) (by show 0 ≤ 1000000; omega) E2.out)
        unfold opV opA stO noB at HD
        go_wp2_with fail
        clear c1 f1
        refine HD.out.mono ?_
        rintro e v2 ⟨va2, vc2, rfl, K2, hm, hs, ha, hk⟩
        have HA1 := Lib.hid (HA1.out.go hk hm)
        have HT := Lib.hid hs
        have HA2 := Lib.hid ha
        clear hm hs ha hk HD
        simp only [ansV]
        have HD := Lib.hid (lt_dos HT.out.swap HI.out (by have := HK.out; omega) (stO (o0 ++ t0)) HBY.out (by show 0 ≤ 100000; omega) (by show 0 ≤ 1000000; omega) E3.out)
        unfold opV opA stO noB at HD
        go_wp2_with fail
        refine HD.out.mono ?_
        rintro e v3 ⟨va3, vc3, rfl, K3, hm, hs, ha, hk⟩
        have HA1 := Lib.hid (HA1.out.go hk hm)
        have HA2 := Lib.hid (HA2.out.go hk hm)
        have HT := Lib.hid hs
        have HA3 := Lib.hid ha
        clear hm hs ha hk HD
        simp only [ansV]
        have HD := Lib.hid (lt_dos HT.out HI.out (by have := HK.out; omega) (stO n0) HBN.out (by show 0 ≤ 100000; omega) (by show 0 ≤ 1000000; omega) E4.out)
        unfold opV opA stO noB at HD
        go_wp2_with fail
        refine HD.out.mono ?_
        rintro e v4 ⟨va4, vc4, rfl, K4, hm, hs, ha, hk⟩
        have HA1 := Lib.hid (HA1.out.go hk hm)
        have HA2 := Lib.hid (HA2.out.go hk hm)
        have HA3 := Lib.hid (HA3.out.go hk hm)
        have HT := Lib.hid hs
        have HA4 := Lib.hid ha
        clear hm hs ha hk HD
        simp only [ansV]
        obtain ⟨W, hW⟩ : ∃ x, x = v4.alloc (.cells #[.int .i64 (noA 8).code, .int .i64 (noA 8).n, .string (noA 8).data, .slice va4 (noA 8).names.length vc4] 33 (0, 0)) := ⟨_, rfl⟩
        rw [← hW] at HT HA1 HA2 HA3 HA4
        have d0 : W.cell? ⟨v2.heap.size, 0, none⟩ = some (.int .i64 r.code) := HA2.out.box.cell 0 _ rfl
        have d1 : W.cell? ⟨v2.heap.size, 1, none⟩ = some (.int .i64 r.n) := HA2.out.box.cell 1 _ rfl
        have d2 : W.cell? ⟨v2.heap.size, 2, none⟩ = some (.string r.data) := HA2.out.box.cell 2 _ rfl
        have d3 : W.cell? ⟨v2.heap.size, 3, none⟩ = some (.slice va2 r.names.length vc2) := HA2.out.box.cell 3 _ rfl
        have e0 : W.cell? ⟨v3.heap.size, 0, none⟩ = some (.int .i64 r.code) := HA3.out.box.cell 0 _ rfl
        have e1 : W.cell? ⟨v3.heap.size, 1, none⟩ = some (.int .i64 r.n) := HA3.out.box.cell 1 _ rfl
        have e2 : W.cell? ⟨v3.heap.size, 2, none⟩ = some (.string r.data) := HA3.out.box.cell 2 _ rfl
        have e3 : W.cell? ⟨v3.heap.size, 3, none⟩ = some (.slice va3 r.names.length vc3) := HA3.out.box.cell 3 _ rfl
        have hss := same_ans r r va2 va3 vc2 vc3 W HA2.out.sl HA3.out.sl HNL.out
        rw [decide_eq_true (rfl : r = r)] at hss
        have HSS := Lib.hid hss
        unfold ansV at HSS
        rw [hW] at d0 d1 d2 d3 e0 e1 e2 e3 HSS
        clear hss z1 z2
        go_wp2_with fail
        refine HSS.out.mono ?_
        rintro e v5 ⟨rfl, hb⟩
        rw [← hW] at hb
        have HT := Lib.hid (HT.out.keep hb)
        have HA2 := Lib.hid (HA2.out.keep hb)
        have HA4 := Lib.hid (HA4.out.keep hb)
        clear hb HSS d0 d1 d2 d3 e0 e1 e2 e3 hW HA1 HA3
        have g0 : v5.cell? ⟨v4.heap.size, 0, none⟩ = some (.int .i64 8) := HA4.out.box.cell 0 _ rfl
        have HWI := Lib.hid (within_any n0 o0 HBN.out HBO.out v5)
        rw [E6.out] at HWI
        go_wp2_with fail
        refine HWI.out.mono ?_
        rintro e v6 ⟨rfl, hb⟩
        have HT := Lib.hid (HT.out.keep hb)
        have HA2 := Lib.hid (HA2.out.keep hb)
        clear hb g0 HWI HA4
        have z1 : (n0.size : Int) + (t0.size : Int) ≤ 1000000 := by have := H0.out; have := H2.out; omega
        have HD := Lib.hid (lt_dos HT.out HI.out (by have := HK.out; omega) (mvO o0 n0) HBO.out HBN.out (by show 0 ≤ 1000000; omega) E5.out)
        unfold opV opA mvO noB at HD
        go_wp2_with fail
        refine HD.out.mono ?_
        rintro e v7 ⟨va7, vc7, rfl, K7, hm, hs, ha, hk⟩
        have HA2 := Lib.hid (HA2.out.go hk hm)
        have HT := Lib.hid hs
        have HA7 := Lib.hid ha
        clear hm hs ha hk HD
        simp only [ansV]
        have HD := Lib.hid (lt_dos HT.out HI.out (by have := HK.out; omega) (stO (n0 ++ t0)) HBX.out (by show 0 ≤ 100000; omega) (by show 0 ≤ 1000000; omega) E2.out)
        unfold opV opA stO noB at HD
        go_wp2_with fail
        refine HD.out.mono ?_
        rintro e v8 ⟨va8, vc8, rfl, K8, hm, hs, ha, hk⟩
        have HA2 := Lib.hid (HA2.out.go hk hm)
        have HA7 := Lib.hid (HA7.out.go hk hm)
        have HT := Lib.hid hs
        have HA8 := Lib.hid ha
        clear hm hs ha hk HD
        simp only [ansV]
        obtain ⟨W, hW⟩ : ∃ x, x = v8.alloc (.cells #[.int .i64 r.code, .int .i64 r.n, .string r.data, .slice va8 r.names.length vc8] 33 (0, 0)) := ⟨_, rfl⟩
        rw [← hW] at HT HA2 HA7 HA8
        have c0 : W.cell? ⟨v7.heap.size, 0, none⟩ = some (.int .i64 0) := HA7.out.box.cell 0 _ rfl
        have d0 : W.cell? ⟨v2.heap.size, 0, none⟩ = some (.int .i64 r.code) := HA2.out.box.cell 0 _ rfl
        have d1 : W.cell? ⟨v2.heap.size, 1, none⟩ = some (.int .i64 r.n) := HA2.out.box.cell 1 _ rfl
        have d2 : W.cell? ⟨v2.heap.size, 2, none⟩ = some (.string r.data) := HA2.out.box.cell 2 _ rfl
        have d3 : W.cell? ⟨v2.heap.size, 3, none⟩ = some (.slice va2 r.names.length vc2) := HA2.out.box.cell 3 _ rfl
        have e0 : W.cell? ⟨v8.heap.size, 0, none⟩ = some (.int .i64 r.code) := HA8.out.box.cell 0 _ rfl
        have e1 : W.cell? ⟨v8.heap.size, 1, none⟩ = some (.int .i64 r.n) := HA8.out.box.cell 1 _ rfl
        have e2 : W.cell? ⟨v8.heap.size, 2, none⟩ = some (.string r.data) := HA8.out.box.cell 2 _ rfl
        have e3 : W.cell? ⟨v8.heap.size, 3, none⟩ = some (.slice va8 r.names.length vc8) := HA8.out.box.cell 3 _ rfl
        have hss := same_ans r r va2 va8 vc2 vc8 W HA2.out.sl HA8.out.sl HNL.out
        rw [decide_eq_true (rfl : r = r)] at hss
        have HSS := Lib.hid hss
        unfold ansV at HSS
        rw [hW] at c0 d0 d1 d2 d3 e0 e1 e2 e3 HSS
        clear hss z1
        go_wp2_with fail
        refine HSS.out.mono ?_
        rintro e v9 ⟨rfl, hb⟩
        rw [← hW] at hb
        have HT := Lib.hid (HT.out.keep hb)
        clear hb HSS c0 d0 d1 d2 d3 e0 e1 e2 e3 hW HA2 HA7 HA8
        have HLV := Lib.hid (live_any v9 HT.out.it)
        have HB := Lib.hid (HB.out.trans (HT.out.bl.mono HB.out.size))
        go_wp2_with fail
        refine HLV.out.mono ?_
        rintro e wl ⟨rfl, hb⟩
        have HL := Lib.hid (HB.out.trans (hb.mono HB.out.size))
        clear hb
        go_wp2
        go_ret
        exact ⟨rfl, HL.out⟩
  · have hat2 : ((t0[0].toNat : Int) != 47) = true := by
      have h8 : t0[0].toNat ≠ 47 := fun e => hat (UInt8.toNat_inj.1 e)
      have h9 : (t0[0].toNat : Int) ≠ 47 := by omega
      exact bne_iff_ne.2 h9
    clear hat
    go_wp2_with fail
    refine HSM.out.mono ?_
    rintro e w2' ⟨rfl, rfl⟩
    go_wp2_with fail
    refine (live_any _ HI.out).mono ?_
    rintro e wl ⟨rfl, hb⟩
    have HL := Lib.hid (HB.out.trans (hb.mono HB.out.size))
    clear hb
    go_wp2
    go_ret
    exact ⟨rfl, HL.out⟩
end Go.Proofs.YteimpebfenpifaaGreatDoor.modelMoves
