/-
  The walk of ModelWritten.
-/
import Derived.Test.YteimpebfenpifaaGreatDoorMoWr
import Derived.Test.YteimpebfenpifaaGreatDoorMg43
namespace Go.Proofs.YteimpebfenpifaaGreatDoor.modelWritten
open Go Go.RowKit Go.ChangeShapes Go.WideShapes Go.ChangeAt

theorem small_iff {l : List OpD} {m : Int} (h : smallB l m = true) : (∀ o ∈ l, okO o) ∧ (l.length : Int) ≤ m := of_decide_eq_true h
theorem lvs_keep {w0 : World} {b : Nat} {G : GD} {k : Nat} {K : Nat → Prop} {w w' : World} (h : LvS w0 b G k K w) (hb : Below w.heap.size w w') : LvS w0 b G k K w' := ⟨h.tk.keep hb, h.bl.trans (hb.mono h.bl.size), h.it.keep hb, h.low⟩
theorem sle_keep {w w' : World} {a : Option Addr} {l : List OpD} (h : SlE w 6 MopK a l) (hb : Below w.heap.size w w') : SlE w' 6 MopK a l := fun hne => by
  obtain ⟨b, off, e, hl, hc⟩ := h hne
  exact ⟨b, off, e, Nat.lt_of_lt_of_le hl hb.size, fun i x hi => by
    obtain ⟨cs, h1, h2, h3⟩ := hc i x hi
    exact ⟨cs, h1, h2, fun j u hj => (hb.cell (p := ⟨b, off + i * 6 + j, none⟩) hl).trans (h3 j u hj)⟩⟩
set_option maxRecDepth 100000 in
set_option maxHeartbeats 8000000 in
theorem walk (w : World) (hI : It w) (x0 : Option Addr) (c0 : Nat) (l0 : List OpD) (n0 : ByteArray) (o0 : Int) (t0 : ByteArray) (s0 : SlE w 6 MopK x0 l0) (m0 : l0.length ≤ maxLen) (_ : n0.size ≤ maxLen) (_ : t0.size ≤ maxLen) :
    Calls Tryz.prog 4 #[.agg #[.slice x0 l0.length c0, .string n0, .int .i64 o0, .string t0]] w fun e w' => e = .returned (.bool true) ∧ Below w.heap.size w w' := by
  have hb := (Below.refl w.heap.size w).alloc (Nat.le_refl _) (.cells #[.slice x0 l0.length c0, .string n0, .int .i64 o0, .string t0] 40 (0, 0))
  have hx := Box.new w 40 #[.slice x0 l0.length c0, .string n0, .int .i64 o0, .string t0]
  have HI := Lib.hid (hI.keep hb)
  have HS := Lib.hid (sle_keep s0 hb)
  have HM := Lib.hid m0
  have HB := Lib.hid hb
  have r0 := hx.cell 0 _ rfl
  have r1 := hx.cell 1 _ rfl
  have r2 := hx.cell 2 _ rfl
  have r3 := hx.cell 3 _ rfl
  clear hI s0 m0 hb hx
  go_enter Tryz.func4, Tryz.ntmps4
  go_wp2_with fail
  obtain ⟨w1, hw1⟩ : ∃ x, x = w.alloc (.cells #[.slice x0 l0.length c0, .string n0, .int .i64 o0, .string t0] 40 (0, 0)) := ⟨_, rfl⟩
  rw [← hw1] at HI HS HB r0 r1 r2 r3
  rw [← hw1]
  clear hw1
  go_quiet (fail)
  have hd : Below w1.heap.size w1 (w1.drewN nq) := ⟨rfl, rfl, rfl, Nat.le_refl _, fun _ _ => rfl⟩
  have HB := Lib.hid (HB.out.trans (hd.mono HB.out.size))
  have HI := Lib.hid (HI.out.keep hd)
  have HS := Lib.hid (sle_keep HS.out hd)
  clear hd r0 r1 r2 r3
  generalize w1.drewN nq = w2 at *
  have HSM := Lib.hid (small_any w2 x0 c0 l0 30 HS.out HM.out)
  by_cases hs1 : smallB l0 30 = true
  case neg =>
    have hs1 : smallB l0 30 = false := by simpa using hs1
    rw [hs1] at HSM
    go_wp2_with fail
    refine HSM.out.mono ?_
    rintro e w2' ⟨rfl, rfl⟩
    go_wp2_with fail
    refine (live_any _ HI.out).mono ?_
    rintro e wl ⟨rfl, hb⟩
    have HL := Lib.hid (HB.out.trans (hb.mono HB.out.size))
    clear hb
    go_wp2
    go_ret
    exact ⟨rfl, HL.out⟩
  have HO := Lib.hid (small_iff hs1)
  rw [hs1] at HSM
  clear hs1
  by_cases h0 : n0.size ≤ 600
  case neg =>
    have d0 : ((600 : Int) < (n0.size : Int)) = True := eq_true (by omega)
    clear h0
    go_wp2_with fail
    refine HSM.out.mono ?_
    rintro e w2' ⟨rfl, rfl⟩
    go_wp2_with fail
    refine (live_any _ HI.out).mono ?_
    rintro e wl ⟨rfl, hb⟩
    have HL := Lib.hid (HB.out.trans (hb.mono HB.out.size))
    clear hb
    go_wp2
    go_ret
    exact ⟨rfl, HL.out⟩
  have d0 : ((600 : Int) < (n0.size : Int)) = False := eq_false (by omega)
  by_cases h1 : t0.size ≤ 2000
  case neg =>
    have d1 : ((2000 : Int) < (t0.size : Int)) = True := eq_true (by omega)
    clear h1
    go_wp2_with fail
    refine HSM.out.mono ?_
    rintro e w2' ⟨rfl, rfl⟩
    go_wp2_with fail
    refine (live_any _ HI.out).mono ?_
    rintro e wl ⟨rfl, hb⟩
    have HL := Lib.hid (HB.out.trans (hb.mono HB.out.size))
    clear hb
    go_wp2
    go_ret
    exact ⟨rfl, HL.out⟩
  have d1 : ((2000 : Int) < (t0.size : Int)) = False := eq_false (by omega)
  by_cases h2 : 0 ≤ o0
  case neg =>
    have d2 : (o0 < 0) = True := eq_true (by omega)
    clear h2
    go_wp2_with fail
    refine HSM.out.mono ?_
    rintro e w2' ⟨rfl, rfl⟩
    go_wp2_with fail
    refine (live_any _ HI.out).mono ?_
    rintro e wl ⟨rfl, hb⟩
    have HL := Lib.hid (HB.out.trans (hb.mono HB.out.size))
    clear hb
    go_wp2
    go_ret
    exact ⟨rfl, HL.out⟩
  have d2 : (o0 < 0) = False := eq_false (by omega)
  by_cases h3 : o0 ≤ 10000
  case neg =>
    have d3 : ((10000 : Int) < o0) = True := eq_true (by omega)
    clear h3
    go_wp2_with fail
    refine HSM.out.mono ?_
    rintro e w2' ⟨rfl, rfl⟩
    go_wp2_with fail
    refine (live_any _ HI.out).mono ?_
    rintro e wl ⟨rfl, hb⟩
    have HL := Lib.hid (HB.out.trans (hb.mono HB.out.size))
    clear hb
    go_wp2
    go_ret
    exact ⟨rfl, HL.out⟩
  have d3 : ((10000 : Int) < o0) = False := eq_false (by omega)
  have H0 := Lib.hid h0
  have H1 := Lib.hid h1
  have H2 := Lib.hid h2
  have H3 := Lib.hid h3
  obtain ⟨of, hof⟩ : ∃ of : Nat, o0 = (of : Int) := ⟨o0.toNat, by omega⟩
  subst hof
  clear h0 h1 h2 h3
  have HNW := Lib.hid (lv_new w2 HI.out)
  go_wp2_with fail
  refine HSM.out.mono ?_
  rintro e w2' ⟨rfl, rfl⟩
  clear HSM
  go_wp2_with fail
  refine HNW.out.mono ?_
  rintro e w3 ⟨b, rfl, hs⟩
  have HLS := Lib.hid hs
  clear hs HNW
  go_wp2_with fail
  go_loopw [8] (fun i wr => ∃ j : Nat, j ≤ l0.length ∧ i = .int .i64 j ∧ Hid (LvS w2' b (runG newG (l0.take j)) j (fun j => j < w2'.heap.size) wr)) (fun i _ => l0.length - (intOf i).toNat)
  case atStart => exact ⟨0, Nat.zero_le _, rfl, HLS⟩
  case round =>
    clear HLS
    rename_i hkl1
    obtain ⟨j, hj, rfl, HLJ⟩ := hrel
    have HLEN := Lib.hid HO.out.2
    by_cases hlt : j < l0.length
    · clear hkl1
      obtain ⟨x0b, x0o, rfl, _, q0, q1, q2, q3, q4, q5⟩ := HS.out.mop HLJ.out.bl j hlt
      have HOJ : Hid (okO l0[j]) := HO.out.1 _ (List.getElem_mem hlt)
      have HRJ : Hid (runG newG (l0.take (j + 1)) = (doG (runG newG (l0.take j)) l0[j]).2) := runG_take hlt
      have h0 : (0 : Int) ≤ (j : Int) := by omega
      have hj1 : (j : Int) < (l0.length : Int) := by omega
      have HLT := Lib.hid hlt
      generalize l0[j] = x at *
      have HD := Lib.hid (lv_ask HLJ.out HI.out (by have := HLEN.out; omega) x HOJ.out)
      rw [← HRJ.out] at HD
      unfold opV opA at HD
      clear hlt
      go_wp2_with fail
      refine HD.out.mono ?_
      rintro e w4 ⟨⟨v, rfl⟩, hs⟩
      have HLS2 := Lib.hid hs
      clear hs HD q0 q1 q2 q3 q4 q5
      have hlt := HLT.out
      have hkk : j + 1 ≤ 30 := by have := HLEN.out; omega
      go_wp2
      go_roundw
      case rel => exact ⟨j + 1, by omega, by go_num, HLS2⟩
      case measure => simp [intOf]; omega
    · have hke : j = l0.length := by omega
      clear hlt
      rw [hke] at HLJ
      rw [List.take_length] at HLJ
      subst hke
      have HK : Hid (l0.length ≤ 30) := by have := HLEN.out; show _ ≤ _; omega
      clear hj
      generalize runG newG l0 = G at *
      have HBN : Hid (n0.size ≤ 100000) := Nat.le_trans H0.out (by decide)
      have HBT : Hid (t0.size ≤ 1000000) := Nat.le_trans H1.out (by decide)
      rcases written HLJ.out.tk.wf n0 of t0 (by have := H1.out; have := H3.out; omega) with ⟨er, he, w1, w2, w3⟩ | ⟨t, G', ht, w1, w2, w3, w4⟩
      · have HD := Lib.hid (lv_do HLJ.out HI.out (by have := HK.out; omega) (wrR n0) HBN.out (by show 0 ≤ 100000; omega) (by show 0 ≤ 1000000; omega) w1)
        unfold opV opA wrR noB at HD
        go_wp2_with fail
        refine HD.out.mono ?_
        rintro e v1 ⟨va1, vc1, rfl, K1, hm, hs, ha, hk⟩
        have HS1 := Lib.hid hs
        have HA1 := Lib.hid ha
        clear hm hs ha hk HD HLJ
        simp only [ansV]
        have HD := Lib.hid (lv_do HS1.out HI.out (by have := HK.out; omega) (wrW n0 of t0) HBN.out (by show 0 ≤ 100000; omega) HBT.out w2)
        unfold opV opA wrW noB at HD
        go_wp2_with fail
        refine HD.out.mono ?_
        rintro e v2 ⟨va2, vc2, rfl, K2, hm, hs, ha, hk⟩
        have HS2 := Lib.hid hs
        have HA2 := Lib.hid ha
        have HA1 := Lib.hid (HA1.out.go hk hm)
        clear hm hs ha hk HD HS1
        simp only [ansV]
        have HD := Lib.hid (lv_do HS2.out HI.out (by have := HK.out; omega) (wrR n0) HBN.out (by show 0 ≤ 100000; omega) (by show 0 ≤ 1000000; omega) w1)
        unfold opV opA wrR noB at HD
        go_wp2_with fail
        refine HD.out.mono ?_
        rintro e v3 ⟨va3, vc3, rfl, K3, hm, hs, ha, hk⟩
        have HS3 := Lib.hid hs
        have HA3 := Lib.hid ha
        have HA1 := Lib.hid (HA1.out.go hk hm)
        have HA2 := Lib.hid (HA2.out.go hk hm)
        clear hm hs ha hk HD HS2
        simp only [ansV]
        have HD := Lib.hid (lv_do HS3.out HI.out (by have := HK.out; omega) (wrG n0 of t0) HBN.out (by show 0 ≤ 100000; omega) (by show 0 ≤ 1000000; omega) w3)
        unfold opV opA wrG noB at HD
        go_wp2_with fail
        refine HD.out.mono ?_
        rintro e v4 ⟨va4, vc4, rfl, K4, hm, hs, ha, hk⟩
        have HS4 := Lib.hid hs
        have HA4 := Lib.hid ha
        have HA1 := Lib.hid (HA1.out.go hk hm)
        have HA2 := Lib.hid (HA2.out.go hk hm)
        have HA3 := Lib.hid (HA3.out.go hk hm)
        clear hm hs ha hk HD HS3
        simp only [ansV]
        obtain ⟨W, hW⟩ : ∃ x, x = v4.alloc (.cells #[.int .i64 (noA er).code, .int .i64 (noA er).n, .string (noA er).data, .slice va4 (noA er).names.length vc4] 33 (0, 0)) := ⟨_, rfl⟩
        rw [← hW] at HS4 HA1 HA2 HA3 HA4
        have c1 : W.cell? ⟨v1.heap.size, 0, none⟩ = some (.int .i64 er) := HA1.out.box.cell 0 _ rfl
        have c2 : W.cell? ⟨v2.heap.size, 0, none⟩ = some (.int .i64 er) := HA2.out.box.cell 0 _ rfl
        have c3 : W.cell? ⟨v3.heap.size, 0, none⟩ = some (.int .i64 er) := HA3.out.box.cell 0 _ rfl
        have f1 : (er != 0) = true := by simpa using he
        have HLV := Lib.hid (live_any W HS4.out.it)
        rw [hW] at c1 c2 c3 HLV
        clear w1 w2 w3 he HA1 HA2 HA3 HA4
        go_wp2_with fail
        refine HLV.out.mono ?_
        rintro e wl ⟨rfl, hb⟩
        rw [← hW] at hb
        have HL := Lib.hid ((HB.out.trans (HS4.out.bl.mono HB.out.size)).trans (hb.mono (by have := HB.out.size; have := HS4.out.bl.size; omega)))
        clear hb
        go_wp2
        go_ret
        exact ⟨rfl, HL.out⟩
      · by_cases hz : t0.size = 0
        · rw [writ_none hz] at w3 w4
          have HZZ := Lib.hid hz
          clear hz
          have HD := Lib.hid (lv_do HLJ.out HI.out (by have := HK.out; omega) (wrR n0) HBN.out (by show 0 ≤ 100000; omega) (by show 0 ≤ 1000000; omega) w1)
          unfold opV opA wrR noB at HD
          go_wp2_with fail
          refine HD.out.mono ?_
          rintro e v1 ⟨va1, vc1, rfl, K1, hm, hs, ha, hk⟩
          have HS1 := Lib.hid hs
          have HA1 := Lib.hid ha
          clear hm hs ha hk HD HLJ
          simp only [ansV]
          have HD := Lib.hid (lv_do HS1.out HI.out (by have := HK.out; omega) (wrW n0 of t0) HBN.out (by show 0 ≤ 100000; omega) HBT.out w2)
          unfold opV opA wrW noB at HD
          go_wp2_with fail
          refine HD.out.mono ?_
          rintro e v2 ⟨va2, vc2, rfl, K2, hm, hs, ha, hk⟩
          have HS2 := Lib.hid hs
          have HA2 := Lib.hid ha
          have HA1 := Lib.hid (HA1.out.go hk hm)
          clear hm hs ha hk HD HS1
          simp only [ansV]
          have HD := Lib.hid (lv_do HS2.out HI.out (by have := HK.out; omega) (wrR n0) HBN.out (by show 0 ≤ 100000; omega) (by show 0 ≤ 1000000; omega) w3)
          unfold opV opA wrR noB at HD
          go_wp2_with fail
          refine HD.out.mono ?_
          rintro e v3 ⟨va3, vc3, rfl, K3, hm, hs, ha, hk⟩
          have HS3 := Lib.hid hs
          have HA3 := Lib.hid ha
          have HA1 := Lib.hid (HA1.out.go hk hm)
          have HA2 := Lib.hid (HA2.out.go hk hm)
          clear hm hs ha hk HD HS2
          simp only [ansV]
          have HD := Lib.hid (lv_do HS3.out HI.out (by have := HK.out; omega) (wrG n0 of t0) HBN.out (by show 0 ≤ 100000; omega) (by show 0 ≤ 1000000; omega) w4)
          unfold opV opA wrG noB at HD
          go_wp2_with fail
          refine HD.out.mono ?_
          rintro e v4 ⟨va4, vc4, rfl, K4, hm, hs, ha, hk⟩
          have HS4 := Lib.hid hs
          have HA4 := Lib.hid ha
          have HA1 := Lib.hid (HA1.out.go hk hm)
          have HA2 := Lib.hid (HA2.out.go hk hm)
          have HA3 := Lib.hid (HA3.out.go hk hm)
          clear hm hs ha hk HD HS3
          simp only [ansV]
          obtain ⟨W, hW⟩ : ∃ x, x = v4.alloc (.cells #[.int .i64 0, .int .i64 ((cutB t of t0.size).size : Nat), .string (cutB t of t0.size), .slice va4 0 vc4] 33 (0, 0)) := ⟨_, rfl⟩
          have HS4 : Hid (LvS w2' b G' (l0.length + 1 + 1 + 1 + 1) K4 W) := by rw [hW]; exact HS4.out
          have HA1 : Hid (AnsAt K4 W v1.heap.size ⟨0, (t.size : Nat), t, []⟩ va1 vc1) := by rw [hW]; exact HA1.out
          have HA2 : Hid (AnsAt K4 W v2.heap.size ⟨0, (t0.size : Nat), noB, []⟩ va2 vc2) := by rw [hW]; exact HA2.out
          have HA3 : Hid (AnsAt K4 W v3.heap.size ⟨0, (t.size : Nat), t, []⟩ va3 vc3) := by rw [hW]; exact HA3.out
          have c2 : W.cell? ⟨v2.heap.size, 0, none⟩ = some (.int .i64 0) := HA2.out.box.cell 0 _ rfl
          have d0 : W.cell? ⟨v1.heap.size, 0, none⟩ = some (.int .i64 0) := HA1.out.box.cell 0 _ rfl
          have d1 : W.cell? ⟨v1.heap.size, 1, none⟩ = some (.int .i64 (t.size : Nat)) := HA1.out.box.cell 1 _ rfl
          have d2 : W.cell? ⟨v1.heap.size, 2, none⟩ = some (.string t) := HA1.out.box.cell 2 _ rfl
          have d3 : W.cell? ⟨v1.heap.size, 3, none⟩ = some (.slice va1 0 vc1) := HA1.out.box.cell 3 _ rfl
          have e0 : W.cell? ⟨v3.heap.size, 0, none⟩ = some (.int .i64 0) := HA3.out.box.cell 0 _ rfl
          have e1 : W.cell? ⟨v3.heap.size, 1, none⟩ = some (.int .i64 (t.size : Nat)) := HA3.out.box.cell 1 _ rfl
          have e2 : W.cell? ⟨v3.heap.size, 2, none⟩ = some (.string t) := HA3.out.box.cell 2 _ rfl
          have e3 : W.cell? ⟨v3.heap.size, 3, none⟩ = some (.slice va3 0 vc3) := HA3.out.box.cell 3 _ rfl
          have ft : (t0.toList == []) = true := by
            have h9 : t0 = ⟨#[]⟩ := ByteArray.ext (Array.eq_empty_of_size_eq_zero HZZ.out)
            rw [h9]; simp [ByteArray.toList_eq]
          have hss := same_ans ⟨0, (t.size : Nat), t, []⟩ ⟨0, (t.size : Nat), t, []⟩ va1 va3 vc1 vc3 W HA1.out.sl HA3.out.sl (by show 0 ≤ 100000; omega)
          rw [decide_eq_true (rfl : (⟨0, (t.size : Nat), t, []⟩ : AnsD) = _)] at hss
          have HSS := Lib.hid hss
          unfold ansV at HSS
          rw [hW] at c2 d0 d1 d2 d3 e0 e1 e2 e3 HSS
          clear w1 w2 w3 w4 hss HA1 HA2 HA3
          go_wp2_with fail
          refine HSS.out.mono ?_
          rintro e v5 ⟨rfl, hb⟩
          rw [← hW] at hb
          have HS5 := Lib.hid (lvs_keep HS4.out hb)
          clear hb HSS c2 d0 d1 d2 d3 e0 e1 e2 e3 hW
          have HLV := Lib.hid (live_any v5 HS5.out.it)
          go_wp2_with fail
          refine HLV.out.mono ?_
          rintro e wl ⟨rfl, hb⟩
          have HL := Lib.hid ((HB.out.trans (HS5.out.bl.mono HB.out.size)).trans (hb.mono (by have := HB.out.size; have := HS5.out.bl.size; omega)))
          clear hb
          go_wp2
          go_ret
          exact ⟨rfl, HL.out⟩
        · have HZ := Lib.hid hz
          have HZS := Lib.hid (writ_size (t := t) (off := of) hz)
          have HZH := Lib.hid (writ_head (t := t) (off := of) hz rfl)
          have HZT := Lib.hid (writ_tail (t := t) (off := of) hz rfl)
          rw [writ_got hz] at w4
          have ft : (t0.toList == []) = false := by
            have h9 : t0.toList ≠ [] := fun e => hz (by
              have h8 : t0 = ⟨#[]⟩ := toList_inj (e.trans (by simp [ByteArray.toList_eq]))
              rw [h8]; rfl)
            simpa using h9
          clear hz
          have HTS : Hid (t.size ≤ 16384) := ht
          generalize writB t of t0 = NB at *
          have HD := Lib.hid (lv_do HLJ.out HI.out (by have := HK.out; omega) (wrR n0) HBN.out (by show 0 ≤ 100000; omega) (by show 0 ≤ 1000000; omega) w1)
          unfold opV opA wrR noB at HD
          go_wp2_with fail
          refine HD.out.mono ?_
          rintro e v1 ⟨va1, vc1, rfl, K1, hm, hs, ha, hk⟩
          have HS1 := Lib.hid hs
          have HA1 := Lib.hid ha
          clear hm hs ha hk HD HLJ
          simp only [ansV]
          have HD := Lib.hid (lv_do HS1.out HI.out (by have := HK.out; omega) (wrW n0 of t0) HBN.out (by show 0 ≤ 100000; omega) HBT.out w2)
          unfold opV opA wrW noB at HD
          go_wp2_with fail
          refine HD.out.mono ?_
          rintro e v2 ⟨va2, vc2, rfl, K2, hm, hs, ha, hk⟩
          have HS2 := Lib.hid hs
          have HA2 := Lib.hid ha
          have HA1 := Lib.hid (HA1.out.go hk hm)
          clear hm hs ha hk HD HS1
          simp only [ansV]
          have HD := Lib.hid (lv_do HS2.out HI.out (by have := HK.out; omega) (wrR n0) HBN.out (by show 0 ≤ 100000; omega) (by show 0 ≤ 1000000; omega) w3)
          unfold opV opA wrR noB at HD
          go_wp2_with fail
          refine HD.out.mono ?_
          rintro e v3 ⟨va3, vc3, rfl, K3, hm, hs, ha, hk⟩
          have HS3 := Lib.hid hs
          have HA3 := Lib.hid ha
          have HA1 := Lib.hid (HA1.out.go hk hm)
          have HA2 := Lib.hid (HA2.out.go hk hm)
          clear hm hs ha hk HD HS2
          simp only [ansV]
          have HD := Lib.hid (lv_do HS3.out HI.out (by have := HK.out; omega) (wrG n0 of t0) HBN.out (by show 0 ≤ 100000; omega) (by show 0 ≤ 1000000; omega) w4)
          unfold opV opA wrG noB at HD
          go_wp2_with fail
          refine HD.out.mono ?_
          rintro e v4 ⟨va4, vc4, rfl, K4, hm, hs, ha, hk⟩
          have HS4 := Lib.hid hs
          have HA4 := Lib.hid ha
          have HA1 := Lib.hid (HA1.out.go hk hm)
          have HA2 := Lib.hid (HA2.out.go hk hm)
          have HA3 := Lib.hid (HA3.out.go hk hm)
          clear hm hs ha hk HD HS3
          simp only [ansV]
          obtain ⟨W, hW⟩ : ∃ x, x = v4.alloc (.cells #[.int .i64 0, .int .i64 (t0.size : Nat), .string t0, .slice va4 0 vc4] 33 (0, 0)) := ⟨_, rfl⟩
          have HS4 : Hid (LvS w2' b G' (l0.length + 1 + 1 + 1 + 1) K4 W) := by rw [hW]; exact HS4.out
          have HA1 : Hid (AnsAt K4 W v1.heap.size ⟨0, (t.size : Nat), t, []⟩ va1 vc1) := by rw [hW]; exact HA1.out
          have HA2 : Hid (AnsAt K4 W v2.heap.size ⟨0, (t0.size : Nat), noB, []⟩ va2 vc2) := by rw [hW]; exact HA2.out
          have HA3 : Hid (AnsAt K4 W v3.heap.size ⟨0, (NB.size : Nat), NB, []⟩ va3 vc3) := by rw [hW]; exact HA3.out
          have HA4 : Hid (AnsAt K4 W v4.heap.size ⟨0, (t0.size : Nat), t0, []⟩ va4 vc4) := by rw [hW]; exact HA4.out
          have c1 : W.cell? ⟨v2.heap.size, 1, none⟩ = some (.int .i64 (t0.size : Nat)) := HA2.out.box.cell 1 _ rfl
          have c2 : W.cell? ⟨v2.heap.size, 0, none⟩ = some (.int .i64 0) := HA2.out.box.cell 0 _ rfl
          have d2 : W.cell? ⟨v1.heap.size, 2, none⟩ = some (.string t) := HA1.out.box.cell 2 _ rfl
          have e2 : W.cell? ⟨v3.heap.size, 2, none⟩ = some (.string NB) := HA3.out.box.cell 2 _ rfl
          have g2 : W.cell? ⟨v4.heap.size, 2, none⟩ = some (.string t0) := HA4.out.box.cell 2 _ rfl
          obtain ⟨z, hz⟩ : ∃ z, NB.size = t.size + z := ⟨NB.size - t.size, by have := HZS.out; omega⟩
          have HNT := Lib.hid hz
          clear hz
          have b1 : of ≤ 10000 := by have := H3.out; omega
          have b2 : t0.size ≤ 2000 := H1.out
          have hmx : max (t.size : Int) ((of : Int) + (t0.size : Int)) = (NB.size : Int) := by have := HZS.out; omega
          rw [hW] at c1 c2 d2 e2 g2
          clear w1 w2 w3 w4
          go_wp2_with fail
          clear c1 c2 g2 hmx b1 b2
          rw [← hW] at d2 e2
          rw [← hW]
          clear hW
          have hsz : (NB.size : Int) - (t.size : Int) = (z : Int) := by have := HNT.out; omega
          have b3 : NB.size ≤ 20000 := by have h1 := HZS.out; have h2 := HTS.out; have h3 := H3.out; have h4 := H1.out; omega
          have b4 : t.size ≤ 16384 := HTS.out
          have d3 : W.drew.cell? ⟨v1.heap.size, 2, none⟩ = some (.string t) := d2
          refine wp_region_tree (fun w => w.cell? ⟨v1.heap.size, 2, none⟩ = some (.string t)) 8 (.quiet 0 (.quiet 1 (.quiet 2 (.quiet 3 (.quiet 4 (.quiet 5 (.quiet 6 (.make 7 .nil)))))))) (by kernel_rfl) (by kernel_rfl) d3 ?_
          simp only [List.drop_succ_cons, List.drop_zero]
          iterate 7 (apply wpTr_step rfl; (intro W hS K hK; go_simp; exact hK _ rfl))
          refine wpTr_make rfl (fun K'' hK => ?_)
          go_simp
          rw [show IntKind.i64.wrap (z : Int) = (z : Int) from by rw [IntKind.wrap_i64]; have := HNT.out; omega]
          refine (zeros_any z (by have := HNT.out; omega) _).mono ?_
          rintro e w10 ⟨rfl, hb⟩
          have d4 : w10.cell? ⟨v1.heap.size, 2, none⟩ = some (.string t) := (hb.cell (p := ⟨v1.heap.size, 2, none⟩) HA1.out.box.lt).trans d2
          refine hK _ _ _ (fun _ h => h) d4 ?_
          clear hK K''
          have HS5 := Lib.hid (lvs_keep HS4.out ((⟨rfl, rfl, rfl, Nat.le_refl _, fun _ _ => rfl⟩ : Below W.heap.size W W.drew).trans hb))
          have e4 : w10.cell? ⟨v3.heap.size, 2, none⟩ = some (.string NB) := (hb.cell (p := ⟨v3.heap.size, 2, none⟩) HA3.out.box.lt).trans e2
          clear hb d2 d3 e2 HA1 HA2 HA3 HA4
          have hzs : (t.size : Int) + ((zerosB z).size : Int) ≤ 1000000 := by rw [zeros_size]; have := HNT.out; omega
          refine wpTr_nil ?_
          go_wp2_with fail
          have hos : (t ++ zerosB z).size = NB.size := by rw [ByteArray.size_append, zeros_size]; exact HNT.out.symm
          have hpo : pb (t ++ zerosB z) = pb t ++ List.replicate (max t.size (of + t0.size) - t.size) 0 := by
            rw [pb_append, pb_zeros]
            congr 2
            have h1 := HNT.out
            have h2 := HZS.out
            omega
          generalize t ++ zerosB z = OLD at *
          have hx1 : NB.extract 0 of = OLD.extract 0 of := by
            apply pb_ext
            rw [pb_cut, pb_cut, List.drop_zero, List.drop_zero, Nat.sub_zero, hpo, HZH.out]
          have hx2 : NB.extract (of + t0.size) NB.size = OLD.extract (of + t0.size) NB.size := by
            apply pb_ext
            rw [pb_cut, pb_cut, hpo, HZT.out]
          have hq1 : ((NB.extract 0 of).toList == (OLD.extract 0 of).toList) = true := by rw [hx1]; simp
          obtain ⟨j, hj⟩ : ∃ j, j = of + t0.size := ⟨_, rfl⟩
          have hq2 : ((NB.extract j NB.size).toList == (OLD.extract j NB.size).toList) = true := by rw [hj, hx2]; simp
          have b1 : of ≤ 10000 := by have := H3.out; omega
          have b2 : t0.size ≤ 2000 := H1.out
          have b5 : (of : Int) + (t0.size : Int) ≤ (NB.size : Int) := by have := HZS.out; omega
          have hwr : IntKind.i64.wrap ((of : Int) + (t0.size : Int)) = (j : Int) := by rw [IntKind.wrap_i64, hj]; omega
          have j1 : (j : Int) ≤ (NB.size : Int) := by omega
          have j2 : j ≤ NB.size := by omega
          have j3 : (0 : Int) ≤ (j : Int) := by omega
          have b6 : (of : Int) ≤ (NB.size : Int) := by omega
          have b7 : of + t0.size ≤ NB.size := by omega
          have b8 : of ≤ NB.size := by omega
          have b9 : (0 : Int) ≤ (of : Int) := by omega
          have e5 : w10.drew.cell? ⟨v3.heap.size, 2, none⟩ = some (.string NB) := e4
          have HLV := Lib.hid (live_any w10.drew (HS5.out.it.keep ⟨rfl, rfl, rfl, Nat.le_refl _, fun _ _ => rfl⟩))
          have HBE := Lib.hid ((HB.out.trans (HS5.out.bl.mono HB.out.size)).trans ((⟨rfl, rfl, rfl, Nat.le_refl _, fun _ _ => rfl⟩ : Below w10.heap.size w10 w10.drew).mono (by have := HB.out.size; have := HS5.out.bl.size; omega)))
          clear hj b1 b2 b5 b7 hx1 hx2 hpo d4 e4 hsz hzs HS5
          refine wp_region_tree (fun w => w.cell? ⟨v3.heap.size, 2, none⟩ = some (.string NB)) 22 (.quiet 0 (.quiet 1 (.quiet 2 (.quiet 3 (.quiet 4 (.quiet 5 (.quiet 6 (.quiet 7 (.quiet 8 (.quiet 9 (.quiet 10 (.quiet 11 (.quiet 12 (.quiet 13 (.quiet 14 (.quiet 15 (.quiet 16 (.quiet 17 (.quiet 18 (.quiet 19 (.quiet 20 (.quiet 21 .nil)))))))))))))))))))))) (by kernel_rfl) (by kernel_rfl) e5 ?_
          simp only [List.drop_succ_cons, List.drop_zero]
          iterate 22 (apply wpTr_step rfl; (intro W hS K hK; go_simp; exact hK _ rfl))
          refine wpTr_nil ?_
          go_wp2_with fail
          refine HLV.out.mono ?_
          rintro e wl ⟨rfl, hb⟩
          have HL := Lib.hid (HBE.out.trans (hb.mono HBE.out.size))
          clear hb
          go_wp2
          go_ret
          exact ⟨rfl, HL.out⟩
end Go.Proofs.YteimpebfenpifaaGreatDoor.modelWritten
