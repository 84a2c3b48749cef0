/-
  The walk of ModelListed.
-/
import Derived.Test.YteimpebfenpifaaGreatDoorMg43
namespace Go.Proofs.YteimpebfenpifaaGreatDoor.modelListed
open Go Go.RowKit Go.ChangeShapes Go.WideShapes Go.ChangeAt

theorem small_iff {l : List OpD} {m : Int} (h : smallB l m = true) : (∀ o ∈ l, okO o) ∧ (l.length : Int) ≤ m := of_decide_eq_true h
theorem fieldA (x y z u : Value) (W : World) : (Instr.field 33 (.agg #[x, y, z, u]) 0).run Tryz.prog W = .ok x W := by kernel_rfl
set_option maxRecDepth 100000 in
set_option maxHeartbeats 8000000 in
theorem walk (w : World) (hI : It w) (x0 : Option Addr) (c0 : Nat) (l0 : List OpD) (s0 : SlE w 6 MopK x0 l0) (m0 : l0.length ≤ maxLen) (n0 : ByteArray) (_ : n0.size ≤ 140737488351232) :
    Calls Tryz.prog 9 #[.slice x0 l0.length c0, .string n0] w fun e w' => e = .returned (.bool true) ∧ Below w.heap.size w w' := by
  have HI := Lib.hid hI
  have HS := Lib.hid s0
  have HM := Lib.hid m0
  clear hI s0 m0
  go_enter Tryz.func9, Tryz.ntmps9
  go_wp2_with fail
  refine (small_any w x0 c0 l0 30 HS.out HM.out).mono ?_
  rintro e w1 ⟨rfl, rfl⟩
  by_cases hs1 : smallB l0 30 = true
  case neg =>
    have hs1 : smallB l0 30 = false := by simpa using hs1
    rw [hs1]
    go_wp2_with fail
    refine (live_any _ HI.out).mono ?_
    rintro e wl ⟨rfl, hb⟩
    have HL := Lib.hid hb
    clear hb
    go_wp2
    go_ret
    exact ⟨rfl, HL.out⟩
  have HO := Lib.hid (small_iff hs1)
  rw [hs1]
  clear hs1
  by_cases h0 : n0.size ≤ 600
  case neg =>
    have d0 : ((600 : Int) < (n0.size : Int)) = True := eq_true (by omega)
    clear h0
    go_wp2_with fail
    refine (live_any _ HI.out).mono ?_
    rintro e wl ⟨rfl, hb⟩
    have HL := Lib.hid hb
    clear hb
    go_wp2
    go_ret
    exact ⟨rfl, HL.out⟩
  have d0 : ((600 : Int) < (n0.size : Int)) = False := eq_false (by omega)
  have H0 := Lib.hid h0
  clear h0
  have HNW := Lib.hid (lv_new w1 HI.out)
  go_wp2_with fail
  refine HNW.out.mono ?_
  rintro e w3 ⟨b, rfl, hs⟩
  have HLS := Lib.hid hs
  clear hs HNW
  go_wp2_with fail
  go_loopw [6] (fun i wr => ∃ j : Nat, j ≤ l0.length ∧ i = .int .i64 j ∧ Hid (LvS w1 b (runG newG (l0.take j)) j (fun j => j < w1.heap.size) wr)) (fun i _ => l0.length - (intOf i).toNat)
  case atStart => exact ⟨0, Nat.zero_le _, rfl, HLS⟩
  case round =>
    clear HLS
    rename_i hkl1
    obtain ⟨j, hj, rfl, HLJ⟩ := hrel
    have HLEN := Lib.hid HO.out.2
    by_cases hlt : j < l0.length
    · clear hkl1
      obtain ⟨x0b, x0o, rfl, _, q0, q1, q2, q3, q4, q5⟩ := HS.out.mop HLJ.out.bl j hlt
      have HOJ : Hid (okO l0[j]) := HO.out.1 _ (List.getElem_mem hlt)
      have HRJ : Hid (runG newG (l0.take (j + 1)) = (doG (runG newG (l0.take j)) l0[j]).2) := runG_take hlt
      have h0 : (0 : Int) ≤ (j : Int) := by omega
      have hj1 : (j : Int) < (l0.length : Int) := by omega
      have HLT := Lib.hid hlt
      generalize l0[j] = x at *
      have HD := Lib.hid (lv_ask HLJ.out HI.out (by have := HLEN.out; omega) x HOJ.out)
      rw [← HRJ.out] at HD
      unfold opV opA at HD
      clear hlt
      go_wp2_with fail
      refine HD.out.mono ?_
      rintro e w4 ⟨⟨v, rfl⟩, hs⟩
      have HLS2 := Lib.hid hs
      clear hs HD q0 q1 q2 q3 q4 q5
      have hlt := HLT.out
      have hkk : j + 1 ≤ 30 := by have := HLEN.out; omega
      go_wp2
      go_roundw
      case rel => exact ⟨j + 1, by omega, by go_num, HLS2⟩
      case measure => simp [intOf]; omega
    · have hke : j = l0.length := by omega
      clear hlt
      rw [hke] at HLJ
      rw [List.take_length] at HLJ
      subst hke
      have HK : Hid (l0.length ≤ 30) := by have := HLEN.out; show _ ≤ _; omega
      clear hj
      generalize runG newG l0 = G at *
      have HBN : Hid (n0.size ≤ 100000) := Nat.le_trans H0.out (by decide)
      rcases listed HLJ.out.tk.wf n0 with ⟨er, he, hq1, hq2⟩ | ⟨n, ns, hq1, hq2⟩ | ⟨ns, hq1, hq2, h5, h6, h7, h8⟩
      · have f1 : (er != 0) = true := by simpa using he
        clear he
        have HD := Lib.hid (lv_do HLJ.out HI.out (by have := HK.out; omega) (liO n0) HBN.out (by show 0 ≤ 100000; omega) (by show 0 ≤ 1000000; omega) hq1)
        unfold opV opA liO noB at HD
        go_wp2_with fail
        refine HD.out.mono ?_
        rintro e v1 ⟨va1, vc1, rfl, K1, hm, hs, ha, hk⟩
        have HLJ := Lib.hid hs
        have HA1 := Lib.hid ha
        clear hm hs ha hk HD
        simp only [ansV]
        have HD := Lib.hid (lv_do HLJ.out HI.out (by have := HK.out; omega) (stO n0) HBN.out (by show 0 ≤ 100000; omega) (by show 0 ≤ 1000000; omega) hq2)
        unfold opV opA stO noB at HD
        go_wp2_with fail
        refine HD.out.mono ?_
        rintro e v2 ⟨va2, vc2, rfl, K2, hm, hs, ha, hk⟩
        have HA1 := Lib.hid (HA1.out.go hk hm)
        have HLJ := Lib.hid hs
        have HA2 := Lib.hid ha
        clear hm hs ha hk HD
        simp only [ansV]
        obtain ⟨W, hW⟩ : ∃ x, x = v2.alloc (.cells #[.int .i64 (noA er).code, .int .i64 (noA er).n, .string (noA er).data, .slice va2 (noA er).names.length vc2] 33 (0, 0)) := ⟨_, rfl⟩
        have HLJ : Hid (LvS w1 b G (l0.length + 1 + 1) K2 W) := by rw [hW]; exact HLJ.out
        have HA1 : Hid (AnsAt K2 W v1.heap.size (noA er) va1 vc1) := by rw [hW]; exact HA1.out
        have HA2 : Hid (AnsAt K2 W v2.heap.size (noA er) va2 vc2) := by rw [hW]; exact HA2.out
        have c0 : W.cell? ⟨v1.heap.size, 0, none⟩ = some (.int .i64 er) := HA1.out.box.cell 0 _ rfl
        have c1 : W.cell? ⟨v2.heap.size, 0, none⟩ = some (.int .i64 er) := HA2.out.box.cell 0 _ rfl
        rw [hW] at c0 c1
        clear HA1 HA2 hq1 hq2
        have HLV := Lib.hid (live_any W HLJ.out.it)
        rw [hW] at HLV
        go_wp2_with fail
        refine HLV.out.mono ?_
        rintro e wl ⟨rfl, hb⟩
        rw [← hW] at hb
        have HL := Lib.hid (HLJ.out.bl.trans (hb.mono HLJ.out.bl.size))
        clear hb
        go_wp2
        go_ret
        exact ⟨rfl, HL.out⟩
      · skip
        have HD := Lib.hid (lv_do HLJ.out HI.out (by have := HK.out; omega) (liO n0) HBN.out (by show 0 ≤ 100000; omega) (by show 0 ≤ 1000000; omega) hq1)
        unfold opV opA liO noB at HD
        go_wp2_with fail
        refine HD.out.mono ?_
        rintro e v1 ⟨va1, vc1, rfl, K1, hm, hs, ha, hk⟩
        have HLJ := Lib.hid hs
        have HA1 := Lib.hid ha
        clear hm hs ha hk HD
        simp only [ansV]
        have HD := Lib.hid (lv_do HLJ.out HI.out (by have := HK.out; omega) (stO n0) HBN.out (by show 0 ≤ 100000; omega) (by show 0 ≤ 1000000; omega) hq2)
        unfold opV opA stO noB at HD
        go_wp2_with fail
        refine HD.out.mono ?_
        rintro e v2 ⟨va2, vc2, rfl, K2, hm, hs, ha, hk⟩
        have HA1 := Lib.hid (HA1.out.go hk hm)
        have HLJ := Lib.hid hs
        have HA2 := Lib.hid ha
        clear hm hs ha hk HD
        simp only [ansV]
        obtain ⟨W, hW⟩ : ∃ x, x = v2.alloc (.cells #[.int .i64 0, .int .i64 (n : Nat), .string fileW, .slice va2 ns.length vc2] 33 (0, 0)) := ⟨_, rfl⟩
        have HLJ : Hid (LvS w1 b G (l0.length + 1 + 1) K2 W) := by rw [hW]; exact HLJ.out
        have HA1 : Hid (AnsAt K2 W v1.heap.size (noA 11) va1 vc1) := by rw [hW]; exact HA1.out
        have HA2 : Hid (AnsAt K2 W v2.heap.size ⟨0, (n : Nat), fileW, ns⟩ va2 vc2) := by rw [hW]; exact HA2.out
        have c0 : W.cell? ⟨v1.heap.size, 0, none⟩ = some (.int .i64 11) := HA1.out.box.cell 0 _ rfl
        have c1 : W.cell? ⟨v2.heap.size, 0, none⟩ = some (.int .i64 0) := HA2.out.box.cell 0 _ rfl
        have c2 : W.cell? ⟨v2.heap.size, 2, none⟩ = some (.string fileW) := HA2.out.box.cell 2 _ rfl
        rw [hW] at c0 c1 c2
        clear HA1 HA2 hq1 hq2
        have HLV := Lib.hid (live_any W HLJ.out.it)
        rw [hW] at HLV
        go_wp2_with fail
        refine HLV.out.mono ?_
        rintro e wl ⟨rfl, hb⟩
        rw [← hW] at hb
        have HL := Lib.hid (HLJ.out.bl.trans (hb.mono HLJ.out.bl.size))
        clear hb
        go_wp2
        go_ret
        exact ⟨rfl, HL.out⟩
      · have HN5 := Lib.hid h5
        have HN6 := Lib.hid h6
        have HGE : Hid (G.E.length ≤ l0.length) := HLJ.out.tk.bE
        have HN7 := Lib.hid h7
        have HN8 := Lib.hid h8
        clear h5 h6 h7 h8
        have HD := Lib.hid (lv_do HLJ.out HI.out (by have := HK.out; omega) (liO n0) HBN.out (by show 0 ≤ 100000; omega) (by show 0 ≤ 1000000; omega) hq1)
        unfold opV opA liO noB at HD
        go_wp2_with fail
        refine HD.out.mono ?_
        rintro e v1 ⟨va1, vc1, rfl, K1, hm, hs, ha, hk⟩
        have HLJ := Lib.hid hs
        have HA1 := Lib.hid ha
        clear hm hs ha hk HD
        simp only [ansV]
        have HD := Lib.hid (lv_do HLJ.out HI.out (by have := HK.out; omega) (stO n0) HBN.out (by show 0 ≤ 100000; omega) (by show 0 ≤ 1000000; omega) hq2)
        unfold opV opA stO noB at HD
        go_wp2_with fail
        refine HD.out.mono ?_
        rintro e v2 ⟨va2, vc2, rfl, K2, hm, hs, ha, hk⟩
        have HA1 := Lib.hid (HA1.out.go hk hm)
        have HLJ := Lib.hid hs
        have HA2 := Lib.hid ha
        clear hm hs ha hk HD
        simp only [ansV]
        obtain ⟨W, hW⟩ : ∃ x, x = v2.alloc (.cells #[.int .i64 0, .int .i64 (ns.length : Nat), .string dirW, .slice va2 0 vc2] 33 (0, 0)) := ⟨_, rfl⟩
        have HLJ : Hid (LvS w1 b G (l0.length + 1 + 1) K2 W) := by rw [hW]; exact HLJ.out
        have HA1 : Hid (AnsAt K2 W v1.heap.size ⟨0, 0, noB, ns⟩ va1 vc1) := by rw [hW]; exact HA1.out
        have HA2 : Hid (AnsAt K2 W v2.heap.size ⟨0, (ns.length : Nat), dirW, []⟩ va2 vc2) := by rw [hW]; exact HA2.out
        have c0 : W.cell? ⟨v1.heap.size, 0, none⟩ = some (.int .i64 0) := HA1.out.box.cell 0 _ rfl
        have HSP := Lib.hid (split_any n0 (by have := H0.out; omega) W)
        rw [hW] at c0 HSP
        clear hq1 hq2
        go_wp2_with fail
        refine HSP.out.mono ?_
        rintro e w5 ⟨v, rfl, hks, hb⟩
        rw [← hW] at hb hks
        clear hW c0 HSP
        obtain ⟨NM, hNM⟩ : ∃ x, x = (splitD n0).1 := ⟨_, rfl⟩
        rw [← hNM] at hks HN7
        have HJN : Hid ((joinD NM).size ≤ 600) := by show _ ≤ _; rw [hNM, join_split HN5.out]; exact H0.out
        have HNL : Hid (NM.length ≤ 601) := by have := split_len n0; have := H0.out; show _ ≤ _; rw [hNM]; omega
        have HNK : Hid (ns.length ≤ 30) := by have := HN6.out; have h9 := HLJ.out.tk.bE; have := HK.out; exact Nat.le_trans (Nat.le_trans HN6.out HGE.out) HK.out
        clear hNM
        obtain ⟨K5, hK5⟩ : ∃ K5 : Nat → Prop, K5 = fun j => K2 j ∨ v.ownBlock = some j := ⟨_, rfl⟩
        have HLJ : Hid (LvS w1 b G (l0.length + 1 + 1) K5 w5) := by rw [hK5]; exact HLJ.out.more hb _ (fun j hj => ⟨hks.own_block j hj, hks.lt j hj⟩)
        have HA1 : Hid (AnsAt K5 w5 v1.heap.size ⟨0, 0, noB, ns⟩ va1 vc1) := by rw [hK5]; exact HA1.out.go (Kp.of hb) (fun _ h => .inl h)
        have HA2 : Hid (AnsAt K5 w5 v2.heap.size ⟨0, (ns.length : Nat), dirW, []⟩ va2 vc2) := by rw [hK5]; exact HA2.out.go (Kp.of hb) (fun _ h => .inl h)
        have HR : Hid (KsAt K5 w5 v NM) := by rw [hK5]; exact ⟨⟨_, hks⟩, fun j hj => .inr hj⟩
        clear hb hks hK5
        go_wp2_with fail
        go_loopw [11] (fun i wr => ∃ j : Nat, ∃ wz : World, wz = wr ∧ j ≤ ns.length ∧ i = .int .i64 j ∧ Hid (∃ K : Nat → Prop, LvS w1 b G (l0.length + 1 + 1 + j) K wr ∧ AnsAt K wr v1.heap.size ⟨0, 0, noB, ns⟩ va1 vc1 ∧ AnsAt K wr v2.heap.size ⟨0, (ns.length : Nat), dirW, []⟩ va2 vc2 ∧ KsAt K wr v NM)) (fun i _ => ns.length - (intOf i).toNat)
        case atStart => exact ⟨0, _, rfl, Nat.zero_le _, rfl, ⟨K5, HLJ.out, HA1.out, HA2.out, HR.out⟩⟩
        case round =>
          clear HLJ HA1 HA2 HR
          rename_i hkl2
          obtain ⟨j, wr, rfl, hj, rfl, hrl⟩ := hrel
          clear K5
          obtain ⟨K5, hl1, hl2, hl3, hl4⟩ := hrl.out
          have HLR := Lib.hid hl1
          have HA1 := Lib.hid hl2
          have HA2 := Lib.hid hl3
          have HR := Lib.hid hl4
          clear hl1 hl2 hl3 hl4 hrl
          have c3 : wr.cell? ⟨v1.heap.size, 3, none⟩ = some (.slice va1 ns.length vc1) := HA1.out.box.cell 3 _ rfl
          by_cases hlt : j < ns.length
          · clear hkl2
            obtain ⟨c, hcj⟩ : ∃ c, ns[j]? = some c := ⟨_, List.getElem?_eq_getElem hlt⟩
            have HCJ := Lib.hid hcj
            obtain ⟨g, rfl⟩ := ns_addr HA1.out (by show 0 < ns.length; omega)
            have k3 : wr.cell? ⟨g, j, none⟩ = some (.string c) := by obtain ⟨B, hB⟩ := HA1.out.ks; exact hB.cellAt hcj
            obtain ⟨hcs, aq, hq, hqc⟩ := HN7.out c (List.mem_of_getElem? hcj)
            have HQ := Lib.hid hq
            have fa : (aq.code != 0) = false := by rw [hqc]; rfl
            have HJS : Hid ((joinD (NM ++ [c])).size ≤ 856) := by have h1 := join_snoc NM c; have h2 := HJN.out; show _ ≤ _; omega
            obtain ⟨AL, hAL⟩ : ∃ x, x = NM ++ [c] := ⟨_, rfl⟩
            rw [← hAL] at HQ HJS
            have HAL := Lib.hid hAL
            clear hAL
            have hfd := fieldA
            have h0 : (0 : Int) ≤ (j : Int) := by omega
            have hj1 : (j : Int) < (ns.length : Int) := by omega
            have HLT := Lib.hid hlt
            obtain ⟨B, hB⟩ := HR.out.ks
            have HKR := Lib.hid hB
            clear hlt hcs hq hqc hB hcj
            go_wp2_with (at_builtin; refine wp_keys_rows _ rfl _ _ rfl wr.heap.size B _ v [] NM rfl (Ks.nil _ _) rfl HKR.out (by have := HNL.out; simp; omega) (Nat.le_refl _) ?_)
            intro v5 w5 hk5 hg5
            have hb5 : Below wr.heap.size wr w5 := (Below.refl _ wr).grown hg5 (Nat.le_refl _) (fun k hk => by cases hk)
            have HA15 := Lib.hid (HA1.out.keep hb5)
            have HK5 := Lib.hid hk5
            have HB5 := Lib.hid hb5
            clear c3 k3 hg5 hk5 hb5 HKR
            have c3 : w5.cell? ⟨v1.heap.size, 3, none⟩ = some (.slice (some ⟨g, 0, none⟩) ns.length vc1) := HA15.out.box.cell 3 _ rfl
            have k3 : w5.cell? ⟨g, j, none⟩ = some (.string c) := by obtain ⟨B, hB⟩ := HA15.out.ks; exact hB.cellAt HCJ.out
            go_wp2_with (at_builtin; refine wp_keys_push _ rfl _ _ rfl wr.heap.size v5 NM rfl (HK5.out.alloc _) ⟨w5.heap.size, 0, none⟩ 1 1 [c] rfl rfl ?c1 (by have := HNL.out; omega) (by rw [size_alloc]; have := HB5.out.size; omega) ?_)
            case c1 =>
              intro q u hu
              rcases q with _ | q
              · injection hu with hu
                subst hu
                rw [add_plain]
                exact (Box.new w5 9 #[.string c]).cell 0 _ rfl
              · simp at hu
            intro v6 w6 hk6 hg6 _
            have hb6 : Below wr.heap.size wr w6 := (HB5.out.alloc HB5.out.size _).grown hg6 (by rw [size_alloc]; have := HB5.out.size; omega) HK5.out.own_block
            rw [← HAL.out] at hk6
            obtain ⟨ja, jc, rfl, hsl, hlc⟩ := hk6.shape
            have HSL := Lib.hid hsl
            have HLC := Lib.hid hlc
            have HLS6 := Lib.hid (HLR.out.go hb6)
            have HA16 := Lib.hid (HA1.out.keep hb6)
            have HA26 := Lib.hid (HA2.out.keep hb6)
            have HR6 := Lib.hid (HR.out.go (Kp.of hb6) (fun _ h => h))
            clear c3 k3 hk6 hg6 hb6 hsl hlc HK5 HB5 HA1 HA2 HR HLR HA15
            rcases Nat.eq_zero_or_pos j with hj0 | hj0
            · have dj : ((0 : Int) < (j : Int)) = False := eq_false (by omega)
              have dk : (0 < j) = False := eq_false (by omega)
              clear hj0
              go_wp2_with fail
              refine wp_region_tree (fun W => True) 22 (.quiet 0 (.quiet 1 (.make 2 (.quiet 3 (.make 4 (.quiet 5 (.quiet 6 (.quiet 7 (.quiet 8 (.quiet 9 (.quiet 10 (.quiet 11 (.quiet 12 (.quiet 13 (.quiet 14 (.quiet 15 (.quiet 16 (.quiet 17 (.quiet 18 (.quiet 19 (.quiet 20 (.quiet 21 .nil)))))))))))))))))))))) (by kernel_rfl) (by kernel_rfl) trivial ?_
              simp only [List.drop_succ_cons, List.drop_zero]
              iterate 2 (apply wpTr_step rfl; (intro W hS K hK; go_simp; exact hK _ rfl))
              refine wpTr_make rfl (fun K'' hK => ?_)
              go_simp
              refine (join_any ja jc AL w6.drew (HSL.out.keepB ⟨rfl, rfl, rfl, Nat.le_refl _, fun _ _ => rfl⟩) HLC.out (by have := HJS.out; omega)).mono ?_
              rintro e w7 ⟨rfl, hb⟩
              have hb := (⟨rfl, rfl, rfl, Nat.le_refl _, fun _ _ => rfl⟩ : Below w6.heap.size w6 w6.drew).trans hb
              have HLS7 := Lib.hid (HLS6.out.go hb)
              have HA17 := Lib.hid (HA16.out.keep hb)
              have HA27 := Lib.hid (HA26.out.keep hb)
              have HR7 := Lib.hid (HR6.out.go (Kp.of hb) (fun _ h => h))
              clear hb
              refine hK _ _ _ (fun _ h => h) trivial ?_
              clear hK K''
              iterate 1 (apply wpTr_step rfl; (intro W hS K hK; go_simp; exact hK _ rfl))
              have HD := Lib.hid (lv_pass HLS7.out HI.out (by have := HK.out; have := HNK.out; omega) (stO (joinD AL)) (by have := HJS.out; show _ ≤ 100000; exact Nat.le_trans this (by decide)) (by show 0 ≤ 100000; omega) (by show 0 ≤ 1000000; omega) HQ.out)
              unfold opV opA stO noB at HD
              refine wpTr_make rfl (fun K'' hK => ?_)
              go_simp
              refine HD.out.mono ?_
              rintro e w8 ⟨vq, vd, rfl, hs, hkp⟩
              have HLS8 := Lib.hid hs
              have HA18 := Lib.hid (HA17.out.go hkp (fun _ h => h))
              have HA28 := Lib.hid (HA27.out.go hkp (fun _ h => h))
              have HR8 := Lib.hid (HR7.out.go hkp (fun _ h => h))
              clear hs hkp HD
              unfold ansV
              refine hK _ _ _ (fun _ h => h) trivial ?_
              clear hK K''
              iterate 17 (apply wpTr_step rfl; (intro W hS K hK; go_simp; exact hK _ rfl))
              refine wpTr_nil ?_
              clear HLS6 HLS7 HA16 HA17 HA26 HA27 HR6 HR7 HSL HLC
              have hlt := HLT.out
              have hkk : j + 1 ≤ 100 := by have := HNK.out; omega
              go_wp2
              go_roundw
              case rel => exact ⟨j + 1, w8, rfl, by omega, by go_num, ⟨K5, HLS8.out, HA18.out, HA28.out, HR8.out⟩⟩
              case measure => simp [intOf]; omega
            · obtain ⟨m, hm⟩ : ∃ m, j = m + 1 := ⟨j - 1, by omega⟩
              have dj : ((0 : Int) < (j : Int)) = True := eq_true (by omega)
              have dk : (0 < j) = True := eq_true (by omega)
              obtain ⟨x, hx⟩ : ∃ x, ns[m]? = some x := ⟨_, List.getElem?_eq_getElem (by have := HLT.out; omega)⟩
              have HXM := Lib.hid hx
              have hlt2 : x.data.toList < c.data.toList := by
                have h1 := List.getElem?_eq_some_iff.1 hx
                have h2 := List.getElem?_eq_some_iff.1 HCJ.out
                have h3 := List.pairwise_iff_getElem.1 HN8.out m j h1.1 h2.1 (by omega)
                rw [h1.2, h2.2] at h3
                exact h3
              have hge := ge_no hlt2
              have hwr : IntKind.i64.wrap ((j : Int) - 1) = (m : Int) := by rw [IntKind.wrap_i64]; have := HNK.out; have := HLT.out; omega
              have m0 : (0 : Int) ≤ (m : Int) := by omega
              have m1 : (m : Int) < (ns.length : Int) := by have := HLT.out; omega
              clear hx hlt2 hj0 hm
              go_wp2_with fail
              have p0 : w6.drew.cell? ⟨v1.heap.size, 3, none⟩ = some (.slice (some ⟨g, 0, none⟩) ns.length vc1) := HA16.out.box.cell 3 _ rfl
              have p1 : w6.drew.cell? ⟨g, m, none⟩ = some (.string x) := by obtain ⟨B, hB⟩ := HA16.out.ks; exact hB.cellAt HXM.out
              have p2 : w6.drew.cell? ⟨g, j, none⟩ = some (.string c) := by obtain ⟨B, hB⟩ := HA16.out.ks; exact hB.cellAt HCJ.out
              refine wp_region_tree (fun W => W.cell? ⟨v1.heap.size, 3, none⟩ = some (.slice (some ⟨g, 0, none⟩) ns.length vc1) ∧ W.cell? ⟨g, m, none⟩ = some (.string x) ∧ W.cell? ⟨g, j, none⟩ = some (.string c)) 22 (.quiet 0 (.quiet 1 (.make 2 (.quiet 3 (.make 4 (.quiet 5 (.quiet 6 (.quiet 7 (.quiet 8 (.quiet 9 (.quiet 10 (.quiet 11 (.quiet 12 (.quiet 13 (.quiet 14 (.quiet 15 (.quiet 16 (.quiet 17 (.quiet 18 (.quiet 19 (.quiet 20 (.quiet 21 .nil)))))))))))))))))))))) (by kernel_rfl) (by kernel_rfl) ⟨p0, p1, p2⟩ ?_
              simp only [List.drop_succ_cons, List.drop_zero]
              iterate 2 (apply wpTr_step rfl; (intro W hS K hK; obtain ⟨u0, u1, u2⟩ := hS; go_simp; exact hK _ rfl))
              refine wpTr_make rfl (fun K'' hK => ?_)
              go_simp
              refine (join_any ja jc AL w6.drew (HSL.out.keepB ⟨rfl, rfl, rfl, Nat.le_refl _, fun _ _ => rfl⟩) HLC.out (by have := HJS.out; omega)).mono ?_
              rintro e w7 ⟨rfl, hb⟩
              have hb := (⟨rfl, rfl, rfl, Nat.le_refl _, fun _ _ => rfl⟩ : Below w6.heap.size w6 w6.drew).trans hb
              have HLS7 := Lib.hid (HLS6.out.go hb)
              have HA17 := Lib.hid (HA16.out.keep hb)
              have HA27 := Lib.hid (HA26.out.keep hb)
              have HR7 := Lib.hid (HR6.out.go (Kp.of hb) (fun _ h => h))
              clear hb
              clear p0 p1 p2
              have p0 : w7.cell? ⟨v1.heap.size, 3, none⟩ = some (.slice (some ⟨g, 0, none⟩) ns.length vc1) := HA17.out.box.cell 3 _ rfl
              have p1 : w7.cell? ⟨g, m, none⟩ = some (.string x) := by obtain ⟨B, hB⟩ := HA17.out.ks; exact hB.cellAt HXM.out
              have p2 : w7.cell? ⟨g, j, none⟩ = some (.string c) := by obtain ⟨B, hB⟩ := HA17.out.ks; exact hB.cellAt HCJ.out
              refine hK _ _ _ (fun _ h => h) ⟨p0, p1, p2⟩ ?_
              clear hK K''
              iterate 1 (apply wpTr_step rfl; (intro W hS K hK; obtain ⟨u0, u1, u2⟩ := hS; go_simp; exact hK _ rfl))
              have HD := Lib.hid (lv_pass HLS7.out HI.out (by have := HK.out; have := HNK.out; omega) (stO (joinD AL)) (by have := HJS.out; show _ ≤ 100000; exact Nat.le_trans this (by decide)) (by show 0 ≤ 100000; omega) (by show 0 ≤ 1000000; omega) HQ.out)
              unfold opV opA stO noB at HD
              refine wpTr_make rfl (fun K'' hK => ?_)
              go_simp
              refine HD.out.mono ?_
              rintro e w8 ⟨vq, vd, rfl, hs, hkp⟩
              have HLS8 := Lib.hid hs
              have HA18 := Lib.hid (HA17.out.go hkp (fun _ h => h))
              have HA28 := Lib.hid (HA27.out.go hkp (fun _ h => h))
              have HR8 := Lib.hid (HR7.out.go hkp (fun _ h => h))
              clear hs hkp HD
              unfold ansV
              clear p0 p1 p2
              have p0 : w8.cell? ⟨v1.heap.size, 3, none⟩ = some (.slice (some ⟨g, 0, none⟩) ns.length vc1) := HA18.out.box.cell 3 _ rfl
              have p1 : w8.cell? ⟨g, m, none⟩ = some (.string x) := by obtain ⟨B, hB⟩ := HA18.out.ks; exact hB.cellAt HXM.out
              have p2 : w8.cell? ⟨g, j, none⟩ = some (.string c) := by obtain ⟨B, hB⟩ := HA18.out.ks; exact hB.cellAt HCJ.out
              refine hK _ _ _ (fun _ h => h) ⟨p0, p1, p2⟩ ?_
              clear hK K''
              iterate 17 (apply wpTr_step rfl; (intro W hS K hK; obtain ⟨u0, u1, u2⟩ := hS; go_simp; exact hK _ rfl))
              refine wpTr_nil ?_
              clear HLS6 HLS7 HA16 HA17 HA26 HA27 HR6 HR7 HSL HLC p0 p1 p2
              have hlt := HLT.out
              have hkk : j + 1 ≤ 100 := by have := HNK.out; omega
              go_wp2
              go_roundw
              case rel => exact ⟨j + 1, w8, rfl, by omega, by go_num, ⟨K5, HLS8.out, HA18.out, HA28.out, HR8.out⟩⟩
              case measure => simp [intOf]; omega
          · have hke : j = ns.length := by omega
            clear hlt hj
            subst hke
            have d0 : wr.cell? ⟨v2.heap.size, 0, none⟩ = some (.int .i64 0) := HA2.out.box.cell 0 _ rfl
            have d1 : wr.cell? ⟨v2.heap.size, 1, none⟩ = some (.int .i64 (ns.length : Nat)) := HA2.out.box.cell 1 _ rfl
            have d2 : wr.cell? ⟨v2.heap.size, 2, none⟩ = some (.string dirW) := HA2.out.box.cell 2 _ rfl
            have HLV := Lib.hid (live_any wr HLR.out.it)
            clear HA1 HA2 HR
            go_wp2_with fail
            refine HLV.out.mono ?_
            rintro e wl ⟨rfl, hb⟩
            have HL := Lib.hid (HLR.out.bl.trans (hb.mono HLR.out.bl.size))
            clear hb
            go_wp2
            go_ret
            exact ⟨rfl, HL.out⟩
end Go.Proofs.YteimpebfenpifaaGreatDoor.modelListed
