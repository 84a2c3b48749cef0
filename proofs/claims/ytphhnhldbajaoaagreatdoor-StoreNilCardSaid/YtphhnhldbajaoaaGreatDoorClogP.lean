/-
  Merge of package clog, where the keys come in order (a premise).
-/
import Derived.Test.YtphhnhldbajaoaaGreatDoorMg29
import Derived.Test.YtphhnhldbajaoaaGreatDoorMg25
import Derived.Maps.OwnSet
namespace Go.Proofs.YtphhnhldbajaoaaGreatDoor
open Go.RowKit Go.ChangeShapes Go.WideShapes Go.ChangeAt

/-- 'slices.Sorted(maps.Keys(m))': a new slice with the map's keys, ascending. -/
def KeysSorted : Prop := ∀ (w : World) (m : Nat) (M : List DtD), DtAt w m M → M.length ≤ 1000 →
  Calls Tryz.prog 156 #[.map (some m)] w fun e w1 => ∃ c, e = .returned c ∧ Below w.heap.size w w1 ∧
    Calls Tryz.prog 155 #[c] w1 fun e w2 => ∃ v, e = .returned v ∧ w2.ownsRow w1.heap.size 3 1 v (keysD M).length ((keysD M).map (Value.int .i64)) ∧ Below w1.heap.size w1 w2

theorem fieldDt (k s : ByteArray) (n p q : Int) (w : World) : (Instr.field 217 (.agg #[.string k, .string s, .int .i64 n, .int .i64 p, .int .i64 q]) 0).run Tryz.prog w = .ok (.agg #[.string k, .string s, .int .i64 n, .int .i64 p]) w := by kernel_rfl

set_option maxRecDepth 100000 in
set_option maxHeartbeats 2000000 in
theorem cmerge_any (HKS : KeysSorted) (a : Option Addr) (cap : Nat) (l : List BkD) (w : World) (h : SlBk w a l) (hl : l.length ≤ 100) :
    Calls Tryz.prog 136 #[.slice a l.length cap] w fun e w' => ∃ v, e = .returned v ∧ Cgs 170 w' w.heap.size v (mergeL (l.map bkM)) ∧ Below w.heap.size w w' := by
  have H := Lib.hid h
  have HK := Lib.hid HKS
  have HL := Lib.hid hl
  have hmm := @run_makeMap Tryz.prog
  have HM0 : Hid (DtAt (w.alloc (.map #[] 0)) w.heap.size (newDt ((l.take 0).map bkM))) := ⟨.map [], World.ownsMap_made w _ _ _, DtIs.nil⟩
  have HB0 := Lib.hid ((Below.refl w.heap.size w).alloc (Nat.le_refl _) (.map #[] 0))
  clear h HKS hl
  go_enter Tryz.func136, Tryz.ntmps136
  go_wp2
  clear hmm
  obtain ⟨g, hg⟩ : ∃ g, g = w.heap.size := ⟨_, rfl⟩
  have HG := Lib.hid hg
  rw [← hg] at HM0 HB0
  rw [← hg]
  clear hg
  generalize World.alloc w _ = w0 at *
  go_loopw [16] (fun i wr => ∃ k : Nat, k ≤ l.length ∧ i = .int .i64 k ∧ Hid (DtAt wr g (newDt ((l.take k).map bkM))) ∧ Hid (Below g w wr)) (fun i _ => l.length - (RowKit.intOf i).toNat)
  case atStart => exact ⟨0, Nat.zero_le _, rfl, HM0, HB0⟩
  case round =>
    clear HM0 HB0
    obtain ⟨k, hk, rfl, HM, HB⟩ := hrel
    by_cases hlt : k < l.length
    · have hsl : SlC w (l[k]).a (l[k]).ents := by
        obtain ⟨_, _, _, _, _, _, h⟩ := H.out.get k hlt
        exact h
      obtain ⟨bb, off, rfl, hbb, e0, e1, _⟩ := (H.out.keep (w' := wr) (by rw [← HG.out]; exact HB.out)).get k hlt
      have HSN := Lib.hid (newD_snoc l k hlt)
      have HLT := Lib.hid hlt
      have HML : Hid ((newDt ((l.take k).map bkM)).length ≤ 700) := by
        have h1 := newD_len ((l.take k).map bkM)
        rw [List.length_map, List.length_take] at h1
        have := HL.out
        show _ ≤ _
        omega
      obtain ⟨M', hM'⟩ : ∃ M', newDt ((l.take (k + 1)).map bkM) = M' := ⟨_, rfl⟩
      rw [hM'] at HSN
      have HM' := Lib.hid hM'
      clear hM'
      generalize newDt ((l.take k).map bkM) = M0 at *
      have hk0 : (0 : Int) ≤ (k : Int) := by omega
      have hkl : (k : Int) < (l.length : Int) := by omega
      have hkh : (k : Int) ≤ 100 := by have := HL.out; omega
      generalize l[k] = x at *
      obtain ⟨q, xa, xc, es⟩ := x
      simp only [bkM] at e0 e1 hsl HSN
      have hz := (Below.refl wr.heap.size wr).alloc (Nat.le_refl _) (.cells #[.int .i64 q, .slice xa es.length xc] 187)
      have BU := Lib.hid (Box.new wr 187 #[.int .i64 q, .slice xa es.length xc])
      have SL := Lib.hid hsl
      have HGU : Hid (g < wr.heap.size) := HM.out.lt
      have HM1 := Lib.hid (HM.out.keep hz)
      have HB1 := Lib.hid (HB.out.trans (hz.mono (Nat.le_of_lt HM.out.lt)))
      clear hz hsl hbb HM HB hlt
      go_wp2_with fail
      obtain ⟨U, hU⟩ : ∃ U, U = wr.heap.size := ⟨_, rfl⟩
      rw [← hU] at BU HGU
      rw [← hU]
      clear hU e0 e1
      generalize World.alloc wr _ = w1 at *
      refine (ccheck_any q xa xc es _ (SL.out.keep (by rw [← HG.out]; exact HB1.out))).mono ?_
      rintro e w2 ⟨rfl, hb⟩
      have BU2 := Lib.hid (BU.out.keep hb BU.out.lt)
      have HM2 := Lib.hid (HM1.out.keep hb)
      have HB2 := Lib.hid (HB1.out.trans (hb.mono (Nat.le_of_lt HM1.out.lt)))
      clear hb BU HM1 HB1
      rcases chkC_or q es with hc | hc
      · obtain ⟨_, hq2, hl7, hall⟩ := chkC_zero hc
        have hST : M' = es.foldl (stepE q) M0 := by
          rw [HSN.out]
          unfold stepB
          rw [if_pos hc]
        have HST := Lib.hid hST
        have HALL := Lib.hid hall
        have HL7 := Lib.hid hl7
        rw [hc]
        clear hc hST hall HSN
        have k1 := BU2.out.cell 1 _ rfl
        go_wp2
        clear k1
        go_loopw [26] (fun i wr => ∃ j : Nat, j ≤ es.length ∧ i = .int .i64 j ∧ Hid (DtAt wr g ((es.take j).foldl (stepE q) M0)) ∧ Hid (Box wr U 187 #[.int .i64 q, .slice xa es.length xc]) ∧ Hid (Below g w wr)) (fun i _ => es.length - (RowKit.intOf i).toNat)
        case atStart => exact ⟨0, Nat.zero_le _, rfl, HM2, BU2, HB2⟩
        case round =>
          clear HM2 BU2 HB2
          obtain ⟨j, hj, rfl, HM, BU, HB⟩ := hrel
          by_cases hlj : j < es.length
          · obtain ⟨eb, eo, rfl, heb, c0, c1, c2, c3⟩ := (SL.out.keep (w' := wr) (by rw [← HG.out]; exact HB.out)).get j hlj
            have HSE := Lib.hid (foldE_snoc q M0 es j hlj)
            have hmy := HALL.out _ (List.getElem_mem hlj)
            have HPW := Lib.hid (pos_wf hmy)
            have HML2 : Hid (((es.take j).foldl (stepE q) M0).length ≤ 800) := by
              have h1 := foldE_len q (es.take j) M0
              rw [List.length_take] at h1
              have := HML.out
              have := HL7.out
              show _ ≤ _
              omega
            have HLJ := Lib.hid hlj
            obtain ⟨N', hN'⟩ : ∃ N', (es.take (j + 1)).foldl (stepE q) M0 = N' := ⟨_, rfl⟩
            rw [hN'] at HSE
            have HN' := Lib.hid hN'
            clear hN'
            generalize (es.take j).foldl (stepE q) M0 = N at *
            have hj0 : (0 : Int) ≤ (j : Int) := by omega
            have hjl : (j : Int) < (es.length : Int) := by omega
            generalize es[j] = y at *
            obtain ⟨yk, ys, yn, yp⟩ := y
            simp only at c0 c1 c2 c3
            have hz := (Below.refl wr.heap.size wr).alloc (Nat.le_refl _) (.cells #[.string yk, .string ys, .int .i64 yn, .int .i64 yp] 170)
            have BC := Lib.hid (Box.new wr 170 #[.string yk, .string ys, .int .i64 yn, .int .i64 yp])
            have BU1 := Lib.hid (BU.out.keep hz BU.out.lt)
            have HM1 := Lib.hid (HM.out.keep hz)
            have HB1 := Lib.hid (HB.out.trans (hz.mono (Nat.le_of_lt HM.out.lt)))
            have hlook := dlook_ok HM1.out HPW.out
            clear hz heb hmy hlj BU HM HB
            cases hf : findD N yp with
            | none =>
              rw [hf] at hlook
              simp only [Option.isSome_none] at hlook
              have HNF : Hid (N' = putD N yp (⟨yk, ys, yn, yp⟩, q)) := by
                show _ = _
                rw [HSE.out]
                unfold stepE freshE
                simp only [hf, if_true]
              clear hf
              have hz2 := (Below.refl _ _).alloc (Nat.le_refl (World.alloc wr (.cells #[.string yk, .string ys, .int .i64 yn, .int .i64 yp] 170)).heap.size) (.cells #[.string ⟨#[]⟩, .string ⟨#[]⟩, .int .i64 0, .int .i64 0, .int .i64 0] 217)
              have BU2 := Lib.hid (BU1.out.keep hz2 BU1.out.lt)
              have HM2 := Lib.hid (HM1.out.keep hz2)
              have HB2 := Lib.hid (HB1.out.trans (hz2.mono (Nat.le_of_lt HM1.out.lt)))
              have u0 := BU2.out.cell 0 _ rfl
              clear hz2
              obtain ⟨D, hown, hDI⟩ := HM2.out
              have HDI := Lib.hid hDI
              clear hDI
              go_wp2_with (first
                | (at_mapUpdate; refine wpList_mapUpdate_own _ rfl _ _ _ 214 rfl 3 217 keyedZ Tryz.underlying214 dtR g N.length D rfl hown (by have := HML2.out; unfold maxLen; omega) _ _ _ rfl rfl (keyOfZ HPW.out) _ [] (dtR_mk ⟨yk, ys, yn, yp⟩ q) ?_; intro w5 hown5 hgr5)
                | go_in)
              have HDP := Lib.hid (HDI.out.put (hown.tidy keyedZ) HPW.out (⟨yk, ys, yn, yp⟩, q))
              have HM5 : Hid (DtAt w5 g N') := by
                have h1 := downs_tight hown5
                refine ⟨_, ?_, by rw [HNF.out]; exact HDP.out⟩
                rw [HNF.out, ← HDP.out.size]
                exact h1
              have BU5 := Lib.hid (BU2.out.of (hgr5.block U BU2.out.lt (fun e => by injection e with e; have := HGU.out; omega)))
              have HB5 := Lib.hid (HB2.out.grown hgr5 (Nat.le_of_lt HM2.out.lt) (fun k hk => by injection hk with hk; omega))
              clear hown hown5 hgr5 HM2 HB2 BU2 HM1 HB1 BU1 u0 hlook BC c0 c1 c2 c3
              go_wp2
              go_roundw
              case rel => exact ⟨j + 1, HLJ.out, by have := HL7.out; have := HLJ.out; go_num, by show DtAt _ _ _; rw [HN'.out]; exact HM5.out, BU5, HB5⟩
              case measure => have := HLJ.out; have := HL7.out; simp [RowKit.intOf]; omega
            | some o =>
              obtain ⟨⟨ok, os, on, op⟩, oq⟩ := o
              rw [hf] at hlook
              simp only [Option.isSome_some] at hlook
              by_cases hoq : oq ≤ q
              · have HNF : Hid (N' = putD N yp (⟨yk, ys, yn, yp⟩, q)) := by
                  show _ = _
                  rw [HSE.out]
                  unfold stepE freshE
                  simp only [hf, hoq, decide_true, if_true]
                have dq : decide (oq ≤ q) = true := decide_eq_true hoq
                clear hf hoq
                have hz2 := (Below.refl _ _).alloc (Nat.le_refl (World.alloc wr (.cells #[.string yk, .string ys, .int .i64 yn, .int .i64 yp] 170)).heap.size) (.cells #[.string ok, .string os, .int .i64 on, .int .i64 op, .int .i64 oq] 217)
                have BU2 := Lib.hid (BU1.out.keep hz2 BU1.out.lt)
                have HM2 := Lib.hid (HM1.out.keep hz2)
                have HB2 := Lib.hid (HB1.out.trans (hz2.mono (Nat.le_of_lt HM1.out.lt)))
                have u0 := BU2.out.cell 0 _ rfl
                clear hz2
                obtain ⟨D, hown, hDI⟩ := HM2.out
                have HDI := Lib.hid hDI
                clear hDI
                go_wp2_with (first
                  | (at_mapUpdate; refine wpList_mapUpdate_own _ rfl _ _ _ 214 rfl 3 217 keyedZ Tryz.underlying214 dtR g N.length D rfl hown (by have := HML2.out; unfold maxLen; omega) _ _ _ rfl rfl (keyOfZ HPW.out) _ [] (dtR_mk ⟨yk, ys, yn, yp⟩ q) ?_; intro w5 hown5 hgr5)
                  | go_in)
                have HDP := Lib.hid (HDI.out.put (hown.tidy keyedZ) HPW.out (⟨yk, ys, yn, yp⟩, q))
                have HM5 : Hid (DtAt w5 g N') := by
                  have h1 := downs_tight hown5
                  refine ⟨_, ?_, by rw [HNF.out]; exact HDP.out⟩
                  rw [HNF.out, ← HDP.out.size]
                  exact h1
                have BU5 := Lib.hid (BU2.out.of (hgr5.block U BU2.out.lt (fun e => by injection e with e; have := HGU.out; omega)))
                have HB5 := Lib.hid (HB2.out.grown hgr5 (Nat.le_of_lt HM2.out.lt) (fun k hk => by injection hk with hk; omega))
                clear hown hown5 hgr5 HM2 HB2 BU2 HM1 HB1 BU1 u0 hlook BC c0 c1 c2 c3
                go_wp2
                go_roundw
                case rel => exact ⟨j + 1, HLJ.out, by have := HL7.out; have := HLJ.out; go_num, by show DtAt _ _ _; rw [HN'.out]; exact HM5.out, BU5, HB5⟩
                case measure => have := HLJ.out; have := HL7.out; simp [RowKit.intOf]; omega
              · have HNF : Hid (N' = N) := by
                  show _ = _
                  rw [HSE.out]
                  unfold stepE freshE
                  simp only [hf, hoq, decide_false, Bool.false_eq_true, if_false]
                have dq : decide (oq ≤ q) = false := decide_eq_false hoq
                clear hf hoq
                have hz2 := (Below.refl _ _).alloc (Nat.le_refl (World.alloc wr (.cells #[.string yk, .string ys, .int .i64 yn, .int .i64 yp] 170)).heap.size) (.cells #[.string ok, .string os, .int .i64 on, .int .i64 op, .int .i64 oq] 217)
                have BU2 := Lib.hid (BU1.out.keep hz2 BU1.out.lt)
                have HM2 := Lib.hid (HM1.out.keep hz2)
                have HB2 := Lib.hid (HB1.out.trans (hz2.mono (Nat.le_of_lt HM1.out.lt)))
                have u0 := BU2.out.cell 0 _ rfl
                clear hz2
                clear HM1 HB1 BU1 BC
                go_wp2
                go_roundw
                case rel => exact ⟨j + 1, HLJ.out, by have := HL7.out; have := HLJ.out; go_num, by show DtAt _ _ _; rw [HN'.out, HNF.out]; exact HM2.out, BU2, HB2⟩
                case measure => have := HLJ.out; have := HL7.out; simp [RowKit.intOf]; omega
          · obtain rfl : j = es.length := by omega
            rw [List.take_length, ← HST.out] at HM
            clear BU
            go_wp2
            go_roundw
            case rel => exact ⟨k + 1, HLT.out, by have := HL.out; have := HLT.out; go_num, by show DtAt _ _ _; rw [HM'.out]; exact HM.out, HB⟩
            case measure => have := HLT.out; have := HL.out; simp [RowKit.intOf]; omega
      · have hST : M' = M0 := by
          rw [HSN.out]
          unfold stepB
          rw [if_neg (by rw [hc]; decide)]
        have HST := Lib.hid hST
        rw [hc]
        clear hc hST HSN BU2
        go_wp2
        go_roundw
        case rel => exact ⟨k + 1, HLT.out, by have := HL.out; have := HLT.out; go_num, by show DtAt _ _ _; rw [HM'.out, HST.out]; exact HM2.out, HB2⟩
        case measure => have := HLT.out; have := HL.out; simp [RowKit.intOf]; omega
    · obtain rfl : k = l.length := by omega
      rw [List.take_length] at HM
      have HGO := Lib.hid (good_new (l.map bkM))
      have HML : Hid ((newDt (l.map bkM)).length ≤ 700) := by
        have h1 := newD_len (l.map bkM)
        rw [List.length_map] at h1
        have := HL.out
        show _ ≤ _
        omega
      have HME := Lib.hid (mergeL_eq (l.map bkM))
      generalize newDt (l.map bkM) = M at *
      go_wp2_with fail
      refine (HK.out _ g M HM.out (Nat.le_trans HML.out (by decide))).mono ?_
      rintro e w1 ⟨c, rfl, hb, hS⟩
      have HM1 := Lib.hid (HM.out.keep hb)
      have HB1 := Lib.hid (HB.out.trans (hb.mono (Nat.le_of_lt HM.out.lt)))
      clear hb HM HB
      go_wp2_with fail
      refine hS.mono ?_
      rintro e w2 ⟨v, rfl, hrow, hb⟩
      have HM2 := Lib.hid (HM1.out.keep hb)
      have HB2 : Hid (Below w.heap.size w w2) := by rw [← HG.out]; exact HB1.out.trans (hb.mono (Nat.le_of_lt HM1.out.lt))
      clear hb HM1 HB1 hS
      obtain ⟨ka, kc, rfl, hkv⟩ := ints_view hrow
      have HKV := Lib.hid hkv
      clear hkv hrow
      have hkn : (keysD M).length ≤ 700 := by rw [keysD_len]; exact HML.out
      have HKF := Lib.hid (keysD_find HGO.out)
      generalize keysD M = K at *
      go_wp2
      go_loopw [10, 59] (fun s i wr => ∃ (j : Nat) (v : Value), j ≤ K.length ∧ i = .int .i64 j ∧ v = s ∧ Hid (Cgs 170 wr w2.heap.size v ((K.take j).map (pickD M))) ∧ Hid (Below w2.heap.size w2 wr)) (fun _ i _ => K.length - (RowKit.intOf i).toNat)
      case atStart => exact ⟨0, _, Nat.zero_le _, rfl, rfl, Cgs.nil _ _ _, Below.refl _ _⟩
      case round =>
        obtain ⟨j, v, hj, rfl, rfl, HP, HR⟩ := hrel
        by_cases hlj : j < K.length
        · obtain ⟨kg, rfl, hkg, hkc⟩ := HKV.out j hlj
          have kc0 := (HR.out.cell (p := ⟨kg, j, none⟩) hkg).trans hkc
          obtain ⟨x, hx, hwf⟩ := HKF.out j hlj
          have HTK : Hid ((K.take (j + 1)).map (pickD M) = (K.take j).map (pickD M) ++ [x.1]) := by
            show _ = _
            rw [List.take_succ_eq_append_getElem hlj, List.map_append]
            congr 1
            show [pickD M K[j]] = _
            unfold pickD
            rw [hx]
          have hlk := dlook_val (HM2.out.keep HR.out) hwf hx
          have hlen : ((K.take j).map (pickD M)).length ≤ 700 := by rw [List.length_map, List.length_take]; omega
          have HLEN := Lib.hid hlen
          have HLJ := Lib.hid hlj
          have hj0 : (0 : Int) ≤ (j : Int) := by omega
          have hjl : (j : Int) < (K.length : Int) := by omega
          have hjh : (j : Int) ≤ 700 := by omega
          generalize (K.take j).map (pickD M) = p at *
          generalize K[j] = kj at *
          obtain ⟨⟨xk, xs, xn, xp⟩, xq⟩ := x
          have hz := (Below.refl wr.heap.size wr).alloc (Nat.le_refl _) (.cells #[.string xk, .string xs, .int .i64 xn, .int .i64 xp] 170)
          have BX := Lib.hid (Box.new wr 170 #[.string xk, .string xs, .int .i64 xn, .int .i64 xp])
          have HP1 := Lib.hid (HP.out.keep hz)
          have HR1 := Lib.hid (HR.out.trans (hz.mono HR.out.size))
          clear hz HP HR hkg hkc hx hwf hlj hlen
          unfold dtV at hlk
          simp only at hlk
          have hfd := fieldDt xk xs xn xp xq wr
          go_wp2_with (with_reducible refine wp_cgs_push Tryz.underlying185 four_C _ rfl (.tmp 63) (.tmp 68) rfl w2.heap.size _ p rfl ?a1 wr.heap.size 1 ⟨xk, xs, xn, xp⟩ ?a2 ?a3 ?a4 ?a5 ?a6)
          case a1 => exact HP1.out
          try (case a2 => rfl)
          case a3 => intro i u hi; first | exact BX.out.cell i u (by simpa [cgL] using hi) | exact (by simpa [cgL] using hi)
          case a4 => have := HLEN.out; omega
          case a5 => have := HR1.out.size; rw [size_alloc] at this; exact this
          intro v' w5 hp hgr _
          have HP3 := Lib.hid hp
          have HR3 := Lib.hid (below_cgs HR1.out hgr HP1.out HR1.out.size)
          clear hp hgr HP1 HR1 BX kc0 hlk hfd
          go_wp2
          go_roundw
          case rel => exact ⟨j + 1, _, HLJ.out, by go_num, rfl, by show Cgs _ _ _ _ _; rw [HTK.out]; exact HP3.out, HR3⟩
          case measure => have := HLJ.out; simp [RowKit.intOf]; omega
        · obtain rfl : j = K.length := by omega
          rw [List.take_length] at HP
          go_wp2
          go_ret
          exact ⟨_, rfl, by rw [HME.out]; exact HP.out.base HB2.out.size, HB2.out.trans (HR.out.mono HB2.out.size)⟩
end Go.Proofs.YtphhnhldbajaoaaGreatDoor
