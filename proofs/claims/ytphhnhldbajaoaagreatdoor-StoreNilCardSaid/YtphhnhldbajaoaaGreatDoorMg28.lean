/-
  Texts put together: ClogP, ClogZI, ClogShelf, ClogR, ClogY, SeL.
-/
import Derived.Test.YtphhnhldbajaoaaGreatDoorMg27
import Derived.Test.YtphhnhldbajaoaaGreatDoorMg22
import Derived.Maps.OwnSet
import Derived.Shelf.SlGeneric
import Derived.Shelf.SlLaysZI
import Derived.Ground.GgzProg
import Derived.Test.YtphhnhldbajaoaaGreatDoorProg
import Derived.Shelf.Strings.Builder1
import Derived.Shelf.Small.Bits
import Derived.Shelf.Small.Wraps
import Derived.Shelf.Strings.BuilderF
import Derived.Shelf.Strings.BuilderK
import Derived.Shelf.Strconv.Itoa0
import Derived.Shelf.Sort.Plain
import Derived.Ground.Names2Prog
import Derived.Shelf.Slices.SearchI
import Derived.Shelf.Slices.In.SortNone
import Derived.Shelf.SlIterI.Sorted
import Derived.Test.YtphhnhldbajaoaaGreatDoorMg19
namespace Go.Proofs.YtphhnhldbajaoaaGreatDoor
open Go.RowKit Go.ChangeShapes Go.WideShapes Go.ChangeAt

/-- 'slices.Sorted(maps.Keys(m))': a new slice with the map's keys, ascending. -/
def KeysSorted : Prop := ∀ (w : World) (m : Nat) (M : List DtD), DtAt w m M → M.length ≤ 1000 →
  Calls Tryz.prog 156 #[.map (some m)] w fun e w1 => ∃ c, e = .returned c ∧ Below w.heap.size w w1 ∧
    Calls Tryz.prog 155 #[c] w1 fun e w2 => ∃ v, e = .returned v ∧ w2.ownsRow w1.heap.size 3 1 v (keysD M).length ((keysD M).map (Value.int .i64)) ∧ Below w1.heap.size w1 w2

theorem fieldDt (k s : ByteArray) (n p q : Int) (w : World) : (Instr.field 217 (.agg #[.string k, .string s, .int .i64 n, .int .i64 p, .int .i64 q]) 0).run Tryz.prog w = .ok (.agg #[.string k, .string s, .int .i64 n, .int .i64 p]) w := by kernel_rfl

set_option maxRecDepth 100000 in
set_option maxHeartbeats 2000000 in
theorem cmerge_any (HKS : KeysSorted) (a : Option Addr) (cap : Nat) (l : List BkD) (w : World) (h : SlBk w a l) (hl : l.length ≤ 100) :
    Calls Tryz.prog 136 #[.slice a l.length cap] w fun e w' => ∃ v, e = .returned v ∧ Cgs 170 w' w.heap.size v (mergeL (l.map bkM)) ∧ Below w.heap.size w w' := by
  have H := Lib.hid h
  have HK := Lib.hid HKS
  have HL := Lib.hid hl
  have hmm := @run_makeMap Tryz.prog
  have HM0 : Hid (DtAt (w.alloc (.map #[] 0)) w.heap.size (newDt ((l.take 0).map bkM))) := ⟨.map [], World.ownsMap_made w _ _ _, DtIs.nil⟩
  have HB0 := Lib.hid ((Below.refl w.heap.size w).alloc (Nat.le_refl _) (.map #[] 0))
  clear h HKS hl
  go_enter Tryz.func136, Tryz.ntmps136
  go_wp2
  clear hmm
  obtain ⟨g, hg⟩ : ∃ g, g = w.heap.size := ⟨_, rfl⟩
  have HG := Lib.hid hg
  rw [← hg] at HM0 HB0
  rw [← hg]
  clear hg
  generalize World.alloc w _ = w0 at *
  go_loopw [16] (fun i wr => ∃ k : Nat, k ≤ l.length ∧ i = .int .i64 k ∧ Hid (DtAt wr g (newDt ((l.take k).map bkM))) ∧ Hid (Below g w wr)) (fun i _ => l.length - (RowKit.intOf i).toNat)
  case atStart => exact ⟨0, Nat.zero_le _, rfl, HM0, HB0⟩
  case round =>
    clear HM0 HB0
    obtain ⟨k, hk, rfl, HM, HB⟩ := hrel
    by_cases hlt : k < l.length
    · have hsl : SlC w (l[k]).a (l[k]).ents := by
        obtain ⟨_, _, _, _, _, _, h⟩ := H.out.get k hlt
        exact h
      obtain ⟨bb, off, rfl, hbb, e0, e1, _⟩ := (H.out.keep (w' := wr) (by rw [← HG.out]; exact HB.out)).get k hlt
      have HSN := Lib.hid (newD_snoc l k hlt)
      have HLT := Lib.hid hlt
      have HML : Hid ((newDt ((l.take k).map bkM)).length ≤ 700) := by
        have h1 := newD_len ((l.take k).map bkM)
        rw [List.length_map, List.length_take] at h1
        have := HL.out
        show _ ≤ _
        omega
      obtain ⟨M', hM'⟩ : ∃ M', newDt ((l.take (k + 1)).map bkM) = M' := ⟨_, rfl⟩
      rw [hM'] at HSN
      have HM' := Lib.hid hM'
      clear hM'
      generalize newDt ((l.take k).map bkM) = M0 at *
      have hk0 : (0 : Int) ≤ (k : Int) := by omega
      have hkl : (k : Int) < (l.length : Int) := by omega
      have hkh : (k : Int) ≤ 100 := by have := HL.out; omega
      generalize l[k] = x at *
      obtain ⟨q, xa, xc, es⟩ := x
      simp only [bkM] at e0 e1 hsl HSN
      have hz := (Below.refl wr.heap.size wr).alloc (Nat.le_refl _) (.cells #[.int .i64 q, .slice xa es.length xc] 187)
      have BU := Lib.hid (Box.new wr 187 #[.int .i64 q, .slice xa es.length xc])
      have SL := Lib.hid hsl
      have HGU : Hid (g < wr.heap.size) := HM.out.lt
      have HM1 := Lib.hid (HM.out.keep hz)
      have HB1 := Lib.hid (HB.out.trans (hz.mono (Nat.le_of_lt HM.out.lt)))
      clear hz hsl hbb HM HB hlt
      go_wp2_with fail
      obtain ⟨U, hU⟩ : ∃ U, U = wr.heap.size := ⟨_, rfl⟩
      rw [← hU] at BU HGU
      rw [← hU]
      clear hU e0 e1
      generalize World.alloc wr _ = w1 at *
      refine (ccheck_any q xa xc es _ (SL.out.keep (by rw [← HG.out]; exact HB1.out))).mono ?_
      rintro e w2 ⟨rfl, hb⟩
      have BU2 := Lib.hid (BU.out.keep hb BU.out.lt)
      have HM2 := Lib.hid (HM1.out.keep hb)
      have HB2 := Lib.hid (HB1.out.trans (hb.mono (Nat.le_of_lt HM1.out.lt)))
      clear hb BU HM1 HB1
      rcases chkC_or q es with hc | hc
      · obtain ⟨_, hq2, hl7, hall⟩ := chkC_zero hc
        have hST : M' = es.foldl (stepE q) M0 := by
          rw [HSN.out]
          unfold stepB
          rw [if_pos hc]
        have HST := Lib.hid hST
        have HALL := Lib.hid hall
        have HL7 := Lib.hid hl7
        rw [hc]
        clear hc hST hall HSN
        have k1 := BU2.out.cell 1 _ rfl
        go_wp2
        clear k1
        go_loopw [26] (fun i wr => ∃ j : Nat, j ≤ es.length ∧ i = .int .i64 j ∧ Hid (DtAt wr g ((es.take j).foldl (stepE q) M0)) ∧ Hid (Box wr U 187 #[.int .i64 q, .slice xa es.length xc]) ∧ Hid (Below g w wr)) (fun i _ => es.length - (RowKit.intOf i).toNat)
        case atStart => exact ⟨0, Nat.zero_le _, rfl, HM2, BU2, HB2⟩
        case round =>
          clear HM2 BU2 HB2
          obtain ⟨j, hj, rfl, HM, BU, HB⟩ := hrel
          by_cases hlj : j < es.length
          · obtain ⟨eb, eo, rfl, heb, c0, c1, c2, c3⟩ := (SL.out.keep (w' := wr) (by rw [← HG.out]; exact HB.out)).get j hlj
            have HSE := Lib.hid (foldE_snoc q M0 es j hlj)
            have hmy := HALL.out _ (List.getElem_mem hlj)
            have HPW := Lib.hid (pos_wf hmy)
            have HML2 : Hid (((es.take j).foldl (stepE q) M0).length ≤ 800) := by
              have h1 := foldE_len q (es.take j) M0
              rw [List.length_take] at h1
              have := HML.out
              have := HL7.out
              show _ ≤ _
              omega
            have HLJ := Lib.hid hlj
            obtain ⟨N', hN'⟩ : ∃ N', (es.take (j + 1)).foldl (stepE q) M0 = N' := ⟨_, rfl⟩
            rw [hN'] at HSE
            have HN' := Lib.hid hN'
            clear hN'
            generalize (es.take j).foldl (stepE q) M0 = N at *
            have hj0 : (0 : Int) ≤ (j : Int) := by omega
            have hjl : (j : Int) < (es.length : Int) := by omega
            generalize es[j] = y at *
            obtain ⟨yk, ys, yn, yp⟩ := y
            simp only at c0 c1 c2 c3
            have hz := (Below.refl wr.heap.size wr).alloc (Nat.le_refl _) (.cells #[.string yk, .string ys, .int .i64 yn, .int .i64 yp] 170)
            have BC := Lib.hid (Box.new wr 170 #[.string yk, .string ys, .int .i64 yn, .int .i64 yp])
            have BU1 := Lib.hid (BU.out.keep hz BU.out.lt)
            have HM1 := Lib.hid (HM.out.keep hz)
            have HB1 := Lib.hid (HB.out.trans (hz.mono (Nat.le_of_lt HM.out.lt)))
            have hlook := dlook_ok HM1.out HPW.out
            clear hz heb hmy hlj BU HM HB
            cases hf : findD N yp with
            | none =>
              rw [hf] at hlook
              simp only [Option.isSome_none] at hlook
              have HNF : Hid (N' = putD N yp (⟨yk, ys, yn, yp⟩, q)) := by
                show _ = _
                rw [HSE.out]
                unfold stepE freshE
                simp only [hf, if_true]
              clear hf
              have hz2 := (Below.refl _ _).alloc (Nat.le_refl (World.alloc wr (.cells #[.string yk, .string ys, .int .i64 yn, .int .i64 yp] 170)).heap.size) (.cells #[.string ⟨#[]⟩, .string ⟨#[]⟩, .int .i64 0, .int .i64 0, .int .i64 0] 217)
              have BU2 := Lib.hid (BU1.out.keep hz2 BU1.out.lt)
              have HM2 := Lib.hid (HM1.out.keep hz2)
              have HB2 := Lib.hid (HB1.out.trans (hz2.mono (Nat.le_of_lt HM1.out.lt)))
              have u0 := BU2.out.cell 0 _ rfl
              clear hz2
              obtain ⟨D, hown, hDI⟩ := HM2.out
              have HDI := Lib.hid hDI
              clear hDI
              go_wp2_with (first
                | (at_mapUpdate; refine wpList_mapUpdate_own _ rfl _ _ _ 214 rfl 3 217 keyedZ Tryz.underlying214 dtR g N.length D rfl hown (by have := HML2.out; unfold maxLen; omega) _ _ _ rfl rfl (keyOfZ HPW.out) _ [] (dtR_mk ⟨yk, ys, yn, yp⟩ q) ?_; intro w5 hown5 hgr5)
                | go_in)
              have HDP := Lib.hid (HDI.out.put (hown.tidy keyedZ) HPW.out (⟨yk, ys, yn, yp⟩, q))
              have HM5 : Hid (DtAt w5 g N') := by
                have h1 := downs_tight hown5
                refine ⟨_, ?_, by rw [HNF.out]; exact HDP.out⟩
                rw [HNF.out, ← HDP.out.size]
                exact h1
              have BU5 := Lib.hid (BU2.out.of (hgr5.block U BU2.out.lt (fun e => by injection e with e; have := HGU.out; omega)))
              have HB5 := Lib.hid (HB2.out.grown hgr5 (Nat.le_of_lt HM2.out.lt) (fun k hk => by injection hk with hk; omega))
              clear hown hown5 hgr5 HM2 HB2 BU2 HM1 HB1 BU1 u0 hlook BC c0 c1 c2 c3
              go_wp2
              go_roundw
              case rel => exact ⟨j + 1, HLJ.out, by have := HL7.out; have := HLJ.out; go_num, by show DtAt _ _ _; rw [HN'.out]; exact HM5.out, BU5, HB5⟩
              case measure => have := HLJ.out; have := HL7.out; simp [RowKit.intOf]; omega
            | some o =>
              obtain ⟨⟨ok, os, on, op⟩, oq⟩ := o
              rw [hf] at hlook
              simp only [Option.isSome_some] at hlook
              by_cases hoq : oq ≤ q
              · have HNF : Hid (N' = putD N yp (⟨yk, ys, yn, yp⟩, q)) := by
                  show _ = _
                  rw [HSE.out]
                  unfold stepE freshE
                  simp only [hf, hoq, decide_true, if_true]
                have dq : decide (oq ≤ q) = true := decide_eq_true hoq
                clear hf hoq
                have hz2 := (Below.refl _ _).alloc (Nat.le_refl (World.alloc wr (.cells #[.string yk, .string ys, .int .i64 yn, .int .i64 yp] 170)).heap.size) (.cells #[.string ok, .string os, .int .i64 on, .int .i64 op, .int .i64 oq] 217)
                have BU2 := Lib.hid (BU1.out.keep hz2 BU1.out.lt)
                have HM2 := Lib.hid (HM1.out.keep hz2)
                have HB2 := Lib.hid (HB1.out.trans (hz2.mono (Nat.le_of_lt HM1.out.lt)))
                have u0 := BU2.out.cell 0 _ rfl
                clear hz2
                obtain ⟨D, hown, hDI⟩ := HM2.out
                have HDI := Lib.hid hDI
                clear hDI
                go_wp2_with (first
                  | (at_mapUpdate; refine wpList_mapUpdate_own _ rfl _ _ _ 214 rfl 3 217 keyedZ Tryz.underlying214 dtR g N.length D rfl hown (by have := HML2.out; unfold maxLen; omega) _ _ _ rfl rfl (keyOfZ HPW.out) _ [] (dtR_mk ⟨yk, ys, yn, yp⟩ q) ?_; intro w5 hown5 hgr5)
                  | go_in)
                have HDP := Lib.hid (HDI.out.put (hown.tidy keyedZ) HPW.out (⟨yk, ys, yn, yp⟩, q))
                have HM5 : Hid (DtAt w5 g N') := by
                  have h1 := downs_tight hown5
                  refine ⟨_, ?_, by rw [HNF.out]; exact HDP.out⟩
                  rw [HNF.out, ← HDP.out.size]
                  exact h1
                have BU5 := Lib.hid (BU2.out.of (hgr5.block U BU2.out.lt (fun e => by injection e with e; have := HGU.out; omega)))
                have HB5 := Lib.hid (HB2.out.grown hgr5 (Nat.le_of_lt HM2.out.lt) (fun k hk => by injection hk with hk; omega))
                clear hown hown5 hgr5 HM2 HB2 BU2 HM1 HB1 BU1 u0 hlook BC c0 c1 c2 c3
                go_wp2
                go_roundw
                case rel => exact ⟨j + 1, HLJ.out, by have := HL7.out; have := HLJ.out; go_num, by show DtAt _ _ _; rw [HN'.out]; exact HM5.out, BU5, HB5⟩
                case measure => have := HLJ.out; have := HL7.out; simp [RowKit.intOf]; omega
              · have HNF : Hid (N' = N) := by
                  show _ = _
                  rw [HSE.out]
                  unfold stepE freshE
                  simp only [hf, hoq, decide_false, Bool.false_eq_true, if_false]
                have dq : decide (oq ≤ q) = false := decide_eq_false hoq
                clear hf hoq
                have hz2 := (Below.refl _ _).alloc (Nat.le_refl (World.alloc wr (.cells #[.string yk, .string ys, .int .i64 yn, .int .i64 yp] 170)).heap.size) (.cells #[.string ok, .string os, .int .i64 on, .int .i64 op, .int .i64 oq] 217)
                have BU2 := Lib.hid (BU1.out.keep hz2 BU1.out.lt)
                have HM2 := Lib.hid (HM1.out.keep hz2)
                have HB2 := Lib.hid (HB1.out.trans (hz2.mono (Nat.le_of_lt HM1.out.lt)))
                have u0 := BU2.out.cell 0 _ rfl
                clear hz2
                clear HM1 HB1 BU1 BC
                go_wp2
                go_roundw
                case rel => exact ⟨j + 1, HLJ.out, by have := HL7.out; have := HLJ.out; go_num, by show DtAt _ _ _; rw [HN'.out, HNF.out]; exact HM2.out, BU2, HB2⟩
                case measure => have := HLJ.out; have := HL7.out; simp [RowKit.intOf]; omega
          · obtain rfl : j = es.length := by omega
            rw [List.take_length, ← HST.out] at HM
            clear BU
            go_wp2
            go_roundw
            case rel => exact ⟨k + 1, HLT.out, by have := HL.out; have := HLT.out; go_num, by show DtAt _ _ _; rw [HM'.out]; exact HM.out, HB⟩
            case measure => have := HLT.out; have := HL.out; simp [RowKit.intOf]; omega
      · have hST : M' = M0 := by
          rw [HSN.out]
          unfold stepB
          rw [if_neg (by rw [hc]; decide)]
        have HST := Lib.hid hST
        rw [hc]
        clear hc hST HSN BU2
        go_wp2
        go_roundw
        case rel => exact ⟨k + 1, HLT.out, by have := HL.out; have := HLT.out; go_num, by show DtAt _ _ _; rw [HM'.out, HST.out]; exact HM2.out, HB2⟩
        case measure => have := HLT.out; have := HL.out; simp [RowKit.intOf]; omega
    · obtain rfl : k = l.length := by omega
      rw [List.take_length] at HM
      have HGO := Lib.hid (good_new (l.map bkM))
      have HML : Hid ((newDt (l.map bkM)).length ≤ 700) := by
        have h1 := newD_len (l.map bkM)
        rw [List.length_map] at h1
        have := HL.out
        show _ ≤ _
        omega
      have HME := Lib.hid (mergeL_eq (l.map bkM))
      generalize newDt (l.map bkM) = M at *
      go_wp2_with fail
      refine (HK.out _ g M HM.out (Nat.le_trans HML.out (by decide))).mono ?_
      rintro e w1 ⟨c, rfl, hb, hS⟩
      have HM1 := Lib.hid (HM.out.keep hb)
      have HB1 := Lib.hid (HB.out.trans (hb.mono (Nat.le_of_lt HM.out.lt)))
      clear hb HM HB
      go_wp2_with fail
      refine hS.mono ?_
      rintro e w2 ⟨v, rfl, hrow, hb⟩
      have HM2 := Lib.hid (HM1.out.keep hb)
      have HB2 : Hid (Below w.heap.size w w2) := by rw [← HG.out]; exact HB1.out.trans (hb.mono (Nat.le_of_lt HM1.out.lt))
      clear hb HM1 HB1 hS
      obtain ⟨ka, kc, rfl, hkv⟩ := ints_view hrow
      have HKV := Lib.hid hkv
      clear hkv hrow
      have hkn : (keysD M).length ≤ 700 := by rw [keysD_len]; exact HML.out
      have HKF := Lib.hid (keysD_find HGO.out)
      generalize keysD M = K at *
      go_wp2
      go_loopw [10, 59] (fun s i wr => ∃ (j : Nat) (v : Value), j ≤ K.length ∧ i = .int .i64 j ∧ v = s ∧ Hid (Cgs 170 wr w2.heap.size v ((K.take j).map (pickD M))) ∧ Hid (Below w2.heap.size w2 wr)) (fun _ i _ => K.length - (RowKit.intOf i).toNat)
      case atStart => exact ⟨0, _, Nat.zero_le _, rfl, rfl, Cgs.nil _ _ _, Below.refl _ _⟩
      case round =>
        obtain ⟨j, v, hj, rfl, rfl, HP, HR⟩ := hrel
        by_cases hlj : j < K.length
        · obtain ⟨kg, rfl, hkg, hkc⟩ := HKV.out j hlj
          have kc0 := (HR.out.cell (p := ⟨kg, j, none⟩) hkg).trans hkc
          obtain ⟨x, hx, hwf⟩ := HKF.out j hlj
          have HTK : Hid ((K.take (j + 1)).map (pickD M) = (K.take j).map (pickD M) ++ [x.1]) := by
            show _ = _
            rw [List.take_succ_eq_append_getElem hlj, List.map_append]
            congr 1
            show [pickD M K[j]] = _
            unfold pickD
            rw [hx]
          have hlk := dlook_val (HM2.out.keep HR.out) hwf hx
          have hlen : ((K.take j).map (pickD M)).length ≤ 700 := by rw [List.length_map, List.length_take]; omega
          have HLEN := Lib.hid hlen
          have HLJ := Lib.hid hlj
          have hj0 : (0 : Int) ≤ (j : Int) := by omega
          have hjl : (j : Int) < (K.length : Int) := by omega
          have hjh : (j : Int) ≤ 700 := by omega
          generalize (K.take j).map (pickD M) = p at *
          generalize K[j] = kj at *
          obtain ⟨⟨xk, xs, xn, xp⟩, xq⟩ := x
          have hz := (Below.refl wr.heap.size wr).alloc (Nat.le_refl _) (.cells #[.string xk, .string xs, .int .i64 xn, .int .i64 xp] 170)
          have BX := Lib.hid (Box.new wr 170 #[.string xk, .string xs, .int .i64 xn, .int .i64 xp])
          have HP1 := Lib.hid (HP.out.keep hz)
          have HR1 := Lib.hid (HR.out.trans (hz.mono HR.out.size))
          clear hz HP HR hkg hkc hx hwf hlj hlen
          unfold dtV at hlk
          simp only at hlk
          have hfd := fieldDt xk xs xn xp xq wr
          go_wp2_with (with_reducible refine wp_cgs_push Tryz.underlying185 four_C _ rfl (.tmp 63) (.tmp 68) rfl w2.heap.size _ p rfl ?a1 wr.heap.size 1 ⟨xk, xs, xn, xp⟩ ?a2 ?a3 ?a4 ?a5 ?a6)
          case a1 => exact HP1.out
          try (case a2 => rfl)
          case a3 => intro i u hi; first | exact BX.out.cell i u (by simpa [cgL] using hi) | exact (by simpa [cgL] using hi)
          case a4 => have := HLEN.out; omega
          case a5 => have := HR1.out.size; rw [size_alloc] at this; exact this
          intro v' w5 hp hgr _
          have HP3 := Lib.hid hp
          have HR3 := Lib.hid (below_cgs HR1.out hgr HP1.out HR1.out.size)
          clear hp hgr HP1 HR1 BX kc0 hlk hfd
          go_wp2
          go_roundw
          case rel => exact ⟨j + 1, _, HLJ.out, by go_num, rfl, by show Cgs _ _ _ _ _; rw [HTK.out]; exact HP3.out, HR3⟩
          case measure => have := HLJ.out; simp [RowKit.intOf]; omega
        · obtain rfl : j = K.length := by omega
          rw [List.take_length] at HP
          go_wp2
          go_ret
          exact ⟨_, rfl, by rw [HME.out]; exact HP.out.base HB2.out.size, HB2.out.trans (HR.out.mono HB2.out.size)⟩
end Go.Proofs.YtphhnhldbajaoaaGreatDoor

namespace Go.Proofs
open Go.Shelf
end Go.Proofs

namespace Go.Proofs
open Go.Shelf
open Go.RowKit in
open Go.RowKit in
open Go.RowKit in
open Go.RowKit in
open Go.RowKit in
open Go.RowKit in
open Go.RowKit in
open Go.RowKit in
open Go.RowKit in
open Go.RowKit in
open Go.Sort Go.RowKit in
open Go.RowKit Go.Lib in
open Go.RowKit Go.Lib in
open Go.RowKit Go.Sort in
end Go.Proofs

namespace Go.Proofs.YtphhnhldbajaoaaGreatDoor
open Go.RowKit Go.Maps Go.Sort Go.Shelf

theorem sortsZ (m : Nat) : AnyZI.SortsIn Tryz.prog Tryz.sortedA_ren Fence.wide m :=
  ⟨fun blk off cap ss W hH hblk hsz => callsIn_wide.2 (Tryz.slices_Sort_int blk off cap ss W hH hblk hsz),
   fun p cap W => callsIn_wide.2 (Tryz.slices_Sort_int_none p cap W)⟩
theorem keys_perm {w : World} {m n : Nat} {D : DataW Unit} {M : List DtD} (hown : w.ownsMap Tryz.prog 3 dtR m n D) (h : DtIs D M) : (M.map (·.1)).Perm (intKeys D) := by
  refine CollectedI.perm (left := fun _ => false) ⟨?_, fun x => ?_⟩ hown keyedZ Tryz.underlying3 (fun _ => rfl)
  · exact List.pairwise_map.2 h.nodup
  · have h1 := h.has x
    unfold kz at h1
    rw [h1]
    constructor
    · intro hx
      obtain ⟨y, hy, rfl⟩ := List.mem_map.1 hx
      rw [dfind_of_mem h.nodup hy]
      exact ⟨rfl, rfl⟩
    · rintro ⟨hx, _⟩
      cases e : findD M x with
      | none => rw [e] at hx; cases hx
      | some v => exact List.mem_map.2 ⟨_, dfind_mem e, rfl⟩

set_option maxHeartbeats 1000000 in
theorem keys_sorted : KeysSorted := by
  intro w m M hM hlen
  obtain ⟨D, hown, hDI⟩ := hM
  have hsize : Maps.size D = M.length := hDI.size
  have hbl := hown.lt
  have cK : CallsIn Fence.wide 5 Tryz.prog 156 #[.map (some m)] w fun e w' => e = .returned (.func (.func 172) #[] #[.pointer (some ⟨w.heap.size, 0, none⟩)]) ∧ w' = w.alloc (.cells #[.map (some m)] 214) := AnyZI.keys_in Tryz.keysA Fence.wide 5 trivial rfl (some m) w
  refine ((callsIn_wide (n := 5)).1 cK).mono ?_
  rintro e w1 ⟨rfl, rfl⟩
  refine ⟨_, rfl, (Below.refl _ w).alloc (Nat.le_refl _) _, ?_⟩
  have hseq : SeqGives Fence.wide 2 Tryz.prog 172 #[.pointer (some ⟨w.heap.size, 0, none⟩)] encZ (fun ss => ss.Perm (intKeys D)) (Maps.size D) (w.alloc (.cells #[.map (some m)] 214)) :=
    AnyZI.keys_gives (ρ := Tryz.keysA_ren) { Tryz.keysA with } Fence.wide _ trivial rfl (by omega) w.heap.size m _ D _ (by simp) (by simp) (by
      obtain ⟨es, clock, hb, Ft, hs, hD⟩ := hown
      exact ⟨es, clock, (Below.heap_alloc _ _ m hbl).trans hb, Ft, hs, hD⟩)
  have cS := AnyZI.sorted_in Tryz.sortedA Fence.wide 5 trivial trivial trivial trivial rfl (by omega) (sortsZ _) (enters_of Tryz.func171 (by kernel_rfl) rfl) 172 #[.pointer (some ⟨w.heap.size, 0, none⟩)] trivial (enters_of Tryz.func172 (by kernel_rfl) rfl) _ _ (by rw [hsize]; unfold maxLen; omega) (by rw [hsize]; omega) _ hseq
  change CallsIn _ _ Tryz.prog 155 _ _ _ at cS
  refine ((callsIn_wide (n := 5)).1 cS).mono ?_
  rintro e w2 ⟨v, ss, rfl, hS, hrow, _, hb⟩
  refine ⟨v, rfl, ?_, hb⟩
  have hp : ss.Perm (M.map (·.1)) := hS.trans (keys_perm hown hDI).symm
  have hk : ss.mergeSort (fun x y => decide (x ≤ y)) = keysD M := mergeSort_of_perm_i hp
  rw [← hk, List.length_mergeSort]
  exact hrow

theorem cmerge_ok (a : Option Addr) (cap : Nat) (l : List BkD) (w : World) (h : SlBk w a l) (hl : l.length ≤ 100) :
    Calls Tryz.prog 136 #[.slice a l.length cap] w fun e w' => ∃ v, e = .returned v ∧ Cgs 170 w' w.heap.size v (mergeL (l.map bkM)) ∧ Below w.heap.size w w' := cmerge_any keys_sorted a cap l w h hl
end Go.Proofs.YtphhnhldbajaoaaGreatDoor

namespace Go.Proofs.YtphhnhldbajaoaaGreatDoor
open Go.RowKit Go.ChangeShapes Go.WideShapes Go.ChangeAt

def bkL (x : BkD) : List Value := [.int .i64 x.seq, .slice x.a x.ents.length x.cap]
theorem two_B : (Tryz.prog.info? 187).map (fun i => (i.zero, i.size, i.bytes)) = some (some (.agg #[.int .i64 0, .slice none 0 0]), 2, 32) := by kernel_rfl
/-- The value v is a slice of the call's own that holds the blocks l; their entries lie anywhere. -/
structure Bks (w : World) (base : Nat) (v : Value) (l : List BkD) : Prop where
  row : w.ownsRow base 187 2 v l.length (l.flatMap bkL)
  ents : ∀ x ∈ l, SlC w x.a x.ents
theorem Bks.nil (w : World) (base : Nat) : Bks w base (.slice none 0 0) [] := ⟨World.ownsRow_nil _ _ _ _, fun _ h => by cases h⟩
theorem Bks.keep {w w' : World} {base : Nat} {v : Value} {l : List BkD} (h : Bks w base v l) (hb : Below w.heap.size w w') : Bks w' base v l :=
  ⟨ownsRow_of h.row fun k _ hlt => hb.block k hlt, fun x hx => (h.ents x hx).keep hb⟩
theorem Bks.view {w : World} {base : Nat} {v : Value} {l : List BkD} (h : Bks w base v l) : ∃ a cap, v = .slice a l.length cap ∧ SlBk w a l := by
  have h' := h.row
  rcases h.row.2 with ⟨rfl, h0⟩ | ⟨g, cap, cur, rfl, hg, hh, _⟩
  · have : l = [] := List.eq_nil_of_length_eq_zero h0
    subst this
    exact ⟨none, 0, rfl, fun h => absurd rfl h⟩
  · refine ⟨some ⟨g, 0, none⟩, cap, rfl, fun _ => ⟨g, 0, rfl, lt_of_block hh, fun i x hx => ?_⟩⟩
    have hi : i < l.length := (List.getElem?_eq_some_iff.1 hx).1
    have hc : ∀ j u, j < 2 → (bkL x)[j]? = some u → w.cell? ⟨g, 0 + i * 2 + j, none⟩ = some u := fun j u hj hu => by
      have h0 := flat_get bkL 2 (fun _ => rfl) l i x hx j hj
      rw [Nat.zero_add, World.ownsRow.cellAt h' (i * 2 + j) (by omega), h0]
      exact hu
    exact ⟨hc 0 _ (by decide) rfl, hc 1 _ (by decide) rfl, h.ents x (List.mem_of_getElem? hx)⟩
theorem wp_bks_push {t : TypeId} (ht : Tryz.prog.underlying t = some (.slice 187)) {ops : Array Oper} {rest : List Oper} {o : Oper} {a : Act} {Q : Exit → Act → World → Prop} (W : World) (hgd : o.guard = none) (s x : Operand)
    (ho : o.op = .call { callee := .builtin .append, args := #[s, x], argTypes := #[t, t] })
    (base : Nat) (v : Value) (l : List BkD) (hs : a.eval s = v) (hb : Bks W base v l)
    (g c : Nat) (p : BkD) (hx : a.eval x = .slice (some ⟨g, 0, none⟩) 1 c) (hcell : ∀ j u, (bkL p)[j]? = some u → W.cell? ⟨g, j, none⟩ = some u) (hp : SlC W p.a p.ents)
    (hown : ∀ x ∈ l ++ [p], ∀ b off, x.a = some ⟨b, off, none⟩ → v.ownBlock ≠ some b)
    (hbytes : l.length + 1 ≤ 100000) (hbase : base ≤ W.heap.size)
    (h : ∀ v' w', Bks w' base v' (l ++ [p]) → W.grownBy w' v.ownBlock → (v'.ownBlock = v.ownBlock ∨ v'.ownBlock = some W.heap.size) → wpList Tryz.prog ops Q rest (a.put o.dst v') w') : wpList Tryz.prog ops Q (o :: rest) a W := by
  obtain ⟨i0, hi, hz0, hz1, hz2⟩ := info_parts two_B
  obtain ⟨v', w', hr, hown', hg, _, hob⟩ := run_append_own_at (P := Tryz.prog) W base t o.type 187 i0 (.agg #[.int .i64 0, .slice none 0 0]) 2 32 ht hi hz0 hz1 hz2 rfl (by decide) v l.length _ hb.row ⟨g, 0, none⟩ 1 c (bkL p) rfl
    (fun j u hj => by
      rw [add_plain, Nat.zero_add]
      exact hcell j u hj) (by
      intro u hu
      simp only [bkL, List.mem_cons, List.not_mem_nil, or_false] at hu
      rcases hu with rfl | rfl <;> rfl) (by unfold maxLen; omega) (by omega) hbase
  refine wpList_plain hgd fun K hK => ?_
  unfold Oper.wp execOp
  simp only [ho, resolve, invoke, builtin, Sem.run_bind, Sem.run_pure, Result.andThen_ok, List.map_toArray, List.map_cons, List.map_nil, hs, hx, hr]
  refine hK _ _ (h v' w' ⟨?_, ?_⟩ hg hob)
  · rw [List.flatMap_append, List.length_append, List.flatMap_cons, List.flatMap_nil, List.append_nil]
    exact hown'
  · intro y hy
    have hyw : SlC W y.a y.ents := by
      rcases List.mem_append.1 hy with h | h
      · exact hb.ents y h
      · rw [List.mem_singleton.1 h]
        exact hp
    intro hne
    obtain ⟨b, off, e, hlt, hc⟩ := hyw hne
    refine ⟨b, off, e, Nat.lt_of_lt_of_le hlt hg.size, fun i z hz j u hu => ?_⟩
    have hblk := hg.block b hlt (fun e2 => hown y hy b off e e2.symm)
    rw [show w'.cell? ⟨b, off + i * 4 + j, none⟩ = W.cell? ⟨b, off + i * 4 + j, none⟩ by simp only [World.cell?, hblk]]
    exact hc i z hz j u hu
end Go.Proofs.YtphhnhldbajaoaaGreatDoor

namespace Go.Proofs.YtphhnhldbajaoaaGreatDoor
open Go Go.RowKit Go.ChangeShapes Go.WideShapes Go.ChangeAt

def behX (x : SecD) (fi : Nat) : Nat := if roomN x.n ≤ fi + 7 then 0 else fi + 7
def recS (d : DevD) (x : SecD) (st : List (Int × List CgE) × SecD) (fi : Nat) : List (Int × List CgE) × SecD :=
  if (readX d x fi).1 = true then (st.1 ++ [(readX d x fi).2], if (st.2.num : Int) ≤ (readX d x fi).2.1 then { st.2 with num := (readX d x fi).2.1.toNat, hand := behX x fi } else st.2) else st
def recT (d : DevD) (x : SecD) : Nat → List (Int × List CgE) × SecD
  | 0 => ([], x)
  | i + 1 => recS d x (recT d x i) (7 * i)
theorem recT_succ (d : DevD) (x : SecD) (i : Nat) : recT d x (i + 1) = recS d x (recT d x i) (7 * i) := rfl
theorem recS_no {d : DevD} {x : SecD} {st : List (Int × List CgE) × SecD} {fi : Nat} (h : (readX d x fi).1 = false) : recS d x st fi = st := by unfold recS; rw [h]; exact if_neg (by simp)
theorem recS_new {d : DevD} {x : SecD} {st : List (Int × List CgE) × SecD} {fi : Nat} {q : Nat} (h : (readX d x fi).1 = true) (hq : (readX d x fi).2.1 = q) (hn : st.2.num ≤ q) : recS d x st fi = (st.1 ++ [(readX d x fi).2], { st.2 with num := q, hand := behX x fi }) := by
  unfold recS
  rw [if_pos h, if_pos (by rw [hq]; omega), hq]
  rfl
theorem recS_old {d : DevD} {x : SecD} {st : List (Int × List CgE) × SecD} {fi : Nat} {q : Nat} (h : (readX d x fi).1 = true) (hq : (readX d x fi).2.1 = q) (hn : ¬ st.2.num ≤ q) : recS d x st fi = (st.1 ++ [(readX d x fi).2], st.2) := by
  unfold recS
  rw [if_pos h, if_neg (by rw [hq]; omega)]
structure RecOk (x : SecD) (i : Nat) (st : List (Int × List CgE) × SecD) : Prop where
  f : st.2.f = x.f
  n : st.2.n = x.n
  e : st.2.e = x.e
  len : st.1.length ≤ i
theorem recT_ok (d : DevD) (x : SecD) : ∀ i, RecOk x i (recT d x i)
  | 0 => ⟨rfl, rfl, rfl, Nat.le_refl _⟩
  | i + 1 => by
    obtain ⟨h1, h2, h3, h4⟩ := recT_ok d x i
    rw [recT_succ]
    unfold recS
    split
    · refine ⟨?_, ?_, ?_, ?_⟩
      · show (if _ then _ else _ : SecD).f = _
        split
        · exact h1
        · exact h1
      · show (if _ then _ else _ : SecD).n = _
        split
        · exact h2
        · exact h2
      · show (if _ then _ else _ : SecD).e = _
        split
        · exact h3
        · exact h3
      · rw [List.length_append, List.length_singleton]
        omega
    · exact ⟨h1, h2, h3, Nat.le_succ_of_le h4⟩
theorem readX_eq {d : DevD} {x y : SecD} (hf : y.f = x.f) (hn : y.n = x.n) (fi : Nat) : readX d y fi = readX d x fi := by
  unfold readX
  rw [hf, hn]
theorem readX_seq (d : DevD) (x : SecD) (fi : Nat) : ∃ q : Nat, (readX d x fi).2.1 = q ∧ q ≤ 1099511627776 := by
  rcases decC_cases (tellD d (1, ((secN x.f fi - 1 : Nat) : Int))) with ⟨e, h, he⟩ | ⟨q, l, h, hc⟩
  · rw [readX_err h he]
    exact ⟨0, rfl, by decide⟩
  · obtain ⟨h0, h1, _⟩ := chkC_zero hc
    have hz : ∃ n : Nat, q = n ∧ n ≤ 1099511627776 := ⟨q.toNat, by omega, by omega⟩
    unfold readX
    rw [h]
    split
    · exact hz
    · exact ⟨0, rfl, by decide⟩
def putAll (e : List EnD) (l : List CgE) : List EnD := l.foldl (fun e y => putS e y.pos y) e
theorem putAll_snoc (e : List EnD) (l : List CgE) (k : Nat) (h : k < l.length) : putAll e (l.take (k + 1)) = putS (putAll e (l.take k)) (l[k]).pos l[k] := by
  unfold putAll
  rw [List.take_succ_eq_append_getElem h, List.foldl_append]
  rfl
theorem putAll_len (l : List CgE) : ∀ e : List EnD, (putAll e l).length ≤ e.length + l.length := by
  induction l with
  | nil => intro e; exact Nat.le_refl _
  | cons y l ih =>
    intro e
    have h1 := ih (putS e y.pos y)
    have h2 := sput_len (l := e) y.pos y
    show (putAll (putS e y.pos y) l).length ≤ _
    rw [List.length_cons]
    omega
def groups (n : Nat) : Nat := (roomN n + 6) / 7
def recX (d : DevD) (x : SecD) : SecD := { (recT d x (groups x.n)).2 with e := putAll x.e (mergeL (recT d x (groups x.n)).1) }
theorem mergeL_may (l : List (Int × List CgE)) (j : Nat) (hj : j < (mergeL l).length) : (Lit.int .i64 ((mergeL l)[j]).pos).wf = true := by
  have hg := good_new l
  have e := mergeL_eq l
  have hj2 : j < (keysD (newDt l)).length := by rw [e, List.length_map] at hj; exact hj
  obtain ⟨x, hx, hw⟩ := keysD_find hg j hj2
  have e2 : (mergeL l)[j] = pickD (newDt l) (keysD (newDt l))[j] := by simp only [e, List.getElem_map]
  rw [e2]
  unfold pickD
  rw [hx]
  have h3 := hg.2 _ (dfind_mem hx)
  exact pos_wf h3.1
theorem mergeL_len (l : List (Int × List CgE)) : (mergeL l).length ≤ 7 * l.length := by
  rw [mergeL_eq, List.length_map, keysD_len]
  exact newD_len l
end Go.Proofs.YtphhnhldbajaoaaGreatDoor
