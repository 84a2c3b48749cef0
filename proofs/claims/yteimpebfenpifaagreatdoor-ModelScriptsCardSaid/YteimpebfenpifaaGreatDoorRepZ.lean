/-
  strings.Repeat of one byte 0.
-/
import Derived.Test.YteimpebfenpifaaGreatDoorMg10
import Derived.Test.YteimpebfenpifaaGreatDoorPathShelf
import Derived.Shelf.Strings.Repeat
namespace Go.Proofs.YteimpebfenpifaaGreatDoor
open Go Go.RowKit Go.Shelf

/-- A builder whose bytes may have been read. -/
def IsBdF (w : World) (B b : Nat) (l : List UInt8) : Prop := Lib.IsBuilderF 97 5 B b (Lib.byteCells l) w
theorem bdcheckF_any (B b : Nat) (l : List UInt8) (w : World) (h : IsBdF w B b l) :
    Calls Tryz.prog 89 #[.pointer (some ⟨b, 0, none⟩)] w fun e w' => e = .returned (.tuple #[]) ∧ Lib.BuilderAtF 97 5 B b (.pointer (some ⟨b, 0, none⟩)) (Lib.byteCells l) w' ∧ Below B w w' := by
  rcases h with h | h
  · refine (bdcheck_fresh b w h.cell0 h.shape h.frozen0).mono ?_
    rintro e w' ⟨rfl, rfl⟩
    exact ⟨rfl, h.used _, (Below.refl B w).setCell (p := ⟨b, 0, none⟩) h.1 _⟩
  · refine (bdcheck_used b w h.cell0).mono ?_
    rintro e w' ⟨rfl, rfl⟩
    exact ⟨rfl, h, Below.refl B _⟩
set_option maxRecDepth 100000 in
set_option maxHeartbeats 1000000 in
theorem wstrF_any (B b : Nat) (l : List UInt8) (s : ByteArray) (w : World) (h : IsBdF w B b l) (hlen : l.length + s.size ≤ 1000000) (hBw : B ≤ w.heap.size) :
    Calls Tryz.prog 66 #[.pointer (some ⟨b, 0, none⟩), .string s] w fun e w' => e = .returned (.tuple #[.int .i64 s.size, .nilIface]) ∧ IsBdF w' B b (l ++ s.data.toList) ∧ Below B w w' := by
  obtain ⟨i0, hi, hz0, hz1, hz2⟩ := info_parts infoBd
  have hll : (Lib.byteCells l).length = l.length := Lib.byteCells_length l
  go_enter Tryz.func66, Tryz.ntmps66
  go_wp2_with fail
  refine (bdcheckF_any B b l _ h).mono ?_
  rintro e w1 ⟨rfl, h1, hb1⟩
  obtain ⟨hB, v, hbk, hown, hne⟩ := h1
  have c0 : w1.cell? ⟨b, 0, none⟩ = some (.pointer (some ⟨b, 0, none⟩)) := by rw [Lib.cell_of_heap hbk]; rfl
  have c1 : w1.cell? ⟨b, 1, none⟩ = some v := by rw [Lib.cell_of_heap hbk]; rfl
  go_wp2_with (at_builtin; refine Lib.wpList_append_own_stringF _ rfl _ _ 76 9 rfl B 5 i0 Tryz.underlying76 Tryz.underlying9 hi hz0 hz1 hz2 _ _ _ rfl hown s rfl ?c3 ?c4 ?c5 ?_)
  case c3 => rw [hll]; unfold maxLen; omega
  case c4 => rw [hll]; omega
  case c5 => have := hb1.size; omega
  intro v' w2 hown' hgrow _
  have hlt : b < w1.heap.size := lt_of_block hbk
  have hb2 : w2.heap[b]? = some (.cells #[.pointer (some ⟨b, 0, none⟩), v] 97 (0, 0)) := by
    rw [hgrow.block b hlt (fun e => hne e.symm)]
    exact hbk
  have d0 : w2.cell? ⟨b, 0, none⟩ = some (.pointer (some ⟨b, 0, none⟩)) := by rw [Lib.cell_of_heap hb2]; rfl
  have d1 : w2.cell? ⟨b, 1, none⟩ = some v := by rw [Lib.cell_of_heap hb2]; rfl
  have f1 : w2.frozen? ⟨b, 1, none⟩ = false := Lib.frozen_of_heap hb2 1
  obtain ⟨ao, n', cap, rfl⟩ : ∃ ao n' cap, v' = .slice ao n' cap := by
    rcases hown'.2 with ⟨hv, _⟩ | ⟨g, cap, cur, fz, hv, _⟩
    · exact ⟨_, _, _, hv⟩
    · exact ⟨_, _, _, hv⟩
  go_wp2
  go_ret2
  refine ⟨rfl, .inr ?_, ?_⟩
  · rw [Lib.byteCells_append, ← Lib.strCells_eq]
    exact Lib.BuilderAtF.put (T := 97) (e := 5) hB hb2 (bs' := Lib.byteCells l ++ Lib.strCells s) (by rw [List.length_append, Lib.strCells_length, hll]; exact hown') (by decide)
  · exact (hb1.grown hgrow (by have := hb1.size; omega) (fun k hk => (hown.lt k hk).1)).setCell (p := ⟨b, 1, none⟩) hB _

abbrev zB : ByteArray := ⟨#[0]⟩
def zerosB (n : Nat) : ByteArray := ⟨(List.replicate n (0 : UInt8)).toArray⟩
set_option maxRecDepth 100000 in
set_option maxHeartbeats 2000000 in
theorem repz_any (n : Nat) (h1 : 1 ≤ n) (h2 : n ≤ 20000) (w : World) : Calls Tryz.prog 92 #[.string zB, .int .i64 n] w fun e w' => e = .returned (.string (zerosB n)) ∧ Below w.heap.size w w' := by
  by_cases hn1 : n = 1
  · subst hn1
    go_enter Tryz.func92, Tryz.ntmps92
    go_wp2
    go_ret
    exact ⟨rfl, Below.refl _ _⟩
  · have hm : ((n : Int) == 0) = false := by rw [beq_eq_false_iff_ne]; omega
    have hm1 : ((n : Int) == 1) = false := by rw [beq_eq_false_iff_ne]; omega
    have hm2 : ¬ (n : Int) < 0 := by omega
    have hu : IntKind.u64.wrap (n : Int) = (n : Int) := IntWalk.u64_in _ ⟨by omega, by omega⟩
    have hi : IntKind.i64.wrap (n : Int) = (n : Int) := IntWalk.i64_in _ ⟨by omega, by omega⟩
    have cM := fun w => Tryz.bits_Mul 1 n (by decide) (by omega) w
    simp only [Nat.one_mul, Nat.div_eq_of_lt (show n < 18446744073709551616 by omega), Nat.mod_eq_of_lt (show n < 18446744073709551616 by omega)] at cM
    go_enter Tryz.func92, Tryz.ntmps92
    have HN : Hid (2 ≤ n ∧ n ≤ 20000) := ⟨by omega, h2⟩
    obtain ⟨m, hmdef⟩ : ∃ m : Nat, m = if 8192 < n then 8192 else n := ⟨_, rfl⟩
    have HMM : Hid (1 ≤ m ∧ m ≤ 20000) := by rw [hmdef]; split <;> exact ⟨by omega, by omega⟩
    obtain ⟨g, hg⟩ : ∃ g, g = w.heap.size := ⟨_, rfl⟩
    have HG := Lib.hid hg
    have HB0 := Lib.hid (IsBd.new w w.heap.size (Nat.le_refl _))
    have HW0 := Lib.hid ((Below.refl w.heap.size w).alloc (Nat.le_refl _) (.cells #[.pointer none, .slice none 0 0] 97 (0, 0)))
    have HBG := Lib.hid (Tryz.Builder_Grow_fresh w.heap.size w.heap.size n (w.alloc (.cells #[.pointer none, .slice none 0 0] 97 (0, 0))) (Nat.le_refl _) (heap_alloc_new w _) HW0.out.size (by omega))
    have hq : Int.tdiv 8192 ((zB.size : Nat) : Int) = 8192 := by decide
    have hzs : ((zB.size : Nat) : Int) = 1 := by decide
    have hz0 : ∀ h, (zB[0]'h).toNat = 0 := fun _ => rfl
    have hgr : ((9223372036854775807 : Int) < (n : Int)) = False := eq_false (by omega)
    by_cases hbig : 8192 < n
    · have hb1 : (8192 : Int) < (n : Int) := by omega
      rw [if_pos hbig] at hmdef
      have HMD := Lib.hid hmdef
      clear hbig hmdef h1 h2 hn1
      go_wp2_with fail
      refine (cM _).mono ?_
      rintro e w1 ⟨rfl, rfl⟩
      go_wp2_with fail
      refine HBG.out.mono ?_
      rintro e w2 ⟨rfl, hbd, hb⟩
      have HB2 : Hid (IsBdF w2 w1.heap.size w1.heap.size []) := Lib.IsBuilderF.of (.inr hbd)
      have HW2 := Lib.hid (HW0.out.trans hb)
      clear hbd hb HB0 HW0 HBG
      have HWS := Lib.hid (wstrF_any w1.heap.size w1.heap.size [] zB w2 HB2.out (by decide) HW2.out.size)
      go_wp2_with fail
      refine HWS.out.mono ?_
      rintro e w3 ⟨rfl, hbd, hb⟩
      have HB3 : Hid (IsBdF w3 w1.heap.size w1.heap.size (List.replicate 1 0)) := hbd
      have HW3 := Lib.hid (HW2.out.trans hb)
      clear hbd hb HB2 HW2 HWS
      rw [← hg] at HB3 HW3 ⊢
      clear hg hq hzs cM hu hi hm hm1 hm2 hz0 hgr
      go_wp2
      go_loopg [] (n - 1) (fun gh wx => ∃ q : Nat, 1 ≤ q ∧ q + gh = n ∧ Hid (IsBdF wx g g (List.replicate q 0)) ∧ Hid (Below g w1 wx))
      case atStart => exact ⟨1, Nat.le_refl _, by have := HN.out; omega, HB3.out, HW3.out⟩
      case round =>
        obtain ⟨q, hq1, hqg, HB, HL⟩ := hrel
        have hnn := HN.out
        have cLen := Lib.hid (fun W (h : IsBdF W g g (List.replicate q 0)) => Tryz.Builder_Len_f g g _ W h)
        have cStr := Lib.hid (fun W (h : IsBdF W g g (List.replicate q 0)) (hs : g ≤ W.heap.size) => Tryz.Builder_String_any_f g g (List.replicate q 0) W h hs)
        have hlq : (Lib.byteCells (List.replicate q (0 : UInt8))).length = q := by rw [Lib.byteCells_length, List.length_replicate]
        have hgs : Hid (g ≤ wr.heap.size) := by
          have h1 := HL.out.size
          have h2 := HG.out
          show g ≤ _
          omega
        have hzd : (⟨(List.replicate q (0 : UInt8)).toArray⟩ : ByteArray) = zerosB q := rfl
        rw [hzd] at cStr
        have hzs : (zerosB q).size = q := by unfold zerosB; simp [ByteArray.size]
        have hmm := HMM.out
        cases gk with
        | zero =>
          obtain rfl : q = n := by omega
          have hQn : ¬ ((q : Int) < (q : Int)) := by omega
          have cl := cLen.out wr HB.out
          rw [hlq] at cl
          go_wp2_with fail
          refine cl.mono ?_
          rintro e w4 ⟨rfl, rfl⟩
          go_wp2_with fail
          refine (cStr.out _ HB.out hgs.out).mono ?_
          rintro e w5 ⟨rfl, hbd5, hb⟩
          have HL5 := Lib.hid (HL.out.trans hb)
          clear hb
          go_wp2
          go_ret
          exact ⟨rfl, by rw [← HG.out]; exact HL5.out⟩
        | succ gh =>
          have hQn : (q : Int) < (n : Int) := by omega
          obtain ⟨ch, hch⟩ : ∃ ch, ch = min (min (n - q) q) m := ⟨_, rfl⟩
          have hmin3 : ∀ (ts : Array TypeId) (t : TypeId) (W : World), (Builtin.min_ ts t #[.int .i64 ((n : Int) - (q : Int)), .int .i64 (q : Int), .int .i64 (8192 : Int)]).run Tryz.prog W = .ok (.int .i64 (ch : Int)) W := fun ts t W => by
            rw [run_min_int3]
            congr 2
            have := HMD.out
            omega
          have hw : IntKind.i64.wrap ((n : Int) - (q : Int)) = (n : Int) - (q : Int) := IntWalk.i64_in _ ⟨by omega, by omega⟩
          have hch1 : 1 ≤ ch ∧ ch ≤ q ∧ q + ch ≤ n := by omega
          have hc0 : (0 : Int) ≤ (ch : Int) := by omega
          have hc1 : (ch : Int) ≤ (q : Int) := by omega
          have HCH := Lib.hid hch1
          clear hch hch1
          have cl := cLen.out wr HB.out
          rw [hlq] at cl
          go_wp2_with fail
          refine cl.mono ?_
          rintro e w4 ⟨rfl, rfl⟩
          go_wp2_with fail
          refine cl.mono ?_
          rintro e w4' ⟨rfl, rfl⟩
          go_wp2_with fail
          refine cl.mono ?_
          rintro e w4'' ⟨rfl, rfl⟩
          go_wp2_with fail
          refine (cStr.out _ HB.out hgs.out).mono ?_
          rintro e w5 ⟨rfl, hbd5, hb⟩
          have HB5 : Hid (IsBdF w5 g g (List.replicate q 0)) := hbd5
          have HL5 := Lib.hid (HL.out.trans hb)
          have HGS5 : Hid (g ≤ w5.heap.size) := Nat.le_trans hgs.out hb.size
          have hze : (zerosB q).extract 0 ch = zerosB ch := by
            refine ByteArray.ext ?_
            unfold zerosB
            rw [ByteArray.data_extract]
            apply Array.ext'
            have := HCH.out
            simp
            omega
          have hzc : (zerosB ch).size = ch := by unfold zerosB; simp [ByteArray.size]
          have HWS := Lib.hid (wstrF_any g g (List.replicate q 0) (zerosB ch) w5 HB5.out (by rw [List.length_replicate, hzc]; have := HCH.out; omega) HGS5.out)
          have hch2 : ((ch : Int)).toNat = ch := Int.toNat_natCast ch
          clear hb hbd5
          go_wp2_with fail
          refine HWS.out.mono ?_
          rintro e w6 ⟨rfl, hbd6, hb⟩
          have HB6 := Lib.hid hbd6
          have HL6 := Lib.hid (HL5.out.trans hb)
          clear hb hbd6 HWS HB5 HL5
          go_wp2
          go_roundg (n - (q + ch))
          case measure => have := HCH.out; omega
          case rel =>
            have := HCH.out
            refine ⟨q + ch, by omega, by omega, ?_, HL6.out⟩
            have h6 := HB6.out
            rw [show (zerosB ch).data.toList = List.replicate ch 0 from by unfold zerosB; simp, List.replicate_append_replicate] at h6
            exact h6
    · have hb1 : ¬ (8192 : Int) < (n : Int) := by omega
      rw [if_neg hbig] at hmdef
      have HMD := Lib.hid hmdef
      clear hbig hmdef h1 h2 hn1
      go_wp2_with fail
      refine (cM _).mono ?_
      rintro e w1 ⟨rfl, rfl⟩
      go_wp2_with fail
      refine HBG.out.mono ?_
      rintro e w2 ⟨rfl, hbd, hb⟩
      have HB2 : Hid (IsBdF w2 w1.heap.size w1.heap.size []) := Lib.IsBuilderF.of (.inr hbd)
      have HW2 := Lib.hid (HW0.out.trans hb)
      clear hbd hb HB0 HW0 HBG
      have HWS := Lib.hid (wstrF_any w1.heap.size w1.heap.size [] zB w2 HB2.out (by decide) HW2.out.size)
      go_wp2_with fail
      refine HWS.out.mono ?_
      rintro e w3 ⟨rfl, hbd, hb⟩
      have HB3 : Hid (IsBdF w3 w1.heap.size w1.heap.size (List.replicate 1 0)) := hbd
      have HW3 := Lib.hid (HW2.out.trans hb)
      clear hbd hb HB2 HW2 HWS
      rw [← hg] at HB3 HW3 ⊢
      clear hg hq hzs cM hu hi hm hm1 hm2 hz0 hgr
      go_wp2
      go_loopg [] (n - 1) (fun gh wx => ∃ q : Nat, 1 ≤ q ∧ q + gh = n ∧ Hid (IsBdF wx g g (List.replicate q 0)) ∧ Hid (Below g w1 wx))
      case atStart => exact ⟨1, Nat.le_refl _, by have := HN.out; omega, HB3.out, HW3.out⟩
      case round =>
        obtain ⟨q, hq1, hqg, HB, HL⟩ := hrel
        have hnn := HN.out
        have cLen := Lib.hid (fun W (h : IsBdF W g g (List.replicate q 0)) => Tryz.Builder_Len_f g g _ W h)
        have cStr := Lib.hid (fun W (h : IsBdF W g g (List.replicate q 0)) (hs : g ≤ W.heap.size) => Tryz.Builder_String_any_f g g (List.replicate q 0) W h hs)
        have hlq : (Lib.byteCells (List.replicate q (0 : UInt8))).length = q := by rw [Lib.byteCells_length, List.length_replicate]
        have hgs : Hid (g ≤ wr.heap.size) := by
          have h1 := HL.out.size
          have h2 := HG.out
          show g ≤ _
          omega
        have hzd : (⟨(List.replicate q (0 : UInt8)).toArray⟩ : ByteArray) = zerosB q := rfl
        rw [hzd] at cStr
        have hzs : (zerosB q).size = q := by unfold zerosB; simp [ByteArray.size]
        have hmm := HMM.out
        cases gk with
        | zero =>
          obtain rfl : q = n := by omega
          have hQn : ¬ ((q : Int) < (q : Int)) := by omega
          have cl := cLen.out wr HB.out
          rw [hlq] at cl
          go_wp2_with fail
          refine cl.mono ?_
          rintro e w4 ⟨rfl, rfl⟩
          go_wp2_with fail
          refine (cStr.out _ HB.out hgs.out).mono ?_
          rintro e w5 ⟨rfl, hbd5, hb⟩
          have HL5 := Lib.hid (HL.out.trans hb)
          clear hb
          go_wp2
          go_ret
          exact ⟨rfl, by rw [← HG.out]; exact HL5.out⟩
        | succ gh =>
          have hQn : (q : Int) < (n : Int) := by omega
          obtain ⟨ch, hch⟩ : ∃ ch, ch = min (min (n - q) q) m := ⟨_, rfl⟩
          have hmin3 : ∀ (ts : Array TypeId) (t : TypeId) (W : World), (Builtin.min_ ts t #[.int .i64 ((n : Int) - (q : Int)), .int .i64 (q : Int), .int .i64 (n : Int)]).run Tryz.prog W = .ok (.int .i64 (ch : Int)) W := fun ts t W => by
            rw [run_min_int3]
            congr 2
            have := HMD.out
            omega
          have hw : IntKind.i64.wrap ((n : Int) - (q : Int)) = (n : Int) - (q : Int) := IntWalk.i64_in _ ⟨by omega, by omega⟩
          have hch1 : 1 ≤ ch ∧ ch ≤ q ∧ q + ch ≤ n := by omega
          have hc0 : (0 : Int) ≤ (ch : Int) := by omega
          have hc1 : (ch : Int) ≤ (q : Int) := by omega
          have HCH := Lib.hid hch1
          clear hch hch1
          have cl := cLen.out wr HB.out
          rw [hlq] at cl
          go_wp2_with fail
          refine cl.mono ?_
          rintro e w4 ⟨rfl, rfl⟩
          go_wp2_with fail
          refine cl.mono ?_
          rintro e w4' ⟨rfl, rfl⟩
          go_wp2_with fail
          refine cl.mono ?_
          rintro e w4'' ⟨rfl, rfl⟩
          go_wp2_with fail
          refine (cStr.out _ HB.out hgs.out).mono ?_
          rintro e w5 ⟨rfl, hbd5, hb⟩
          have HB5 : Hid (IsBdF w5 g g (List.replicate q 0)) := hbd5
          have HL5 := Lib.hid (HL.out.trans hb)
          have HGS5 : Hid (g ≤ w5.heap.size) := Nat.le_trans hgs.out hb.size
          have hze : (zerosB q).extract 0 ch = zerosB ch := by
            refine ByteArray.ext ?_
            unfold zerosB
            rw [ByteArray.data_extract]
            apply Array.ext'
            have := HCH.out
            simp
            omega
          have hzc : (zerosB ch).size = ch := by unfold zerosB; simp [ByteArray.size]
          have HWS := Lib.hid (wstrF_any g g (List.replicate q 0) (zerosB ch) w5 HB5.out (by rw [List.length_replicate, hzc]; have := HCH.out; omega) HGS5.out)
          have hch2 : ((ch : Int)).toNat = ch := Int.toNat_natCast ch
          clear hb hbd5
          go_wp2_with fail
          refine HWS.out.mono ?_
          rintro e w6 ⟨rfl, hbd6, hb⟩
          have HB6 := Lib.hid hbd6
          have HL6 := Lib.hid (HL5.out.trans hb)
          clear hb hbd6 HWS HB5 HL5
          go_wp2
          go_roundg (n - (q + ch))
          case measure => have := HCH.out; omega
          case rel =>
            have := HCH.out
            refine ⟨q + ch, by omega, by omega, ?_, HL6.out⟩
            have h6 := HB6.out
            rw [show (zerosB ch).data.toList = List.replicate ch 0 from by unfold zerosB; simp, List.replicate_append_replicate] at h6
            exact h6
end Go.Proofs.YteimpebfenpifaaGreatDoor
