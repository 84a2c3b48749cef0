/-
  Package second: a cache of the call's own beside the devices; Find.
-/
import Derived.Test.YtphhnhldbajaoaaGreatDoorMg19
import Derived.Test.YtphhnhldbajaoaaGreatDoorMg3
import Derived.Test.YtphhnhldbajaoaaGreatDoorMg10
namespace Go.Proofs.YtphhnhldbajaoaaGreatDoor
open Go Go.RowKit Go.ChangeShapes Go.WideShapes Go.ChangeAt

def ScF (s b : Nat) (x : SecD) (G : List Nat) (W : World) : Prop := ∃ m, G = [s, m] ∧ SecAt W s b m x
theorem SecAt.of {w w' : World} {s b m : Nat} {x : SecD} (h : SecAt w s b m x) (h1 : w'.heap[s]? = w.heap[s]?) (h2 : w'.heap[m]? = w.heap[m]?) : SecAt w' s b m x := ⟨h.box.of h1, h.map.of h2, h.ne⟩
theorem fixed_sc (s b : Nat) (x : SecD) : Fixed (ScF s b x) := by
  refine ⟨?_, ?_⟩
  · rintro G S w1 w2 ⟨m, rfl, h⟩ hc hn
    exact ⟨m, rfl, h.of (hc.block s h.box.lt (hn s (by simp))) (hc.block m h.map.lt (hn m (by simp)))⟩
  · rintro G w ⟨m, rfl, h⟩ k hk
    simp only [List.mem_cons, List.not_mem_nil, or_false] at hk
    rcases hk with rfl | rfl
    · exact h.box.lt
    · exact h.map.lt
/-- The cache, and what becomes of all when it alone is changed. -/
theorem One.secE {B : Nat} {P : List Nat → World → Prop} {b s : Nat} {d : DevD} {x : SecD} {w : World} (hP : Fixed P) (h : One B (Both P (ScF s b x)) b d w) : ∃ m, SecAt w s b m x ∧ B ≤ s ∧ B ≤ m ∧
    ∀ w' x', Chg [s, m] w w' → SecAt w' s b m x' → One B (Both P (ScF s b x')) b d w' ∧ Below B w w' := by
  obtain ⟨hz, F, G, h1, ⟨G1, G2, rfl, h2, ⟨m, rfl, h3⟩, h4⟩, h5, h6⟩ := h
  have hs := h6 s (by simp)
  have hm := h6 m (by simp)
  refine ⟨m, h3, hs, hm, fun w' x' hc hx => ⟨⟨Nat.le_trans hz hc.size, F, _, (fixed_dev b d).keep _ _ _ _ h1 hc (fun k hk hm2 => ?_), ⟨G1, [s, m], rfl, hP.keep _ _ _ _ h2 hc (fun k hk hm2 => h4 k hk hm2), ⟨m, rfl, hx⟩, h4⟩, h5, h6⟩, hc.below hz (fun k hk => ?_)⟩⟩
  · exact (h5 k hk).2 (List.mem_append_right _ hm2)
  · exact h6 k (List.mem_append_right _ hk)

/-- What Find answers, and the cache behind it. -/
def findX (d : DevD) (x : SecD) (key : ByteArray) : (ByteArray × Bool) × SecD := match entOf x key with
  | none => ((⟨#[]⟩, false), x)
  | some y => if chkD d (1, y.pos) 0 = 0 ∧ ((tellD d (1, y.pos)).size : Int) = y.len ∧ sha (tellD d (1, y.pos)) = y.sum then ((tellD d (1, y.pos), true), x) else ((⟨#[]⟩, false), { x with e := forgetS x.e y.pos })
theorem findX_none {d : DevD} {x : SecD} {key : ByteArray} (h : entOf x key = none) : findX d x key = ((⟨#[]⟩, false), x) := by unfold findX; rw [h]
theorem findX_yes {d : DevD} {x : SecD} {key : ByteArray} {y : CgE} (h : entOf x key = some y) (h2 : chkD d (1, y.pos) 0 = 0 ∧ ((tellD d (1, y.pos)).size : Int) = y.len ∧ sha (tellD d (1, y.pos)) = y.sum) : findX d x key = ((tellD d (1, y.pos), true), x) := by
  unfold findX; rw [h]; exact if_pos h2
theorem findX_no {d : DevD} {x : SecD} {key : ByteArray} {y : CgE} (h : entOf x key = some y) (h2 : ¬ (chkD d (1, y.pos) 0 = 0 ∧ ((tellD d (1, y.pos)).size : Int) = y.len ∧ sha (tellD d (1, y.pos)) = y.sum)) : findX d x key = ((⟨#[]⟩, false), { x with e := forgetS x.e y.pos }) := by
  unfold findX; rw [h]; exact if_neg h2
theorem amongK_mem {e : List EnD} {f fr k : Nat} {y : CgE} (h : y ∈ amongK e f fr k) : ∃ p, fr ≤ p ∧ p < k ∧ findS e (secN f p) = some y := by
  unfold amongK at h
  rw [List.mem_filterMap] at h
  obtain ⟨p, hp, hy⟩ := h
  rw [List.mem_range'_1] at hp
  exact ⟨p, hp.1, by omega, hy⟩
theorem entOf_some {x : SecD} {key : ByteArray} {y : CgE} (h : entOf x key = some y) : y.key = key ∧ ∃ p, p < roomN x.n ∧ findS x.e (secN x.f p) = some y := by
  unfold entOf at h
  have h1 := List.find?_some h
  obtain ⟨p, _, h2, h3⟩ := amongK_mem (List.mem_of_find?_eq_some h)
  exact ⟨by simpa using h1, p, h2, h3⟩

section
variable {B : Nat} {P : List Nat → World → Prop} (hP : Fixed P) {b s : Nat} {d : DevD} {x : SecD} {w : World} (h : One B (Both P (ScF s b x)) b d w) (hx : x.f ≤ 512) (hn : x.n ≤ 512)
include hP h hx hn

set_option maxRecDepth 100000 in
set_option maxHeartbeats 2000000 in
theorem find_any (key : ByteArray) (hK : Kt w) (hB : 0 < B) (hT : ∀ l, (tellD d l).size ≤ 140737488355328) (hpos : ∀ k y, findS x.e k = some y → y.pos = k ∧ 0 ≤ k ∧ k < 1000) :
    Calls Tryz.prog 114 #[.pointer (some ⟨s, 0, none⟩), .string key] w fun e w' => e = .returned (.tuple #[.string (findX d x key).1.1, .bool (findX d x key).1.2]) ∧ One B (Both P (ScF s b (findX d x key).2)) b d w' ∧ Below B w w' := by
  obtain ⟨m, hs, hBs, hBm, hto⟩ := h.secE hP
  have HBW : Hid (B ≤ w.heap.size) := h.1
  have HO := Lib.hid h
  have HS := Lib.hid hs
  have HX := Lib.hid hx
  have HN := Lib.hid hn
  have HT := Lib.hid hT
  have HK := Lib.hid hK
  have HBP := Lib.hid hB
  have HP := Lib.hid hP
  have HPO := Lib.hid hpos
  have HTO := Lib.hid hto
  clear h hP hs hx hn hT hK hpos hto hB
  go_enter Tryz.func114, Tryz.ntmps114
  go_wp2_with fail
  refine (entryof_any s b m x key _ HS.out HX.out HN.out).mono ?_
  rintro e w1 ⟨rfl, hb⟩
  have HO1 := Lib.hid (HO.out.keep (fixed_both HP.out (fixed_sc s b x)) hb)
  have HB1 := Lib.hid (hb.mono HBW.out)
  have HK1 := Lib.hid (HK.out.below HB1.out HBP.out)
  have HZ1 := Lib.hid (HO1.out.1)
  have HW1 := Lib.hid hb
  clear hb
  cases he : entOf x key with
  | none =>
    have HR := Lib.hid (findX_none (d := d) he)
    simp only [Option.getD_none, Option.isSome_none, noE]
    have hal := HO1.out.keep (fixed_both HP.out (fixed_sc s b x)) ((Below.refl w1.heap.size w1).alloc (Nat.le_refl _) (.cells #[.string ⟨#[]⟩, .string ⟨#[]⟩, .int .i64 0, .int .i64 0] 170))
    have HAL := Lib.hid hal
    have HBL := Lib.hid (HB1.out.alloc HZ1.out (.cells #[.string ⟨#[]⟩, .string ⟨#[]⟩, .int .i64 0, .int .i64 0] 170))
    clear he hal
    go_wp2
    go_ret2
    exact ⟨by rw [HR.out]; rfl, by rw [HR.out]; exact HAL.out, HBL.out⟩
  | some y =>
    simp only [Option.getD_some, Option.isSome_some]
    obtain ⟨hykey, pk, hpk, hfk⟩ := entOf_some he
    obtain ⟨hyp, hy0, hy1⟩ := HPO.out _ _ hfk
    have HWF : Hid ((Lit.int .i64 y.pos).wf = true) := by
      show _ = _
      rw [hyp]
      exact nat_wf (k := secN x.f pk) (by omega)
    have HE := Lib.hid he
    obtain ⟨nf, hnf⟩ : ∃ nf, nf = w1.heap.size := ⟨_, rfl⟩
    have hal2 : Below w1.heap.size w1 (w1.alloc (.cells (cgA y) 170)) := (Below.refl w1.heap.size w1).alloc (Nat.le_refl _) _
    have BY := Lib.hid (Box.new w1 170 (cgA y))
    have HO2 := Lib.hid (HO1.out.keep (fixed_both HP.out (fixed_sc s b x)) hal2)
    have HW2 := Lib.hid (HW1.out.trans (hal2.mono HW1.out.size))
    have HS2 := Lib.hid (HS.out.keep HW2.out)
    have HZ2 : Hid ((w1.alloc (.cells (cgA y) 170)).heap.size = nf + 1) := by show _ = _; rw [size_alloc, hnf]
    rw [← hnf] at BY
    have HNF : Hid (w.heap.size ≤ nf) := by show _ ≤ _; rw [hnf]; exact HW1.out.size
    clear he hykey hpk hfk hyp hy0 hy1 hal2 HO1 HB1 HK1 HZ1 HW1
    go_wp2_with fail
    rw [← hnf]
    clear hnf
    generalize World.alloc w1 _ = w2 at *
    have n3 : w2.cell? ⟨nf, 3, none⟩ = some (.int .i64 y.pos) := BY.out.cell 3 _ rfl
    have k0 : w2.cell? ⟨s, 0, none⟩ = some (.pointer (some ⟨b, 0, none⟩)) := HS2.out.box.cell 0 _ rfl
    have HO2D := Lib.hid (HO2.out.drew (fixed_both HP.out (fixed_sc s b x)))
    go_wp2_with fail
    refine wp_region_tree (fun W => W.cell? ⟨s, 0, none⟩ = some (.pointer (some ⟨b, 0, none⟩)) ∧ W.cell? ⟨nf, 3, none⟩ = some (.int .i64 y.pos)) 12 (.quiet 0 (.quiet 1 (.quiet 2 (.quiet 3 (.quiet 4 (.quiet 5 (.make 6 (.make 7 (.quiet 8 (.quiet 9 (.quiet 10 (.quiet 11 .nil)))))))))))) (by kernel_rfl) (by kernel_rfl) ⟨k0, n3⟩ ?_
    simp only [List.drop_succ_cons, List.drop_zero]
    iterate 6 (apply wpTr_step rfl; (intro W hS K hK; obtain ⟨r1, r2⟩ := hS; go_simp; exact hK _ rfl))
    refine wpTr_make rfl (fun K' hK => ?_)
    go_simp
    refine (fast_any _ y.pos).mono ?_
    rintro e w3 ⟨rfl, hb3⟩
    have hb3' : Below w2.heap.size w2 w3 := (Below.refl _ w2).drew.trans hb3
    have BY3 := Lib.hid (BY.out.keep hb3' BY.out.lt)
    have HS3 := Lib.hid (HS2.out.keep hb3')
    have HO3 := Lib.hid (HO2.out.keep (fixed_both HP.out (fixed_sc s b x)) hb3')
    have HW3 := Lib.hid (HW2.out.trans (hb3'.mono HW2.out.size))
    refine hK _ _ _ (fun _ h => h) ⟨HS3.out.box.cell 0 _ rfl, BY3.out.cell 3 _ rfl⟩ ?_
    clear hK K' hb3 hb3' n3 k0 HO2 HW2 HS2 BY HO2D
    refine wpTr_make rfl (fun K' hK => ?_)
    unfold locV
    go_simp
    refine (one_readS (fixed_both HP.out (fixed_sc s b x)) HO3.out (1, y.pos)).mono ?_
    rintro e w4 ⟨rfl, ho4, hb4⟩
    have BY4 := Lib.hid (BY3.out.keep hb4 BY3.out.lt)
    have HS4 := Lib.hid (HS3.out.keep hb4)
    have HO4 := Lib.hid ho4
    have HW4 := Lib.hid (HW3.out.trans (hb4.mono HW3.out.size))
    refine hK _ _ _ (fun _ h => h) ⟨HS4.out.box.cell 0 _ rfl, BY4.out.cell 3 _ rfl⟩ ?_
    clear hK K' hb4 ho4 BY3 HS3 HO3 HW3
    iterate 4 (apply wpTr_step rfl; (intro W hS K hK; obtain ⟨r1, r2⟩ := hS; go_simp; exact hK _ rfl))
    refine wpTr_nil ?_
    have k1 : w4.cell? ⟨nf, 2, none⟩ = some (.int .i64 y.len) := BY4.out.cell 2 _ rfl
    have k2 : w4.cell? ⟨nf, 1, none⟩ = some (.string y.sum) := BY4.out.cell 1 _ rfl
    have HKK := Lib.hid (HK.out.below (HW4.out.mono HBW.out) HBP.out)
    have HKD := Lib.hid (HKK.out.below ((Below.refl B w4).drew) HBP.out)
    have HTS := HT.out (1, y.pos)
    obtain ⟨t, ht⟩ : ∃ t, t = tellD d (1, y.pos) := ⟨_, rfl⟩
    obtain ⟨c, hc⟩ : ∃ c, c = chkD d (1, y.pos) 0 := ⟨_, rfl⟩
    rw [← ht] at HTS ⊢
    rw [← hc]
    have HTT := Lib.hid ht
    have HCC := Lib.hid hc
    clear ht hc
    have HOF := Lib.hid (of_any t w4.drew HTS HKD.out)
    have n2 := HTS
    by_cases hc0 : c = 0
    · by_cases hl : (t.size : Int) = y.len
      · by_cases hsm : sha t = y.sum
        · have d0 : (c != 0) = false := by simp [hc0]
          have d1 : ((t.size : Int) != y.len) = false := by simp [hl]
          have d2 : ((sha t).toList == y.sum.toList) = true := by rw [hsm]; exact beq_self_eq_true _
          have HRD : Hid (findX d x key = ((t, true), x)) := by
            show _ = _
            rw [HTT.out] at hl hsm ⊢
            exact findX_yes HE.out ⟨by rw [← HCC.out]; exact hc0, hl, hsm⟩
          clear hc0 hl hsm
          go_wp2_with fail
          refine wp_region_tree (fun W => W.cell? ⟨nf, 2, none⟩ = some (.int .i64 y.len) ∧ W.cell? ⟨nf, 1, none⟩ = some (.string y.sum)) 14 (.quiet 0 (.quiet 1 (.quiet 2 (.quiet 3 (.quiet 4 (.quiet 5 (.quiet 6 (.quiet 7 (.quiet 8 (.quiet 9 (.quiet 10 (.quiet 12 (.quiet 13 (.make 11 .nil)))))))))))))) (by kernel_rfl) (by kernel_rfl) ⟨k1, k2⟩ ?_
          simp only [List.drop_succ_cons, List.drop_zero]
          iterate 13 (apply wpTr_step rfl; (intro W hS K hK; obtain ⟨r1, r2⟩ := hS; go_simp; exact hK _ rfl))
          refine wpTr_make rfl (fun K' hK => ?_)
          go_simp
          refine (HOF.out).mono ?_
          rintro e w5 ⟨rfl, hb5⟩
          have hb5' : Below w4.heap.size w4 w5 := (Below.refl _ w4).drew.trans hb5
          have BY5 := Lib.hid (BY4.out.keep hb5' BY4.out.lt)
          have HO5 := Lib.hid (HO4.out.keep (fixed_both HP.out (fixed_sc s b x)) hb5')
          have HW5 := Lib.hid (HW4.out.trans (hb5'.mono HW4.out.size))
          refine hK _ _ _ (fun _ h => h) ⟨BY5.out.cell 2 _ rfl, BY5.out.cell 1 _ rfl⟩ ?_
          clear hK K' hb5 hb5'
          refine wpTr_nil ?_
          clear k1 k2
          go_wp2
          go_ret2
          exact ⟨by rw [HRD.out]; rfl, by rw [HRD.out]; exact HO5.out, HW5.out.mono HBW.out⟩
        · have d0 : (c != 0) = false := by simp [hc0]
          have d1 : ((t.size : Int) != y.len) = false := by simp [hl]
          have d2 : ((sha t).toList == y.sum.toList) = false := by
            rw [beq_eq_false_iff_ne]
            intro e
            apply hsm
            rw [ByteArray.toList_eq, ByteArray.toList_eq] at e
            exact ByteArray.ext (Array.toList_inj.1 e)
          have HNO : Hid (¬ (chkD d (1, y.pos) 0 = 0 ∧ ((tellD d (1, y.pos)).size : Int) = y.len ∧ sha (tellD d (1, y.pos)) = y.sum)) := fun h => hsm (by rw [HTT.out]; exact h.2.2)
          clear hc0 hl hsm
          go_wp2_with fail
          refine wp_region_tree (fun W => W.cell? ⟨nf, 2, none⟩ = some (.int .i64 y.len) ∧ W.cell? ⟨nf, 1, none⟩ = some (.string y.sum)) 14 (.quiet 0 (.quiet 1 (.quiet 2 (.quiet 3 (.quiet 4 (.quiet 5 (.quiet 6 (.quiet 7 (.quiet 8 (.quiet 9 (.quiet 10 (.quiet 12 (.quiet 13 (.make 11 .nil)))))))))))))) (by kernel_rfl) (by kernel_rfl) ⟨k1, k2⟩ ?_
          simp only [List.drop_succ_cons, List.drop_zero]
          iterate 13 (apply wpTr_step rfl; (intro W hS K hK; obtain ⟨r1, r2⟩ := hS; go_simp; exact hK _ rfl))
          refine wpTr_make rfl (fun K' hK => ?_)
          go_simp
          refine (HOF.out).mono ?_
          rintro e w5 ⟨rfl, hb5⟩
          have hb5' : Below w4.heap.size w4 w5 := (Below.refl _ w4).drew.trans hb5
          have BY5 := Lib.hid (BY4.out.keep hb5' BY4.out.lt)
          have HS5 := Lib.hid (HS4.out.keep hb5')
          have HW5 := Lib.hid (HW4.out.trans (hb5'.mono HW4.out.size))
          refine hK _ _ _ (fun _ h => h) ⟨BY5.out.cell 2 _ rfl, BY5.out.cell 1 _ rfl⟩ ?_
          clear hK K' hb5 hb5' BY4
          have BY4 := BY5
          clear BY5
          refine wpTr_nil ?_
          have HRD := Lib.hid (findX_no (d := d) HE.out HNO.out)
          have n3' := BY4.out.cell 3 _ rfl
          have k3' : w5.cell? ⟨s, 3, none⟩ = some (.map (some m)) := HS5.out.box.cell 3 _ rfl
          obtain ⟨D, hown, hDI⟩ := (HS5.out.map.keep (Below.refl _ w5).drew)
          have HDI := Lib.hid hDI
          have HW5D := Lib.hid ((HW5.out).drew)
          clear hDI n2 k1 k2
          go_wp2_with fail
          refine wp_region_tree (fun W => W.cell? ⟨s, 3, none⟩ = some (.map (some m)) ∧ W.cell? ⟨nf, 3, none⟩ = some (.int .i64 y.pos)) 6 (.quiet 0 (.quiet 1 (.quiet 2 (.quiet 3 (.quiet 4 (.quiet 5 .nil)))))) (by kernel_rfl) (by kernel_rfl) ⟨k3', n3'⟩ ?_
          simp only [List.drop_succ_cons, List.drop_zero]
          iterate 6 (apply wpTr_step rfl; (intro W hS K hK; obtain ⟨r1, r2⟩ := hS; go_simp; exact hK _ rfl))
          refine wpTr_nil ?_
          go_wp2_with (first
            | (at_delete; refine wpList_delete_own _ rfl _ _ 156 3 rfl 170 keyedY Tryz.underlying156 _ m x.e.length D rfl hown _ _ rfl (keyOfY HWF.out) ?_; intro w6 hown6 hturn6)
            | go_in)
          have HO6 := Lib.hid hown6
          have HC6 : Hid (Chg [m] w5.drew w6) := Chg.only hturn6.grown
          have HT6 : Hid (Maps.Tidy D) := hown.tidy keyedY
          clear hown hown6 hturn6 k3' n3'
          go_wp2
          go_ret2
          have hmap : EnAt w6 m (forgetS x.e y.pos) := by
            refine ⟨_, ?_, HDI.out.del HT6.out y.pos⟩
            have := sowns_tight HO6.out
            rw [(HDI.out.del HT6.out y.pos).size] at this
            exact this
          have hbox := HS5.out.box.of ((HC6.out.block s HS5.out.box.lt (by simpa using HS5.out.ne)))
          obtain ⟨hone, hbel⟩ := HTO.out w6 { x with e := forgetS x.e y.pos } ((Chg.of HW5D.out (Nat.le_refl _)).trans (HC6.out.mono (by simp))) ⟨hbox, hmap, HS5.out.ne⟩
          exact ⟨by rw [HRD.out]; rfl, by rw [HRD.out]; exact hone, hbel⟩
      · have d0 : (c != 0) = false := by simp [hc0]
        have d1 : ((t.size : Int) != y.len) = true := by simpa using hl
        have HNO : Hid (¬ (chkD d (1, y.pos) 0 = 0 ∧ ((tellD d (1, y.pos)).size : Int) = y.len ∧ sha (tellD d (1, y.pos)) = y.sum)) := fun h => hl (by rw [HTT.out]; exact h.2.1)
        clear hc0 hl
        go_wp2_with fail
        refine wp_region_tree (fun W => W.cell? ⟨nf, 2, none⟩ = some (.int .i64 y.len) ∧ W.cell? ⟨nf, 1, none⟩ = some (.string y.sum)) 14 (.quiet 0 (.quiet 1 (.quiet 2 (.quiet 3 (.quiet 4 (.quiet 5 (.quiet 6 (.quiet 7 (.quiet 8 (.quiet 9 (.quiet 10 (.quiet 12 (.quiet 13 (.make 11 .nil)))))))))))))) (by kernel_rfl) (by kernel_rfl) ⟨k1, k2⟩ ?_
        simp only [List.drop_succ_cons, List.drop_zero]
        iterate 13 (apply wpTr_step rfl; (intro W hS K hK; obtain ⟨r1, r2⟩ := hS; go_simp; exact hK _ rfl))
        refine wpTr_make rfl (fun K' hK => ?_)
        go_simp
        refine hK _ _ _ (fun _ h => h) ⟨k1, k2⟩ ?_
        clear hK K'
        refine wpTr_nil ?_
        have HS5 := Lib.hid (HS4.out.keep (Below.refl _ w4).drew)
        have HW5 := Lib.hid (HW4.out.drew)
        have BY5 : Hid (Box w4.drew nf 170 (cgA y)) := BY4.out
        clear HS4 HW4 BY4 HO4
        have BY4 := BY5
        clear BY5
        generalize w4.drew = w5 at *
        have HRD := Lib.hid (findX_no (d := d) HE.out HNO.out)
        have n3' := BY4.out.cell 3 _ rfl
        have k3' : w5.cell? ⟨s, 3, none⟩ = some (.map (some m)) := HS5.out.box.cell 3 _ rfl
        obtain ⟨D, hown, hDI⟩ := (HS5.out.map.keep (Below.refl _ w5).drew)
        have HDI := Lib.hid hDI
        have HW5D := Lib.hid ((HW5.out).drew)
        clear hDI n2 k1 k2
        go_wp2_with fail
        refine wp_region_tree (fun W => W.cell? ⟨s, 3, none⟩ = some (.map (some m)) ∧ W.cell? ⟨nf, 3, none⟩ = some (.int .i64 y.pos)) 6 (.quiet 0 (.quiet 1 (.quiet 2 (.quiet 3 (.quiet 4 (.quiet 5 .nil)))))) (by kernel_rfl) (by kernel_rfl) ⟨k3', n3'⟩ ?_
        simp only [List.drop_succ_cons, List.drop_zero]
        iterate 6 (apply wpTr_step rfl; (intro W hS K hK; obtain ⟨r1, r2⟩ := hS; go_simp; exact hK _ rfl))
        refine wpTr_nil ?_
        go_wp2_with (first
          | (at_delete; refine wpList_delete_own _ rfl _ _ 156 3 rfl 170 keyedY Tryz.underlying156 _ m x.e.length D rfl hown _ _ rfl (keyOfY HWF.out) ?_; intro w6 hown6 hturn6)
          | go_in)
        have HO6 := Lib.hid hown6
        have HC6 : Hid (Chg [m] w5.drew w6) := Chg.only hturn6.grown
        have HT6 : Hid (Maps.Tidy D) := hown.tidy keyedY
        clear hown hown6 hturn6 k3' n3'
        go_wp2
        go_ret2
        have hmap : EnAt w6 m (forgetS x.e y.pos) := by
          refine ⟨_, ?_, HDI.out.del HT6.out y.pos⟩
          have := sowns_tight HO6.out
          rw [(HDI.out.del HT6.out y.pos).size] at this
          exact this
        have hbox := HS5.out.box.of ((HC6.out.block s HS5.out.box.lt (by simpa using HS5.out.ne)))
        obtain ⟨hone, hbel⟩ := HTO.out w6 { x with e := forgetS x.e y.pos } ((Chg.of HW5D.out (Nat.le_refl _)).trans (HC6.out.mono (by simp))) ⟨hbox, hmap, HS5.out.ne⟩
        exact ⟨by rw [HRD.out]; rfl, by rw [HRD.out]; exact hone, hbel⟩
    · have d0 : (c != 0) = true := by simpa using hc0
      have HNO : Hid (¬ (chkD d (1, y.pos) 0 = 0 ∧ ((tellD d (1, y.pos)).size : Int) = y.len ∧ sha (tellD d (1, y.pos)) = y.sum)) := fun h => hc0 (by rw [HCC.out]; exact h.1)
      clear hc0
      go_wp2_with fail
      refine wp_region_tree (fun W => W.cell? ⟨nf, 2, none⟩ = some (.int .i64 y.len) ∧ W.cell? ⟨nf, 1, none⟩ = some (.string y.sum)) 14 (.quiet 0 (.quiet 1 (.quiet 2 (.quiet 3 (.quiet 4 (.quiet 5 (.quiet 6 (.quiet 7 (.quiet 8 (.quiet 9 (.quiet 10 (.quiet 12 (.quiet 13 (.make 11 .nil)))))))))))))) (by kernel_rfl) (by kernel_rfl) ⟨k1, k2⟩ ?_
      simp only [List.drop_succ_cons, List.drop_zero]
      iterate 13 (apply wpTr_step rfl; (intro W hS K hK; obtain ⟨r1, r2⟩ := hS; go_simp; exact hK _ rfl))
      refine wpTr_make rfl (fun K' hK => ?_)
      go_simp
      refine hK _ _ _ (fun _ h => h) ⟨k1, k2⟩ ?_
      clear hK K'
      refine wpTr_nil ?_
      have HS5 := Lib.hid (HS4.out.keep (Below.refl _ w4).drew)
      have HW5 := Lib.hid (HW4.out.drew)
      have BY5 : Hid (Box w4.drew nf 170 (cgA y)) := BY4.out
      clear HS4 HW4 BY4 HO4
      have BY4 := BY5
      clear BY5
      generalize w4.drew = w5 at *
      have HRD := Lib.hid (findX_no (d := d) HE.out HNO.out)
      have n3' := BY4.out.cell 3 _ rfl
      have k3' : w5.cell? ⟨s, 3, none⟩ = some (.map (some m)) := HS5.out.box.cell 3 _ rfl
      obtain ⟨D, hown, hDI⟩ := (HS5.out.map.keep (Below.refl _ w5).drew)
      have HDI := Lib.hid hDI
      have HW5D := Lib.hid ((HW5.out).drew)
      clear hDI n2 k1 k2
      go_wp2_with fail
      refine wp_region_tree (fun W => W.cell? ⟨s, 3, none⟩ = some (.map (some m)) ∧ W.cell? ⟨nf, 3, none⟩ = some (.int .i64 y.pos)) 6 (.quiet 0 (.quiet 1 (.quiet 2 (.quiet 3 (.quiet 4 (.quiet 5 .nil)))))) (by kernel_rfl) (by kernel_rfl) ⟨k3', n3'⟩ ?_
      simp only [List.drop_succ_cons, List.drop_zero]
      iterate 6 (apply wpTr_step rfl; (intro W hS K hK; obtain ⟨r1, r2⟩ := hS; go_simp; exact hK _ rfl))
      refine wpTr_nil ?_
      go_wp2_with (first
        | (at_delete; refine wpList_delete_own _ rfl _ _ 156 3 rfl 170 keyedY Tryz.underlying156 _ m x.e.length D rfl hown _ _ rfl (keyOfY HWF.out) ?_; intro w6 hown6 hturn6)
        | go_in)
      have HO6 := Lib.hid hown6
      have HC6 : Hid (Chg [m] w5.drew w6) := Chg.only hturn6.grown
      have HT6 : Hid (Maps.Tidy D) := hown.tidy keyedY
      clear hown hown6 hturn6 k3' n3'
      go_wp2
      go_ret2
      have hmap : EnAt w6 m (forgetS x.e y.pos) := by
        refine ⟨_, ?_, HDI.out.del HT6.out y.pos⟩
        have := sowns_tight HO6.out
        rw [(HDI.out.del HT6.out y.pos).size] at this
        exact this
      have hbox := HS5.out.box.of ((HC6.out.block s HS5.out.box.lt (by simpa using HS5.out.ne)))
      obtain ⟨hone, hbel⟩ := HTO.out w6 { x with e := forgetS x.e y.pos } ((Chg.of HW5D.out (Nat.le_refl _)).trans (HC6.out.mono (by simp))) ⟨hbox, hmap, HS5.out.ne⟩
      exact ⟨by rw [HRD.out]; rfl, by rw [HRD.out]; exact hone, hbel⟩
end
end Go.Proofs.YtphhnhldbajaoaaGreatDoor
