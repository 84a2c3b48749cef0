/-
  Texts put together: MoQ, MoR.
-/
import Derived.Test.YteimpebfenpifaaGreatDoorMg22
namespace Go.Proofs.YteimpebfenpifaaGreatDoor
open Go Go.RowKit Go.ChangeShapes Go.WideShapes Go.ChangeAt

section
variable {x : TrD} {G : GD} {k : Nat} {w : World} (h : TrAt w x) (hr : Rel x.M G k) (hk : k ≤ 1000000)
include h hr hk
set_option maxRecDepth 100000 in
set_option maxHeartbeats 4000000 in
theorem rename_any (o : OpD) (ho : o.do_ = 5) (hp : o.path.size ≤ 100000) (hp2 : o.dst.size ≤ 100000) : Calls Tryz.prog 49 #[.pointer (some ⟨x.b, 0, none⟩), opV o] w (OpRes x k w (doG G o)) := by
  obtain ⟨R, hR⟩ : ∃ R, R = doG G o := ⟨_, rfl⟩
  rw [← hR]
  have HR : Hid (R = if o.path = rootB then (noA 1, G) else if (leadG G o.path).2 ≠ 0 then (noA (leadG G o.path).2, G) else if witD o.path o.dst = true then (noA 1, G) else if freeG G o.dst ≠ 0 then (noA (freeG G o.dst), G) else (noA 0, moveG G o.path o.dst)) := by
    show R = _
    rw [hR]
    unfold doG
    simp only [ho]
    rfl
  have HT0 := Lib.hid h
  have HX := Lib.hid hr
  have HK := Lib.hid hk
  have HP := Lib.hid hp
  have HP2 := Lib.hid hp2
  clear hp2
  have HBL : Hid (∀ j ∈ x.blocks, j < w.heap.size) := h.lt
  have HF1 : Hid (Fr w w.heap.size (w.heap.size + 1) o ((w.alloc (.cells #[.int .i64 o.do_, .string o.path, .string o.dst, .int .i64 o.off, .int .i64 o.len, .string o.data] 36 (0, 0))).alloc (.cells #[.int .i64 0, .int .i64 0, .string ⟨#[]⟩, .slice none 0 0] 33 (0, 0)))) := Fr.new w o
  have HT1 := Lib.hid (h.keep HF1.out.toW)
  have c1 : ((w.alloc (.cells #[.int .i64 o.do_, .string o.path, .string o.dst, .int .i64 o.off, .int .i64 o.len, .string o.data] 36 (0, 0))).alloc (.cells #[.int .i64 0, .int .i64 0, .string ⟨#[]⟩, .slice none 0 0] 33 (0, 0))).cell? ⟨w.heap.size, 1, none⟩ = some (.string o.path) := HF1.out.bo.cell 1 _ rfl
  have c2 : ((w.alloc (.cells #[.int .i64 o.do_, .string o.path, .string o.dst, .int .i64 o.off, .int .i64 o.len, .string o.data] 36 (0, 0))).alloc (.cells #[.int .i64 0, .int .i64 0, .string ⟨#[]⟩, .slice none 0 0] 33 (0, 0))).cell? ⟨w.heap.size, 2, none⟩ = some (.string o.dst) := HF1.out.bo.cell 2 _ rfl
  obtain ⟨g, hg⟩ : ∃ g, g = w.heap.size := ⟨_, rfl⟩
  obtain ⟨a, ha⟩ : ∃ a, a = w.heap.size + 1 := ⟨_, rfl⟩
  rw [← ha, ← hg] at HF1
  have HGW := Lib.hid hg
  clear h hr hk hp ho hR
  by_cases h0 : o.path = rootB
  · have hqr : (o.path.toList == [47]) = true := by rw [h0]; decide +kernel
    have HQ : Hid (R = (noA 1, G)) := by show R = _; rw [HR.out, if_pos h0]
    clear h0 HR
    unfold opV
    go_enter Tryz.func49, Tryz.ntmps49
    go_wp2_with fail
    rw [← ha, ← hg]
    clear ha hg c1 c2
    generalize World.alloc (World.alloc w _) _ = w1 at *
    refine (refused_any 1 _).mono ?_
    rintro e1 w2 ⟨rfl, hb⟩
    have HF2 := Lib.hid (HF1.out.keep hb)
    have HT2 := Lib.hid (HT1.out.keep hb)
    clear hb
    obtain ⟨⟨s1, s2⟩, s3, s4, s5⟩ := HF2.out.ba.st4
    unfold ansV nilS
    go_wp2
    refine bodyPost_ret (results_cell_row rfl _ _ a 33 _ (0, 0) _ rfl (HF2.out.ba.pt4 _ _ _ _) Tryz.underlying33 rfl sizeAns) rfl ?_
    exact OpRes.refuse HT0.out HX.out HQ.out HF2.out _ _ _ _
  have hqr : (o.path.toList == [47]) = false := by
    rw [beq_eq_false_iff_ne, ByteArray.toList_eq]
    intro q
    exact h0 (pb_ext (by rw [show pb o.path = [47] from q]; rfl))
  have HR1 := Lib.hid (HR.out.trans (if_neg h0))
  have HN0 := Lib.hid h0
  clear h0 HR
  have HFA := Lib.hid (fun W (q : TrAt W x) => lead_any q HX.out HK.out o.path HP.out)
  unfold opV
  go_enter Tryz.func49, Tryz.ntmps49
  go_wp2_with fail
  rw [← ha, ← hg]
  clear ha hg c1 c2
  generalize World.alloc (World.alloc w _) _ = w1 at *
  refine (HFA.out _ HT1.out).mono ?_
  rintro e1 w2 ⟨rfl, hb⟩
  have HF2 := Lib.hid (HF1.out.keep hb)
  have HT2 := Lib.hid (HT1.out.keep hb)
  clear hb HF1 HT1 HFA
  rcases lead_cases HX.out o.path with ⟨n, e, hfe, hne, hK⟩ | ⟨n, t, hfe, hsp, hat, hft, hz0, hz1, hdn⟩
  · rw [hfe]
    have HQ : Hid (R = (noA e, G)) := by
      show R = _
      rw [HR1.out, hK, if_pos hne]
    have hz : (e != 0) = true := by simpa using hne
    clear hfe hne hK HR1
    go_wp2_with fail
    refine (refused_any e _).mono ?_
    rintro e1 w3 ⟨rfl, hb⟩
    have HF3 := Lib.hid (HF2.out.keep hb)
    have HT3 := Lib.hid (HT2.out.keep hb)
    clear hb
    obtain ⟨⟨s1, s2⟩, s3, s4, s5⟩ := HF3.out.ba.st4
    unfold ansV nilS
    go_wp2
    refine bodyPost_ret (results_cell_row rfl _ _ a 33 _ (0, 0) _ rfl (HF3.out.ba.pt4 _ _ _ _) Tryz.underlying33 rfl sizeAns) rfl ?_
    exact OpRes.refuse HT0.out HX.out HQ.out HF3.out _ _ _ _
  · rw [hfe]
    have HQ : Hid (R = if witD o.path o.dst = true then (noA 1, G) else if freeG G o.dst ≠ 0 then (noA (freeG G o.dst), G) else (noA 0, moveG G o.path o.dst)) := by
      show R = _
      rw [HR1.out, if_neg (fun e => e hz0)]
    have HAT := Lib.hid hat
    have HSP := Lib.hid hsp
    have HWI := Lib.hid (within_any o.path o.dst HP.out HP2.out w2)
    clear hfe hz0 hz1 hdn hsp hat hft HR1
    have c1 : w2.cell? ⟨g, 1, none⟩ = some (.string o.path) := HF2.out.bo.cell 1 _ rfl
    have c2 : w2.cell? ⟨g, 2, none⟩ = some (.string o.dst) := HF2.out.bo.cell 2 _ rfl
    obtain ⟨wi, hwi⟩ : ∃ wi, wi = witD o.path o.dst := ⟨_, rfl⟩
    rw [← hwi] at HWI
    have HWD := Lib.hid hwi
    clear hwi
    go_wp2_with fail
    refine HWI.out.mono ?_
    rintro e1 w3 ⟨rfl, hb⟩
    have HF3 := Lib.hid (HF2.out.keep hb)
    have HT3 := Lib.hid (HT2.out.keep hb)
    clear hb HF2 HT2 c1 c2 HWI
    cases wi with
    | true =>
      have HQ2 : Hid (R = (noA 1, G)) := by show R = _; rw [HQ.out, if_pos HWD.out.symm]
      go_wp2_with fail
      refine (refused_any 1 _).mono ?_
      rintro e1 w4 ⟨rfl, hb⟩
      have HF4 := Lib.hid (HF3.out.keep hb)
      have HT4 := Lib.hid (HT3.out.keep hb)
      clear hb
      obtain ⟨⟨s1, s2⟩, s3, s4, s5⟩ := HF4.out.ba.st4
      unfold ansV nilS
      go_wp2
      refine bodyPost_ret (results_cell_row rfl _ _ a 33 _ (0, 0) _ rfl (HF4.out.ba.pt4 _ _ _ _) Tryz.underlying33 rfl sizeAns) rfl ?_
      exact OpRes.refuse HT0.out HX.out HQ2.out HF4.out _ _ _ _
    | false =>
      have HQ1 : Hid (R = if freeG G o.dst ≠ 0 then (noA (freeG G o.dst), G) else (noA 0, moveG G o.path o.dst)) := by
        show R = _
        rw [HQ.out, if_neg (by rw [← HWD.out]; simp)]
      have HFR := Lib.hid (free_rel HX.out o.dst)
      have HFA := Lib.hid (free_any HT3.out HX.out HK.out o.dst HP2.out)
      have c2 : w3.cell? ⟨g, 2, none⟩ = some (.string o.dst) := HF3.out.bo.cell 2 _ rfl
      go_wp2_with fail
      refine HFA.out.mono ?_
      rintro e1 w4 ⟨hb, hcase⟩
      have HF4 := Lib.hid (HF3.out.keep hb)
      have HT4 := Lib.hid (HT3.out.keep hb)
      clear hb HF3 HT3 HFA c2
      obtain ⟨s, hs⟩ : ∃ s, s = w4.heap.size := ⟨_, rfl⟩
      rcases hcase with ⟨hne, rfl⟩ | ⟨hz, r, me, hrr, hme, rfl⟩
      · have h1 : freeG G o.dst ≠ 0 := by
          intro e
          obtain ⟨_, _, _, _, _, _, _, _, _, q⟩ := HFR.out.2 e
          rw [q] at hne; exact hne rfl
        rw [HFR.out.1 h1]
        have HQ2 : Hid (R = (noA (freeG G o.dst), G)) := by
          show R = _
          rw [HQ1.out, if_pos h1]
        have hz2 : (freeG G o.dst != 0) = true := by simpa using h1
        have hal := (Below.refl w4.heap.size w4).alloc (Nat.le_refl _) (.cells #[.map none, .string noB] 106 (0, 0))
        have HF5 := Lib.hid (HF4.out.keep hal)
        have HT5 := Lib.hid (HT4.out.keep hal)
        generalize freeG G o.dst = ee at *
        clear hal hne h1 HQ HQ1 HFR HF4 HT4
        unfold spotV
        go_wp2_with fail
        generalize World.alloc w4 _ = w5 at *
        refine (refused_any ee _).mono ?_
        rintro e1 w6 ⟨rfl, hb⟩
        have HF6 := Lib.hid (HF5.out.keep hb)
        have HT6 := Lib.hid (HT5.out.keep hb)
        clear hb
        obtain ⟨⟨s1, s2⟩, s3, s4, s5⟩ := HF6.out.ba.st4
        unfold ansV nilS
        go_wp2
        refine bodyPost_ret (results_cell_row rfl _ _ a 33 _ (0, 0) _ rfl (HF6.out.ba.pt4 _ _ _ _) Tryz.underlying33 rfl sizeAns) rfl ?_
        exact OpRes.refuse HT0.out HX.out HQ2.out HF6.out _ _ _ _
      · have hfg : freeG G o.dst = 0 := by
          apply Classical.byContradiction
          intro e
          have := HFR.out.1 e
          rw [this] at hz
          exact e hz
        obtain ⟨lb, cb, nb, q1, q2, q3, q4, q5, q6, q7⟩ := HFR.out.2 hfg
        rw [q7] at hrr
        rw [q7]
        dsimp only at hrr
        have hsq : splitD o.dst = (lb ++ [cb], 0) := Prod.ext q2 q1
        have HFE : Hid (R = (noA 0, moveG G o.path o.dst)) := by
          show R = _
          rw [HQ1.out, if_neg (fun e => e hfg)]
        have hn0 : (splitD o.path).1 ≠ [] := fun e => HN0.out (root_of HSP.out e)
        obtain ⟨la, ca, hsa, hca⟩ := snoc_of HSP.out hn0
        have hat := HAT.out
        rw [hsa] at hat
        obtain ⟨na, ta, hla, hta, htad, hdga⟩ := HX.out.parent hat
        obtain ⟨ra, hra, hrt2⟩ := TrD.row hta
        obtain ⟨ma, hma, _⟩ := (HT4.out.at_ hra).dirBox (by rw [hrt2]; exact htad)
        have hnot : ¬ (la ++ [ca]) <+: (lb ++ [cb]) := by
          intro e
          have h1 := HWD.out
          unfold witD at h1
          rw [hsa, hsq] at h1
          simp [e] at h1
        have hmv : Moves G la lb ca cb na nb n := ⟨HX.out.wf, hla, hdga, hat, q3, q4, q5, q6, hnot⟩
        obtain ⟨rb, hrb, hem⟩ : ∃ rb, findL (setR x (na : Int) { ra.t with ents := dropL ra.t.ents ca }).rows (nb : Int) = some rb ∧ rb.em = some me := by
          rw [setR_row, hrr]
          refine ⟨_, rfl, ?_⟩
          split <;> exact hme
        have hrl := rel_mv HX.out hsa hsq hmv hra hrb HT0.out.nodup
        have HRL := Lib.hid hrl
        have HRA := Lib.hid hra
        have HMA := Lib.hid hma
        have HRB := Lib.hid hrb
        have HEB := Lib.hid hem
        have HCA := Lib.hid (name_len hca)
        have HCB := Lib.hid (name_len q6)
        have HEL : Hid (rb.t.ents.length ≤ 2000000) := by
          have h1 := (HX.out.nds nb r.t (find_of_row hrr)).2
          have h2 := HK.out
          rw [setR_row, hrr] at hrb
          have h3 := Option.some.inj hrb
          show _ ≤ _
          rw [← h3]
          dsimp only
          by_cases e : (nb : Int) = (na : Int)
          · rw [if_pos e]
            have hra2 := hra
            rw [← e, hrr] at hra2
            rw [← Option.some.inj hra2]
            have := dropL_le r.t.ents ca
            show (dropL r.t.ents ca).length ≤ _
            omega
          · rw [if_neg e]
            omega
        have hal := (Below.refl w4.heap.size w4).alloc (Nat.le_refl _) (.cells #[.map (some me), .string cb] 106 (0, 0))
        have HF5 := Lib.hid (HF4.out.keep hal)
        have HT5 := Lib.hid (HT4.out.keep hal)
        have hbs := Box.new w4 106 #[.map (some me), .string cb]
        have HPS := Lib.hid hbs
        have HSA := Lib.hid (spot_any HT5.out HX.out HK.out o.path HP.out hsa hla hra hma)
        have e1 : (w4.alloc (.cells #[.map (some me), .string cb] 106 (0, 0))).cell? ⟨g, 1, none⟩ = some (.string o.path) := HF5.out.bo.cell 1 _ rfl
        have HSW : Hid (s = w4.heap.size ∧ s < (w4.alloc (.cells #[.map (some me), .string cb] 106 (0, 0))).heap.size ∧ a < s) := ⟨hs, by rw [size_alloc]; omega, by rw [hs]; exact HF4.out.ba.lt⟩
        rw [← hs] at HPS
        clear hz hrr hme hfg q1 q2 q3 q4 q5 q6 q7 hsq hn0 hsa hca hat hla hta htad hdga hra hrt2 hma hnot hmv hrb hem hrl HQ HQ1 HFR hal hbs HF4 HT4
        unfold spotV at HSA
        unfold spotV
        go_wp2_with fail
        rw [← hs]
        clear hs e1
        generalize World.alloc w4 _ = w5 at *
        refine HSA.out.mono ?_
        rintro e1 w6 ⟨rfl, hb⟩
        have HF6 := Lib.hid (HF5.out.keep hb)
        have HT6 := Lib.hid (HT5.out.keep hb)
        have HPS6 := Lib.hid (HPS.out.keep hb HSW.out.2.1)
        clear hb HF5 HT5 HSA HPS
        have hmaa : MapAt EnS w6 ma ra.t.ents := by
          have h1 := (HT6.out.at_ HRA.out).2.1
          rw [HMA.out] at h1
          exact h1
        have HEM := Lib.hid (empty_any w6 hmaa ca HCA.out)
        unfold spotV at HEM
        clear hmaa
        go_wp2_with fail
        refine HEM.out.mono ?_
        rintro e1 w7 ⟨rfl, hm7, hc7⟩
        have HT7 := Lib.hid (HT6.out.setEnts HRA.out HMA.out hc7 hm7)
        have hmax : ma ∈ x.blocks := row_mem HRA.out ma (by unfold RowD.blk; rw [HMA.out]; simp)
        have hmag : ma < g := by rw [HGW.out]; exact HBL.out ma hmax
        have hb7 := HF6.out.chg hc7 (fun j hj => by rw [List.mem_singleton.1 hj]; exact hmag)
        have HB7 := Lib.hid hb7.2
        have HC7 : Hid (Chg x.blocks w6 w7) := hc7.mono (fun i hi => by rw [List.mem_singleton.1 hi]; exact hmax)
        have HPS7 := Lib.hid (HPS6.out.of (hc7.block s HPS6.out.lt (by have := HSW.out.2.2; have := HF6.out.ga; simp; omega)))
        clear hm7 hc7 hmax hmag hb7 HEM HT6 HPS6
        have p0 : w7.cell? ⟨s, 0, none⟩ = some (.map (some me)) := HPS7.out.cell 0 _ rfl
        have p1 : w7.cell? ⟨s, 1, none⟩ = some (.string cb) := HPS7.out.cell 1 _ rfl
        have hmab : MapAt EnS w7 me rb.t.ents := by
          have h1 := (HT7.out.at_ HRB.out).2.1
          rw [HEB.out] at h1
          exact h1
        have HFL := Lib.hid (fill_any w7 hmab HEL.out cb HCB.out n)
        unfold spotV at HFL
        clear hmab
        go_wp2_with fail
        refine HFL.out.mono ?_
        rintro e1 w8 ⟨rfl, hm8, hc8⟩
        have HT8 := Lib.hid (HT7.out.setEnts HRB.out HEB.out hc8 hm8)
        have hmex : me ∈ x.blocks := by
          have h1 := row_mem HRB.out me (by unfold RowD.blk; rw [HEB.out]; simp)
          rw [setR_blk] at h1
          exact h1
        have hmeg : me < g := by rw [HGW.out]; exact HBL.out me hmex
        have HB8 := Lib.hid (HB7.out.of (hc8.block a HB7.out.lt (by have := HF6.out.ga; simp; omega)))
        have HC8 : Hid (Chg x.blocks w6 w8) := HC7.out.trans (hc8.mono (fun i hi => by rw [List.mem_singleton.1 hi]; exact hmex))
        clear hm8 hc8 hmex hmeg HFL HT7 p0 p1
        obtain ⟨⟨s1, s2⟩, s3, s4, s5⟩ := HB8.out.st4
        go_wp2
        refine bodyPost_ret (results_cell_row rfl _ _ a 33 _ (0, 0) _ rfl (HB8.out.pt4 _ _ _ _) Tryz.underlying33 rfl sizeAns) rfl ?_
        have hdone : Done x R.2 (k + 1) [] w6 w8 := by
          refine ⟨setR (setR x (na : Int) { ra.t with ents := dropL ra.t.ents ca }) (nb : Int) { rb.t with ents := putL rb.t.ents cb n }, rfl, HT8.out, ?_, HC8.out, fun j hj => ?_⟩
          · rw [HFE.out]
            exact HRL.out
          · rw [setR_blk, setR_blk] at hj
            exact .inl hj
        exact OpRes.put HF6.out hdone HBL.out (fun j hj => by cases hj) (by rw [HFE.out]; rfl) _ _ _ _
end
end Go.Proofs.YteimpebfenpifaaGreatDoor

namespace Go.Proofs.YteimpebfenpifaaGreatDoor
open Go Go.RowKit Go.ChangeShapes Go.WideShapes Go.ChangeAt

theorem cutB_pb (s : ByteArray) (f m : Nat) : pb (cutB s f m) = ((pb s).drop f).take m := pb_mk _
theorem cut_q (s : ByteArray) (f m : Nat) : (s.extract (min (f : Int) (s.size : Int)).toNat s.size).extract 0 (min (m : Int) ((s.size - (min (f : Int) (s.size : Int)).toNat : Nat) : Int)).toNat = cutB s f m := by
  have h1 : (min (f : Int) (s.size : Int)).toNat = min f s.size := by omega
  rw [h1]
  have h2 : (min (m : Int) ((s.size - min f s.size : Nat) : Int)).toNat = min m (s.size - min f s.size) := by omega
  rw [h2]
  refine pb_ext ?_
  rw [pb_cut, pb_cut]
  rw [cutB_pb, List.drop_zero, Nat.sub_zero]
  have e : (pb s).length = s.size := pb_size s
  rw [List.take_of_length_le (l := List.drop (min f s.size) (pb s)) (by rw [List.length_drop, e]; exact Nat.le_refl _)]
  by_cases h : f ≤ s.size
  · rw [Nat.min_eq_left h]
    by_cases h3 : m ≤ s.size - f
    · rw [Nat.min_eq_left h3]
    · rw [Nat.min_eq_right (by omega), List.take_of_length_le (by rw [List.length_drop, e]; omega), List.take_of_length_le (by rw [List.length_drop, e]; omega)]
  · rw [Nat.min_eq_right (by omega), List.drop_of_length_le (by omega), List.drop_of_length_le (by omega), List.take_nil, List.take_nil]
theorem cut_n (s : ByteArray) (f m : Nat) : min (min (m : Int) ((s.size - (min (f : Int) (s.size : Int)).toNat : Nat) : Int)).toNat (s.size - (min (f : Int) (s.size : Int)).toNat) = (cutB s f m).size := by
  rw [← cut_q, ByteArray.size_extract, ByteArray.size_extract]
  omega

section
variable {x : TrD} {G : GD} {k : Nat} {w : World} (h : TrAt w x) (hr : Rel x.M G k) (hk : k ≤ 1000000)
include h hr hk
set_option maxRecDepth 100000 in
set_option maxHeartbeats 4000000 in
theorem read_any (o : OpD) (ho : o.do_ = 6) (hp : o.path.size ≤ 100000) : Calls Tryz.prog 50 #[.pointer (some ⟨x.b, 0, none⟩), opV o] w (OpRes x k w (doG G o)) := by
  obtain ⟨R, hR⟩ : ∃ R, R = doG G o := ⟨_, rfl⟩
  rw [← hR]
  have HR : Hid (R = fileG G o.path fun n => if o.off < 0 ∨ o.len < 0 then (noA 1, G) else (⟨0, ((cutB (textG G n) o.off.toNat o.len.toNat).size : Nat), cutB (textG G n) o.off.toNat o.len.toNat, []⟩, G)) := by
    show R = _
    rw [hR]
    unfold doG
    simp only [ho]
    rfl
  have HT0 := Lib.hid h
  have HX := Lib.hid hr
  have HK := Lib.hid hk
  have HP := Lib.hid hp
  have HBL : Hid (∀ j ∈ x.blocks, j < w.heap.size) := h.lt
  have HF1 : Hid (Fr w w.heap.size (w.heap.size + 1) o ((w.alloc (.cells #[.int .i64 o.do_, .string o.path, .string o.dst, .int .i64 o.off, .int .i64 o.len, .string o.data] 36 (0, 0))).alloc (.cells #[.int .i64 0, .int .i64 0, .string ⟨#[]⟩, .slice none 0 0] 33 (0, 0)))) := Fr.new w o
  have HT1 := Lib.hid (h.keep HF1.out.toW)
  have c1 : ((w.alloc (.cells #[.int .i64 o.do_, .string o.path, .string o.dst, .int .i64 o.off, .int .i64 o.len, .string o.data] 36 (0, 0))).alloc (.cells #[.int .i64 0, .int .i64 0, .string ⟨#[]⟩, .slice none 0 0] 33 (0, 0))).cell? ⟨w.heap.size, 1, none⟩ = some (.string o.path) := HF1.out.bo.cell 1 _ rfl
  obtain ⟨g, hg⟩ : ∃ g, g = w.heap.size := ⟨_, rfl⟩
  obtain ⟨a, ha⟩ : ∃ a, a = w.heap.size + 1 := ⟨_, rfl⟩
  rw [← ha, ← hg] at HF1
  have HGW := Lib.hid hg
  clear h hr hk hp ho hR
  have HFA := Lib.hid (fun W (q : TrAt W x) => file_any q HX.out HK.out o.path HP.out)
  unfold opV
  go_enter Tryz.func50, Tryz.ntmps50
  go_wp2_with fail
  rw [← ha, ← hg]
  clear ha hg c1
  generalize World.alloc (World.alloc w _) _ = w1 at *
  refine (HFA.out _ HT1.out).mono ?_
  rintro e1 w2 ⟨rfl, hb⟩
  have HF2 := Lib.hid (HF1.out.keep hb)
  have HT2 := Lib.hid (HT1.out.keep hb)
  clear hb HF1 HT1 HFA
  rcases file_cases HX.out o.path with ⟨n, e, hfe, hne, hK⟩ | ⟨n, t, hfe, hsp, hat, hft, hfd, hK⟩
  · rw [hfe]
    have HQ : Hid (R = (noA e, G)) := HR.out.trans (hK _)
    have hz : (e != 0) = true := by simpa using hne
    clear hfe hne hK HR
    go_wp2_with fail
    refine (refused_any e _).mono ?_
    rintro e1 w3 ⟨rfl, hb⟩
    have HF3 := Lib.hid (HF2.out.keep hb)
    have HT3 := Lib.hid (HT2.out.keep hb)
    clear hb
    obtain ⟨⟨s1, s2⟩, s3, s4, s5⟩ := HF3.out.ba.st4
    unfold ansV nilS
    go_wp2
    refine bodyPost_ret (results_cell_row rfl _ _ a 33 _ (0, 0) _ rfl (HF3.out.ba.pt4 _ _ _ _) Tryz.underlying33 rfl sizeAns) rfl ?_
    exact OpRes.refuse HT0.out HX.out HQ.out HF3.out _ _ _ _
  · rw [hfe]
    have HQ := Lib.hid (HR.out.trans (hK _))
    obtain ⟨rn, hrn, hrt⟩ := TrD.row hft
    have HRN := Lib.hid hrn
    have hnb := HX.out.numB hft
    have hkk := HK.out
    have HNB : Hid (0 ≤ (n : Int) ∧ (n : Int) ≤ 4611686018427387904) := ⟨hnb.1, by omega⟩
    have htx : textG G n = rn.t.text := by
      unfold textG
      rw [HX.out.th n t hft, hrt]
    have htz := HX.out.wf.small n
    rw [htx] at htz
    have t0 : w2.cell? ⟨x.b, 0, none⟩ = some (.map (some x.m)) := HT2.out.box.cell 0 _ rfl
    have d2 : w2.cell? ⟨rn.p, 2, none⟩ = some (.string rn.t.text) := (HT2.out.at_ hrn).1.cell 2 _ rfl
    have lk1 := HT2.out.look hrn hnb.1 (by omega)
    rw [htx] at HQ
    generalize rn.t.text = T at *
    clear hfe hrn hrt hnb hkk hat hft hfd hsp hK HR
    have c3 : w2.cell? ⟨g, 3, none⟩ = some (.int .i64 o.off) := HF2.out.bo.cell 3 _ rfl
    have c4 : w2.cell? ⟨g, 4, none⟩ = some (.int .i64 o.len) := HF2.out.bo.cell 4 _ rfl
    by_cases hoff : o.off < 0
    · have HQ2 : Hid (R = (noA 1, G)) := by show R = _; rw [HQ.out, if_pos (.inl hoff)]
      clear HQ htx htz
      go_wp2_with fail
      refine (refused_any 1 _).mono ?_
      rintro e1 w3 ⟨rfl, hb⟩
      have HF3 := Lib.hid (HF2.out.keep hb)
      have HT3 := Lib.hid (HT2.out.keep hb)
      clear hb
      obtain ⟨⟨s1, s2⟩, s3, s4, s5⟩ := HF3.out.ba.st4
      unfold ansV nilS
      go_wp2
      refine bodyPost_ret (results_cell_row rfl _ _ a 33 _ (0, 0) _ rfl (HF3.out.ba.pt4 _ _ _ _) Tryz.underlying33 rfl sizeAns) rfl ?_
      exact OpRes.refuse HT0.out HX.out HQ2.out HF3.out _ _ _ _
    by_cases hlen : o.len < 0
    · have HQ2 : Hid (R = (noA 1, G)) := by show R = _; rw [HQ.out, if_pos (.inr hlen)]
      clear HQ htx htz
      go_wp2_with fail
      refine (refused_any 1 _).mono ?_
      rintro e1 w3 ⟨rfl, hb⟩
      have HF3 := Lib.hid (HF2.out.keep hb)
      have HT3 := Lib.hid (HT2.out.keep hb)
      clear hb
      obtain ⟨⟨s1, s2⟩, s3, s4, s5⟩ := HF3.out.ba.st4
      unfold ansV nilS
      go_wp2
      refine bodyPost_ret (results_cell_row rfl _ _ a 33 _ (0, 0) _ rfl (HF3.out.ba.pt4 _ _ _ _) Tryz.underlying33 rfl sizeAns) rfl ?_
      exact OpRes.refuse HT0.out HX.out HQ2.out HF3.out _ _ _ _
    have HQ1 := Lib.hid (HQ.out.trans (if_neg (fun e => e.elim hoff hlen)))
    obtain ⟨f, hf⟩ : ∃ f : Nat, o.off = (f : Int) := ⟨o.off.toNat, by omega⟩
    obtain ⟨m, hm⟩ : ∃ m : Nat, o.len = (m : Int) := ⟨o.len.toNat, by omega⟩
    rw [hf] at c3
    rw [hm] at c4
    have HQ2 : Hid (R = (⟨0, ((cutB T f m).size : Nat), cutB T f m, []⟩, G)) := by
      show R = _
      rw [HQ1.out, hf, hm, Int.toNat_natCast, Int.toNat_natCast]
    clear HQ HQ1 htx hoff hlen hf hm
    have h00 : ¬ (f : Int) < 0 := by omega
    have h01 : ¬ (m : Int) < 0 := by omega
    have h02 : (0 : Int) ≤ (f : Int) := by omega
    have h03 : (0 : Int) ≤ (m : Int) := by omega
    have hfn : ((f : Int)).toNat = f := Int.toNat_natCast f
    have hmn : ((m : Int)).toNat = m := Int.toNat_natCast m
    have h04 : (0 : Int) ≤ (T.size : Int) := by omega
    obtain ⟨⟨s1, s2⟩, s3, s4, s5⟩ := HF2.out.ba.st4
    clear htz
    go_wp2
    refine bodyPost_ret (results_cell_row rfl _ _ a 33 _ (0, 0) _ rfl (HF2.out.ba.pt4 _ _ _ _) Tryz.underlying33 rfl sizeAns) rfl ?_
    rw [cut_n, cut_q]
    exact OpRes.tell HT0.out HX.out HQ2.out HF2.out _ _ _ _
end
end Go.Proofs.YteimpebfenpifaaGreatDoor
