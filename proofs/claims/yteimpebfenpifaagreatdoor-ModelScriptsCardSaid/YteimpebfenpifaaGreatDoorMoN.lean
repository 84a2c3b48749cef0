/-
  Package model: link.
-/
import Derived.Test.YteimpebfenpifaaGreatDoorMg20
namespace Go.Proofs.YteimpebfenpifaaGreatDoor
open Go Go.RowKit Go.ChangeShapes Go.WideShapes Go.ChangeAt

section
variable {x : TrD} {G : GD} {k : Nat} {w : World} (h : TrAt w x) (hr : Rel x.M G k) (hk : k ≤ 1000000)
include h hr hk
set_option maxRecDepth 100000 in
set_option maxHeartbeats 4000000 in
theorem link_any (o : OpD) (ho : o.do_ = 2) (hp : o.path.size ≤ 100000) (hp2 : o.dst.size ≤ 100000) : Calls Tryz.prog 46 #[.pointer (some ⟨x.b, 0, none⟩), opV o] w (OpRes x k w (doG G o)) := by
  obtain ⟨R, hR⟩ : ∃ R, R = doG G o := ⟨_, rfl⟩
  rw [← hR]
  have HR : Hid (R = fileG G o.path fun n => if freeG G o.dst ≠ 0 then (noA (freeG G o.dst), G) else (noA 0, linkG G n o.dst)) := by
    show R = _
    rw [hR]
    unfold doG
    simp only [ho]
    rfl
  have HT0 := Lib.hid h
  have HX := Lib.hid hr
  have HK := Lib.hid hk
  have HP := Lib.hid hp
  have HP2 := Lib.hid hp2
  clear hp2
  have HBL : Hid (∀ j ∈ x.blocks, j < w.heap.size) := h.lt
  have HF1 : Hid (Fr w w.heap.size (w.heap.size + 1) o ((w.alloc (.cells #[.int .i64 o.do_, .string o.path, .string o.dst, .int .i64 o.off, .int .i64 o.len, .string o.data] 36 (0, 0))).alloc (.cells #[.int .i64 0, .int .i64 0, .string ⟨#[]⟩, .slice none 0 0] 33 (0, 0)))) := Fr.new w o
  have HT1 := Lib.hid (h.keep HF1.out.toW)
  have c1 : ((w.alloc (.cells #[.int .i64 o.do_, .string o.path, .string o.dst, .int .i64 o.off, .int .i64 o.len, .string o.data] 36 (0, 0))).alloc (.cells #[.int .i64 0, .int .i64 0, .string ⟨#[]⟩, .slice none 0 0] 33 (0, 0))).cell? ⟨w.heap.size, 1, none⟩ = some (.string o.path) := HF1.out.bo.cell 1 _ rfl
  have c2 : ((w.alloc (.cells #[.int .i64 o.do_, .string o.path, .string o.dst, .int .i64 o.off, .int .i64 o.len, .string o.data] 36 (0, 0))).alloc (.cells #[.int .i64 0, .int .i64 0, .string ⟨#[]⟩, .slice none 0 0] 33 (0, 0))).cell? ⟨w.heap.size, 2, none⟩ = some (.string o.dst) := HF1.out.bo.cell 2 _ rfl
  obtain ⟨g, hg⟩ : ∃ g, g = w.heap.size := ⟨_, rfl⟩
  obtain ⟨a, ha⟩ : ∃ a, a = w.heap.size + 1 := ⟨_, rfl⟩
  rw [← ha, ← hg] at HF1
  have HGW := Lib.hid hg
  clear h hr hk hp ho hR
  have HFA := Lib.hid (fun W (q : TrAt W x) => file_any q HX.out HK.out o.path HP.out)
  unfold opV
  go_enter Tryz.func46, Tryz.ntmps46
  go_wp2_with fail
  rw [← ha, ← hg]
  clear ha hg c1 c2
  generalize World.alloc (World.alloc w _) _ = w1 at *
  refine (HFA.out _ HT1.out).mono ?_
  rintro e1 w2 ⟨rfl, hb⟩
  have HF2 := Lib.hid (HF1.out.keep hb)
  have HT2 := Lib.hid (HT1.out.keep hb)
  clear hb HF1 HT1 HFA
  rcases file_cases HX.out o.path with ⟨n, e, hfe, hne, hK⟩ | ⟨n, t, hfe, hsp, hat, hft, hfd, hK⟩
  · rw [hfe]
    have HQ : Hid (R = (noA e, G)) := HR.out.trans (hK _)
    have hz : (e != 0) = true := by simpa using hne
    clear hfe hne hK HR
    go_wp2_with fail
    refine (refused_any e _).mono ?_
    rintro e1 w3 ⟨rfl, hb⟩
    have HF3 := Lib.hid (HF2.out.keep hb)
    have HT3 := Lib.hid (HT2.out.keep hb)
    clear hb
    obtain ⟨⟨s1, s2⟩, s3, s4, s5⟩ := HF3.out.ba.st4
    unfold ansV nilS
    go_wp2
    refine bodyPost_ret (results_cell_row rfl _ _ a 33 _ (0, 0) _ rfl (HF3.out.ba.pt4 _ _ _ _) Tryz.underlying33 rfl sizeAns) rfl ?_
    exact OpRes.refuse HT0.out HX.out HQ.out HF3.out _ _ _ _
  · rw [hfe]
    have HQ : Hid (R = if freeG G o.dst ≠ 0 then (noA (freeG G o.dst), G) else (noA 0, linkG G n o.dst)) := HR.out.trans (hK _)
    obtain ⟨rn, hrn, hrt⟩ := TrD.row hft
    have HRN := Lib.hid hrn
    have HFD : Hid (rn.t.dir = false) := by rw [hrt]; exact hfd
    have HAT := Lib.hid hat
    have hli := links_le HX.out hft hfd
    rw [← hrt] at hli
    have HLI := Lib.hid hli
    have hnb := HX.out.numB hft
    have hkk := HK.out
    have HNB : Hid (0 ≤ (n : Int) ∧ (n : Int) ≤ 4611686018427387904) := ⟨hnb.1, by omega⟩
    have HFR := Lib.hid (free_rel HX.out o.dst)
    have HFA := Lib.hid (free_any HT2.out HX.out HK.out o.dst HP2.out)
    clear hfe hK HR hrn hrt hli hnb hkk hat hft hfd hsp
    have c2 : w2.cell? ⟨g, 2, none⟩ = some (.string o.dst) := HF2.out.bo.cell 2 _ rfl
    go_wp2_with fail
    refine HFA.out.mono ?_
    rintro e1 w3 ⟨hb, hcase⟩
    have HF3 := Lib.hid (HF2.out.keep hb)
    have HT3 := Lib.hid (HT2.out.keep hb)
    clear hb HF2 HT2 HFA c2
    obtain ⟨s, hs⟩ : ∃ s, s = w3.heap.size := ⟨_, rfl⟩
    rcases hcase with ⟨hne, rfl⟩ | ⟨hz, r, me, hrr, hme, rfl⟩
    · have h1 : freeG G o.dst ≠ 0 := by
        intro e
        obtain ⟨_, _, _, _, _, _, _, _, _, q⟩ := HFR.out.2 e
        rw [q] at hne; exact hne rfl
      rw [HFR.out.1 h1]
      have HQ2 : Hid (R = (noA (freeG G o.dst), G)) := by
        show R = _
        rw [HQ.out, if_pos h1]
      have hz2 : (freeG G o.dst != 0) = true := by simpa using h1
      have hal := (Below.refl w3.heap.size w3).alloc (Nat.le_refl _) (.cells #[.map none, .string noB] 106 (0, 0))
      have HF4 := Lib.hid (HF3.out.keep hal)
      have HT4 := Lib.hid (HT3.out.keep hal)
      generalize freeG G o.dst = ee at *
      clear hal hne h1 HQ HFR HF3 HT3
      unfold spotV
      go_wp2_with fail
      generalize World.alloc w3 _ = w4 at *
      refine (refused_any ee _).mono ?_
      rintro e1 w5 ⟨rfl, hb⟩
      have HF5 := Lib.hid (HF4.out.keep hb)
      have HT5 := Lib.hid (HT4.out.keep hb)
      clear hb
      obtain ⟨⟨s1, s2⟩, s3, s4, s5⟩ := HF5.out.ba.st4
      unfold ansV nilS
      go_wp2
      refine bodyPost_ret (results_cell_row rfl _ _ a 33 _ (0, 0) _ rfl (HF5.out.ba.pt4 _ _ _ _) Tryz.underlying33 rfl sizeAns) rfl ?_
      exact OpRes.refuse HT0.out HX.out HQ2.out HF5.out _ _ _ _
    · have hfg : freeG G o.dst = 0 := by
        apply Classical.byContradiction
        intro e
        have := HFR.out.1 e
        rw [this] at hz
        exact e hz
      obtain ⟨l, c, d, q1, q2, q3, q4, q5, q6, q7⟩ := HFR.out.2 hfg
      rw [q7] at hrr
      rw [q7]
      dsimp only at hrr
      have hsp : splitD o.dst = (l ++ [c], 0) := Prod.ext q2 q1
      have HFE : Hid (R = (noA 0, linkG G n o.dst)) := by
        show R = _
        rw [HQ.out, if_neg (fun e => e hfg)]
      obtain ⟨hnd, hrl⟩ := rel_link HX.out hsp q3 q4 q5 q6 hrr HRN.out HAT.out HFD.out HT0.out.nodup
      have HND := Lib.hid hnd
      have HRL := Lib.hid hrl
      have HRR := Lib.hid hrr
      have HME := Lib.hid hme
      have HCL := Lib.hid (name_len q6)
      have HEL : Hid (r.t.ents.length ≤ 2000000) := by
        have := (HX.out.nds d r.t (find_of_row hrr)).2
        have := HK.out
        show _ ≤ _
        omega
      clear hz hrr hme hfg q1 q2 q3 q4 q5 q6 q7 hsp hnd hrl HQ HFR
      have hal := (Below.refl w3.heap.size w3).alloc (Nat.le_refl _) (.cells #[.map (some me), .string c] 106 (0, 0))
      have HF4 := Lib.hid (HF3.out.keep hal)
      have HT4 := Lib.hid (HT3.out.keep hal)
      have hbs := Box.new w3 106 #[.map (some me), .string c]
      have p0 : (w3.alloc (.cells #[.map (some me), .string c] 106 (0, 0))).cell? ⟨w3.heap.size, 0, none⟩ = some (.map (some me)) := hbs.cell 0 _ rfl
      have p1 : (w3.alloc (.cells #[.map (some me), .string c] 106 (0, 0))).cell? ⟨w3.heap.size, 1, none⟩ = some (.string c) := hbs.cell 1 _ rfl
      have hma : MapAt EnS (w3.alloc (.cells #[.map (some me), .string c] 106 (0, 0))) me r.t.ents := by
        have h1 := (HT4.out.at_ HRR.out).2.1
        rw [HME.out] at h1
        exact h1
      have HFL := Lib.hid (fill_any _ hma HEL.out c HCL.out n)
      unfold spotV at HFL
      clear hal hbs hma HF3 HT3
      unfold spotV
      go_wp2_with fail
      clear p0 p1 hs
      generalize World.alloc w3 _ = w4 at *
      refine HFL.out.mono ?_
      rintro e1 w5 ⟨rfl, hm5, hc5⟩
      have HT5 := Lib.hid (HT4.out.setEnts HRR.out HME.out hc5 hm5)
      have hmex : me ∈ x.blocks := row_mem HRR.out me (by unfold RowD.blk; rw [HME.out]; simp)
      have hb5 := HF4.out.chg hc5 (fun j hj => by rw [List.mem_singleton.1 hj, HGW.out]; exact HBL.out me hmex)
      have HB5 := Lib.hid hb5
      have HC5 : Hid (Chg x.blocks w4 w5) := hc5.mono (fun i hi => by rw [List.mem_singleton.1 hi]; exact hmex)
      have hne' : (n : Int) ≠ (d : Int) := by have := HND.out; omega
      have HRN5 := Lib.hid (setR_other (t := { r.t with ents := putL r.t.ents c n }) HRN.out hne')
      have t0 : w5.cell? ⟨x.b, 0, none⟩ = some (.map (some x.m)) := HT5.out.box.cell 0 _ rfl
      have d3 : w5.cell? ⟨rn.p, 3, none⟩ = some (.int .i64 rn.t.links) := (HT5.out.at_ HRN5.out).1.cell 3 _ rfl
      have f3 : w5.frozen? ⟨rn.p, 3, none⟩ = false := (HT5.out.at_ HRN5.out).1.free 3
      have lk1 : (Instr.lookup 56 (.map (some x.m)) (.int .i64 n) false).run Tryz.prog w5 = .ok (.pointer (some ⟨rn.p, 0, none⟩)) w5 := HT5.out.look HRN5.out HNB.out.1 HNB.out.2
      obtain ⟨lk, hlk⟩ : ∃ lk, lk = rn.t.links := ⟨_, rfl⟩
      have hkk := HK.out
      have hli := HLI.out
      have hw : IntKind.i64.wrap (rn.t.links + 1) = rn.t.links + 1 := IntWalk.i64_in _ ⟨by omega, by omega⟩
      have HT6 := Lib.hid (HT5.out.setLinks HRN5.out (rn.t.links + 1))
      have hrnx : rn.p ∈ x.blocks := row_mem HRN.out rn.p (by simp [RowD.blk])
      have hrng : rn.p < g := by rw [HGW.out]; exact HBL.out _ hrnx
      have hb6a := HB5.out.2.of (heap_setCell_other w5 ⟨rn.p, 3, none⟩ a (.int .i64 (rn.t.links + 1)) (fun e => by have e : a = rn.p := e; have := HF4.out.ga; omega))
      have HB6 := Lib.hid hb6a
      have HC6 : Hid (Chg x.blocks w4 (w5.setCell ⟨rn.p, 3, none⟩ (.int .i64 (rn.t.links + 1)))) := HC5.out.trans ((Chg.only (Only.set rn.p 3 w5 _)).mono (fun i hi => by rw [List.mem_singleton.1 hi]; exact hrnx))
      obtain ⟨⟨s1, s2⟩, s3, s4, s5⟩ := HB6.out.st4
      clear hm5 hc5 hb5 hmex hkk hli hb6a hrnx hrng hne' hlk HFL HT4
      go_wp2
      refine bodyPost_ret (results_cell_row rfl _ _ a 33 _ (0, 0) _ rfl (HB6.out.pt4 _ _ _ _) Tryz.underlying33 rfl sizeAns) rfl ?_
      have hdone : Done x R.2 (k + 1) [] w4 (w5.setCell ⟨rn.p, 3, none⟩ (.int .i64 (rn.t.links + 1))) := by
        refine ⟨setR (setR x (d : Int) { r.t with ents := putL r.t.ents c n }) (n : Int) { rn.t with links := rn.t.links + 1 }, rfl, HT6.out, ?_, HC6.out, fun j hj => ?_⟩
        · rw [HFE.out]
          exact HRL.out
        · rw [setR_blk, setR_blk] at hj
          exact .inl hj
      exact OpRes.put HF4.out hdone HBL.out (fun j hj => by cases hj) (by rw [HFE.out]; rfl) _ _ _ _
set_option maxRecDepth 100000 in
set_option maxHeartbeats 4000000 in
theorem unlink_any (o : OpD) (ho : o.do_ = 3) (hp : o.path.size ≤ 100000) : Calls Tryz.prog 47 #[.pointer (some ⟨x.b, 0, none⟩), opV o] w (OpRes x k w (doG G o)) := by
  obtain ⟨R, hR⟩ : ∃ R, R = doG G o := ⟨_, rfl⟩
  rw [← hR]
  have HR : Hid (R = fileG G o.path fun _ => (noA 0, dropG G o.path)) := by
    show R = _
    rw [hR]
    unfold doG
    simp only [ho]
    rfl
  have HT0 := Lib.hid h
  have HX := Lib.hid hr
  have HK := Lib.hid hk
  have HP := Lib.hid hp
  have HBL : Hid (∀ j ∈ x.blocks, j < w.heap.size) := h.lt
  have HF1 : Hid (Fr w w.heap.size (w.heap.size + 1) o ((w.alloc (.cells #[.int .i64 o.do_, .string o.path, .string o.dst, .int .i64 o.off, .int .i64 o.len, .string o.data] 36 (0, 0))).alloc (.cells #[.int .i64 0, .int .i64 0, .string ⟨#[]⟩, .slice none 0 0] 33 (0, 0)))) := Fr.new w o
  have HT1 := Lib.hid (h.keep HF1.out.toW)
  have c1 : ((w.alloc (.cells #[.int .i64 o.do_, .string o.path, .string o.dst, .int .i64 o.off, .int .i64 o.len, .string o.data] 36 (0, 0))).alloc (.cells #[.int .i64 0, .int .i64 0, .string ⟨#[]⟩, .slice none 0 0] 33 (0, 0))).cell? ⟨w.heap.size, 1, none⟩ = some (.string o.path) := HF1.out.bo.cell 1 _ rfl
  obtain ⟨g, hg⟩ : ∃ g, g = w.heap.size := ⟨_, rfl⟩
  obtain ⟨a, ha⟩ : ∃ a, a = w.heap.size + 1 := ⟨_, rfl⟩
  rw [← ha, ← hg] at HF1
  have HGW := Lib.hid hg
  clear h hr hk hp ho hR
  have HFA := Lib.hid (fun W (q : TrAt W x) => file_any q HX.out HK.out o.path HP.out)
  unfold opV
  go_enter Tryz.func47, Tryz.ntmps47
  go_wp2_with fail
  rw [← ha, ← hg]
  clear ha hg c1
  generalize World.alloc (World.alloc w _) _ = w1 at *
  refine (HFA.out _ HT1.out).mono ?_
  rintro e1 w2 ⟨rfl, hb⟩
  have HF2 := Lib.hid (HF1.out.keep hb)
  have HT2 := Lib.hid (HT1.out.keep hb)
  clear hb HF1 HT1 HFA
  rcases file_cases HX.out o.path with ⟨n, e, hfe, hne, hK⟩ | ⟨n, t, hfe, hsp, hat, hft, hfd, hK⟩
  · rw [hfe]
    have HQ : Hid (R = (noA e, G)) := HR.out.trans (hK _)
    have hz : (e != 0) = true := by simpa using hne
    clear hfe hne hK HR
    go_wp2_with fail
    refine (refused_any e _).mono ?_
    rintro e1 w3 ⟨rfl, hb⟩
    have HF3 := Lib.hid (HF2.out.keep hb)
    have HT3 := Lib.hid (HT2.out.keep hb)
    clear hb
    obtain ⟨⟨s1, s2⟩, s3, s4, s5⟩ := HF3.out.ba.st4
    unfold ansV nilS
    go_wp2
    refine bodyPost_ret (results_cell_row rfl _ _ a 33 _ (0, 0) _ rfl (HF3.out.ba.pt4 _ _ _ _) Tryz.underlying33 rfl sizeAns) rfl ?_
    exact OpRes.refuse HT0.out HX.out HQ.out HF3.out _ _ _ _
  · rw [hfe]
    have HQ : Hid (R = (noA 0, dropG G o.path)) := HR.out.trans (hK _)
    obtain ⟨rn, hrn, hrt⟩ := TrD.row hft
    have HRN := Lib.hid hrn
    have hfd2 : rn.t.dir = false := by rw [hrt]; exact hfd
    have hli := links_le HX.out hft hfd
    rw [← hrt] at hli
    have HLI := Lib.hid hli
    have hnb := HX.out.numB hft
    have hkk := HK.out
    have HNB : Hid (0 ≤ (n : Int) ∧ (n : Int) ≤ 4611686018427387904) := ⟨hnb.1, by omega⟩
    have hn0 : (splitD o.path).1 ≠ [] := by
      intro e
      rw [e, atE_nil] at hat
      have h0 := Option.some.inj hat
      rw [← h0] at hft
      have h4 := HX.out.dirs (n := 0) hft
      rw [HX.out.wf.root, hfd] at h4
      cases h4
    obtain ⟨l, c, hs, hc⟩ := snoc_of hsp hn0
    rw [hs] at hat
    obtain ⟨d, td, hl, htd, hdd, hdg⟩ := HX.out.parent hat
    obtain ⟨r, hrr, hrt2⟩ := TrD.row htd
    obtain ⟨me, hme, _⟩ := (HT2.out.at_ hrr).dirBox (by rw [hrt2]; exact hdd)
    obtain ⟨hnd, hrl1, hrl2⟩ := rel_unlink HX.out hs hl hdg hat hrr hrn hfd2 HT0.out.nodup
    have HND := Lib.hid hnd
    have HRL1 := Lib.hid hrl1
    have HRL2 := Lib.hid hrl2
    have HRR := Lib.hid hrr
    have HME := Lib.hid hme
    have HCL := Lib.hid (name_len hc)
    have HSA := Lib.hid (spot_any HT2.out HX.out HK.out o.path HP.out hs hl hrr hme)
    clear hfe hK HR hrn hrt hli hnb hkk hat hft hfd hsp hn0 hs hc hl htd hdd hdg hrr hrt2 hme hnd hrl1 hrl2 hfd2
    have c1 : w2.cell? ⟨g, 1, none⟩ = some (.string o.path) := HF2.out.bo.cell 1 _ rfl
    unfold spotV at HSA
    go_wp2_with fail
    refine HSA.out.mono ?_
    rintro e1 w3 ⟨rfl, hb⟩
    have HF3 := Lib.hid (HF2.out.keep hb)
    have HT3 := Lib.hid (HT2.out.keep hb)
    clear hb HF2 HT2 HSA c1
    have hma : MapAt EnS w3 me r.t.ents := by
      have h1 := (HT3.out.at_ HRR.out).2.1
      rw [HME.out] at h1
      exact h1
    have HEM := Lib.hid (empty_any w3 hma c HCL.out)
    unfold spotV at HEM
    clear hma
    go_wp2_with fail
    refine HEM.out.mono ?_
    rintro e1 w5 ⟨rfl, hm5, hc5⟩
    have HT5 := Lib.hid (HT3.out.setEnts HRR.out HME.out hc5 hm5)
    have hmex : me ∈ x.blocks := row_mem HRR.out me (by unfold RowD.blk; rw [HME.out]; simp)
    have hb5 := HF3.out.chg hc5 (fun j hj => by rw [List.mem_singleton.1 hj, HGW.out]; exact HBL.out me hmex)
    have HB5 := Lib.hid hb5
    have HC5 : Hid (Chg x.blocks w3 w5) := hc5.mono (fun i hi => by rw [List.mem_singleton.1 hi]; exact hmex)
    have hne' : (n : Int) ≠ (d : Int) := by have := HND.out; omega
    have HRN5 := Lib.hid (setR_other (t := { r.t with ents := dropL r.t.ents c }) HRN.out hne')
    have t0 : w5.cell? ⟨x.b, 0, none⟩ = some (.map (some x.m)) := HT5.out.box.cell 0 _ rfl
    have d3 : w5.cell? ⟨rn.p, 3, none⟩ = some (.int .i64 rn.t.links) := (HT5.out.at_ HRN5.out).1.cell 3 _ rfl
    have f3 : w5.frozen? ⟨rn.p, 3, none⟩ = false := (HT5.out.at_ HRN5.out).1.free 3
    have lk1 : (Instr.lookup 56 (.map (some x.m)) (.int .i64 n) false).run Tryz.prog w5 = .ok (.pointer (some ⟨rn.p, 0, none⟩)) w5 := HT5.out.look HRN5.out HNB.out.1 HNB.out.2
    have hkk := HK.out
    have hli := HLI.out
    obtain ⟨lk, hlk⟩ : ∃ lk, lk = rn.t.links - 1 := ⟨_, rfl⟩
    have hw : IntKind.i64.wrap (rn.t.links - 1) = lk := by rw [hlk]; exact IntWalk.i64_in _ ⟨by omega, by omega⟩
    have HT6 := Lib.hid (HT5.out.setLinks HRN5.out (rn.t.links - 1))
    rw [← hlk] at HT6 HRL1 HRL2
    have HLK := Lib.hid hlk
    have hrnx : rn.p ∈ x.blocks := row_mem HRN.out rn.p (by simp [RowD.blk])
    have hrng : rn.p < g := by rw [HGW.out]; exact HBL.out _ hrnx
    have hb6a := HB5.out.2.of (heap_setCell_other w5 ⟨rn.p, 3, none⟩ a (.int .i64 lk) (fun e => by have e : a = rn.p := e; have := HF3.out.ga; omega))
    have HB6 := Lib.hid hb6a
    have HC6 : Hid (Chg x.blocks w3 (w5.setCell ⟨rn.p, 3, none⟩ (.int .i64 lk))) := HC5.out.trans ((Chg.only (Only.set rn.p 3 w5 _)).mono (fun i hi => by rw [List.mem_singleton.1 hi]; exact hrnx))
    have l3 : (w5.setCell ⟨rn.p, 3, none⟩ (.int .i64 lk)).cell? ⟨rn.p, 3, none⟩ = some (.int .i64 lk) := ((HT5.out.at_ HRN5.out).1.set 3 _).cell 3 _ rfl
    by_cases h1 : rn.t.links = 1
    · have hl0 : lk = 0 := by omega
      have hl1 : (lk == 0) = true := by rw [hl0]; rfl
      have HRL := Lib.hid (HRL2.out h1)
      have t06 : (w5.setCell ⟨rn.p, 3, none⟩ (.int .i64 lk)).cell? ⟨x.b, 0, none⟩ = some (.map (some x.m)) := HT6.out.box.cell 0 _ rfl
      have HM6 := Lib.hid HT6.out.map
      have HKW : Hid ((Lit.int .i64 (n : Int)).wf = true) := mint_wf HNB.out.1 HNB.out.2
      clear hm5 hc5 hb5 hmex hkk hli hb6a hrnx hrng hne' hlk HEM HT3 hl0 h1
      have hm6 := HM6.out
      have HAX : Hid (a ∉ [x.m]) := by
        have hxm : x.m < g := by rw [HGW.out]; exact HBL.out _ (by simp [TrD.blocks])
        have := HF3.out.ga
        show ¬ a ∈ [x.m]
        simp
        omega
      go_wp2_with (first
        | (at_delete; refine map_delete (S := ThS) rfl _ _ _ _ rfl rfl rfl rfl hm6 (k := (n : Int)) rfl HKW.out ?_; intro w7 hm7 hc7; have HB7 := Lib.hid (HB6.out.of (hc7.block a HB6.out.lt HAX.out)); obtain ⟨⟨s1, s2⟩, s3, s4, s5⟩ := HB7.out.st4; have HT7 := Lib.hid (HT6.out.delAt hc7 hm7); have HC7 : Hid (Chg x.blocks w3 w7) := HC6.out.trans (hc7.mono (fun i hi => by rw [List.mem_singleton.1 hi]; simp [TrD.blocks])); clear hm7 hc7 hm6)
        | fail)
      refine bodyPost_ret (results_cell_row rfl _ _ a 33 _ (0, 0) _ rfl (HB7.out.pt4 _ _ _ _) Tryz.underlying33 rfl sizeAns) rfl ?_
      have hdone : Done x R.2 (k + 1) [] w3 w7 := by
        refine ⟨delR (setR (setR x (d : Int) { r.t with ents := dropL r.t.ents c }) (n : Int) { rn.t with links := lk }) (n : Int), rfl, HT7.out, ?_, HC7.out, fun j hj => ?_⟩
        · rw [HQ.out]
          exact HRL.out
        · have hj := delR_blk _ _ j hj
          rw [setR_blk, setR_blk] at hj
          exact .inl hj
      exact OpRes.put HF3.out hdone HBL.out (fun j hj => by cases hj) (by rw [HQ.out]; rfl) _ _ _ _
    · have hl1 : (lk == 0) = false := by rw [beq_eq_false_iff_ne]; omega
      have HRL := Lib.hid (HRL1.out h1)
      obtain ⟨⟨s1, s2⟩, s3, s4, s5⟩ := HB6.out.st4
      clear hm5 hc5 hb5 hmex hkk hli hb6a hrnx hrng hne' hlk HEM HT3 h1
      go_wp2
      refine bodyPost_ret (results_cell_row rfl _ _ a 33 _ (0, 0) _ rfl (HB6.out.pt4 _ _ _ _) Tryz.underlying33 rfl sizeAns) rfl ?_
      have hdone : Done x R.2 (k + 1) [] w3 (w5.setCell ⟨rn.p, 3, none⟩ (.int .i64 lk)) := by
        refine ⟨setR (setR x (d : Int) { r.t with ents := dropL r.t.ents c }) (n : Int) { rn.t with links := lk }, rfl, HT6.out, ?_, HC6.out, fun j hj => ?_⟩
        · rw [HQ.out]
          exact HRL.out
        · rw [setR_blk, setR_blk] at hj
          exact .inl hj
      exact OpRes.put HF3.out hdone HBL.out (fun j hj => by cases hj) (by rw [HQ.out]; rfl) _ _ _ _
end
end Go.Proofs.YteimpebfenpifaaGreatDoor
