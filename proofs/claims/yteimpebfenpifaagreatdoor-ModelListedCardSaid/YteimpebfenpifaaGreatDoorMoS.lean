/-
  Package model: write, truncate.
-/
import Derived.Test.YteimpebfenpifaaGreatDoorMoR
namespace Go.Proofs.YteimpebfenpifaaGreatDoor
open Go Go.RowKit Go.ChangeShapes Go.WideShapes Go.ChangeAt

/-- A text changed, at the package's things. -/
theorem rel_tx {x : TrD} {G : GD} {k : Nat} (hr : Rel x.M G k) {n : Nat} {rn : RowD} {s : ByteArray} (hrn : findL x.rows (n : Int) = some rn) (hf : rn.t.dir = false) (hs : s.size ≤ 16384) (hnd : NoDupL x.rows) :
    Rel (setR x (n : Int) { rn.t with text := s }).M (textSet G n s) (k + 1) := by
  have hfn := find_of_row hrn
  refine rel_text hr hfn hf hs ?_ rfl ?_ ?_
  · intro j
    rw [setR_M, hfn]
    by_cases e : j = n
    · rw [if_pos e, if_pos (by rw [e])]; rfl
    · rw [if_neg e, if_neg (by omega)]
  · refine neg_of hr rfl (fun j hj => ?_)
    rw [setR_M, hfn] at hj
    by_cases e : j = (n : Int)
    · rw [e, hfn]; rfl
    · rw [if_neg e] at hj; exact hj
  · unfold TrD.M
    exact nodup_map (fun _ (r : RowD) => r.t) (setR_nd hnd _ _)

section
variable {x : TrD} {G : GD} {k : Nat} {w : World} (h : TrAt w x) (hr : Rel x.M G k) (hk : k ≤ 1000000)
include h hr hk
set_option maxRecDepth 100000 in
set_option maxHeartbeats 4000000 in
theorem write_any (o : OpD) (ho : o.do_ = 7) (hp : o.path.size ≤ 100000) (hp2 : o.data.size ≤ 1000000) : Calls Tryz.prog 51 #[.pointer (some ⟨x.b, 0, none⟩), opV o] w (OpRes x k w (doG G o)) := by
  obtain ⟨R, hR⟩ : ∃ R, R = doG G o := ⟨_, rfl⟩
  rw [← hR]
  have HR : Hid (R = fileG G o.path fun n => if o.off < 0 then (noA 1, G) else if 16384 < o.off + (o.data.size : Int) then (noA 13, G) else (⟨0, (o.data.size : Nat), noB, []⟩, textSet G n (writB (textG G n) o.off.toNat o.data))) := by
    show R = _
    rw [hR]
    unfold doG
    simp only [ho]
    rfl
  have HT0 := Lib.hid h
  have HX := Lib.hid hr
  have HK := Lib.hid hk
  have HP := Lib.hid hp
  have HP2 := Lib.hid hp2
  clear hp2
  have HBL : Hid (∀ j ∈ x.blocks, j < w.heap.size) := h.lt
  have HF1 : Hid (Fr w w.heap.size (w.heap.size + 1) o ((w.alloc (.cells #[.int .i64 o.do_, .string o.path, .string o.dst, .int .i64 o.off, .int .i64 o.len, .string o.data] 36 (0, 0))).alloc (.cells #[.int .i64 0, .int .i64 0, .string ⟨#[]⟩, .slice none 0 0] 33 (0, 0)))) := Fr.new w o
  have HT1 := Lib.hid (h.keep HF1.out.toW)
  have c1 : ((w.alloc (.cells #[.int .i64 o.do_, .string o.path, .string o.dst, .int .i64 o.off, .int .i64 o.len, .string o.data] 36 (0, 0))).alloc (.cells #[.int .i64 0, .int .i64 0, .string ⟨#[]⟩, .slice none 0 0] 33 (0, 0))).cell? ⟨w.heap.size, 1, none⟩ = some (.string o.path) := HF1.out.bo.cell 1 _ rfl
  obtain ⟨g, hg⟩ : ∃ g, g = w.heap.size := ⟨_, rfl⟩
  obtain ⟨a, ha⟩ : ∃ a, a = w.heap.size + 1 := ⟨_, rfl⟩
  rw [← ha, ← hg] at HF1
  have HGW := Lib.hid hg
  clear h hr hk hp ho hR
  have HFA := Lib.hid (fun W (q : TrAt W x) => file_any q HX.out HK.out o.path HP.out)
  unfold opV
  go_enter Tryz.func51, Tryz.ntmps51
  go_wp2_with fail
  rw [← ha, ← hg]
  clear ha hg c1
  generalize World.alloc (World.alloc w _) _ = w1 at *
  refine (HFA.out _ HT1.out).mono ?_
  rintro e1 w2 ⟨rfl, hb⟩
  have HF2 := Lib.hid (HF1.out.keep hb)
  have HT2 := Lib.hid (HT1.out.keep hb)
  clear hb HF1 HT1 HFA
  rcases file_cases HX.out o.path with ⟨n, e, hfe, hne, hK⟩ | ⟨n, t, hfe, hsp, hat, hft, hfd, hK⟩
  · rw [hfe]
    have HQ : Hid (R = (noA e, G)) := HR.out.trans (hK _)
    have hz : (e != 0) = true := by simpa using hne
    clear hfe hne hK HR
    go_wp2_with fail
    refine (refused_any e _).mono ?_
    rintro e1 w3 ⟨rfl, hb⟩
    have HF3 := Lib.hid (HF2.out.keep hb)
    have HT3 := Lib.hid (HT2.out.keep hb)
    clear hb
    obtain ⟨⟨s1, s2⟩, s3, s4, s5⟩ := HF3.out.ba.st4
    unfold ansV nilS
    go_wp2
    refine bodyPost_ret (results_cell_row rfl _ _ a 33 _ (0, 0) _ rfl (HF3.out.ba.pt4 _ _ _ _) Tryz.underlying33 rfl sizeAns) rfl ?_
    exact OpRes.refuse HT0.out HX.out HQ.out HF3.out _ _ _ _
  · rw [hfe]
    have HQ := Lib.hid (HR.out.trans (hK _))
    obtain ⟨rn, hrn, hrt⟩ := TrD.row hft
    have HRN := Lib.hid hrn
    have hnb := HX.out.numB hft
    have hkk := HK.out
    have HNB : Hid (0 ≤ (n : Int) ∧ (n : Int) ≤ 4611686018427387904) := ⟨hnb.1, by omega⟩
    have htx : textG G n = rn.t.text := by
      unfold textG
      rw [HX.out.th n t hft, hrt]
    have htz := HX.out.wf.small n
    rw [htx] at htz
    have HFD : Hid (rn.t.dir = false) := by rw [hrt]; exact hfd
    have t0 : w2.cell? ⟨x.b, 0, none⟩ = some (.map (some x.m)) := HT2.out.box.cell 0 _ rfl
    have lk1 := HT2.out.look hrn hnb.1 (by omega)
    rw [htx] at HQ
    have HTZ := Lib.hid htz
    clear hfe hrn hrt hnb hkk hat hft hfd hsp hK HR htx htz
    have c3 : w2.cell? ⟨g, 3, none⟩ = some (.int .i64 o.off) := HF2.out.bo.cell 3 _ rfl
    have c5 : w2.cell? ⟨g, 5, none⟩ = some (.string o.data) := HF2.out.bo.cell 5 _ rfl
    by_cases hoff : o.off < 0
    · have HQ2 : Hid (R = (noA 1, G)) := by show R = _; rw [HQ.out, if_pos hoff]
      clear HQ
      go_wp2_with fail
      refine (refused_any 1 _).mono ?_
      rintro e1 w3 ⟨rfl, hb⟩
      have HF3 := Lib.hid (HF2.out.keep hb)
      have HT3 := Lib.hid (HT2.out.keep hb)
      clear hb
      obtain ⟨⟨s1, s2⟩, s3, s4, s5⟩ := HF3.out.ba.st4
      unfold ansV nilS
      go_wp2
      refine bodyPost_ret (results_cell_row rfl _ _ a 33 _ (0, 0) _ rfl (HF3.out.ba.pt4 _ _ _ _) Tryz.underlying33 rfl sizeAns) rfl ?_
      exact OpRes.refuse HT0.out HX.out HQ2.out HF3.out _ _ _ _
    have HQ1 := Lib.hid (HQ.out.trans (if_neg hoff))
    have hdz := HP2.out
    have hw1 : IntKind.i64.wrap (16384 - (o.data.size : Int)) = 16384 - (o.data.size : Int) := IntWalk.i64_in _ ⟨by omega, by omega⟩
    by_cases hbig : 16384 < o.off + (o.data.size : Int)
    · have HQ2 : Hid (R = (noA 13, G)) := by show R = _; rw [HQ1.out, if_pos hbig]
      have hb2 : 16384 - (o.data.size : Int) < o.off := by omega
      clear HQ HQ1 hbig hdz
      go_wp2_with fail
      refine (refused_any 13 _).mono ?_
      rintro e1 w3 ⟨rfl, hb⟩
      have HF3 := Lib.hid (HF2.out.keep hb)
      have HT3 := Lib.hid (HT2.out.keep hb)
      clear hb
      obtain ⟨⟨s1, s2⟩, s3, s4, s5⟩ := HF3.out.ba.st4
      unfold ansV nilS
      go_wp2
      refine bodyPost_ret (results_cell_row rfl _ _ a 33 _ (0, 0) _ rfl (HF3.out.ba.pt4 _ _ _ _) Tryz.underlying33 rfl sizeAns) rfl ?_
      exact OpRes.refuse HT0.out HX.out HQ2.out HF3.out _ _ _ _
    obtain ⟨f, hf⟩ : ∃ f : Nat, o.off = (f : Int) := ⟨o.off.toNat, by omega⟩
    have HQ2 : Hid (R = (⟨0, (o.data.size : Nat), noB, []⟩, textSet G n (writB rn.t.text f o.data))) := by
      show R = _
      rw [HQ1.out, if_neg hbig, hf, Int.toNat_natCast]
    have HOF := Lib.hid hf
    rw [hf] at c3
    have hb2 : ¬ 16384 - (o.data.size : Int) < (f : Int) := by omega
    have h00 : ¬ (f : Int) < 0 := by omega
    have hsum : f + o.data.size ≤ 16384 := by omega
    have hws := writB_size (d := o.data) (off := f) HTZ.out hsum
    have HWR := Lib.hid (fun W => written_any rn.t.text o.data f HTZ.out hsum W)
    have HRL := Lib.hid (rel_tx HX.out HRN.out HFD.out hws HT0.out.nodup)
    clear HQ HQ1 hoff hbig hf hsum hws hdz
    obtain ⟨V, hV⟩ : ∃ V, V = writB rn.t.text f o.data := ⟨_, rfl⟩
    rw [← hV] at HRL HWR HQ2
    go_wp2_with fail
    have d2 : w2.drew.cell? ⟨rn.p, 2, none⟩ = some (.string rn.t.text) := (HT2.out.at_ HRN.out).1.cell 2 _ rfl
    have e3 : w2.drew.cell? ⟨g, 3, none⟩ = some (.int .i64 f) := c3
    have e5 : w2.drew.cell? ⟨g, 5, none⟩ = some (.string o.data) := c5
    clear hV
    generalize rn.t.text = T at *
    refine wp_region_tree (fun W => W.cell? ⟨rn.p, 2, none⟩ = some (.string T) ∧ W.cell? ⟨g, 3, none⟩ = some (.int .i64 f) ∧ W.cell? ⟨g, 5, none⟩ = some (.string o.data)) 10 (.quiet 0 (.quiet 1 (.quiet 2 (.quiet 3 (.quiet 4 (.quiet 5 (.quiet 6 (.quiet 7 (.quiet 8 (.make 9 .nil)))))))))) (by kernel_rfl) (by kernel_rfl) ⟨d2, e3, e5⟩ ?_
    simp only [List.drop_succ_cons, List.drop_zero]
    iterate 9 (apply wpTr_step rfl; (intro W hS K hK; obtain ⟨u0, u1, u2⟩ := hS; go_simp; exact hK _ rfl))
    refine wpTr_make rfl (fun K' hK => ?_)
    go_simp
    refine (HWR.out _).mono ?_
    rintro e1 w3 ⟨rfl, hb⟩
    have hb3 : Below w2.heap.size w2 w3 := (Below.refl _ w2).drew.trans hb
    have HF3 := Lib.hid (HF2.out.keep hb3)
    have HT3 := Lib.hid (HT2.out.keep hb3)
    have HD2 := Lib.hid (hb3.cell (p := ⟨rn.p, 2, none⟩) (HT2.out.at_ HRN.out).1.lt)
    have d23 : w3.cell? ⟨rn.p, 2, none⟩ = some (.string T) := HD2.out.trans d2
    have f23 : w3.frozen? ⟨rn.p, 2, none⟩ = false := (HT3.out.at_ HRN.out).1.free 2
    refine hK _ _ _ (fun _ h => h) ⟨d23, HF3.out.bo.cell 3 _ (by show _ = _; simp [opA, HOF.out]), HF3.out.bo.cell 5 _ rfl⟩ ?_
    clear hK K' hb hb3 d2 e3 e5 c3 c5 HF2 HT2
    refine wpTr_nil ?_
    have HT4 := Lib.hid (HT3.out.setText HRN.out (V))
    have hrnx : rn.p ∈ x.blocks := row_mem HRN.out rn.p (by simp [RowD.blk])
    have hrng : rn.p < g := by rw [HGW.out]; exact HBL.out _ hrnx
    have hb4 := Fr.chg HF3.out (Chg.only (Only.set rn.p 2 w3 (.string (V)))) (fun j hj => by rw [List.mem_singleton.1 hj]; exact hrng)
    have HB4 := Lib.hid hb4.2
    have HC4 : Hid (Chg x.blocks w3 (w3.setCell ⟨rn.p, 2, none⟩ (.string (V)))) := (Chg.only (Only.set rn.p 2 w3 _)).mono (fun i hi => by rw [List.mem_singleton.1 hi]; exact hrnx)
    have c5 : (w3.setCell ⟨rn.p, 2, none⟩ (.string V)).cell? ⟨g, 5, none⟩ = some (.string o.data) := hb4.1.cell 5 _ rfl
    obtain ⟨⟨s1, s2⟩, s3, s4, s5⟩ := HB4.out.st4
    clear hrnx hrng hb4
    go_wp2
    refine bodyPost_ret (results_cell_row rfl _ _ a 33 _ (0, 0) _ rfl (HB4.out.pt4 _ _ _ _) Tryz.underlying33 rfl sizeAns) rfl ?_
    have hdone : Done x R.2 (k + 1) [] w3 (w3.setCell ⟨rn.p, 2, none⟩ (.string V)) := by
      refine ⟨setR x (n : Int) { rn.t with text := V }, rfl, HT4.out, ?_, HC4.out, fun j hj => ?_⟩
      · rw [HQ2.out]
        exact HRL.out
      · rw [setR_blk] at hj
        exact .inl hj
    exact OpRes.put HF3.out hdone HBL.out (fun j hj => by cases hj) (by rw [HQ2.out]) _ _ _ _
set_option maxRecDepth 100000 in
set_option maxHeartbeats 4000000 in
theorem truncate_any (o : OpD) (ho : o.do_ = 8) (hp : o.path.size ≤ 100000) : Calls Tryz.prog 52 #[.pointer (some ⟨x.b, 0, none⟩), opV o] w (OpRes x k w (doG G o)) := by
  obtain ⟨R, hR⟩ : ∃ R, R = doG G o := ⟨_, rfl⟩
  rw [← hR]
  have HR : Hid (R = fileG G o.path fun n => if o.len < 0 then (noA 1, G) else if 16384 < o.len then (noA 13, G) else (noA 0, textSet G n (sizedB (textG G n) o.len.toNat))) := by
    show R = _
    rw [hR]
    unfold doG
    simp only [ho]
    rfl
  have HT0 := Lib.hid h
  have HX := Lib.hid hr
  have HK := Lib.hid hk
  have HP := Lib.hid hp
  have HBL : Hid (∀ j ∈ x.blocks, j < w.heap.size) := h.lt
  have HF1 : Hid (Fr w w.heap.size (w.heap.size + 1) o ((w.alloc (.cells #[.int .i64 o.do_, .string o.path, .string o.dst, .int .i64 o.off, .int .i64 o.len, .string o.data] 36 (0, 0))).alloc (.cells #[.int .i64 0, .int .i64 0, .string ⟨#[]⟩, .slice none 0 0] 33 (0, 0)))) := Fr.new w o
  have HT1 := Lib.hid (h.keep HF1.out.toW)
  have c1 : ((w.alloc (.cells #[.int .i64 o.do_, .string o.path, .string o.dst, .int .i64 o.off, .int .i64 o.len, .string o.data] 36 (0, 0))).alloc (.cells #[.int .i64 0, .int .i64 0, .string ⟨#[]⟩, .slice none 0 0] 33 (0, 0))).cell? ⟨w.heap.size, 1, none⟩ = some (.string o.path) := HF1.out.bo.cell 1 _ rfl
  obtain ⟨g, hg⟩ : ∃ g, g = w.heap.size := ⟨_, rfl⟩
  obtain ⟨a, ha⟩ : ∃ a, a = w.heap.size + 1 := ⟨_, rfl⟩
  rw [← ha, ← hg] at HF1
  have HGW := Lib.hid hg
  clear h hr hk hp ho hR
  have HFA := Lib.hid (fun W (q : TrAt W x) => file_any q HX.out HK.out o.path HP.out)
  unfold opV
  go_enter Tryz.func52, Tryz.ntmps52
  go_wp2_with fail
  rw [← ha, ← hg]
  clear ha hg c1
  generalize World.alloc (World.alloc w _) _ = w1 at *
  refine (HFA.out _ HT1.out).mono ?_
  rintro e1 w2 ⟨rfl, hb⟩
  have HF2 := Lib.hid (HF1.out.keep hb)
  have HT2 := Lib.hid (HT1.out.keep hb)
  clear hb HF1 HT1 HFA
  rcases file_cases HX.out o.path with ⟨n, e, hfe, hne, hK⟩ | ⟨n, t, hfe, hsp, hat, hft, hfd, hK⟩
  · rw [hfe]
    have HQ : Hid (R = (noA e, G)) := HR.out.trans (hK _)
    have hz : (e != 0) = true := by simpa using hne
    clear hfe hne hK HR
    go_wp2_with fail
    refine (refused_any e _).mono ?_
    rintro e1 w3 ⟨rfl, hb⟩
    have HF3 := Lib.hid (HF2.out.keep hb)
    have HT3 := Lib.hid (HT2.out.keep hb)
    clear hb
    obtain ⟨⟨s1, s2⟩, s3, s4, s5⟩ := HF3.out.ba.st4
    unfold ansV nilS
    go_wp2
    refine bodyPost_ret (results_cell_row rfl _ _ a 33 _ (0, 0) _ rfl (HF3.out.ba.pt4 _ _ _ _) Tryz.underlying33 rfl sizeAns) rfl ?_
    exact OpRes.refuse HT0.out HX.out HQ.out HF3.out _ _ _ _
  · rw [hfe]
    have HQ := Lib.hid (HR.out.trans (hK _))
    obtain ⟨rn, hrn, hrt⟩ := TrD.row hft
    have HRN := Lib.hid hrn
    have hnb := HX.out.numB hft
    have hkk := HK.out
    have HNB : Hid (0 ≤ (n : Int) ∧ (n : Int) ≤ 4611686018427387904) := ⟨hnb.1, by omega⟩
    have htx : textG G n = rn.t.text := by
      unfold textG
      rw [HX.out.th n t hft, hrt]
    have htz := HX.out.wf.small n
    rw [htx] at htz
    have HFD : Hid (rn.t.dir = false) := by rw [hrt]; exact hfd
    have t0 : w2.cell? ⟨x.b, 0, none⟩ = some (.map (some x.m)) := HT2.out.box.cell 0 _ rfl
    have lk1 := HT2.out.look hrn hnb.1 (by omega)
    rw [htx] at HQ
    have HTZ := Lib.hid htz
    clear hfe hrn hrt hnb hkk hat hft hfd hsp hK HR htx htz
    have c4 : w2.cell? ⟨g, 4, none⟩ = some (.int .i64 o.len) := HF2.out.bo.cell 4 _ rfl
    by_cases hoff : o.len < 0
    · have HQ2 : Hid (R = (noA 1, G)) := by show R = _; rw [HQ.out, if_pos hoff]
      clear HQ
      go_wp2_with fail
      refine (refused_any 1 _).mono ?_
      rintro e1 w3 ⟨rfl, hb⟩
      have HF3 := Lib.hid (HF2.out.keep hb)
      have HT3 := Lib.hid (HT2.out.keep hb)
      clear hb
      obtain ⟨⟨s1, s2⟩, s3, s4, s5⟩ := HF3.out.ba.st4
      unfold ansV nilS
      go_wp2
      refine bodyPost_ret (results_cell_row rfl _ _ a 33 _ (0, 0) _ rfl (HF3.out.ba.pt4 _ _ _ _) Tryz.underlying33 rfl sizeAns) rfl ?_
      exact OpRes.refuse HT0.out HX.out HQ2.out HF3.out _ _ _ _
    have HQ1 := Lib.hid (HQ.out.trans (if_neg hoff))
    by_cases hbig : 16384 < o.len
    · have HQ2 : Hid (R = (noA 13, G)) := by show R = _; rw [HQ1.out, if_pos hbig]
      clear HQ HQ1
      go_wp2_with fail
      refine (refused_any 13 _).mono ?_
      rintro e1 w3 ⟨rfl, hb⟩
      have HF3 := Lib.hid (HF2.out.keep hb)
      have HT3 := Lib.hid (HT2.out.keep hb)
      clear hb
      obtain ⟨⟨s1, s2⟩, s3, s4, s5⟩ := HF3.out.ba.st4
      unfold ansV nilS
      go_wp2
      refine bodyPost_ret (results_cell_row rfl _ _ a 33 _ (0, 0) _ rfl (HF3.out.ba.pt4 _ _ _ _) Tryz.underlying33 rfl sizeAns) rfl ?_
      exact OpRes.refuse HT0.out HX.out HQ2.out HF3.out _ _ _ _
    obtain ⟨f, hf⟩ : ∃ f : Nat, o.len = (f : Int) := ⟨o.len.toNat, by omega⟩
    have HQ2 : Hid (R = (noA 0, textSet G n (sizedB rn.t.text f))) := by
      show R = _
      rw [HQ1.out, if_neg hbig, hf, Int.toNat_natCast]
    have HOF := Lib.hid hf
    rw [hf] at c4
    have hb2 : ¬ 16384 < (f : Int) := by omega
    have h00 : ¬ (f : Int) < 0 := by omega
    have hsum : f ≤ 16384 := by omega
    have HWR := Lib.hid (fun W => sized_any rn.t.text f HTZ.out hsum W)
    have HRL := Lib.hid (rel_tx HX.out HRN.out HFD.out (s := sizedB rn.t.text f) (by rw [sizedB_size]; exact hsum) HT0.out.nodup)
    clear HQ HQ1 hoff hbig hf hsum
    obtain ⟨V, hV⟩ : ∃ V, V = sizedB rn.t.text f := ⟨_, rfl⟩
    rw [← hV] at HRL HWR HQ2
    go_wp2_with fail
    have d2 : w2.drew.cell? ⟨rn.p, 2, none⟩ = some (.string rn.t.text) := (HT2.out.at_ HRN.out).1.cell 2 _ rfl
    have e3 : w2.drew.cell? ⟨g, 4, none⟩ = some (.int .i64 f) := c4
    clear hV
    generalize rn.t.text = T at *
    refine wp_region_tree (fun W => W.cell? ⟨rn.p, 2, none⟩ = some (.string T) ∧ W.cell? ⟨g, 4, none⟩ = some (.int .i64 f)) 8 (.quiet 0 (.quiet 1 (.quiet 2 (.quiet 3 (.quiet 4 (.quiet 5 (.quiet 6 (.make 7 .nil)))))))) (by kernel_rfl) (by kernel_rfl) ⟨d2, e3⟩ ?_
    simp only [List.drop_succ_cons, List.drop_zero]
    iterate 7 (apply wpTr_step rfl; (intro W hS K hK; obtain ⟨u0, u1⟩ := hS; go_simp; exact hK _ rfl))
    refine wpTr_make rfl (fun K' hK => ?_)
    go_simp
    refine (HWR.out _).mono ?_
    rintro e1 w3 ⟨rfl, hb⟩
    have hb3 : Below w2.heap.size w2 w3 := (Below.refl _ w2).drew.trans hb
    have HF3 := Lib.hid (HF2.out.keep hb3)
    have HT3 := Lib.hid (HT2.out.keep hb3)
    have HD2 := Lib.hid (hb3.cell (p := ⟨rn.p, 2, none⟩) (HT2.out.at_ HRN.out).1.lt)
    have d23 : w3.cell? ⟨rn.p, 2, none⟩ = some (.string T) := HD2.out.trans d2
    have f23 : w3.frozen? ⟨rn.p, 2, none⟩ = false := (HT3.out.at_ HRN.out).1.free 2
    refine hK _ _ _ (fun _ h => h) ⟨d23, HF3.out.bo.cell 4 _ (by show _ = _; simp [opA, HOF.out])⟩ ?_
    clear hK K' hb hb3 d2 e3 c4 HF2 HT2
    refine wpTr_nil ?_
    have HT4 := Lib.hid (HT3.out.setText HRN.out (V))
    have hrnx : rn.p ∈ x.blocks := row_mem HRN.out rn.p (by simp [RowD.blk])
    have hrng : rn.p < g := by rw [HGW.out]; exact HBL.out _ hrnx
    have hb4 := Fr.chg HF3.out (Chg.only (Only.set rn.p 2 w3 (.string (V)))) (fun j hj => by rw [List.mem_singleton.1 hj]; exact hrng)
    have HB4 := Lib.hid hb4.2
    have HC4 : Hid (Chg x.blocks w3 (w3.setCell ⟨rn.p, 2, none⟩ (.string (V)))) := (Chg.only (Only.set rn.p 2 w3 _)).mono (fun i hi => by rw [List.mem_singleton.1 hi]; exact hrnx)
    obtain ⟨⟨s1, s2⟩, s3, s4, s5⟩ := HB4.out.st4
    clear hrnx hrng hb4
    go_wp2
    refine bodyPost_ret (results_cell_row rfl _ _ a 33 _ (0, 0) _ rfl (HB4.out.pt4 _ _ _ _) Tryz.underlying33 rfl sizeAns) rfl ?_
    have hdone : Done x R.2 (k + 1) [] w3 (w3.setCell ⟨rn.p, 2, none⟩ (.string V)) := by
      refine ⟨setR x (n : Int) { rn.t with text := V }, rfl, HT4.out, ?_, HC4.out, fun j hj => ?_⟩
      · rw [HQ2.out]
        exact HRL.out
      · rw [setR_blk] at hj
        exact .inl hj
    exact OpRes.put HF3.out hdone HBL.out (fun j hj => by cases hj) (by rw [HQ2.out]; rfl) _ _ _ _
end
end Go.Proofs.YteimpebfenpifaaGreatDoor
