/-
  Texts put together: MoS, MoZ.
-/
import Derived.Test.YteimpebfenpifaaGreatDoorMg23
import Derived.Shelf.SlGeneric
import Derived.Shelf.SlLaysZ
import Derived.Shelf.SlLaysW
import Derived.Shelf.SlIter.Sorted
import Derived.Shelf.SlMaps.Clone
namespace Go.Proofs.YteimpebfenpifaaGreatDoor
open Go Go.RowKit Go.ChangeShapes Go.WideShapes Go.ChangeAt

/-- A text changed, at the package's things. -/
theorem rel_tx {x : TrD} {G : GD} {k : Nat} (hr : Rel x.M G k) {n : Nat} {rn : RowD} {s : ByteArray} (hrn : findL x.rows (n : Int) = some rn) (hf : rn.t.dir = false) (hs : s.size ≤ 16384) (hnd : NoDupL x.rows) :
    Rel (setR x (n : Int) { rn.t with text := s }).M (textSet G n s) (k + 1) := by
  have hfn := find_of_row hrn
  refine rel_text hr hfn hf hs ?_ rfl ?_ ?_
  · intro j
    rw [setR_M, hfn]
    by_cases e : j = n
    · rw [if_pos e, if_pos (by rw [e])]; rfl
    · rw [if_neg e, if_neg (by omega)]
  · refine neg_of hr rfl (fun j hj => ?_)
    rw [setR_M, hfn] at hj
    by_cases e : j = (n : Int)
    · rw [e, hfn]; rfl
    · rw [if_neg e] at hj; exact hj
  · unfold TrD.M
    exact nodup_map (fun _ (r : RowD) => r.t) (setR_nd hnd _ _)

section
variable {x : TrD} {G : GD} {k : Nat} {w : World} (h : TrAt w x) (hr : Rel x.M G k) (hk : k ≤ 1000000)
include h hr hk
set_option maxRecDepth 100000 in
set_option maxHeartbeats 4000000 in
theorem write_any (o : OpD) (ho : o.do_ = 7) (hp : o.path.size ≤ 100000) (hp2 : o.data.size ≤ 1000000) : Calls Tryz.prog 51 #[.pointer (some ⟨x.b, 0, none⟩), opV o] w (OpRes x k w (doG G o)) := by
  obtain ⟨R, hR⟩ : ∃ R, R = doG G o := ⟨_, rfl⟩
  rw [← hR]
  have HR : Hid (R = fileG G o.path fun n => if o.off < 0 then (noA 1, G) else if 16384 < o.off + (o.data.size : Int) then (noA 13, G) else (⟨0, (o.data.size : Nat), noB, []⟩, textSet G n (writB (textG G n) o.off.toNat o.data))) := by
    show R = _
    rw [hR]
    unfold doG
    simp only [ho]
    rfl
  have HT0 := Lib.hid h
  have HX := Lib.hid hr
  have HK := Lib.hid hk
  have HP := Lib.hid hp
  have HP2 := Lib.hid hp2
  clear hp2
  have HBL : Hid (∀ j ∈ x.blocks, j < w.heap.size) := h.lt
  have HF1 : Hid (Fr w w.heap.size (w.heap.size + 1) o ((w.alloc (.cells #[.int .i64 o.do_, .string o.path, .string o.dst, .int .i64 o.off, .int .i64 o.len, .string o.data] 36 (0, 0))).alloc (.cells #[.int .i64 0, .int .i64 0, .string ⟨#[]⟩, .slice none 0 0] 33 (0, 0)))) := Fr.new w o
  have HT1 := Lib.hid (h.keep HF1.out.toW)
  have c1 : ((w.alloc (.cells #[.int .i64 o.do_, .string o.path, .string o.dst, .int .i64 o.off, .int .i64 o.len, .string o.data] 36 (0, 0))).alloc (.cells #[.int .i64 0, .int .i64 0, .string ⟨#[]⟩, .slice none 0 0] 33 (0, 0))).cell? ⟨w.heap.size, 1, none⟩ = some (.string o.path) := HF1.out.bo.cell 1 _ rfl
  obtain ⟨g, hg⟩ : ∃ g, g = w.heap.size := ⟨_, rfl⟩
  obtain ⟨a, ha⟩ : ∃ a, a = w.heap.size + 1 := ⟨_, rfl⟩
  rw [← ha, ← hg] at HF1
  have HGW := Lib.hid hg
  clear h hr hk hp ho hR
  have HFA := Lib.hid (fun W (q : TrAt W x) => file_any q HX.out HK.out o.path HP.out)
  unfold opV
  go_enter Tryz.func51, Tryz.ntmps51
  go_wp2_with fail
  rw [← ha, ← hg]
  clear ha hg c1
  generalize World.alloc (World.alloc w _) _ = w1 at *
  refine (HFA.out _ HT1.out).mono ?_
  rintro e1 w2 ⟨rfl, hb⟩
  have HF2 := Lib.hid (HF1.out.keep hb)
  have HT2 := Lib.hid (HT1.out.keep hb)
  clear hb HF1 HT1 HFA
  rcases file_cases HX.out o.path with ⟨n, e, hfe, hne, hK⟩ | ⟨n, t, hfe, hsp, hat, hft, hfd, hK⟩
  · rw [hfe]
    have HQ : Hid (R = (noA e, G)) := HR.out.trans (hK _)
    have hz : (e != 0) = true := by simpa using hne
    clear hfe hne hK HR
    go_wp2_with fail
    refine (refused_any e _).mono ?_
    rintro e1 w3 ⟨rfl, hb⟩
    have HF3 := Lib.hid (HF2.out.keep hb)
    have HT3 := Lib.hid (HT2.out.keep hb)
    clear hb
    obtain ⟨⟨s1, s2⟩, s3, s4, s5⟩ := HF3.out.ba.st4
    unfold ansV nilS
    go_wp2
    refine bodyPost_ret (results_cell_row rfl _ _ a 33 _ (0, 0) _ rfl (HF3.out.ba.pt4 _ _ _ _) Tryz.underlying33 rfl sizeAns) rfl ?_
    exact OpRes.refuse HT0.out HX.out HQ.out HF3.out _ _ _ _
  · rw [hfe]
    have HQ := Lib.hid (HR.out.trans (hK _))
    obtain ⟨rn, hrn, hrt⟩ := TrD.row hft
    have HRN := Lib.hid hrn
    have hnb := HX.out.numB hft
    have hkk := HK.out
    have HNB : Hid (0 ≤ (n : Int) ∧ (n : Int) ≤ 4611686018427387904) := ⟨hnb.1, by omega⟩
    have htx : textG G n = rn.t.text := by
      unfold textG
      rw [HX.out.th n t hft, hrt]
    have htz := HX.out.wf.small n
    rw [htx] at htz
    have HFD : Hid (rn.t.dir = false) := by rw [hrt]; exact hfd
    have t0 : w2.cell? ⟨x.b, 0, none⟩ = some (.map (some x.m)) := HT2.out.box.cell 0 _ rfl
    have lk1 := HT2.out.look hrn hnb.1 (by omega)
    rw [htx] at HQ
    have HTZ := Lib.hid htz
    clear hfe hrn hrt hnb hkk hat hft hfd hsp hK HR htx htz
    have c3 : w2.cell? ⟨g, 3, none⟩ = some (.int .i64 o.off) := HF2.out.bo.cell 3 _ rfl
    have c5 : w2.cell? ⟨g, 5, none⟩ = some (.string o.data) := HF2.out.bo.cell 5 _ rfl
    by_cases hoff : o.off < 0
    · have HQ2 : Hid (R = (noA 1, G)) := by show R = _; rw [HQ.out, if_pos hoff]
      clear HQ
      go_wp2_with fail
      refine (refused_any 1 _).mono ?_
      rintro e1 w3 ⟨rfl, hb⟩
      have HF3 := Lib.hid (HF2.out.keep hb)
      have HT3 := Lib.hid (HT2.out.keep hb)
      clear hb
      obtain ⟨⟨s1, s2⟩, s3, s4, s5⟩ := HF3.out.ba.st4
      unfold ansV nilS
      go_wp2
      refine bodyPost_ret (results_cell_row rfl _ _ a 33 _ (0, 0) _ rfl (HF3.out.ba.pt4 _ _ _ _) Tryz.underlying33 rfl sizeAns) rfl ?_
      exact OpRes.refuse HT0.out HX.out HQ2.out HF3.out _ _ _ _
    have HQ1 := Lib.hid (HQ.out.trans (if_neg hoff))
    have hdz := HP2.out
    have hw1 : IntKind.i64.wrap (16384 - (o.data.size : Int)) = 16384 - (o.data.size : Int) := IntWalk.i64_in _ ⟨by omega, by omega⟩
    by_cases hbig : 16384 < o.off + (o.data.size : Int)
    · have HQ2 : Hid (R = (noA 13, G)) := by show R = _; rw [HQ1.out, if_pos hbig]
      have hb2 : 16384 - (o.data.size : Int) < o.off := by omega
      clear HQ HQ1 hbig hdz
      go_wp2_with fail
      refine (refused_any 13 _).mono ?_
      rintro e1 w3 ⟨rfl, hb⟩
      have HF3 := Lib.hid (HF2.out.keep hb)
      have HT3 := Lib.hid (HT2.out.keep hb)
      clear hb
      obtain ⟨⟨s1, s2⟩, s3, s4, s5⟩ := HF3.out.ba.st4
      unfold ansV nilS
      go_wp2
      refine bodyPost_ret (results_cell_row rfl _ _ a 33 _ (0, 0) _ rfl (HF3.out.ba.pt4 _ _ _ _) Tryz.underlying33 rfl sizeAns) rfl ?_
      exact OpRes.refuse HT0.out HX.out HQ2.out HF3.out _ _ _ _
    obtain ⟨f, hf⟩ : ∃ f : Nat, o.off = (f : Int) := ⟨o.off.toNat, by omega⟩
    have HQ2 : Hid (R = (⟨0, (o.data.size : Nat), noB, []⟩, textSet G n (writB rn.t.text f o.data))) := by
      show R = _
      rw [HQ1.out, if_neg hbig, hf, Int.toNat_natCast]
    have HOF := Lib.hid hf
    rw [hf] at c3
    have hb2 : ¬ 16384 - (o.data.size : Int) < (f : Int) := by omega
    have h00 : ¬ (f : Int) < 0 := by omega
    have hsum : f + o.data.size ≤ 16384 := by omega
    have hws := writB_size (d := o.data) (off := f) HTZ.out hsum
    have HWR := Lib.hid (fun W => written_any rn.t.text o.data f HTZ.out hsum W)
    have HRL := Lib.hid (rel_tx HX.out HRN.out HFD.out hws HT0.out.nodup)
    clear HQ HQ1 hoff hbig hf hsum hws hdz
    obtain ⟨V, hV⟩ : ∃ V, V = writB rn.t.text f o.data := ⟨_, rfl⟩
    rw [← hV] at HRL HWR HQ2
    go_wp2_with fail
    have d2 : w2.drew.cell? ⟨rn.p, 2, none⟩ = some (.string rn.t.text) := (HT2.out.at_ HRN.out).1.cell 2 _ rfl
    have e3 : w2.drew.cell? ⟨g, 3, none⟩ = some (.int .i64 f) := c3
    have e5 : w2.drew.cell? ⟨g, 5, none⟩ = some (.string o.data) := c5
    clear hV
    generalize rn.t.text = T at *
    refine wp_region_tree (fun W => W.cell? ⟨rn.p, 2, none⟩ = some (.string T) ∧ W.cell? ⟨g, 3, none⟩ = some (.int .i64 f) ∧ W.cell? ⟨g, 5, none⟩ = some (.string o.data)) 10 (.quiet 0 (.quiet 1 (.quiet 2 (.quiet 3 (.quiet 4 (.quiet 5 (.quiet 6 (.quiet 7 (.quiet 8 (.make 9 .nil)))))))))) (by kernel_rfl) (by kernel_rfl) ⟨d2, e3, e5⟩ ?_
    simp only [List.drop_succ_cons, List.drop_zero]
    iterate 9 (apply wpTr_step rfl; (intro W hS K hK; obtain ⟨u0, u1, u2⟩ := hS; go_simp; exact hK _ rfl))
    refine wpTr_make rfl (fun K' hK => ?_)
    go_simp
    refine (HWR.out _).mono ?_
    rintro e1 w3 ⟨rfl, hb⟩
    have hb3 : Below w2.heap.size w2 w3 := (Below.refl _ w2).drew.trans hb
    have HF3 := Lib.hid (HF2.out.keep hb3)
    have HT3 := Lib.hid (HT2.out.keep hb3)
    have HD2 := Lib.hid (hb3.cell (p := ⟨rn.p, 2, none⟩) (HT2.out.at_ HRN.out).1.lt)
    have d23 : w3.cell? ⟨rn.p, 2, none⟩ = some (.string T) := HD2.out.trans d2
    have f23 : w3.frozen? ⟨rn.p, 2, none⟩ = false := (HT3.out.at_ HRN.out).1.free 2
    refine hK _ _ _ (fun _ h => h) ⟨d23, HF3.out.bo.cell 3 _ (by show _ = _; simp [opA, HOF.out]), HF3.out.bo.cell 5 _ rfl⟩ ?_
    clear hK K' hb hb3 d2 e3 e5 c3 c5 HF2 HT2
    refine wpTr_nil ?_
    have HT4 := Lib.hid (HT3.out.setText HRN.out (V))
    have hrnx : rn.p ∈ x.blocks := row_mem HRN.out rn.p (by simp [RowD.blk])
    have hrng : rn.p < g := by rw [HGW.out]; exact HBL.out _ hrnx
    have hb4 := Fr.chg HF3.out (Chg.only (Only.set rn.p 2 w3 (.string (V)))) (fun j hj => by rw [List.mem_singleton.1 hj]; exact hrng)
    have HB4 := Lib.hid hb4.2
    have HC4 : Hid (Chg x.blocks w3 (w3.setCell ⟨rn.p, 2, none⟩ (.string (V)))) := (Chg.only (Only.set rn.p 2 w3 _)).mono (fun i hi => by rw [List.mem_singleton.1 hi]; exact hrnx)
    have c5 : (w3.setCell ⟨rn.p, 2, none⟩ (.string V)).cell? ⟨g, 5, none⟩ = some (.string o.data) := hb4.1.cell 5 _ rfl
    obtain ⟨⟨s1, s2⟩, s3, s4, s5⟩ := HB4.out.st4
    clear hrnx hrng hb4
    go_wp2
    refine bodyPost_ret (results_cell_row rfl _ _ a 33 _ (0, 0) _ rfl (HB4.out.pt4 _ _ _ _) Tryz.underlying33 rfl sizeAns) rfl ?_
    have hdone : Done x R.2 (k + 1) [] w3 (w3.setCell ⟨rn.p, 2, none⟩ (.string V)) := by
      refine ⟨setR x (n : Int) { rn.t with text := V }, rfl, HT4.out, ?_, HC4.out, fun j hj => ?_⟩
      · rw [HQ2.out]
        exact HRL.out
      · rw [setR_blk] at hj
        exact .inl hj
    exact OpRes.put HF3.out hdone HBL.out (fun j hj => by cases hj) (by rw [HQ2.out]) _ _ _ _
set_option maxRecDepth 100000 in
set_option maxHeartbeats 4000000 in
theorem truncate_any (o : OpD) (ho : o.do_ = 8) (hp : o.path.size ≤ 100000) : Calls Tryz.prog 52 #[.pointer (some ⟨x.b, 0, none⟩), opV o] w (OpRes x k w (doG G o)) := by
  obtain ⟨R, hR⟩ : ∃ R, R = doG G o := ⟨_, rfl⟩
  rw [← hR]
  have HR : Hid (R = fileG G o.path fun n => if o.len < 0 then (noA 1, G) else if 16384 < o.len then (noA 13, G) else (noA 0, textSet G n (sizedB (textG G n) o.len.toNat))) := by
    show R = _
    rw [hR]
    unfold doG
    simp only [ho]
    rfl
  have HT0 := Lib.hid h
  have HX := Lib.hid hr
  have HK := Lib.hid hk
  have HP := Lib.hid hp
  have HBL : Hid (∀ j ∈ x.blocks, j < w.heap.size) := h.lt
  have HF1 : Hid (Fr w w.heap.size (w.heap.size + 1) o ((w.alloc (.cells #[.int .i64 o.do_, .string o.path, .string o.dst, .int .i64 o.off, .int .i64 o.len, .string o.data] 36 (0, 0))).alloc (.cells #[.int .i64 0, .int .i64 0, .string ⟨#[]⟩, .slice none 0 0] 33 (0, 0)))) := Fr.new w o
  have HT1 := Lib.hid (h.keep HF1.out.toW)
  have c1 : ((w.alloc (.cells #[.int .i64 o.do_, .string o.path, .string o.dst, .int .i64 o.off, .int .i64 o.len, .string o.data] 36 (0, 0))).alloc (.cells #[.int .i64 0, .int .i64 0, .string ⟨#[]⟩, .slice none 0 0] 33 (0, 0))).cell? ⟨w.heap.size, 1, none⟩ = some (.string o.path) := HF1.out.bo.cell 1 _ rfl
  obtain ⟨g, hg⟩ : ∃ g, g = w.heap.size := ⟨_, rfl⟩
  obtain ⟨a, ha⟩ : ∃ a, a = w.heap.size + 1 := ⟨_, rfl⟩
  rw [← ha, ← hg] at HF1
  have HGW := Lib.hid hg
  clear h hr hk hp ho hR
  have HFA := Lib.hid (fun W (q : TrAt W x) => file_any q HX.out HK.out o.path HP.out)
  unfold opV
  go_enter Tryz.func52, Tryz.ntmps52
  go_wp2_with fail
  rw [← ha, ← hg]
  clear ha hg c1
  generalize World.alloc (World.alloc w _) _ = w1 at *
  refine (HFA.out _ HT1.out).mono ?_
  rintro e1 w2 ⟨rfl, hb⟩
  have HF2 := Lib.hid (HF1.out.keep hb)
  have HT2 := Lib.hid (HT1.out.keep hb)
  clear hb HF1 HT1 HFA
  rcases file_cases HX.out o.path with ⟨n, e, hfe, hne, hK⟩ | ⟨n, t, hfe, hsp, hat, hft, hfd, hK⟩
  · rw [hfe]
    have HQ : Hid (R = (noA e, G)) := HR.out.trans (hK _)
    have hz : (e != 0) = true := by simpa using hne
    clear hfe hne hK HR
    go_wp2_with fail
    refine (refused_any e _).mono ?_
    rintro e1 w3 ⟨rfl, hb⟩
    have HF3 := Lib.hid (HF2.out.keep hb)
    have HT3 := Lib.hid (HT2.out.keep hb)
    clear hb
    obtain ⟨⟨s1, s2⟩, s3, s4, s5⟩ := HF3.out.ba.st4
    unfold ansV nilS
    go_wp2
    refine bodyPost_ret (results_cell_row rfl _ _ a 33 _ (0, 0) _ rfl (HF3.out.ba.pt4 _ _ _ _) Tryz.underlying33 rfl sizeAns) rfl ?_
    exact OpRes.refuse HT0.out HX.out HQ.out HF3.out _ _ _ _
  · rw [hfe]
    have HQ := Lib.hid (HR.out.trans (hK _))
    obtain ⟨rn, hrn, hrt⟩ := TrD.row hft
    have HRN := Lib.hid hrn
    have hnb := HX.out.numB hft
    have hkk := HK.out
    have HNB : Hid (0 ≤ (n : Int) ∧ (n : Int) ≤ 4611686018427387904) := ⟨hnb.1, by omega⟩
    have htx : textG G n = rn.t.text := by
      unfold textG
      rw [HX.out.th n t hft, hrt]
    have htz := HX.out.wf.small n
    rw [htx] at htz
    have HFD : Hid (rn.t.dir = false) := by rw [hrt]; exact hfd
    have t0 : w2.cell? ⟨x.b, 0, none⟩ = some (.map (some x.m)) := HT2.out.box.cell 0 _ rfl
    have lk1 := HT2.out.look hrn hnb.1 (by omega)
    rw [htx] at HQ
    have HTZ := Lib.hid htz
    clear hfe hrn hrt hnb hkk hat hft hfd hsp hK HR htx htz
    have c4 : w2.cell? ⟨g, 4, none⟩ = some (.int .i64 o.len) := HF2.out.bo.cell 4 _ rfl
    by_cases hoff : o.len < 0
    · have HQ2 : Hid (R = (noA 1, G)) := by show R = _; rw [HQ.out, if_pos hoff]
      clear HQ
      go_wp2_with fail
      refine (refused_any 1 _).mono ?_
      rintro e1 w3 ⟨rfl, hb⟩
      have HF3 := Lib.hid (HF2.out.keep hb)
      have HT3 := Lib.hid (HT2.out.keep hb)
      clear hb
      obtain ⟨⟨s1, s2⟩, s3, s4, s5⟩ := HF3.out.ba.st4
      unfold ansV nilS
      go_wp2
      refine bodyPost_ret (results_cell_row rfl _ _ a 33 _ (0, 0) _ rfl (HF3.out.ba.pt4 _ _ _ _) Tryz.underlying33 rfl sizeAns) rfl ?_
      exact OpRes.refuse HT0.out HX.out HQ2.out HF3.out _ _ _ _
    have HQ1 := Lib.hid (HQ.out.trans (if_neg hoff))
    by_cases hbig : 16384 < o.len
    · have HQ2 : Hid (R = (noA 13, G)) := by show R = _; rw [HQ1.out, if_pos hbig]
      clear HQ HQ1
      go_wp2_with fail
      refine (refused_any 13 _).mono ?_
      rintro e1 w3 ⟨rfl, hb⟩
      have HF3 := Lib.hid (HF2.out.keep hb)
      have HT3 := Lib.hid (HT2.out.keep hb)
      clear hb
      obtain ⟨⟨s1, s2⟩, s3, s4, s5⟩ := HF3.out.ba.st4
      unfold ansV nilS
      go_wp2
      refine bodyPost_ret (results_cell_row rfl _ _ a 33 _ (0, 0) _ rfl (HF3.out.ba.pt4 _ _ _ _) Tryz.underlying33 rfl sizeAns) rfl ?_
      exact OpRes.refuse HT0.out HX.out HQ2.out HF3.out _ _ _ _
    obtain ⟨f, hf⟩ : ∃ f : Nat, o.len = (f : Int) := ⟨o.len.toNat, by omega⟩
    have HQ2 : Hid (R = (noA 0, textSet G n (sizedB rn.t.text f))) := by
      show R = _
      rw [HQ1.out, if_neg hbig, hf, Int.toNat_natCast]
    have HOF := Lib.hid hf
    rw [hf] at c4
    have hb2 : ¬ 16384 < (f : Int) := by omega
    have h00 : ¬ (f : Int) < 0 := by omega
    have hsum : f ≤ 16384 := by omega
    have HWR := Lib.hid (fun W => sized_any rn.t.text f HTZ.out hsum W)
    have HRL := Lib.hid (rel_tx HX.out HRN.out HFD.out (s := sizedB rn.t.text f) (by rw [sizedB_size]; exact hsum) HT0.out.nodup)
    clear HQ HQ1 hoff hbig hf hsum
    obtain ⟨V, hV⟩ : ∃ V, V = sizedB rn.t.text f := ⟨_, rfl⟩
    rw [← hV] at HRL HWR HQ2
    go_wp2_with fail
    have d2 : w2.drew.cell? ⟨rn.p, 2, none⟩ = some (.string rn.t.text) := (HT2.out.at_ HRN.out).1.cell 2 _ rfl
    have e3 : w2.drew.cell? ⟨g, 4, none⟩ = some (.int .i64 f) := c4
    clear hV
    generalize rn.t.text = T at *
    refine wp_region_tree (fun W => W.cell? ⟨rn.p, 2, none⟩ = some (.string T) ∧ W.cell? ⟨g, 4, none⟩ = some (.int .i64 f)) 8 (.quiet 0 (.quiet 1 (.quiet 2 (.quiet 3 (.quiet 4 (.quiet 5 (.quiet 6 (.make 7 .nil)))))))) (by kernel_rfl) (by kernel_rfl) ⟨d2, e3⟩ ?_
    simp only [List.drop_succ_cons, List.drop_zero]
    iterate 7 (apply wpTr_step rfl; (intro W hS K hK; obtain ⟨u0, u1⟩ := hS; go_simp; exact hK _ rfl))
    refine wpTr_make rfl (fun K' hK => ?_)
    go_simp
    refine (HWR.out _).mono ?_
    rintro e1 w3 ⟨rfl, hb⟩
    have hb3 : Below w2.heap.size w2 w3 := (Below.refl _ w2).drew.trans hb
    have HF3 := Lib.hid (HF2.out.keep hb3)
    have HT3 := Lib.hid (HT2.out.keep hb3)
    have HD2 := Lib.hid (hb3.cell (p := ⟨rn.p, 2, none⟩) (HT2.out.at_ HRN.out).1.lt)
    have d23 : w3.cell? ⟨rn.p, 2, none⟩ = some (.string T) := HD2.out.trans d2
    have f23 : w3.frozen? ⟨rn.p, 2, none⟩ = false := (HT3.out.at_ HRN.out).1.free 2
    refine hK _ _ _ (fun _ h => h) ⟨d23, HF3.out.bo.cell 4 _ (by show _ = _; simp [opA, HOF.out])⟩ ?_
    clear hK K' hb hb3 d2 e3 c4 HF2 HT2
    refine wpTr_nil ?_
    have HT4 := Lib.hid (HT3.out.setText HRN.out (V))
    have hrnx : rn.p ∈ x.blocks := row_mem HRN.out rn.p (by simp [RowD.blk])
    have hrng : rn.p < g := by rw [HGW.out]; exact HBL.out _ hrnx
    have hb4 := Fr.chg HF3.out (Chg.only (Only.set rn.p 2 w3 (.string (V)))) (fun j hj => by rw [List.mem_singleton.1 hj]; exact hrng)
    have HB4 := Lib.hid hb4.2
    have HC4 : Hid (Chg x.blocks w3 (w3.setCell ⟨rn.p, 2, none⟩ (.string (V)))) := (Chg.only (Only.set rn.p 2 w3 _)).mono (fun i hi => by rw [List.mem_singleton.1 hi]; exact hrnx)
    obtain ⟨⟨s1, s2⟩, s3, s4, s5⟩ := HB4.out.st4
    clear hrnx hrng hb4
    go_wp2
    refine bodyPost_ret (results_cell_row rfl _ _ a 33 _ (0, 0) _ rfl (HB4.out.pt4 _ _ _ _) Tryz.underlying33 rfl sizeAns) rfl ?_
    have hdone : Done x R.2 (k + 1) [] w3 (w3.setCell ⟨rn.p, 2, none⟩ (.string V)) := by
      refine ⟨setR x (n : Int) { rn.t with text := V }, rfl, HT4.out, ?_, HC4.out, fun j hj => ?_⟩
      · rw [HQ2.out]
        exact HRL.out
      · rw [setR_blk] at hj
        exact .inl hj
    exact OpRes.put HF3.out hdone HBL.out (fun j hj => by cases hj) (by rw [HQ2.out]; rfl) _ _ _ _
end
end Go.Proofs.YteimpebfenpifaaGreatDoor

namespace Go.Proofs
open Go.Shelf
def Tryz.keysM_ren : Go.Shelf.Ren := ⟨fun | 7 => 80 | 10 => 96 | n => n, fun | 23 => 65 | 26 => 9 | 3 => 3 | 28 => 81 | 0 => 0 | 27 => 80 | 33 => 77 | 4 => 4 | n => n, fun | n => n⟩
theorem Tryz.keysM : Go.Proofs.SlLaysZ.n7 Tryz.prog Tryz.keysM_ren := {
  mixed := by kernel_rfl
  f7 := ⟨Tryz.f80.name, by decide, Tryz.func80.trans (congrArg some (by kernel_rfl))⟩
  f10 := ⟨Tryz.f96.name, by decide, Tryz.func96.trans (congrArg some (by kernel_rfl))⟩
  t0 := Tryz.underlying0
  a0 := Tryz.isAgg0
  z0 := Tryz.sizeOf0
  v0 := Tryz.zeroValue0
  t4 := Tryz.underlying4
  a4 := Tryz.isAgg4
  z4 := Tryz.sizeOf4
  v4 := Tryz.zeroValue4
  t23 := Tryz.underlying65
  a23 := Tryz.isAgg65
  z23 := Tryz.sizeOf65
  v23 := Tryz.zeroValue65
  t26 := Tryz.underlying9
  a26 := Tryz.isAgg9
  z26 := Tryz.sizeOf9
  v26 := Tryz.zeroValue9
  t27 := Tryz.underlying80
  a27 := Tryz.isAgg80
  z27 := Tryz.sizeOf80
  v27 := Tryz.zeroValue80
  t28 := Tryz.underlying81
  a28 := Tryz.isAgg81
  z28 := Tryz.sizeOf81
  v28 := Tryz.zeroValue81
  t33 := Tryz.underlying77
  a33 := Tryz.isAgg77
  z33 := Tryz.sizeOf77
  v33 := Tryz.zeroValue77
}
def Tryz.sortM_ren : Go.Shelf.Ren := ⟨fun | 6 => 79 | 8 => 94 | 9 => 95 | 11 => 106 | n => n, fun | 26 => 9 | 28 => 81 | 24 => 31 | 0 => 0 | 3 => 3 | 4 => 4 | 33 => 77 | n => n, fun | n => n⟩
theorem Tryz.sortM : Go.Proofs.SlLaysZ.n6 Tryz.prog Tryz.sortM_ren := {
  mixed := by kernel_rfl
  f6 := ⟨Tryz.f79.name, by decide, Tryz.func79.trans (congrArg some (by kernel_rfl))⟩
  f8 := ⟨Tryz.f94.name, by decide, Tryz.func94.trans (congrArg some (by kernel_rfl))⟩
  f11 := ⟨Tryz.f106.name, by decide, Tryz.func106.trans (congrArg some (by kernel_rfl))⟩
  t0 := Tryz.underlying0
  a0 := Tryz.isAgg0
  z0 := Tryz.sizeOf0
  v0 := Tryz.zeroValue0
  t24 := Tryz.underlying31
  a24 := Tryz.isAgg31
  z24 := Tryz.sizeOf31
  v24 := Tryz.zeroValue31
  t26 := Tryz.underlying9
  a26 := Tryz.isAgg9
  z26 := Tryz.sizeOf9
  v26 := Tryz.zeroValue9
  t28 := Tryz.underlying81
  a28 := Tryz.isAgg81
  z28 := Tryz.sizeOf81
  v28 := Tryz.zeroValue81
  i26 := by kernel_rfl }
def Tryz.cloneM_ren : Go.Shelf.Ren := ⟨fun | 5 => 28 | 7 => 43 | n => n, fun | 4 => 4 | 20 => 20 | 23 => 65 | 25 => 9 | 3 => 3 | n => n, fun | n => n⟩
theorem Tryz.cloneM : Go.Proofs.SlLaysW.n5 Tryz.prog Tryz.cloneM_ren := {
  mixed := by kernel_rfl
  f5 := ⟨Tryz.f28.name, by decide, Tryz.func28.trans (congrArg some (by kernel_rfl))⟩
  f7 := Tryz.func43.trans (congrArg some (by kernel_rfl))
  t4 := Tryz.underlying4
  a4 := Tryz.isAgg4
  z4 := Tryz.sizeOf4
  v4 := Tryz.zeroValue4
  t20 := Tryz.underlying20
  a20 := Tryz.isAgg20
  z20 := Tryz.sizeOf20
  v20 := Tryz.zeroValue20
  t23 := Tryz.underlying65
  a23 := Tryz.isAgg65
  z23 := Tryz.sizeOf65
  v23 := Tryz.zeroValue65
}
end Go.Proofs
namespace Go.Proofs.YteimpebfenpifaaGreatDoor
open Go.RowKit Go.Maps Go.Sort Go.Shelf Go.Lib

theorem sortsM (m : Nat) : AnyZ.SortsIn Tryz.prog Tryz.sortM_ren Fence.wide m :=
  ⟨fun blk off cap ss W hH hblk hsz => callsIn_wide.2 (Tryz.slices_Sort_string blk off cap ss W hH hblk hsz),
   fun p cap W => callsIn_wide.2 (Tryz.slices_Sort_string_none p cap W)⟩
theorem names_perm {w : World} {m n : Nat} {D : DataW Unit} {e : List (ByteArray × Int)} (hown : w.ownsMap Tryz.prog 9 EnS.rd m n D) (h : MapIs EnS D e) : (e.map (fun x => pb x.1)).Perm (strKeys D) := by
  refine Collected.perm (left := fun _ => false) ⟨?_, fun x => ?_⟩ hown EnS.keyed Tryz.underlying9 (fun _ => rfl)
  · unfold List.Nodup
    rw [List.pairwise_map]
    refine List.Pairwise.imp ?_ h.nodup
    intro a b hab q
    exact hab (pb_ext q)
  · have h1 := h.has ⟨x.toArray⟩
    have h2 : EnS.kl ⟨x.toArray⟩ = .string x := by show enkl _ = _; unfold enkl; simp
    rw [h2] at h1
    rw [h1]
    constructor
    · intro hx
      obtain ⟨y, hy, rfl⟩ := List.mem_map.1 hx
      have : (⟨(pb y.1).toArray⟩ : ByteArray) = y.1 := pb_ext (pb_mk _)
      rw [this, findL_of_mem h.nodup hy]
      exact ⟨rfl, rfl⟩
    · rintro ⟨hx, _⟩
      cases q : findL e ⟨x.toArray⟩ with
      | none => rw [q] at hx; cases hx
      | some v => exact List.mem_map.2 ⟨_, findL_mem q, pb_mk x⟩
theorem insB_perm (x : ByteArray) : ∀ l, (insB x l).Perm (x :: l)
  | [] => List.Perm.refl _
  | y :: r => by
    unfold insB
    split
    · exact List.Perm.refl _
    · exact (List.Perm.cons y (insB_perm x r)).trans (List.Perm.swap x y r)
theorem sortB_perm : ∀ l, (sortB l).Perm l
  | [] => List.Perm.refl _
  | x :: r => (insB_perm x _).trans (List.Perm.cons x (sortB_perm r))
theorem insB_sorted (x : ByteArray) : ∀ {l : List ByteArray}, l.Pairwise (fun a b => a.data.toList ≤ b.data.toList) → (insB x l).Pairwise (fun a b => a.data.toList ≤ b.data.toList)
  | [], _ => by simp [insB]
  | y :: r, h => by
    unfold insB
    have hc := List.pairwise_cons.1 h
    by_cases e : x.data.toList < y.data.toList
    · rw [if_pos e]
      refine List.pairwise_cons.2 ⟨fun z hz => ?_, h⟩
      rcases List.mem_cons.1 hz with q | q
      · rw [q]; exact List.le_of_lt e
      · exact List.le_trans (List.le_of_lt e) (hc.1 z q)
    · rw [if_neg e]
      refine List.pairwise_cons.2 ⟨fun z hz => ?_, insB_sorted x hc.2⟩
      rcases List.mem_cons.1 ((insB_perm x r).subset hz) with q | q
      · rw [q]; exact List.not_lt.1 e
      · exact hc.1 z q
theorem sortB_sorted : ∀ l, (sortB l).Pairwise (fun a b => a.data.toList ≤ b.data.toList)
  | [] => List.Pairwise.nil
  | x :: r => insB_sorted x (sortB_sorted r)
theorem sorted_unique {l : List ByteArray} {ss : List (List UInt8)} (h : ss.Perm (l.map pb)) : ss.mergeSort (fun x y => decide (x ≤ y)) = (sortB l).map pb := by
  have tr : ∀ a b c : List UInt8, decide (a ≤ b) = true → decide (b ≤ c) = true → decide (a ≤ c) = true := fun a b c h1 h2 => by simp only [decide_eq_true_eq] at *; exact List.le_trans h1 h2
  have tot : ∀ a b : List UInt8, (decide (a ≤ b) || decide (b ≤ a)) = true := fun a b => by simp only [Bool.or_eq_true, decide_eq_true_eq]; exact List.le_total a b
  refine List.Perm.eq_of_pairwise (le := fun a b => a ≤ b) (fun a b _ _ h1 h2 => List.le_antisymm h1 h2) ?_ ?_ ?_
  · exact (List.pairwise_mergeSort tr tot ss).imp (fun h => by simpa using h)
  · rw [List.pairwise_map]
    exact sortB_sorted l
  · exact ((List.mergeSort_perm ss _).trans h).trans ((sortB_perm l).symm.map pb)

set_option maxHeartbeats 1000000 in
theorem names_sorted (w : World) (m : Nat) (e : List (ByteArray × Int)) (hM : MapAt EnS w m e) (hlen : e.length ≤ 2000000) :
    Calls Tryz.prog 80 #[.map (some m)] w fun r w' => ∃ f, r = .returned f ∧ Below w.heap.size w w' ∧
      Calls Tryz.prog 79 #[f] w' fun r2 w2 => ∃ v, r2 = .returned v ∧ Ks w2 w'.heap.size v (sortB (e.map (·.1))) ∧ Below w'.heap.size w' w2 := by
  obtain ⟨D, hown, hDI⟩ := hM
  have hsize : Maps.size D = e.length := hDI.size
  have hbl := hown.lt
  have cK : CallsIn Fence.wide 5 Tryz.prog 80 #[.map (some m)] w fun r w' => r = .returned (.func (.func 96) #[] #[.pointer (some ⟨w.heap.size, 0, none⟩)]) ∧ w' = w.alloc (.cells #[.map (some m)] 65) := AnyZ.keys_in Tryz.keysM Fence.wide 5 trivial rfl (some m) w
  refine ((callsIn_wide (n := 5)).1 cK).mono ?_
  rintro r w1 ⟨rfl, rfl⟩
  refine ⟨_, rfl, (Below.refl _ w).alloc (Nat.le_refl _) _, ?_⟩
  have hseq : SeqGives Fence.wide 2 Tryz.prog 96 #[.pointer (some ⟨w.heap.size, 0, none⟩)] encStr (fun ss => ss.Perm (strKeys D)) (Maps.size D) (w.alloc (.cells #[.map (some m)] 65)) :=
    AnyZ.keys_gives (ρ := Tryz.keysM_ren) { Tryz.keysM with } Fence.wide _ trivial rfl (by omega) w.heap.size m _ D _ (by simp) (by simp) (by
      obtain ⟨es, clock, hb, Ft, hs, hD⟩ := hown
      exact ⟨es, clock, (Below.heap_alloc _ _ m hbl).trans hb, Ft, hs, hD⟩)
  have cS := AnyZ.sorted_in Tryz.sortM Fence.wide 5 trivial trivial trivial trivial rfl (by omega) (sortsM _) (enters_of Tryz.func95 (by kernel_rfl) rfl) 96 #[.pointer (some ⟨w.heap.size, 0, none⟩)] trivial (enters_of Tryz.func96 (by kernel_rfl) rfl) _ _ (by rw [hsize]; unfold maxLen; omega) (by rw [hsize]; omega) _ hseq
  change CallsIn _ _ Tryz.prog 79 _ _ _ at cS
  refine ((callsIn_wide (n := 5)).1 cS).mono ?_
  rintro r w2 ⟨v, ss, rfl, hS, hrow, _, hb⟩
  refine ⟨v, rfl, ?_, hb⟩
  have hp : ss.Perm ((e.map (·.1)).map pb) := by
    have := hS.trans (names_perm hown hDI).symm
    rw [List.map_map]
    exact this
  rw [sorted_unique hp] at hrow
  unfold Ks
  have hl : ss.length = (sortB (e.map (·.1))).length := by
    rw [hp.length_eq, List.length_map, (sortB_perm _).length_eq]
  rw [hl] at hrow
  have hm : ((sortB (e.map (·.1))).map pb).map encStr = (sortB (e.map (·.1))).map Value.string := by
    rw [List.map_map]
    refine List.map_congr_left (fun x _ => ?_)
    show encStr (pb x) = _
    unfold encStr
    exact congrArg Value.string (pb_ext (pb_mk _))
  rw [hm] at hrow
  exact hrow
theorem clone_some (w : World) (m : Nat) (e : List (ByteArray × Int)) (hM : MapAt EnS w m e) :
    Calls Tryz.prog 28 #[.map (some m)] w fun r w' => r = .returned (.map (some w.heap.size)) ∧ MapAt EnS w' w.heap.size e ∧ Below w.heap.size w w' := by
  obtain ⟨D, hown, hDI⟩ := hM
  refine (AnyW.maps_Clone_owns Tryz.cloneM 9 EnS.rd m e.length D w hown).mono ?_
  rintro r w' ⟨rfl, h1, _, h3⟩
  exact ⟨rfl, ⟨D, h1, hDI⟩, h3⟩
theorem clone_none (w : World) : Calls Tryz.prog 28 #[.map none] w fun r w' => r = .returned (.map none) ∧ w' = w := AnyW.maps_Clone_nil Tryz.cloneM w
end Go.Proofs.YteimpebfenpifaaGreatDoor
