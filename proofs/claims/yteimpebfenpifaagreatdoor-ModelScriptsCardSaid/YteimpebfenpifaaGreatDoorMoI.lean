/-
  Package model: add.
-/
import Derived.Test.YteimpebfenpifaaGreatDoorMg17
namespace Go.Proofs.YteimpebfenpifaaGreatDoor
open Go.RowKit Go.ChangeShapes Go.WideShapes Go.ChangeAt

theorem last_new {x : TrD} {G : GD} {k : Nat} (hr : Rel x.M G k) : findL x.M.l (x.last + 1) = none := by
  cases e : findL x.M.l (x.last + 1) with
  | none => rfl
  | some t =>
    have := (hr.num _ _ e).2
    have h2 : x.M.last = x.last := rfl
    omega
theorem noT {G : GD} (hw : WfG G) (l : PathD) (hl : G.T.length ≠ 0) : atE G l ≠ some G.T.length := by
  intro e
  by_cases h0 : l = []
  · subst h0; rw [atE_nil] at e; exact hl (Option.some.inj e).symm
  · rw [atE_ne h0] at e
    have := hw.num _ (findL_mem e)
    omega
theorem rel_add {x : TrD} {G : GD} {k : Nat} (hr : Rel x.M G k) {p : ByteArray} {l : PathD} {c : ByteArray} {d : Nat} {r : RowD} {row : RowD} (hs : splitD p = (l ++ [c], 0)) (hl : atE G l = some d) (hd : dirG G d = true) (hfree : atE G (l ++ [c]) = none) (hc : nameD c)
    (hrr : findL x.rows (d : Int) = some r) (ht : row.t.ents = [] ∧ row.t.text = noB ∧ (row.t.dir = false → row.t.links = 1)) (hnd : NoDupL (addR x row).rows) :
    Rel (setR (addR x row) (d : Int) { r.t with ents := putL r.t.ents c (x.last + 1) }).M (addG G p row.t.dir) (k + 1) := by
  have hft : findL x.M.l (d : Int) = some r.t := by rw [x.find, hrr]; rfl
  have hlast : x.last + 1 = (G.T.length : Int) := hr.last
  have hdn : r.t.dir = true := by rw [← hr.dirs hft]; exact hd
  have hnew := last_new hr
  have hdl := hr.num _ _ hft
  have hxl : x.M.last = x.last := rfl
  have hne : G.T.length ≠ d := by
    intro e
    have : (d : Int) ≤ x.last := by rw [← hxl]; exact hdl.2
    omega
  have h0 : G.T.length ≠ 0 := by omega
  have hM : ∀ j : Int, findL (setR (addR x row) (d : Int) { r.t with ents := putL r.t.ents c (x.last + 1) }).M.l j = if j = d then some { r.t with ents := putL r.t.ents c (x.last + 1) } else if j = x.last + 1 then some row.t else findL x.M.l j := by
    intro j
    rw [setR_M, addR_M x row _ hnew, addR_M x row _ hnew, hft]
    by_cases e : j = (d : Int)
    · rw [if_pos e, if_pos e, if_neg (by omega)]; rfl
    · rw [if_neg e, if_neg e]
  refine rel_attach hr (d := d) (n := G.T.length) (td := r.t) (t' := row.t) hl hft hdn hfree hc ?_ ?_ ?_ ?_ ?_ ?_ ?_ ?_ ?_ hne h0 ht.1 ?_ ?_ ?_ ?_
  · unfold addG; rw [hs]
  · intro j hj
    unfold addG
    dsimp only
    rw [List.getElem?_append]
    split
    · rfl
    · rename_i hlt
      have : j - G.T.length ≠ 0 := by omega
      rw [List.getElem?_eq_none (l := G.T) (by omega), List.getElem?_eq_none]
      simp
      omega
  · unfold addG
    dsimp only
    rw [List.getElem?_append_right (Nat.le_refl _), Nat.sub_self, ht.2.1]
    rfl
  · unfold addG
    dsimp only
    rw [List.length_append]
    have := hr.bT
    simp
    omega
  · unfold addG
    dsimp only
    rw [List.length_append]
    omega
  · show x.last + 1 + 1 = _
    unfold addG
    dsimp only
    rw [List.length_append, List.length_singleton]
    omega
  · intro j
    rw [hM, hlast]
    by_cases e : j = d
    · rw [if_pos (by rw [e]), if_pos e]
    · rw [if_neg (by omega), if_neg e]
      by_cases e2 : j = G.T.length
      · rw [if_pos (by rw [e2]), if_pos e2]
      · rw [if_neg (by omega), if_neg e2]
  · intro j t hj
    show 0 ≤ j ∧ j ≤ x.last + 1
    rw [hM] at hj
    by_cases e : j = (d : Int)
    · omega
    · rw [if_neg e] at hj
      by_cases e2 : j = x.last + 1
      · omega
      · rw [if_neg e2] at hj
        have := hr.num _ _ hj
        omega
  · exact setR_nodup hnd _ _
  · rw [ht.2.1]; exact Nat.zero_le _
  · intro hf
    rw [ht.2.2 hf]
    have : linksG G G.T.length = 0 := by
      unfold linksG
      rw [List.countP_eq_zero]
      intro y hy e
      have := hr.wf.num y hy
      have e : y.2 = G.T.length := by simpa using e
      omega
    rw [this]; rfl
  · intro _ y
    exact noT hr.wf y h0
  · intro y z e
    exact absurd e (noT hr.wf y h0)

theorem len_le {V : Type} : ∀ (b : Nat) (l : List (Int × V)), NoDupL l → (∀ x ∈ l, 0 ≤ x.1 ∧ x.1 < b) → l.length ≤ b
  | 0, [], _, _ => Nat.le_refl _
  | 0, x :: l, _, h => by have := h x List.mem_cons_self; omega
  | b + 1, l, hd, h => by
    have h1 := len_le b (dropL l (b : Int)) (hd.drop _) (fun x hx => by
      have h2 := List.mem_filter.1 hx
      have h3 := h x h2.1
      have h4 : x.1 ≠ (b : Int) := by simpa using h2.2
      omega)
    have h2 := dropL_len (k := (b : Int)) hd
    split at h2 <;> omega
theorem TrAt.rows_len {w : World} {x : TrD} {G : GD} {k : Nat} (h : TrAt w x) (hr : Rel x.M G k) : x.rows.length ≤ k + 1 := by
  have hl := hr.lastB
  have hxl : x.M.last = x.last := rfl
  refine len_le (k + 1) x.rows h.nodup (fun r hm => ?_)
  have := hr.num r.1 r.2.t (by rw [x.find, findL_of_mem h.nodup hm]; rfl)
  omega
theorem TrAt.setEnts {w w' : World} {x : TrD} {n : Int} {r : RowD} {me : Nat} {e : List (ByteArray × Int)} (h : TrAt w x) (hr : findL x.rows n = some r) (hme : r.em = some me) (hc : Chg [me] w w') (hm : MapAt EnS w' me e) : TrAt w' (setR x n { r.t with ents := e }) := by
  have hra := h.at_ hr
  have hs := h.self _ (findL_mem hr)
  refine h.setAt hr (hc.mono (fun i hi => ?_)) ⟨?_, ?_, ?_⟩
  · rw [List.mem_singleton.1 hi]
    unfold RowD.blk
    rw [hme]
    simp
  · exact hra.1.of (hc.block _ hra.1.lt (by simpa using Ne.symm (hs.2.2 me hme)))
  · show EmAt w' r.em e
    rw [hme]
    exact hm
  · exact hra.2.2
theorem Only.toChg {b : Nat} {S : List Nat} {w w' : World} (h : Only b w w') (hb : b ∈ S) : Chg S w w' := (Chg.only h).mono (fun i hi => by rw [List.mem_singleton.1 hi]; exact hb)

section
variable {x : TrD} {G : GD} {k : Nat} {w : World} (h : TrAt w x) (hr : Rel x.M G k) (hk : k ≤ 1000000)
include h hr hk
set_option maxRecDepth 100000 in
set_option maxHeartbeats 8000000 in
theorem add_any (p : ByteArray) (hp : p.size ≤ 100000) {row : RowD} (hrow : RowAt w row) (hdis : ∀ j ∈ row.blk, j ∉ x.blocks) (hem : ∀ e, row.em = some e → e ≠ row.p) (ht : row.t.ents = [] ∧ row.t.text = noB ∧ (row.t.dir = false → row.t.links = 1)) :
    Calls Tryz.prog 68 #[.pointer (some ⟨x.b, 0, none⟩), .string p, .pointer (some ⟨row.p, 0, none⟩)] w fun e w' => e = .returned (ansV (makeG G p row.t.dir).1.code 0 noB nilS) ∧ Done x (makeG G p row.t.dir).2 (k + 1) row.blk w w' := by
  obtain ⟨R, hR⟩ : ∃ R, R = makeG G p row.t.dir := ⟨_, rfl⟩
  rw [← hR]
  have hrow0 := hrow
  obtain ⟨g, hg⟩ : ∃ g, g = w.heap.size := ⟨_, rfl⟩
  have HG := Lib.hid hg
  have HT := Lib.hid h
  have HX := Lib.hid hr
  have HK := Lib.hid hk
  have HTT := Lib.hid ht
  have HDI := Lib.hid hdis
  have HEM := Lib.hid hem
  have HBL : Hid (∀ j ∈ x.blocks, j < w.heap.size) := h.lt
  have HRL : Hid (∀ j ∈ row.blk, j < w.heap.size) := hrow.lt
  have HFA := Lib.hid (fun W (q : TrAt W x) => free_any q hr hk p hp)
  have HFR := Lib.hid (free_rel hr p)
  have HW0 := Lib.hid ((Below.refl w.heap.size w).alloc (Nat.le_refl _) (.cells #[.int .i64 0, .int .i64 0, .string ⟨#[]⟩, .slice none 0 0] 33 (0, 0)))
  have HB0 := Lib.hid (Box.new w 33 #[.int .i64 0, .int .i64 0, .string ⟨#[]⟩, .slice none 0 0])
  have HS0 : Hid (g < (w.alloc (.cells #[.int .i64 0, .int .i64 0, .string ⟨#[]⟩, .slice none 0 0] 33 (0, 0))).heap.size) := by show _ < _; rw [size_alloc]; omega
  have HT0 := Lib.hid (h.keep HW0.out)
  have HRW := Lib.hid hR
  have HR0 := Lib.hid (hrow.of (fun j hj => HW0.out.block j (hrow.lt j hj)))
  clear hR h hr hk hp hrow hdis hem ht hrow0
  go_enter Tryz.func68, Tryz.ntmps68
  go_wp2_with fail
  rw [← hg] at HB0 HW0 HRL HBL ⊢
  clear hg
  generalize World.alloc w _ = w0 at *
  refine (HFA.out _ HT0.out).mono ?_
  rintro e1 w1 ⟨hb, hcase⟩
  have HB1 := Lib.hid (HB0.out.keep hb HS0.out)
  have HW1 := Lib.hid (HW0.out.trans (hb.mono (Nat.le_of_lt HS0.out)))
  have HT1 := Lib.hid (HT0.out.keep hb)
  have HS1 : Hid (g < w1.heap.size) := Nat.lt_of_lt_of_le HS0.out hb.size
  have HR1 := Lib.hid (HR0.out.of (fun j hj => hb.block j (HR0.out.lt j hj)))
  clear hb HB0 HW0 HT0 HS0 HFA HR0
  rcases hcase with ⟨hne, rfl⟩ | ⟨hz, r, me, hrr, hme, rfl⟩
  · have HFE : Hid (R = (noA (freeM x.M p).2.2, G) ∧ (freeM x.M p).2.2 ≠ 0) := by
      refine ⟨?_, hne⟩
      have h1 : freeG G p ≠ 0 := by
        intro e
        obtain ⟨_, _, _, _, _, _, _, _, _, q⟩ := HFR.out.2 e
        rw [q] at hne; exact hne rfl
      rw [HFR.out.1 h1, HRW.out]
      unfold makeG
      rw [if_pos h1]
    generalize (freeM x.M p).2.2 = e at *
    have hz2 : (e != 0) = true := by simpa using hne
    clear hne
    have hal := (Below.refl w1.heap.size w1).alloc (Nat.le_refl _) (.cells #[.map none, .string noB] 106 (0, 0))
    have HB2 := Lib.hid (HB1.out.keep hal HS1.out)
    have HW2 := Lib.hid (HW1.out.trans (hal.mono (Nat.le_of_lt HS1.out)))
    have HT2 := Lib.hid (HT1.out.keep hal)
    have HS2 : Hid (g < (w1.alloc (.cells #[.map none, .string noB] 106 (0, 0))).heap.size) := Nat.lt_of_lt_of_le HS1.out hal.size
    clear hal
    unfold spotV
    go_wp2_with fail
    generalize World.alloc w1 _ = w2 at *
    refine (refused_any e _).mono ?_
    rintro e1 w3 ⟨rfl, hb⟩
    have HB3 := Lib.hid (HB2.out.keep hb HS2.out)
    have HW3 := Lib.hid (HW2.out.trans (hb.mono (Nat.le_of_lt HS2.out)))
    have HT3 := Lib.hid (HT2.out.keep hb)
    have HS3 : Hid (g < w3.heap.size) := Nat.lt_of_lt_of_le HS2.out hb.size
    clear hb HB2 HW2 HT2 HS2 HB1 HW1 HT1 HS1
    obtain ⟨⟨s1, s2⟩, s3, s4, s5⟩ := HB3.out.st4
    unfold ansV nilS
    go_wp2
    refine bodyPost_ret (results_cell_row rfl _ _ g 33 _ (0, 0) _ rfl (HB3.out.pt4 _ _ _ _) Tryz.underlying33 rfl sizeAns) rfl ?_
    rw [HFE.out.1]
    refine ⟨rfl, Done.same HT.out HX.out ?_ _⟩
    rw [← HG.out]
    exact HW3.out.trans ((only_pt4 w3 g _ _ _ _).below' (Nat.le_refl _) (Nat.le_of_lt HS3.out))
  · have hfg : freeG G p = 0 := by
      apply Classical.byContradiction
      intro e
      have := HFR.out.1 e
      rw [this] at hz
      exact e hz
    obtain ⟨l, c, d, q1, q2, q3, q4, q5, q6, q7⟩ := HFR.out.2 hfg
    rw [q7] at hrr
    rw [q7]
    dsimp only at hrr
    have hs : splitD p = (l ++ [c], 0) := Prod.ext q2 q1
    have HFE : Hid (R = (noA 0, addG G p row.t.dir)) := by
      show R = _
      rw [HRW.out]
      unfold makeG
      rw [if_neg (fun e => e hfg)]
    have HRE := Lib.hid (fun (nd : NoDupL (addR x row).rows) => rel_add HX.out hs q3 q4 q5 q6 hrr HTT.out nd)
    have HRR := Lib.hid hrr
    have HME := Lib.hid hme
    have HCL := Lib.hid (name_len q6)
    have HEL : Hid (r.t.ents.length ≤ 2000000) := by
      have := (HX.out.nds d r.t (by rw [x.find, hrr]; rfl)).2
      have := HK.out
      show _ ≤ _
      omega
    have hlb := HX.out.lastB
    have hkk := HK.out
    have HLB : Hid (0 ≤ x.last ∧ x.last ≤ 1000000) := ⟨hlb.1, Int.le_trans hlb.2 (by omega)⟩
    have HNEW := Lib.hid (last_new HX.out)
    have HDN : Hid ((d : Int) ≠ x.last + 1) := by
      have := (HX.out.num d r.t (by rw [x.find, hrr]; rfl)).2
      have h2 : x.M.last = x.last := rfl
      show _ ≠ _
      omega
    clear hz hrr hme hfg q1 q2 q3 q4 q5 q6 q7 hs hlb hkk HRW HFR
    have hal := (Below.refl w1.heap.size w1).alloc (Nat.le_refl _) (.cells #[.map (some me), .string c] 106 (0, 0))
    have HB2 := Lib.hid (HB1.out.keep hal HS1.out)
    have HW2 := Lib.hid (HW1.out.trans (hal.mono (Nat.le_of_lt HS1.out)))
    have HT2 := Lib.hid (HT1.out.keep hal)
    have HS2 : Hid (g < (w1.alloc (.cells #[.map (some me), .string c] 106 (0, 0))).heap.size) := Nat.lt_of_lt_of_le HS1.out hal.size
    have HP2 := Lib.hid (Box.new w1 106 #[.map (some me), .string c])
    have HR2 := Lib.hid (HR1.out.of (fun j hj => hal.block j (HR1.out.lt j hj)))
    obtain ⟨s, hsz⟩ : ∃ s, s = w1.heap.size := ⟨_, rfl⟩
    have HSG : Hid (g < s) := by rw [hsz]; exact HS1.out
    rw [← hsz] at HP2
    have t0 : (w1.alloc (.cells #[.map (some me), .string c] 106 (0, 0))).cell? ⟨x.b, 1, none⟩ = some (.int .i64 x.last) := HT2.out.box.cell 1 _ rfl
    have f0 : (w1.alloc (.cells #[.map (some me), .string c] 106 (0, 0))).frozen? ⟨x.b, 1, none⟩ = false := HT2.out.box.free 1
    have hwr : IntKind.i64.wrap (x.last + 1) = x.last + 1 := i64_small _ (by have := HLB.out; omega) (by have := HLB.out; omega)
    clear hal
    obtain ⟨ln, hln⟩ : ∃ ln, ln = x.last + 1 := ⟨_, rfl⟩
    have HLN := Lib.hid hln
    have hw1 : IntKind.i64.wrap (x.last + 1) = ln := by rw [hln]; exact hwr
    have hw2 : wrap64 (x.last + 1) = ln := by rw [hln]; exact IntWalk.wrap64_in _ (by have := HLB.out; omega)
    clear hln hwr
    obtain ⟨w3, hw3⟩ : ∃ w3, w3 = (w1.alloc (.cells #[.map (some me), .string c] 106 (0, 0))).setCell ⟨x.b, 1, none⟩ (.int .i64 ln) := ⟨_, rfl⟩
    have HO3 : Hid (Only x.b (w1.alloc (.cells #[.map (some me), .string c] 106 (0, 0))) w3) := by rw [hw3]; exact Only.set x.b 1 _ _
    have HX3 : Hid (Box w3 x.b 58 #[.map (some x.m), .int .i64 ln]) := by rw [hw3]; exact HT2.out.box.set 1 _
    unfold spotV
    go_wp2_with fail
    rw [← hsz, ← hw3]
    have HWW : Hid (Below w1.heap.size w1 (w1.alloc (.cells #[.map (some me), .string c] 106 (0, 0)))) := (Below.refl _ _).alloc (Nat.le_refl _) _
    have HSW : Hid (s = w1.heap.size) := hsz
    clear hsz hw3 t0 f0 hw1 hw2
    generalize World.alloc w1 _ = w2 at *
    have HM3 := Lib.hid (HT2.out.map.of (HO3.out.block x.m HT2.out.map.lt (fun e => HT2.out.bm (by injection e with e; exact e.symm))))
    have c0 : w3.drew.cell? ⟨x.b, 0, none⟩ = some (.map (some x.m)) := HX3.out.cell 0 _ rfl
    have c1 : w3.drew.cell? ⟨x.b, 1, none⟩ = some (.int .i64 ln) := HX3.out.cell 1 _ rfl
    refine wp_region_tree (fun W => W.cell? ⟨x.b, 0, none⟩ = some (.map (some x.m)) ∧ W.cell? ⟨x.b, 1, none⟩ = some (.int .i64 ln)) 9 (.quiet 0 (.quiet 1 (.quiet 2 (.quiet 3 (.quiet 4 (.quiet 5 (.quiet 6 (.quiet 7 (.quiet 8 .nil))))))))) (by kernel_rfl) (by kernel_rfl) ⟨c0, c1⟩ ?_
    simp only [List.drop_succ_cons, List.drop_zero]
    iterate 9 (apply wpTr_step rfl; (intro W hS K hK; obtain ⟨u0, u1⟩ := hS; go_simp; exact hK _ rfl))
    refine wpTr_nil ?_
    have hm3 : MapAt ThS w3.drew x.m (x.rows.map (fun r => (r.1, some r.2.p))) := HM3.out.of rfl
    have HLW : Hid ((x.rows.map (fun r => (r.1, some r.2.p))).length < maxLen) := by
      have h1 := HT2.out.rows_len HX.out
      have h2 := HK.out
      show _ < maxLen
      rw [List.length_map]
      unfold maxLen
      omega
    have HKW : Hid ((Lit.int .i64 ln).wf = true) := by
      have := HLB.out
      have := HLN.out
      exact mint_wf (by omega) (by omega)
    go_wp2_with (first
      | (at_mapUpdate; refine map_store (S := ThS) rfl _ _ _ _ rfl rfl rfl hm3 HLW.out (k := ln) (v := some row.p) rfl rfl HKW.out ?_; intro w4 hm4 hc4)
      | fail)
    have HM4 := Lib.hid hm4
    have HC4 : Hid (Chg [x.m] w3 w4) := ⟨hc4.os, hc4.tape, hc4.output, hc4.size, hc4.block⟩
    clear hm4 hc4 hm3 c0 c1
    have hbx4 : Box w4 x.b 58 #[.map (some x.m), .int .i64 ln] := HX3.out.of (HC4.out.block _ HX3.out.lt (by simpa using HT2.out.bm))
    have hxb : ∀ j ∈ x.blocks, j < g := HBL.out
    have hbb : x.b < g := hxb _ (by simp [TrD.blocks])
    have hmb : x.m < g := hxb _ (by simp [TrD.blocks])
    have hsg := HSG.out
    have hC24 : Chg [x.b, x.m] w2 w4 := (HO3.out.toChg (by simp)).trans (HC4.out.mono (by simp))
    have hrow4 : RowAt w4 row := HR2.out.of (fun j hj => hC24.block j (HR2.out.lt j hj) (fun hm => by
      have := HDI.out j hj
      rcases List.mem_cons.1 hm with e | e
      · exact this (by rw [e]; simp [TrD.blocks])
      · exact this (by rw [List.mem_singleton.1 e]; simp [TrD.blocks])))
    have HT4 : Hid (TrAt w4 (addR x row)) := HT2.out.addAt HNEW.out hC24 (by rw [← HLN.out]; exact hbx4) (by rw [← HLN.out]; exact HM4.out) hrow4 HDI.out HEM.out
    have hsp4 : Box w4 s 106 #[.map (some me), .string c] := HP2.out.of (hC24.block s HP2.out.lt (by simp; omega))
    have HB4 : Hid (Box w4 g 33 #[.int .i64 0, .int .i64 0, .string ⟨#[]⟩, .slice none 0 0]) := HB2.out.of (hC24.block g HB2.out.lt (by simp; omega))
    have HW4 : Hid (Chg [x.b, x.m] w w4) := (Chg.of HW2.out (by rw [← HG.out]; exact Nat.le_refl _)).trans hC24
    have c0 : w4.drew.cell? ⟨s, 0, none⟩ = some (.map (some me)) := hsp4.cell 0 _ rfl
    have c1 : w4.drew.cell? ⟨s, 1, none⟩ = some (.string c) := hsp4.cell 1 _ rfl
    have c2 : w4.drew.cell? ⟨x.b, 1, none⟩ = some (.int .i64 ln) := hbx4.cell 1 _ rfl
    clear hbx4 hxb hbb hmb hsg hC24 hrow4 hsp4 HM4 HC4 HM3 HX3 HO3 HP2 HR2 HT2 HB2 HW2 HS2 HB1 HW1 HT1 HS1 HR1
    go_wp2_with fail
    refine wp_region_tree (fun W => W.cell? ⟨s, 0, none⟩ = some (.map (some me)) ∧ W.cell? ⟨s, 1, none⟩ = some (.string c) ∧ W.cell? ⟨x.b, 1, none⟩ = some (.int .i64 ln)) 5 (.quiet 0 (.quiet 1 (.quiet 2 (.quiet 3 (.quiet 4 .nil))))) (by kernel_rfl) (by kernel_rfl) ⟨c0, c1, c2⟩ ?_
    simp only [List.drop_succ_cons, List.drop_zero]
    iterate 5 (apply wpTr_step rfl; (intro W hS K hK; obtain ⟨u0, u1, u2⟩ := hS; go_simp; exact hK _ rfl))
    refine wpTr_nil ?_
    clear c0 c1 c2
    have HRD : Hid (findL (addR x row).rows (d : Int) = some r) := by
      show findL (x.rows ++ [(x.last + 1, row)]) (d : Int) = some r
      rw [findL_app, HRR.out]; rfl
    have hma : MapAt EnS w4.drew me r.t.ents := by
      have h1 := (HT4.out.at_ HRD.out).2.1
      rw [HME.out] at h1
      exact MapAt.of h1 rfl
    have HFL := Lib.hid (fill_any w4.drew hma HEL.out c HCL.out ln)
    unfold spotV at HFL
    clear hma
    go_wp2_with fail
    refine HFL.out.mono ?_
    rintro e1 w5 ⟨rfl, hm5, hc5⟩
    have hc5' : Chg [me] w4 w5 := ⟨hc5.os, hc5.tape, hc5.output, hc5.size, hc5.block⟩
    have HT5 := Lib.hid (HT4.out.setEnts HRD.out HME.out hc5' hm5)
    have hmex : me ∈ x.blocks := row_mem HRR.out me (by unfold RowD.blk; rw [HME.out]; simp)
    have HB5 := Lib.hid (HB4.out.of (hc5'.block g HB4.out.lt (by have := HBL.out me hmex; simp; omega)))
    have HW5 : Hid (Chg x.blocks w w5) := (HW4.out.mono (fun i hi => by
      rcases List.mem_cons.1 hi with e | e
      · rw [e]; simp [TrD.blocks]
      · rw [List.mem_singleton.1 e]; simp [TrD.blocks])).trans (hc5'.mono (fun i hi => by rw [List.mem_singleton.1 hi]; exact hmex))
    clear hm5 hc5 hc5' HFL HB4 HW4
    obtain ⟨⟨s1, s2⟩, s3, s4, s5⟩ := HB5.out.st4
    go_wp2
    refine bodyPost_ret (results_cell_row rfl _ _ g 33 _ (0, 0) _ rfl (HB5.out.pt4 _ _ _ _) Tryz.underlying33 rfl sizeAns) rfl ?_
    rw [HFE.out]
    refine ⟨rfl, ?_⟩
    have hBL : ∀ j ∈ (setR (addR x row) (d : Int) { r.t with ents := putL r.t.ents c ln }).blocks, j ∈ x.blocks ∨ j ∈ row.blk ∨ w.heap.size ≤ j := by
      intro j hj
      rw [setR_blk] at hj
      rcases addR_blk x row j hj with e | e
      · exact .inl e
      · exact .inr (.inl e)
    have hNG : ∀ j ∈ (setR (addR x row) (d : Int) { r.t with ents := putL r.t.ents c ln }).blocks, j ≠ g := by
      intro j hj e
      rw [setR_blk] at hj
      rcases addR_blk x row j hj with q | q
      · have := HBL.out j q; omega
      · have := HRL.out j q; omega
    refine ⟨setR (addR x row) (d : Int) { r.t with ents := putL r.t.ents c ln }, rfl, HT5.out.chg (Chg.only (only_pt4 w5 g _ _ _ _)) (fun j hj hm => ?_), ?_, HW5.out.then (Chg.only (only_pt4 w5 g _ _ _ _)) (fun i hi => .inr (by rw [List.mem_singleton.1 hi, HG.out]; exact Nat.le_refl _)), hBL⟩
    · have h1 := hBL j hj
      rw [List.mem_singleton.1 hm] at h1
      rcases h1 with e | e | e
      · have := HBL.out g e; omega
      · have := HRL.out g e; omega
      · exact hNG j hj (List.mem_singleton.1 hm)
    · rw [HLN.out]
      exact HRE.out HT4.out.nodup
end
end Go.Proofs.YteimpebfenpifaaGreatDoor
