/-
  Texts put together: MoO, MoP.
-/
import Derived.Test.YteimpebfenpifaaGreatDoorMoN
namespace Go.Proofs.YteimpebfenpifaaGreatDoor
open Go Go.RowKit Go.ChangeShapes Go.WideShapes Go.ChangeAt

theorem perm_of_same {α : Type} [DecidableEq α] : ∀ {l m : List α}, l.Nodup → m.Nodup → (∀ a, a ∈ l ↔ a ∈ m) → l.Perm m
  | [], m, _, _, h => by
    have : m = [] := List.eq_nil_iff_forall_not_mem.2 (fun a ha => by have := (h a).2 ha; cases this)
    rw [this]
  | x :: l, m, hl, hm, h => by
    have hx : x ∈ m := (h x).1 List.mem_cons_self
    have h1 := List.perm_cons_erase hx
    refine (List.Perm.cons x (perm_of_same (List.nodup_cons.1 hl).2 (hm.erase x) (fun a => ?_))).trans h1.symm
    rw [hm.mem_erase_iff]
    constructor
    · intro ha
      exact ⟨fun e => (List.nodup_cons.1 hl).1 (by rw [← e]; exact ha), (h a).1 (List.mem_cons_of_mem _ ha)⟩
    · rintro ⟨h2, h3⟩
      rcases List.mem_cons.1 ((h a).2 h3) with e | e
      · exact absurd e h2
      · exact e
theorem kid_iff {l : PathD} {x : PathD × Nat} {c : ByteArray} : kidG l x = some c ↔ x.1 = l ++ [c] := by
  unfold kidG
  constructor
  · intro h
    by_cases e : x.1 ≠ [] ∧ x.1.dropLast = l
    · rw [if_pos e] at h
      rcases List.eq_nil_or_concat x.1 with q | ⟨r, y, q⟩
      · exact absurd q e.1
      · rw [List.concat_eq_append] at q
        rw [q] at h e ⊢
        simp at h e
        rw [e, h]
    · rw [if_neg e] at h; cases h
  · intro h
    rw [h, if_pos ⟨snoc_ne l c, by simp⟩]
    simp
theorem kids_mem {G : GD} (hw : WfG G) {l : PathD} {c : ByteArray} : c ∈ kidsG G l ↔ (atE G (l ++ [c])).isSome = true := by
  unfold kidsG
  rw [List.mem_filterMap, atE_snoc]
  constructor
  · rintro ⟨x, hx, h⟩
    rw [kid_iff] at h
    rw [← h, findL_of_mem hw.nd hx]; rfl
  · intro h
    obtain ⟨n, hn⟩ := Option.isSome_iff_exists.1 h
    exact ⟨_, findL_mem hn, kid_iff.2 rfl⟩
theorem kids_nodup {G : GD} (hw : WfG G) (l : PathD) : (kidsG G l).Nodup := by
  unfold kidsG List.Nodup
  rw [List.pairwise_filterMap]
  refine List.Pairwise.imp ?_ hw.nd
  intro x y hxy c hc c' hc' e
  subst e
  rw [kid_iff] at hc hc'
  exact hxy (by rw [hc, hc'])
theorem kids_ents {M : MoD} {G : GD} {k : Nat} (h : Rel M G k) {l : PathD} {n : Nat} {t : ThD} (hl : atE G l = some n) (ht : findL M.l (n : Int) = some t) : (kidsG G l).Perm (t.ents.map (·.1)) := by
  have hnd := (h.nds n t ht).1
  refine perm_of_same (kids_nodup h.wf l) ?_ (fun c => ?_)
  · unfold List.Nodup
    rw [List.pairwise_map]
    exact hnd
  · rw [kids_mem h.wf, List.mem_map]
    have he := h.ent l n t hl ht c
    constructor
    · intro hs
      obtain ⟨m, hm⟩ := Option.isSome_iff_exists.1 hs
      rw [hm] at he
      exact ⟨_, findL_mem he, rfl⟩
    · rintro ⟨y, hy, rfl⟩
      rw [findL_of_mem hnd hy] at he
      cases e : atE G (l ++ [y.1]) with
      | none => rw [e] at he; cases he
      | some m => rfl
theorem rel_mv {x : TrD} {G : GD} {k : Nat} (hr : Rel x.M G k) {p q : ByteArray} {la lb : PathD} {ca cb : ByteArray} {na nb n : Nat} {ra rb : RowD} (hsp : splitD p = (la ++ [ca], 0)) (hsq : splitD q = (lb ++ [cb], 0)) (hm : Moves G la lb ca cb na nb n)
    (hra : findL x.rows (na : Int) = some ra) (hrb : findL (setR x (na : Int) { ra.t with ents := dropL ra.t.ents ca }).rows (nb : Int) = some rb) (hnd : NoDupL x.rows) :
    Rel (setR (setR x (na : Int) { ra.t with ents := dropL ra.t.ents ca }) (nb : Int) { rb.t with ents := putL rb.t.ents cb n }).M (moveG G p q) (k + 1) := by
  have hfa := find_of_row hra
  have hfb := find_of_row hrb
  have hM1 : ∀ j : Int, findL (setR x (na : Int) { ra.t with ents := dropL ra.t.ents ca }).M.l j = (findL x.M.l j).map (fun t => { t with ents := if j = (na : Int) then dropL t.ents ca else t.ents }) := by
    intro j
    rw [setR_M]
    by_cases e : j = (na : Int)
    · subst e; rw [if_pos rfl, hfa]; simp
    · rw [if_neg e]
      simp [e]
  have hM : ∀ j : Int, findL (setR (setR x (na : Int) { ra.t with ents := dropL ra.t.ents ca }) (nb : Int) { rb.t with ents := putL rb.t.ents cb n }).M.l j = (findL x.M.l j).map (fun t => { t with ents := if j = (nb : Int) then putL (if j = (na : Int) then dropL t.ents ca else t.ents) cb n else if j = (na : Int) then dropL t.ents ca else t.ents }) := by
    intro j
    rw [setR_M]
    by_cases e : j = (nb : Int)
    · subst e
      rw [if_pos rfl, hfb]
      rw [hM1] at hfb
      obtain ⟨t, ht, htb⟩ := Option.map_eq_some_iff.1 hfb
      rw [ht, ← htb]
      simp
    · rw [if_neg e, hM1]
      simp [e]
  refine rel_move hr hm ?_ rfl rfl ?_ ?_ ?_
  · unfold moveG
    rw [hsp, hsq]
  · intro j
    rw [hM]
    congr 1
    funext t
    congr 1
    by_cases e1 : j = nb
    · rw [if_pos e1, if_pos (show (j : Int) = (nb : Int) by rw [e1])]
      by_cases e2 : j = na
      · rw [if_pos e2, if_pos (show (j : Int) = (na : Int) by rw [e2])]
      · rw [if_neg e2, if_neg (show ¬ (j : Int) = (na : Int) by omega)]
    · rw [if_neg e1, if_neg (show ¬ (j : Int) = (nb : Int) by omega)]
      by_cases e2 : j = na
      · rw [if_pos e2, if_pos (show (j : Int) = (na : Int) by rw [e2])]
      · rw [if_neg e2, if_neg (show ¬ (j : Int) = (na : Int) by omega)]
  · refine neg_of hr rfl (fun j hj => ?_)
    rw [hM, Option.isSome_map] at hj
    exact hj
  · unfold TrD.M
    exact nodup_map (fun _ (r : RowD) => r.t) (setR_nd (setR_nd hnd _ _) _ _)
end Go.Proofs.YteimpebfenpifaaGreatDoor

namespace Go.Proofs.YteimpebfenpifaaGreatDoor
open Go Go.RowKit Go.ChangeShapes Go.WideShapes Go.ChangeAt

section
variable {x : TrD} {G : GD} {k : Nat} {w : World} (h : TrAt w x) (hr : Rel x.M G k) (hk : k ≤ 1000000)
include h hr hk
set_option maxRecDepth 100000 in
set_option maxHeartbeats 4000000 in
theorem rmdir_any (o : OpD) (ho : o.do_ = 4) (hp : o.path.size ≤ 100000) : Calls Tryz.prog 48 #[.pointer (some ⟨x.b, 0, none⟩), opV o] w (OpRes x k w (doG G o)) := by
  obtain ⟨R, hR⟩ : ∃ R, R = doG G o := ⟨_, rfl⟩
  rw [← hR]
  have HR : Hid (R = if o.path = rootB then (noA 1, G) else if (leadG G o.path).2 ≠ 0 then (noA (leadG G o.path).2, G) else if dirG G (leadG G o.path).1 = false then (noA 11, G) else if kidsG G (splitD o.path).1 ≠ [] then (noA 14, G) else (noA 0, dropG G o.path)) := by
    show R = _
    rw [hR]
    unfold doG
    simp only [ho]
    rfl
  have HT0 := Lib.hid h
  have HX := Lib.hid hr
  have HK := Lib.hid hk
  have HP := Lib.hid hp
  have HBL : Hid (∀ j ∈ x.blocks, j < w.heap.size) := h.lt
  have HF1 : Hid (Fr w w.heap.size (w.heap.size + 1) o ((w.alloc (.cells #[.int .i64 o.do_, .string o.path, .string o.dst, .int .i64 o.off, .int .i64 o.len, .string o.data] 36 (0, 0))).alloc (.cells #[.int .i64 0, .int .i64 0, .string ⟨#[]⟩, .slice none 0 0] 33 (0, 0)))) := Fr.new w o
  have HT1 := Lib.hid (h.keep HF1.out.toW)
  have c1 : ((w.alloc (.cells #[.int .i64 o.do_, .string o.path, .string o.dst, .int .i64 o.off, .int .i64 o.len, .string o.data] 36 (0, 0))).alloc (.cells #[.int .i64 0, .int .i64 0, .string ⟨#[]⟩, .slice none 0 0] 33 (0, 0))).cell? ⟨w.heap.size, 1, none⟩ = some (.string o.path) := HF1.out.bo.cell 1 _ rfl
  obtain ⟨g, hg⟩ : ∃ g, g = w.heap.size := ⟨_, rfl⟩
  obtain ⟨a, ha⟩ : ∃ a, a = w.heap.size + 1 := ⟨_, rfl⟩
  rw [← ha, ← hg] at HF1
  have HGW := Lib.hid hg
  clear h hr hk hp ho hR
  by_cases h0 : o.path = rootB
  · have hqr : (o.path.toList == [47]) = true := by rw [h0]; decide +kernel
    have HQ : Hid (R = (noA 1, G)) := by show R = _; rw [HR.out, if_pos h0]
    clear h0 HR
    unfold opV
    go_enter Tryz.func48, Tryz.ntmps48
    go_wp2_with fail
    rw [← ha, ← hg]
    clear ha hg c1
    generalize World.alloc (World.alloc w _) _ = w1 at *
    refine (refused_any 1 _).mono ?_
    rintro e1 w2 ⟨rfl, hb⟩
    have HF2 := Lib.hid (HF1.out.keep hb)
    have HT2 := Lib.hid (HT1.out.keep hb)
    clear hb
    obtain ⟨⟨s1, s2⟩, s3, s4, s5⟩ := HF2.out.ba.st4
    unfold ansV nilS
    go_wp2
    refine bodyPost_ret (results_cell_row rfl _ _ a 33 _ (0, 0) _ rfl (HF2.out.ba.pt4 _ _ _ _) Tryz.underlying33 rfl sizeAns) rfl ?_
    exact OpRes.refuse HT0.out HX.out HQ.out HF2.out _ _ _ _
  have hqr : (o.path.toList == [47]) = false := by
    rw [beq_eq_false_iff_ne, ByteArray.toList_eq]
    intro q
    exact h0 (pb_ext (by rw [show pb o.path = [47] from q]; rfl))
  have HR1 := Lib.hid (HR.out.trans (if_neg h0))
  have HN0 := Lib.hid h0
  clear h0 HR
  have HFA := Lib.hid (fun W (q : TrAt W x) => directory_any q HX.out HK.out o.path HP.out)
  unfold opV
  go_enter Tryz.func48, Tryz.ntmps48
  go_wp2_with fail
  rw [← ha, ← hg]
  clear ha hg c1
  generalize World.alloc (World.alloc w _) _ = w1 at *
  refine (HFA.out _ HT1.out).mono ?_
  rintro e1 w2 ⟨rfl, hb⟩
  have HF2 := Lib.hid (HF1.out.keep hb)
  have HT2 := Lib.hid (HT1.out.keep hb)
  clear hb HF1 HT1 HFA
  rcases dir_cases HX.out o.path with ⟨n, e, hfe, hne, hK⟩ | ⟨n, t, hfe, hsp, hat, hft, hfd, hz0, hz1, hdn⟩
  · rw [hfe]
    have HQ : Hid (R = (noA e, G)) := by
      show R = _
      rw [HR1.out]
      rcases hK with ⟨h1, h2⟩ | ⟨h1, h2, h3⟩
      · rw [if_pos h1, h2]
      · rw [if_neg (fun e => e h1), if_pos h2, h3]
    have hz : (e != 0) = true := by simpa using hne
    clear hfe hne hK HR1
    go_wp2_with fail
    refine (refused_any e _).mono ?_
    rintro e1 w3 ⟨rfl, hb⟩
    have HF3 := Lib.hid (HF2.out.keep hb)
    have HT3 := Lib.hid (HT2.out.keep hb)
    clear hb
    obtain ⟨⟨s1, s2⟩, s3, s4, s5⟩ := HF3.out.ba.st4
    unfold ansV nilS
    go_wp2
    refine bodyPost_ret (results_cell_row rfl _ _ a 33 _ (0, 0) _ rfl (HF3.out.ba.pt4 _ _ _ _) Tryz.underlying33 rfl sizeAns) rfl ?_
    exact OpRes.refuse HT0.out HX.out HQ.out HF3.out _ _ _ _
  · rw [hfe]
    have HQ : Hid (R = if kidsG G (splitD o.path).1 ≠ [] then (noA 14, G) else (noA 0, dropG G o.path)) := by
      show R = _
      rw [HR1.out, if_neg (fun e => e hz0), hz1, if_neg (by rw [hdn]; simp)]
    obtain ⟨rn, hrn, hrt⟩ := TrD.row hft
    have HRN := Lib.hid hrn
    have hfd2 : rn.t.dir = true := by rw [hrt]; exact hfd
    have hnb := HX.out.numB hft
    have hkk := HK.out
    have HNB : Hid (0 ≤ (n : Int) ∧ (n : Int) ≤ 4611686018427387904) := ⟨hnb.1, by omega⟩
    have hpm := kids_ents HX.out hat hft
    rw [← hrt] at hpm
    obtain ⟨mn, hmn, hmm⟩ := (HT2.out.at_ hrn).dirBox hfd2
    have hlen : ∀ ty, (Builtin.len_ #[65] ty #[.map (some mn)]).run Tryz.prog w2 = .ok (.int .i64 rn.t.ents.length) w2 := fun ty => MapAt.len hmm ty
    have t0 : w2.cell? ⟨x.b, 0, none⟩ = some (.map (some x.m)) := HT2.out.box.cell 0 _ rfl
    have d1 : w2.cell? ⟨rn.p, 1, none⟩ = some (.map (some mn)) := by rw [← hmn]; exact (HT2.out.at_ hrn).1.cell 1 _ rfl
    have lk1 := HT2.out.look hrn hnb.1 (by omega)
    have hll : (kidsG G (splitD o.path).1).length = rn.t.ents.length := by rw [hpm.length_eq, List.length_map]
    by_cases hk0 : kidsG G (splitD o.path).1 = []
    · have HQ2 : Hid (R = (noA 0, dropG G o.path)) := by show R = _; rw [HQ.out, if_neg (fun e => e hk0)]
      have hl0 : rn.t.ents.length = 0 := by rw [← hll, hk0]; rfl
      have hn0 : (splitD o.path).1 ≠ [] := fun e => HN0.out (root_of hsp e)
      obtain ⟨l, c, hs, hc⟩ := snoc_of hsp hn0
      have hkid : ∀ y, atE G (l ++ [c] ++ [y]) = none := by
        intro y
        have h1 := kids_mem HX.out.wf (l := (splitD o.path).1) (c := y)
        rw [hk0, hs] at h1
        cases e : atE G (l ++ [c] ++ [y]) with
        | none => rfl
        | some m => rw [e] at h1; exact absurd (h1.2 rfl) (by simp)
      rw [hs] at hat
      obtain ⟨d, td, hl, htd, hdd, hdg⟩ := HX.out.parent hat
      obtain ⟨r, hrr, hrt2⟩ := TrD.row htd
      obtain ⟨me, hme, _⟩ := (HT2.out.at_ hrr).dirBox (by rw [hrt2]; exact hdd)
      obtain ⟨hnd, hrl⟩ := rel_rmdir HX.out hs hl hdg hat hrr hrn hfd2 hkid HT0.out.nodup
      have HND := Lib.hid hnd
      have HRL := Lib.hid hrl
      have HRR := Lib.hid hrr
      have HME := Lib.hid hme
      have HCL := Lib.hid (name_len hc)
      have HSA := Lib.hid (spot_any HT2.out HX.out HK.out o.path HP.out hs hl hrr hme)
      rw [hl0] at hlen
      clear hfe hrn hrt hnb hkk hat hft hfd hsp hn0 hs hc hl htd hdd hdg hrr hrt2 hme hnd hrl hfd2 hkid hk0 hll hpm hmn hmm hz0 hz1 hdn HQ HR1 hl0
      have c1 : w2.cell? ⟨g, 1, none⟩ = some (.string o.path) := HF2.out.bo.cell 1 _ rfl
      unfold spotV at HSA
      go_wp2_with fail
      refine HSA.out.mono ?_
      rintro e1 w3 ⟨rfl, hb⟩
      have HF3 := Lib.hid (HF2.out.keep hb)
      have HT3 := Lib.hid (HT2.out.keep hb)
      clear hb HF2 HT2 HSA c1 t0 d1 lk1 hlen
      have hma : MapAt EnS w3 me r.t.ents := by
        have h1 := (HT3.out.at_ HRR.out).2.1
        rw [HME.out] at h1
        exact h1
      have HEM := Lib.hid (empty_any w3 hma c HCL.out)
      unfold spotV at HEM
      clear hma
      go_wp2_with fail
      refine HEM.out.mono ?_
      rintro e1 w5 ⟨rfl, hm5, hc5⟩
      have HT5 := Lib.hid (HT3.out.setEnts HRR.out HME.out hc5 hm5)
      have hmex : me ∈ x.blocks := row_mem HRR.out me (by unfold RowD.blk; rw [HME.out]; simp)
      have hb5 := HF3.out.chg hc5 (fun j hj => by rw [List.mem_singleton.1 hj, HGW.out]; exact HBL.out me hmex)
      have HB5 := Lib.hid hb5
      have HC5 : Hid (Chg x.blocks w3 w5) := hc5.mono (fun i hi => by rw [List.mem_singleton.1 hi]; exact hmex)
      have t0 : w5.cell? ⟨x.b, 0, none⟩ = some (.map (some x.m)) := HT5.out.box.cell 0 _ rfl
      have HKW : Hid ((Lit.int .i64 (n : Int)).wf = true) := mint_wf HNB.out.1 HNB.out.2
      clear hm5 hc5 hb5 hmex HEM HT3
      have hm6 := HT5.out.map
      have HAX : Hid (a ∉ [x.m]) := by
        have hxm : x.m < g := by rw [HGW.out]; exact HBL.out _ (by simp [TrD.blocks])
        have := HF3.out.ga
        show ¬ a ∈ [x.m]
        simp
        omega
      go_wp2_with (first
        | (at_delete; refine map_delete (S := ThS) rfl _ _ _ _ rfl rfl rfl rfl hm6 (k := (n : Int)) rfl HKW.out ?_; intro w7 hm7 hc7; have HB7 := Lib.hid (HB5.out.2.of (hc7.block a HB5.out.2.lt HAX.out)); obtain ⟨⟨s1, s2⟩, s3, s4, s5⟩ := HB7.out.st4; have HT7 := Lib.hid (HT5.out.delAt hc7 hm7); have HC7 : Hid (Chg x.blocks w3 w7) := HC5.out.trans (hc7.mono (fun i hi => by rw [List.mem_singleton.1 hi]; simp [TrD.blocks])); clear hm7 hc7 hm6)
        | fail)
      refine bodyPost_ret (results_cell_row rfl _ _ a 33 _ (0, 0) _ rfl (HB7.out.pt4 _ _ _ _) Tryz.underlying33 rfl sizeAns) rfl ?_
      have hdone : Done x R.2 (k + 1) [] w3 w7 := by
        refine ⟨delR (setR x (d : Int) { r.t with ents := dropL r.t.ents c }) (n : Int), rfl, HT7.out, ?_, HC7.out, fun j hj => ?_⟩
        · rw [HQ2.out]
          exact HRL.out
        · have hj := delR_blk _ _ j hj
          rw [setR_blk] at hj
          exact .inl hj
      exact OpRes.put HF3.out hdone HBL.out (fun j hj => by cases hj) (by rw [HQ2.out]; rfl) _ _ _ _
    · have HQ2 : Hid (R = (noA 14, G)) := by show R = _; rw [HQ.out, if_pos hk0]
      have hl0 : (0 : Int) < (rn.t.ents.length : Int) := by
        rw [← hll]
        have : (kidsG G (splitD o.path).1).length ≠ 0 := fun e => hk0 (List.eq_nil_of_length_eq_zero e)
        omega
      have hl1 : 0 < rn.t.ents.length := by omega
      clear hfe hrn hrt hnb hkk hat hft hfd hsp hfd2 hk0 hll hpm hmn hmm hz0 hz1 hdn HQ HR1
      go_wp2_with fail
      refine (refused_any 14 _).mono ?_
      rintro e1 w3 ⟨rfl, hb⟩
      have HF3 := Lib.hid (HF2.out.keep hb)
      have HT3 := Lib.hid (HT2.out.keep hb)
      clear hb
      obtain ⟨⟨s1, s2⟩, s3, s4, s5⟩ := HF3.out.ba.st4
      unfold ansV nilS
      go_wp2
      refine bodyPost_ret (results_cell_row rfl _ _ a 33 _ (0, 0) _ rfl (HF3.out.ba.pt4 _ _ _ _) Tryz.underlying33 rfl sizeAns) rfl ?_
      exact OpRes.refuse HT0.out HX.out HQ2.out HF3.out _ _ _ _
end
end Go.Proofs.YteimpebfenpifaaGreatDoor
