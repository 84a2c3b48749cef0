/-
  Package model: Copy's walk.
-/
import Derived.Test.YteimpebfenpifaaGreatDoorMg27
namespace Go.Proofs.YteimpebfenpifaaGreatDoor
open Go Go.RowKit Go.ChangeShapes Go.WideShapes Go.ChangeAt

set_option maxRecDepth 100000 in
set_option maxHeartbeats 8000000 in
theorem copy_any {x : TrD} {G : GD} {k : Nat} {w : World} (h : TrAt w x) (hr : Rel x.M G k) (hk : k ≤ 1000000) :
    Calls Tryz.prog 14 #[.pointer (some ⟨x.b, 0, none⟩)] w fun e w' => ∃ y : TrD, e = .returned (.pointer (some ⟨y.b, 0, none⟩)) ∧ TrAt w' y ∧ Rel y.M G k ∧ Below w.heap.size w w' ∧ ∀ j ∈ y.blocks, w.heap.size ≤ j := by
  have hmm := @run_makeMap Tryz.prog
  have HRL : Hid (x.rows.length ≤ 1000001) := by have := h.rows_len hr; show _ ≤ _; omega
  have HT := Lib.hid h
  have HX := Lib.hid hr
  have HBLT : Hid (∀ j ∈ x.blocks, j < w.heap.size) := h.lt
  have HMD := Lib.hid (made_any h)
  have HTA : Hid (TrAt (w.alloc (.map #[] 0)) x) := h.keep ((Below.refl _ _).alloc (Nat.le_refl _) _)
  have HTB : Hid (TrAt ((w.alloc (.map #[] 0)).alloc (.cells #[.map (some w.heap.size), .int .i64 x.last] 58 (0, 0))) x) := HTA.out.keep ((Below.refl _ _).alloc (Nat.le_refl _) _)
  have t1 : (w.alloc (.map #[] 0)).cell? ⟨x.b, 1, none⟩ = some (.int .i64 x.last) := HTA.out.box.cell 1 _ rfl
  have t0 : ((w.alloc (.map #[] 0)).alloc (.cells #[.map (some w.heap.size), .int .i64 x.last] 58 (0, 0))).cell? ⟨x.b, 0, none⟩ = some (.map (some x.m)) := HTB.out.box.cell 0 _ rfl
  have HML := Lib.hid HTB.out.map
  have hcb := Box.new (w.alloc (.map #[] 0)) 58 #[.map (some w.heap.size), .int .i64 x.last]
  have hcm : MapAt ThS ((w.alloc (.map #[] 0)).alloc (.cells #[.map (some w.heap.size), .int .i64 x.last] 58 (0, 0))) w.heap.size [] := (MapAt.made ThS w).keep ((Below.refl _ _).alloc (Nat.le_refl _) _)
  rw [size_alloc] at hcb
  have hy0 : CpI x w.heap.size (w.heap.size + 1) w.heap.size (w.heap.size + 2) [] ⟨w.heap.size + 1, w.heap.size, [], x.last⟩ ((w.alloc (.map #[] 0)).alloc (.cells #[.map (some w.heap.size), .int .i64 x.last] 58 (0, 0))) := by
    refine ⟨rfl, rfl, rfl, ⟨hcb, hcm, fun r hr => (by cases hr), by show w.heap.size + 1 ≠ w.heap.size; omega, fun r hr => (by cases hr), fun r hr => (by cases hr)⟩, rfl, ?_⟩
    intro j hj
    simp [TrD.blocks] at hj
    omega
  have HY0 := Lib.hid hy0
  have HW0 : Hid (Below w.heap.size w ((w.alloc (.map #[] 0)).alloc (.cells #[.map (some w.heap.size), .int .i64 x.last] 58 (0, 0)))) := ((Below.refl _ _).alloc (Nat.le_refl _) _).alloc (by rw [size_alloc]; omega) _
  have HZ0 : Hid (((w.alloc (.map #[] 0)).alloc (.cells #[.map (some w.heap.size), .int .i64 x.last] 58 (0, 0))).heap.size = w.heap.size + 2) := by show _ = _; rw [size_alloc, size_alloc]
  obtain ⟨rl, hrl⟩ : ∃ rl, rl = x.rows.map (fun r => (r.1, some r.2.p)) := ⟨_, rfl⟩
  rw [← hrl] at HML
  have HRLD := Lib.hid hrl
  have HRLN : Hid (rl.length = x.rows.length ∧ ∀ n p, findL rl n = some p → ∃ r, findL x.rows n = some r ∧ p = some r.p) := by
    refine ⟨by rw [hrl, List.length_map], fun n p hp => ?_⟩
    rw [hrl, x.findP] at hp
    obtain ⟨r, h1, h2⟩ := Option.map_eq_some_iff.1 hp
    exact ⟨r, h1, h2.symm⟩
  obtain ⟨B, hB⟩ : ∃ B, B = w.heap.size := ⟨_, rfl⟩
  have HBW := Lib.hid hB
  clear hrl h hr hcb hcm hy0
  go_enter Tryz.func14, Tryz.ntmps14
  go_wp2_with fail
  refine HMD.out.mono ?_
  rintro e w' ⟨rfl, rfl⟩
  clear HMD
  go_wp2_with (first
    | (at_range; refine map_range (S := ThS) rfl _ _ rfl rfl rfl HML.out ?_; intro w1 hr1 hb1 hs1)
    | fail)
  go_frame
  rw [HZ0.out] at hr1 ⊢
  have hy1b : CpI x w'.heap.size (w'.heap.size + 1) w'.heap.size (w'.heap.size + 2) [] ⟨w'.heap.size + 1, w'.heap.size, [], x.last⟩ w1 := ⟨HY0.out.yb, HY0.out.ym, HY0.out.yl, HY0.out.at_.keep hb1, HY0.out.l, HY0.out.lo⟩
  have HT1 : Hid (TrAt w1 x) := HTB.out.keep hb1
  have HB := Lib.hid (HW0.out.trans (hb1.mono HW0.out.size))
  have HS1 : Hid (w1.heap.size = w'.heap.size + 3) := by show _ = _; rw [hs1, HZ0.out]
  rw [← hB] at hr1 hy1b HB HS1 HBLT ⊢
  have HY1 := Lib.hid hy1b
  clear t0 t1 hs1 hb1 hy1b HY0 HML HZ0 HW0 HTA HTB hB
  obtain ⟨rr, hrr⟩ : ∃ rr, rr = B + 2 := ⟨_, rfl⟩
  rw [← hrr] at hr1 HY1 ⊢
  have HRR := Lib.hid hrr
  clear hrr
  go_loopw [6] (fun _ wr => ∃ (gone : List (Int × Option Nat)) (cnt : Nat) (y : TrD), MapRun ThS wr x.m rr rl gone cnt ∧ Hid (CpI x B (B + 1) B rr gone y wr) ∧ Hid (TrAt wr x) ∧ Hid (gone.length ≤ rl.length) ∧ Hid (Below B w' wr) ∧ Hid (rr < wr.heap.size)) (fun _ wr => wr.rangeLeft x.m rr)
  case atStart => exact ⟨[], _, _, hr1, HY1.out, HT1.out, Nat.zero_le _, HB.out, by have := HS1.out; have := HRR.out; have := HBW.out; show _ < _; omega⟩
  case round =>
    rename_i hkl
    obtain ⟨gone, cnt, y, hrun, HY, HTX, HGL, HBB, HRZ⟩ := hrel
    have HRUN := Lib.hid hrun
    go_wp2_with (first
      | (at_next; refine map_next (S := ThS) rfl _ rfl rfl hrun ?_ ?_)
      | fail)
    · intro hperm
      rw [HRLD.out] at hperm
      have HE := Lib.hid (HY.out.end_ HX.out HT.out.nodup hperm)
      clear hperm hrun
      go_wp2
      go_ret
      refine ⟨y, by rw [HY.out.yb]; rfl, HY.out.at_, HE.out, by rw [← HBW.out]; exact HBB.out, fun j hj => ?_⟩
      rw [← HBW.out]
      exact (HY.out.lo j hj).1
    · intro n p w2 cnt2 hfind hok hgn hrun2 hlt hc2 hs2 hen
      obtain ⟨q, hq, rfl⟩ := HRLN.out.2 n p hfind
      have HRUN2 := Lib.hid hrun2
      have HLT : Hid (cnt2 < cnt) := hlt
      have HQ := Lib.hid hq
      have hbl := HBLT.out
      have hbw := HBW.out
      have hrrz := HRR.out
      have HTX2 : Hid (TrAt w2 x) := HTX.out.chg hc2 (fun j hj hm => by
        rw [List.mem_singleton.1 hm] at hj
        have h1 := hbl rr hj
        omega)
      have hy := HY.out
      have HY2 : Hid (TrAt w2 y) := hy.at_.chg hc2 (fun j hj hm => (hy.lo j hj).2 (List.mem_singleton.1 hm))
      have hra := HTX2.out.at_ hq
      have HBB2 : Hid (Below B w' w2) := HBB.out.trans (hc2.below (by rw [hbw]; have := HBB.out.size; omega) (fun k hk => by rw [List.mem_singleton.1 hk]; omega))
      have HGN : Hid (findL y.rows n = none) := hy.gone_ hgn
      have HL2 : Hid ((gone ++ [(n, some q.p)]).map (fun z => (z.1, thOf x z.1)) = y.M.l ++ [(n, q.t)]) := by
        show _ = _
        rw [List.map_append, hy.l]
        have : thOf x n = q.t := by unfold thOf; rw [find_of_row hq]; rfl
        simp [this]
      have HGL2 : Hid ((gone ++ [(n, some q.p)]).length ≤ rl.length) := by
        obtain ⟨D, left, _, _, hp, _⟩ := hrun2
        have h1 := hp.length_eq
        rw [List.length_append] at h1
        show _ ≤ _
        omega
      have HYL : Hid ((y.rows.map (fun r => (r.1, some r.2.p))).length < maxLen) := by
        have h1 := hy.len
        have h2 := HGL.out
        have h3 := HRLN.out.1
        have h4 := HRL.out
        show _ < maxLen
        rw [List.length_map, h1]
        unfold maxLen
        omega
      have HYB : Hid (y.b = B + 1 ∧ y.m = B ∧ y.last = x.last ∧ ∀ j ∈ y.blocks, B ≤ j ∧ j ≠ rr) := ⟨hy.yb, hy.ym, hy.yl, hy.lo⟩
      have HRZ2 : Hid (rr < w2.heap.size) := by have := HRZ.out; show _ < _; omega
      have HOK : Hid (ThS.okK n) := hok
      have hvv : ThS.vv (some q.p) = .pointer (some ⟨q.p, 0, none⟩) := rfl
      have hkv : ThS.kv n = .int .i64 n := rfl
      have d0 : w2.cell? ⟨q.p, 0, none⟩ = some (.bool q.t.dir) := hra.1.cell 0 _ rfl
      have d1 : w2.cell? ⟨q.p, 1, none⟩ = some (.map q.em) := hra.1.cell 1 _ rfl
      have d2 : w2.cell? ⟨q.p, 2, none⟩ = some (.string q.t.text) := hra.1.cell 2 _ rfl
      have d3 : w2.cell? ⟨q.p, 3, none⟩ = some (.int .i64 q.t.links) := hra.1.cell 3 _ rfl
      have hal := (Below.refl w2.heap.size w2).alloc (Nat.le_refl _) (.cells #[.bool q.t.dir, .map q.em, .string q.t.text, .int .i64 q.t.links] 67 (0, 0))
      have HAL := Lib.hid hal
      have d13 : (w2.alloc (.cells #[.bool q.t.dir, .map q.em, .string q.t.text, .int .i64 q.t.links] 67 (0, 0))).cell? ⟨q.p, 1, none⟩ = some (.map q.em) := (HTX2.out.keep hal).at_ hq |>.1.cell 1 _ rfl
      have HBX := Lib.hid (Box.new w2 67 #[.bool q.t.dir, .map q.em, .string q.t.text, .int .i64 q.t.links])
      obtain ⟨tp, htp⟩ : ∃ tp, tp = w2.heap.size := ⟨_, rfl⟩
      have HTP := Lib.hid htp
      clear hkl hrun hfind hok hgn hrun2 hlt hc2 hs2 hq hbl hbw hrrz hy hra hal
      have HCL : Hid (∀ W, (∀ me, q.em = some me → MapAt EnS W me q.t.ents) → Calls Tryz.prog 28 #[.map q.em] W fun r w' => ∃ em2, r = .returned (.map em2) ∧ Below W.heap.size W w' ∧ em2.isSome = q.em.isSome ∧ EmAt w' em2 q.t.ents ∧ ∀ e, em2 = some e → W.heap.size ≤ e) := by
        intro W hW
        have hE := (HTX2.out.at_ HQ.out).2.1
        revert hW hE
        cases q.em with
        | none =>
          intro _ hE
          refine (clone_none W).mono ?_
          rintro r w' ⟨rfl, rfl⟩
          exact ⟨none, rfl, Below.refl _ _, rfl, hE, fun e he => by cases he⟩
        | some me =>
          intro hW _
          refine (clone_some W me _ (hW me rfl)).mono ?_
          rintro r w' ⟨rfl, h1, h2⟩
          exact ⟨some W.heap.size, rfl, h2, rfl, h1, fun e he => by rw [← Option.some.inj he]; exact Nat.le_refl _⟩
      go_wp2_with fail
      rw [← htp]
      rw [← htp] at HBX HAL
      clear htp d0 d1 d2 d3 d13
      generalize World.alloc w2 _ = w3 at *
      have HTX3 := Lib.hid (HTX2.out.keep (by rw [← HTP.out]; exact HAL.out))
      refine (HCL.out _ (fun me hme => by
        have h1 := (HTX3.out.at_ HQ.out).2.1
        rw [hme] at h1
        exact h1)).mono ?_
      rintro e w4 ⟨em2, rfl, hb4, hsome, hem, hge⟩
      have HSO := Lib.hid hsome
      have HGE := Lib.hid hge
      have htl : tp < w3.heap.size := HBX.out.lt
      have HA4 : Hid (Below tp w2 w4) := HAL.out.trans (hb4.mono (Nat.le_of_lt htl))
      have HBX4 := Lib.hid (HBX.out.keep hb4 htl)
      have HE4 := Lib.hid hem
      have HTL : Hid (tp < w3.heap.size) := htl
      have hw24 : Below w2.heap.size w2 w4 := by rw [← HTP.out]; exact HA4.out
      have HTX4 := Lib.hid (HTX2.out.keep hw24)
      have HY4 := Lib.hid (HY2.out.keep hw24)
      have b1 : w4.cell? ⟨tp, 1, none⟩ = some (.map q.em) := HBX4.out.cell 1 _ rfl
      have f1 : w4.frozen? ⟨tp, 1, none⟩ = false := HBX4.out.free 1
      have HO5 : Hid (Only tp w4 (w4.setCell ⟨tp, 1, none⟩ (.map em2))) := Only.set tp 1 _ _
      have hyn : ∀ j ∈ y.blocks, j ∉ [tp] := fun j hj hm => by
        have h1 := HY2.out.lt j hj
        have h2 := HTP.out
        rw [List.mem_singleton.1 hm] at h1
        omega
      have HY5 : Hid (TrAt (w4.setCell ⟨tp, 1, none⟩ (.map em2)) y) := HY4.out.chg (Chg.only HO5.out) hyn
      have HTX5 : Hid (TrAt (w4.setCell ⟨tp, 1, none⟩ (.map em2)) x) := HTX4.out.chg (Chg.only HO5.out) (fun j hj hm => by
        have h1 := HTX2.out.lt j hj
        have h2 := HTP.out
        rw [List.mem_singleton.1 hm] at h1
        omega)
      have g0 : (w4.setCell ⟨tp, 1, none⟩ (.map em2)).cell? ⟨B + 1, 0, none⟩ = some (.map (some B)) := by
        rw [← HYB.out.1, ← HYB.out.2.1]
        exact HY5.out.box.cell 0 _ rfl
      have HM5 := Lib.hid HY5.out.map
      have hm5 : MapAt ThS (w4.setCell ⟨tp, 1, none⟩ (.map em2)) B (y.rows.map (fun r => (r.1, some r.2.p))) := by rw [← HYB.out.2.1]; exact HM5.out
      have HRA5 : Hid (RowAt (w4.setCell ⟨tp, 1, none⟩ (.map em2)) ⟨tp, em2, q.t⟩) := by
        refine ⟨HBX4.out.set 1 _, ?_, ?_⟩
        · have h1 := HE4.out
          have h2 := HGE.out
          have h3 := HTL.out
          show EmAt _ em2 q.t.ents
          revert h1 h2
          cases em2 with
          | none => exact fun h _ => h
          | some e2 => exact fun h h2 => MapAt.of h (heap_setCell_other w4 ⟨tp, 1, none⟩ e2 _ (fun e => by have := h2 e2 rfl; have e : e2 = tp := e; omega))
        · show em2.isSome = q.t.dir
          rw [HSO.out]
          exact (HTX2.out.at_ HQ.out).2.2
      have HNEW : Hid (∀ j ∈ RowD.blk ⟨tp, em2, q.t⟩, tp ≤ j) := by
        intro j hj
        unfold RowD.blk at hj
        rcases List.mem_cons.1 hj with e | e
        · rw [e]; exact Nat.le_refl _
        · have h1 := HGE.out j (by simpa using e)
          have h2 := HTL.out
          omega
      clear hsome hge hem hb4 htl hw24 hyn HAL HCL HTX3 HBX
      go_wp2_with (first
        | (at_mapUpdate; refine map_store (S := ThS) rfl _ _ _ _ rfl rfl rfl hm5 HYL.out (k := n) (v := some tp) rfl rfl HOK.out ?_; intro w6 hm6 hc6)
        | fail)
      have hc6' : Chg [y.m] (w4.setCell ⟨tp, 1, none⟩ (.map em2)) w6 := by rw [HYB.out.2.1]; exact hc6
      have hybl := HYB.out.2.2.2
      have hymb : y.m ∈ y.blocks := by simp [TrD.blocks]
      have hrow6 : RowAt w6 ⟨tp, em2, q.t⟩ := HRA5.out.of (fun j hj => hc6'.block j (HRA5.out.lt j hj) (fun hm => by
        have h1 := HNEW.out j hj
        have h2 := HY2.out.lt _ hymb
        have h3 := HTP.out
        rw [List.mem_singleton.1 hm] at h1
        omega))
      have hnot : ∀ j ∈ RowD.blk ⟨tp, em2, q.t⟩, j ∉ y.blocks := fun j hj hm => by
        have h1 := HNEW.out j hj
        have h2 := HY2.out.lt _ hm
        have h3 := HTP.out
        omega
      have HY6 := Lib.hid (HY5.out.push HGN.out hc6' (by rw [HYB.out.2.1]; exact hm6) hrow6 hnot (fun e he => by
        have h1 := HGE.out e he
        have h2 := HTL.out
        show e ≠ tp
        omega))
      have hch : Chg [tp, B] w2 w6 := ((Chg.of (S := []) HA4.out (by rw [HTP.out]; exact Nat.le_refl _)).mono (by simp)).trans (((Chg.only HO5.out).mono (by simp)).trans (hc6.mono (by simp)))
      have hbb := HBB2.out.size
      have HTX6 : Hid (TrAt w6 x) := HTX5.out.chg hc6 (fun j hj hm => by
        have h1 := HBLT.out j hj
        rw [List.mem_singleton.1 hm] at h1
        omega)
      have HR6 : Hid (MapRun ThS w6 x.m rr rl (gone ++ [(n, some q.p)]) cnt2) := HRUN2.out.chg hch (fun hm => by
        have h1 := HBLT.out x.m (by simp [TrD.blocks])
        have h2 := HTP.out
        have h3 := HRZ2.out
        have h4 := HBW.out
        rcases List.mem_cons.1 hm with e | e
        · omega
        · rw [List.mem_singleton] at e; omega) (fun hm => by
        have h2 := HTP.out
        have h3 := HRZ2.out
        have h4 := HRR.out
        rcases List.mem_cons.1 hm with e | e
        · omega
        · rw [List.mem_singleton] at e; omega)
      have HB6 : Hid (Below B w' w6) := HBB2.out.trans (hch.below (by have := HBW.out; omega) (fun j hj => by
        have h2 := HTP.out
        have h4 := HBW.out
        rcases List.mem_cons.1 hj with e | e
        · omega
        · rw [List.mem_singleton.1 e]; exact Nat.le_refl _))
      have HZ6 : Hid (rr < w6.heap.size) := by have := HRZ2.out; have := hch.size; show _ < _; omega
      clear hm6 hc6 hc6' hybl hymb hrow6 hnot hch hbb hm5 g0 b1 f1
      go_wp2
      simp only [Act.put]
      go_roundw
      case rel =>
        refine ⟨_, _, pushR y n ⟨tp, em2, q.t⟩, HR6.out, ⟨HYB.out.1, HYB.out.2.1, HYB.out.2.2.1, HY6.out, ?_, fun j hj => ?_⟩, HTX6.out, HGL2.out, HB6.out, HZ6.out⟩
        · rw [HL2.out]
          unfold pushR TrD.M
          dsimp only
          rw [List.map_append]
          rfl
        · rcases pushR_blk y n _ j hj with e | e
          · exact HYB.out.2.2.2 j e
          · have h1 := HNEW.out j e
            have h2 := HTP.out
            have h3 := HRZ2.out
            have h4 := HRR.out
            exact ⟨by omega, by omega⟩
      case measure => rw [HR6.out.left, HRUN.out.left]; exact HLT.out
end Go.Proofs.YteimpebfenpifaaGreatDoor
