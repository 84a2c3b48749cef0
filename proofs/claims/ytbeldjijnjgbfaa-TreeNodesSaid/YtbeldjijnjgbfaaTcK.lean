/-
  Package tree: parts, the walk.
-/
import Derived.Test.YtbeldjijnjgbfaaMg26
namespace Go.Proofs.Ytbeldjijnjgbfaa
open Go Go.RowKit Go.ChangeShapes Go.WideShapes Go.ChangeAt

theorem NdZ.agg {Z : Nat → Prop} {w : World} {x : NdV} {d : NodeD} (h : NdZ Z w x d) : Value.agg #[.bool x.leaf, .slice x.ka x.kn x.kc, .slice x.va x.vn x.vc] = nodeV x.ka x.kc x.va x.vc d := h.val
theorem NsZ.nil (Z : Nat → Prop) (w : World) : NsZ Z w (.slice none 0 0) [] := ⟨⟨[], Rw.nil _ _, rfl, fun i x s hx _ => by simp at hx⟩, fun k hk => by cases hk⟩
theorem NsZ.one {Z : Nat → Prop} {w : World} {x : NdV} {d : NodeD} (h : NdZ Z w x d) (hz : Z w.heap.size) : NsZ Z (w.alloc (.cells #[.bool x.leaf, .slice x.ka x.kn x.kc, .slice x.va x.vn x.vc] 51 (0, 0))) (.slice (some ⟨w.heap.size, 0, none⟩) 1 1) [d] := by
  refine ⟨⟨[x], nodes_lit w 1 [x] (by simp) rfl (by decide), rfl, fun i y s hy hs => ?_⟩, fun k hk => by injection hk with hk; subst hk; exact hz⟩
  have h1 := h.keep ((Below.refl w.heap.size w).alloc (Nat.le_refl _) (.cells #[.bool x.leaf, .slice x.ka x.kn x.kc, .slice x.va x.vn x.vc] 51 (0, 0)))
  match i, hy, hs with
  | 0, hy, hs =>
    simp at hy hs
    subst hy hs
    exact h1
  | i + 1, hy, hs => simp at hy
theorem NsZ.two {Z : Nat → Prop} {w : World} {x y : NdV} {d e : NodeD} (h : NdZ Z w x d) (h2 : NdZ Z w y e) (hz : Z w.heap.size) : NsZ Z (w.alloc (.cells #[.bool x.leaf, .slice x.ka x.kn x.kc, .slice x.va x.vn x.vc, .bool y.leaf, .slice y.ka y.kn y.kc, .slice y.va y.vn y.vc] 51 (0, 0))) (.slice (some ⟨w.heap.size, 0, none⟩) 2 2) [d, e] := by
  have hb := (Below.refl w.heap.size w).alloc (Nat.le_refl _) (.cells #[.bool x.leaf, .slice x.ka x.kn x.kc, .slice x.va x.vn x.vc, .bool y.leaf, .slice y.ka y.kn y.kc, .slice y.va y.vn y.vc] 51 (0, 0))
  refine ⟨⟨[x, y], nodes_lit w 2 [x, y] (by simp) rfl (by decide), rfl, fun i z s hy hs => ?_⟩, fun k hk => by injection hk with hk; subst hk; exact hz⟩
  have h1 := h.keep hb
  have h3 := h2.keep hb
  match i, hy, hs with
  | 0, hy, hs =>
    simp at hy hs
    subst hy hs
    exact h1
  | 1, hy, hs =>
    simp at hy hs
    subst hy hs
    exact h3
  | i + 2, hy, hs => simp at hy
theorem idx_facts {m : Nat} (h : m ≤ 1000) : wrap64 (m : Int) = (m : Int) ∧ (0 : Int) ≤ (m : Int) ∧ (m : Int) < (m : Int) + 1 := ⟨IntWalk.wrap64_in _ (by omega), by omega, by omega⟩
set_option maxRecDepth 100000 in
set_option maxHeartbeats 8000000 in
theorem parts_any (Z : Nat → Prop) (x : NdV) (d : NodeD) (w : World) (h : NdZ Z w x d) (hs : SmN 1000 d) :
    Calls Try.prog 61 #[x.val] w fun e w' => ∃ v, e = .returned v ∧ NsZ (fun k => w.heap.size ≤ k ∨ Z k) w' v (partsN d) ∧ Below w.heap.size w w' := by
  have HN := Lib.hid h
  have HS := Lib.hid hs
  have HB0 : Hid (∀ o, Below w.heap.size w (w.alloc o)) := fun o => (Below.refl _ _).alloc (Nat.le_refl _) o
  obtain ⟨l, hl⟩ : ∃ l, l = partsN d := ⟨_, rfl⟩
  rw [← hl]
  have HL := Lib.hid hl
  have HV : Hid (Value.agg #[.bool x.leaf, .slice x.ka x.kn x.kc, .slice x.va x.vn x.vc] = nodeV x.ka x.kc x.va x.vc d) := h.agg
  have hkn : x.kn = d.keys.length := h.kn
  obtain ⟨w1, hw1⟩ : ∃ w1, w1 = w.alloc (.cells #[.bool x.leaf, .slice x.ka x.kn x.kc, .slice x.va x.vn x.vc] 51 (0, 0)) := ⟨_, rfl⟩
  have BN : Hid (Box w1 w.heap.size 51 #[.bool x.leaf, .slice x.ka x.kn x.kc, .slice x.va x.vn x.vc]) := by show Box _ _ _ _; rw [hw1]; exact Box.new _ _ _
  have BW : Hid (Below w.heap.size w w1) := by show Below _ _ _; rw [hw1]; exact HB0.out _
  have HW := Lib.hid hw1
  clear h hs hl
  unfold NdV.val
  by_cases hk : d.keys = []
  · have HQ := Lib.hid (HL.out.trans (parts_nil hk))
    have h0 : x.kn = 0 := by rw [hkn, hk]; rfl
    clear hk hkn hw1
    go_enter Try.func61, Try.ntmps61
    go_wp2
    go_ret
    refine ⟨_, rfl, ?_, HB0.out _⟩
    rw [HQ.out]
    exact NsZ.nil _ _
  · have h0 : ¬ ((x.kn : Int) = 0) := by rw [hkn]; have := List.length_pos_iff.2 hk; omega
    have hw2 := hw1.symm
    have HKN := Lib.hid hkn
    have HK := Lib.hid hk
    have k0 : w1.cell? ⟨w.heap.size, 0, none⟩ = some (.bool x.leaf) := BN.out.cell 0 _ rfl
    have k1 : w1.cell? ⟨w.heap.size, 1, none⟩ = some (.slice x.ka x.kn x.kc) := BN.out.cell 1 _ rfl
    have k2 : w1.cell? ⟨w.heap.size, 2, none⟩ = some (.slice x.va x.vn x.vc) := BN.out.cell 2 _ rfl
    clear hk hkn hw1
    go_enter Try.func61, Try.ntmps61
    go_wp2_with fail
    rw [HV.out]
    refine (check_any x.ka x.kc x.va x.vc d _ ((HN.out.keep BW.out).nodeIn (by have := HS.out.kl; omega) (by have := HS.out.vl; omega)) HS.out.max).mono ?_
    rintro e w3 ⟨rfl, hb⟩
    have BN3 := Lib.hid (BN.out.keep hb BN.out.lt)
    have BW3 := Lib.hid (BW.out.trans (hb.mono BW.out.size))
    have HN3 := Lib.hid (HN.out.keep BW3.out)
    clear hb BN BW hw2 k0 k1 k2
    have b0 : w3.cell? ⟨w.heap.size, 0, none⟩ = some (.bool x.leaf) := BN3.out.cell 0 _ rfl
    have b1 : w3.cell? ⟨w.heap.size, 1, none⟩ = some (.slice x.ka x.kn x.kc) := BN3.out.cell 1 _ rfl
    have b2 : w3.cell? ⟨w.heap.size, 2, none⟩ = some (.slice x.va x.vn x.vc) := BN3.out.cell 2 _ rfl
    by_cases hc : chkN d = 0
    · have HQ := Lib.hid (HL.out.trans (parts_one HK.out hc))
      rw [hc]
      clear hc
      go_wp2
      go_ret
      refine ⟨_, rfl, ?_, ?_⟩
      · rw [HQ.out]
        exact NsZ.one (HN3.out.mono (fun k _ hk => .inr hk)) (.inl BW3.out.size)
      · exact BW3.out.alloc BW3.out.size _
    · have e1 : (chkN d == 0) = false := by rw [beq_eq_false_iff_ne]; exact hc
      have HC := Lib.hid hc
      clear hc
      generalize chkN d = cc at e1 ⊢
      go_wp2_with fail
      rw [HV.out]
      refine (split_any x.ka x.kc x.va x.vc d _ (HN3.out.nodeIn (by have := HS.out.kl; omega) (by have := HS.out.vl; omega)) HS.out.max HN3.out.caps.1 HN3.out.caps.2).mono ?_
      rintro e w4 ⟨v1, v2, rfl, hn1, hn2, hb⟩
      obtain ⟨p, rfl, hp⟩ := hn1.ndz
      obtain ⟨q, rfl, hq⟩ := hn2.ndz
      unfold NdV.val
      have BN4 := Lib.hid (BN3.out.keep hb BN3.out.lt)
      have BW4 := Lib.hid (BW3.out.trans (hb.mono BW3.out.size))
      have HN4 := Lib.hid (HN3.out.keep hb)
      have HP := Lib.hid (hp.mono (Z' := (w.heap.size < ·)) (fun k _ hk => by have := BN3.out.lt; omega))
      have HQN := Lib.hid (hq.mono (Z' := (w.heap.size < ·)) (fun k _ hk => by have := BN3.out.lt; omega))
      clear hb hn1 hn2 hp hq b0 b1 b2 BN3 BW3 HN3
      have b0 : w4.cell? ⟨w.heap.size, 0, none⟩ = some (.bool x.leaf) := BN4.out.cell 0 _ rfl
      obtain ⟨w5, hw5⟩ : ∃ w5, w5 = (w4.alloc (.cells #[.bool p.leaf, .slice p.ka p.kn p.kc, .slice p.va p.vn p.vc] 51 (0, 0))).alloc (.cells #[.bool q.leaf, .slice q.ka q.kn q.kc, .slice q.va q.vn q.vc] 51 (0, 0)) := ⟨_, rfl⟩
      obtain ⟨bp, hbp⟩ : ∃ bp, bp = w4.heap.size := ⟨_, rfl⟩
      have BP : Hid (Box w5 bp 51 #[.bool p.leaf, .slice p.ka p.kn p.kc, .slice p.va p.vn p.vc]) := by show Box _ _ _ _; rw [hw5, hbp]; exact (Box.new _ _ _).alloc _
      have BQ : Hid (Box w5 (bp + 1) 51 #[.bool q.leaf, .slice q.ka q.kn q.kc, .slice q.va q.vn q.vc]) := by show Box _ _ _ _; rw [hw5, hbp]; exact box_second _ _ _ _
      have hb : Below w4.heap.size w4 w5 := by rw [hw5]; exact ((Below.refl _ _).alloc (Nat.le_refl _) _).alloc (by rw [size_alloc]; omega) _
      have BN5 := Lib.hid (BN4.out.keep hb BN4.out.lt)
      have BW5 := Lib.hid (BW4.out.trans (hb.mono BW4.out.size))
      have HP5 := Lib.hid ((HP.out.mono (Z' := fun k => w.heap.size < k ∧ k < bp) (fun k hk hz => ⟨hz, by omega⟩)).keep hb)
      have HQ5 := Lib.hid ((HQN.out.mono (Z' := fun k => w.heap.size < k ∧ k < bp) (fun k hk hz => ⟨hz, by omega⟩)).keep hb)
      have HBP : Hid (w.heap.size < bp) := by have := BN4.out.lt; show _ < _; omega
      have hw6 := hw5.symm
      have hbp2 := hbp.symm
      clear hb hw5 hbp BN4 BW4 HP HQN HN4 b0 HB0 HN
      have b0 : w5.cell? ⟨w.heap.size, 0, none⟩ = some (.bool x.leaf) := BN5.out.cell 0 _ rfl
      have p0 : w5.cell? ⟨bp, 0, none⟩ = some (.bool p.leaf) := BP.out.cell 0 _ rfl
      have p1 : w5.cell? ⟨bp, 1, none⟩ = some (.slice p.ka p.kn p.kc) := BP.out.cell 1 _ rfl
      have p2 : w5.cell? ⟨bp, 2, none⟩ = some (.slice p.va p.vn p.vc) := BP.out.cell 2 _ rfl
      have q0 : w5.cell? ⟨bp + 1, 0, none⟩ = some (.bool q.leaf) := BQ.out.cell 0 _ rfl
      have q1 : w5.cell? ⟨bp + 1, 1, none⟩ = some (.slice q.ka q.kn q.kc) := BQ.out.cell 1 _ rfl
      have q2 : w5.cell? ⟨bp + 1, 2, none⟩ = some (.slice q.va q.vn q.vc) := BQ.out.cell 2 _ rfl
      have HSS := Lib.hid (split_sm HS.out)
      have HLN := Lib.hid (split_len d)
      have HPK : Hid (p.kn = (splitD d).1.keys.length) := HP5.out.kn
      have HQK : Hid (q.kn = (splitD d).2.1.keys.length) := HQ5.out.kn
      have HXL : Hid (x.leaf = d.leaf) := by
        have := HV.out
        unfold nodeV at this
        simp only [Value.agg.injEq, Array.mk.injEq, List.cons.injEq, Value.bool.injEq] at this
        exact this.1
      by_cases hmv : d.leaf = false ∧ (splitD d).2.1.keys.length = 1 ∧ 2 < (splitD d).1.keys.length
      · have HQQ := Lib.hid (HL.out.trans (parts_move HK.out HC.out hmv))
        obtain ⟨m, hm⟩ : ∃ m, p.kn = m + 1 := ⟨p.kn - 1, by rw [HPK.out]; omega⟩
        have hlf : x.leaf = false := by rw [HXL.out]; exact hmv.1
        have h1i : ((q.kn : Int) == 1) = true := by have := HQK.out; rw [beq_iff_eq]; omega
        have h2i : (2 : Int) < (m : Int) + 1 := by have := HPK.out; omega
        have hmk : m < (splitD d).1.keys.length := by have := HPK.out; omega
        have hmv2 : m < (splitD d).1.vals.length := by have := HLN.out.1; omega
        have HKE : Hid ((splitD d).1.keys.getLastD noT = (splitD d).1.keys[m]) := by
          show _ = _
          have := HPK.out
          rw [List.getLastD_eq_getLast?, List.getLast?_eq_getElem?, show (splitD d).1.keys.length - 1 = m from by omega, List.getElem?_eq_getElem hmk]; rfl
        have HVE : Hid ((splitD d).1.vals.getLastD noT = (splitD d).1.vals[m]) := by
          show _ = _
          have := HPK.out; have := HLN.out.1
          rw [List.getLastD_eq_getLast?, List.getLast?_eq_getElem?, show (splitD d).1.vals.length - 1 = m from by omega, List.getElem?_eq_getElem hmv2]; rfl
        have HKS : Hid ((splitD d).1.keys[m].size ≤ 65535) := HSS.out.1.sz _ (List.mem_append_left _ (List.getElem_mem hmk))
        have HVS : Hid ((splitD d).1.vals[m].size ≤ 65535) := HSS.out.1.sz _ (List.mem_append_right _ (List.getElem_mem hmv2))
        rw [HKE.out, HVE.out] at HQQ
        obtain ⟨pa, pc, hke, hks⟩ := ks_form2 HP5.out.kr
        unfold NdV.k at hke
        injection hke with hka x1 x2
        clear x1 x2
        rw [← hka] at hks
        obtain ⟨gk, ok, hkx, hkl, hkc⟩ := hks.get m hmk
        obtain ⟨pa2, pc2, hve, hvs⟩ := ks_form2 HP5.out.vr
        unfold NdV.v at hve
        injection hve with hva x1 x2
        clear x1 x2
        rw [← hva] at hvs
        obtain ⟨gv, ov, hvx, hvl, hvc⟩ := hvs.get m hmv2
        have hvn : p.vn = m + 1 := by have := HP5.out.vn; have := HLN.out.1; have := HPK.out; omega
        have HKB : Hid (gk < bp) := (HP5.out.kz gk (by unfold NdV.k; rw [hkx]; rfl)).2
        have HPV : Hid (Value.agg #[.bool p.leaf, .slice p.ka p.kn p.kc, .slice p.va p.vn p.vc] = nodeV p.ka p.kc p.va p.vc (splitD d).1) := HP5.out.agg
        have HQV : Hid (Value.agg #[.bool q.leaf, .slice q.ka q.kn q.kc, .slice q.va q.vn q.vc] = nodeV q.ka q.kc q.va q.vc (splitD d).2.1) := HQ5.out.agg
        rw [hkx, hm] at p1
        rw [hvx, hvn] at p2
        rw [hkx, hm, hvx, hvn] at HPV hw6
        rw [hkx, hm, hvx, hvn]
        rw [hlf] at b0
        obtain ⟨wm, h0m, h1m⟩ := idx_facts (Nat.le_trans (Nat.le_of_lt hmk) HSS.out.1.kl)
        have HKX := Lib.hid hkx
        have HVX := Lib.hid hvx
        have HMM := Lib.hid hm
        have HVN := Lib.hid hvn
        obtain ⟨K, hK⟩ : ∃ K, K = (splitD d).1.keys[m] := ⟨_, rfl⟩
        obtain ⟨V, hV⟩ : ∃ V, V = (splitD d).1.vals[m] := ⟨_, rfl⟩
        rw [← hK] at HQQ HKS hkc
        rw [← hV] at HQQ HVS hvc
        have hbk : gk < w5.heap.size := hkl
        clear hmv hlf hm hvn hka hks hva hvs hkx hvx HKE HVE hK hV hmk hmv2 hkl hvl
        go_wp2_with fail
        refine wp_region_tree (fun W => W.cell? ⟨bp, 1, none⟩ = some (.slice (some ⟨gk, ok, none⟩) (m + 1) p.kc) ∧ W.cell? ⟨bp, 2, none⟩ = some (.slice (some ⟨gv, ov, none⟩) (m + 1) p.vc) ∧ W.cell? ⟨bp + 1, 0, none⟩ = some (.bool q.leaf) ∧ W.cell? ⟨bp + 1, 1, none⟩ = some (.slice q.ka q.kn q.kc) ∧ W.cell? ⟨bp + 1, 2, none⟩ = some (.slice q.va q.vn q.vc) ∧ W.cell? ⟨gk, ok + m, none⟩ = some (.string K) ∧ W.cell? ⟨gv, ov + m, none⟩ = some (.string V)) 11 (.quiet 0 (.quiet 1 (.quiet 2 (.quiet 3 (.quiet 4 (.quiet 5 (.quiet 6 (.quiet 7 (.quiet 8 (.quiet 9 (.quiet 10 .nil))))))))))) (by kernel_rfl) (by kernel_rfl) ⟨p1, p2, q0, q1, q2, hkc, hvc⟩ ?_
        simp only [List.drop_succ_cons, List.drop_zero]
        iterate 11 (apply wpTr_step rfl; (intro W hS K hK; obtain ⟨r1, r2, r3, r4, r5, r6, r7⟩ := hS; go_simp; exact hK _ rfl))
        refine wpTr_nil ?_
        go_wp2_with fail
        rw [HQV.out]
        refine (with_any q.ka q.kc q.va q.vc (splitD d).2.1 K V _ ((HQ5.out.chg ((Chg.refl [] _).drew) (fun _ _ h => by cases h)).nodeIn (by have := HSS.out.2.kl; omega) (by have := HSS.out.2.vl; omega)) HSS.out.2.max (by unfold maxLen; have := HKS.out; omega) (by unfold maxLen; have := HVS.out; omega)).mono ?_
        rintro e w7 ⟨nv, rfl, hn, hb⟩
        obtain ⟨y, rfl, hy⟩ := hn.ndz
        unfold NdV.val
        have hZ7 : w5.heap.size ≤ w7.heap.size := hb.size
        have BP7 := Lib.hid (Box.keep (w := w5.drew) BP.out hb BP.out.lt)
        have BQ7 := Lib.hid (Box.keep (w := w5.drew) BQ.out hb BQ.out.lt)
        have BW7 := Lib.hid (BW5.out.drew.trans (hb.mono BW5.out.size))
        have HP7 := Lib.hid (NdZ.keep (w := w5.drew) (HP5.out.chg ((Chg.refl [] _).drew) (fun _ _ h => by cases h)) hb)
        have hkc7 : w7.cell? ⟨gk, ok + m, none⟩ = some (.string K) := (hb.cell (p := ⟨gk, ok + m, none⟩) hbk).trans hkc
        have HY := Lib.hid (hy.mono (Z' := (bp + 1 < ·)) (fun k _ hk => by have h8 := BQ.out.lt; have h9 : w5.heap.size ≤ k := hk; omega))
        clear hb hn hy p0 p1 p2 q0 q1 q2 b0 hw6 hbp2 hkc hvc hbk BN5 BW5 HP5 HQ5 BP BQ
        have q0 := BQ7.out.cell 0 _ rfl
        have q1 := BQ7.out.cell 1 _ rfl
        have q2 := BQ7.out.cell 2 _ rfl
        have f0 := BQ7.out.free 0
        have f1 := BQ7.out.free 1
        have f2 := BQ7.out.free 2
        have hC := chg_set3 w7 (bp + 1) (.bool y.leaf) (.slice y.ka y.kn y.kc) (.slice y.va y.vn y.vc)
        have BQ8 := Lib.hid (box_set3 BQ7.out (.bool y.leaf) (.slice y.ka y.kn y.kc) (.slice y.va y.vn y.vc))
        have BP8 := Lib.hid (box_other3 (c := bp + 1) BP7.out (by simp) (.bool y.leaf) (.slice y.ka y.kn y.kc) (.slice y.va y.vn y.vc))
        have BW8 := Lib.hid (BW7.out.trans (hC.below BW7.out.size (fun k hk => by simp at hk; have := HBP.out; omega)))
        have HP8 := Lib.hid (HP7.out.chg hC (fun k hk hm => by simp at hm; omega))
        have HY8 := Lib.hid (HY.out.chg hC (fun k hk hm => by simp at hm; omega))
        have hkc8 := ((World.cell?_of_block (w := w7) (a := ⟨gk, ok + m, none⟩) (hC.block gk (lt_of_cell hkc7) (by simp; have := HKB.out; omega)))).trans hkc7
        obtain ⟨w8, hw8⟩ : ∃ w8, w8 = ((w7.setCell ⟨bp + 1, 0, none⟩ (.bool y.leaf)).setCell ⟨bp + 1, 1, none⟩ (.slice y.ka y.kn y.kc)).setCell ⟨bp + 1, 2, none⟩ (.slice y.va y.vn y.vc) := ⟨_, rfl⟩
        rw [← hw8] at BQ8 BP8 BW8 HP8 HY8 hkc8
        have hw9 := hw8.symm
        clear hw8 hC hkc7 BP7 BQ7 BW7 HP7 HY
        have p1 : w8.cell? ⟨bp, 1, none⟩ = some (.slice (some ⟨gk, ok, none⟩) (m + 1) p.kc) := by rw [← HKX.out, ← HMM.out]; exact BP8.out.cell 1 _ rfl
        have p0 : w8.cell? ⟨bp, 0, none⟩ = some (.bool p.leaf) := BP8.out.cell 0 _ rfl
        have p2 : w8.cell? ⟨bp, 2, none⟩ = some (.slice (some ⟨gv, ov, none⟩) (m + 1) p.vc) := by rw [← HVX.out, ← HVN.out]; exact BP8.out.cell 2 _ rfl
        go_wp2_with fail
        refine wp_region_tree (fun W => W.cell? ⟨bp, 0, none⟩ = some (.bool p.leaf) ∧ W.cell? ⟨bp, 1, none⟩ = some (.slice (some ⟨gk, ok, none⟩) (m + 1) p.kc) ∧ W.cell? ⟨bp, 2, none⟩ = some (.slice (some ⟨gv, ov, none⟩) (m + 1) p.vc) ∧ W.cell? ⟨gk, ok + m, none⟩ = some (.string K)) 6 (.quiet 0 (.quiet 1 (.quiet 2 (.quiet 3 (.quiet 4 (.quiet 5 .nil)))))) (by kernel_rfl) (by kernel_rfl) ⟨p0, p1, p2, hkc8⟩ ?_
        simp only [List.drop_succ_cons, List.drop_zero]
        iterate 6 (apply wpTr_step rfl; (intro W hS K hK; obtain ⟨r1, r2, r3, r4⟩ := hS; go_simp; exact hK _ rfl))
        refine wpTr_nil ?_
        go_wp2_with fail
        rw [HPV.out]
        have hni : NodeIn w8.drew p.ka p.va (splitD d).1 := (HP8.out.chg ((Chg.refl [] _).drew) (fun _ _ h => by cases h)).nodeIn (by have := HSS.out.1.kl; omega) (by have := HSS.out.1.vl; omega)
        rw [HKX.out, HVX.out] at hni
        refine (without_any (some ⟨gk, ok, none⟩) p.kc (some ⟨gv, ov, none⟩) p.vc (splitD d).1 K _ hni HSS.out.1.max).mono ?_
        clear hni
        rintro e w10 ⟨nv, rfl, hn, hb⟩
        obtain ⟨z, rfl, hz⟩ := hn.ndz
        unfold NdV.val
        have BP10 := Lib.hid (Box.keep (w := w8.drew) BP8.out hb BP8.out.lt)
        have BQ10 := Lib.hid (Box.keep (w := w8.drew) BQ8.out hb BQ8.out.lt)
        have BW10 := Lib.hid (BW8.out.drew.trans (hb.mono BW8.out.size))
        have HY10 := Lib.hid (NdZ.keep (w := w8.drew) (HY8.out.chg ((Chg.refl [] _).drew) (fun _ _ h => by cases h)) hb)
        have HZ10 := Lib.hid (hz.mono (Z' := (bp + 1 < ·)) (fun k _ hk => by have h8 := BQ8.out.lt; have h9 : w8.heap.size ≤ k := hk; omega))
        clear hb hn hz p0 p1 p2 q0 q1 q2 f0 f1 f2 hw9 hkc8 BP8 BQ8 BW8 HY8 HP8
        have p0 := BP10.out.cell 0 _ rfl
        have p1 := BP10.out.cell 1 _ rfl
        have p2 := BP10.out.cell 2 _ rfl
        have f0 := BP10.out.free 0
        have f1 := BP10.out.free 1
        have f2 := BP10.out.free 2
        have hC := chg_set3 w10 bp (.bool z.leaf) (.slice z.ka z.kn z.kc) (.slice z.va z.vn z.vc)
        have BP11 := Lib.hid (box_set3 BP10.out (.bool z.leaf) (.slice z.ka z.kn z.kc) (.slice z.va z.vn z.vc))
        have BQ11 := Lib.hid (box_other3 (c := bp) BQ10.out (by simp) (.bool z.leaf) (.slice z.ka z.kn z.kc) (.slice z.va z.vn z.vc))
        have BW11 := Lib.hid (BW10.out.trans (hC.below BW10.out.size (fun k hk => by simp at hk; have := HBP.out; omega)))
        have HY11 := Lib.hid (HY10.out.chg hC (fun k hk hm => by simp at hm; omega))
        have HZ11 := Lib.hid (HZ10.out.chg hC (fun k hk hm => by simp at hm; omega))
        obtain ⟨w11, hw11⟩ : ∃ w11, w11 = ((w10.setCell ⟨bp, 0, none⟩ (.bool z.leaf)).setCell ⟨bp, 1, none⟩ (.slice z.ka z.kn z.kc)).setCell ⟨bp, 2, none⟩ (.slice z.va z.vn z.vc) := ⟨_, rfl⟩
        rw [← hw11] at BP11 BQ11 BW11 HY11 HZ11
        have hw12 := hw11.symm
        have u0 : w11.cell? ⟨bp, 0, none⟩ = some (.bool z.leaf) := BP11.out.cell 0 _ rfl
        have u1 : w11.cell? ⟨bp, 1, none⟩ = some (.slice z.ka z.kn z.kc) := BP11.out.cell 1 _ rfl
        have u2 : w11.cell? ⟨bp, 2, none⟩ = some (.slice z.va z.vn z.vc) := BP11.out.cell 2 _ rfl
        have v0 : w11.cell? ⟨bp + 1, 0, none⟩ = some (.bool y.leaf) := BQ11.out.cell 0 _ rfl
        have v1 : w11.cell? ⟨bp + 1, 1, none⟩ = some (.slice y.ka y.kn y.kc) := BQ11.out.cell 1 _ rfl
        have v2 : w11.cell? ⟨bp + 1, 2, none⟩ = some (.slice y.va y.vn y.vc) := BQ11.out.cell 2 _ rfl
        have HE2 := Lib.hid (NsZ.two (Z := fun k => w.heap.size ≤ k ∨ Z k) (HZ11.out.mono (fun k _ hk => .inl (by have := HBP.out; omega))) (HY11.out.mono (fun k _ hk => .inl (by have := HBP.out; omega))) (.inl BW11.out.size))
        have HBE := Lib.hid (BW11.out.alloc BW11.out.size (.cells #[.bool z.leaf, .slice z.ka z.kn z.kc, .slice z.va z.vn z.vc, .bool y.leaf, .slice y.ka y.kn y.kc, .slice y.va y.vn y.vc] 51 (0, 0)))
        clear hw11 hC BP10 BQ10 BW10 HY10 HZ10
        go_wp2
        go_ret
        exact ⟨_, rfl, by rw [HQQ.out]; exact HE2.out, HBE.out⟩
      · have HQQ := Lib.hid (HL.out.trans (parts_two HK.out HC.out hmv))
        have HE2 := Lib.hid (NsZ.two (Z := fun k => w.heap.size ≤ k ∨ Z k) (HP5.out.mono (fun k _ hk => .inl (Nat.le_of_lt hk.1))) (HQ5.out.mono (fun k _ hk => .inl (Nat.le_of_lt hk.1))) (.inl BW5.out.size))
        have HBE := Lib.hid (BW5.out.alloc BW5.out.size (.cells #[.bool p.leaf, .slice p.ka p.kn p.kc, .slice p.va p.vn p.vc, .bool q.leaf, .slice q.ka q.kn q.kc, .slice q.va q.vn q.vc] 51 (0, 0)))
        cases hlf : x.leaf
        · by_cases h1 : q.kn = 1
          · have h2 : ¬ 2 < p.kn := fun h => hmv ⟨by rw [← HXL.out]; exact hlf, by rw [← HQK.out]; exact h1, by rw [← HPK.out]; exact h⟩
            have h2i : (p.kn : Int) ≤ 2 := by omega
            have h1i : ((q.kn : Int) == 1) = true := by rw [h1]; rfl
            rw [hlf] at b0
            clear hmv h2 h1 hlf
            go_wp2
            go_ret
            exact ⟨_, rfl, by rw [HQQ.out]; exact HE2.out, HBE.out⟩
          · have h1i : ((q.kn : Int) == 1) = false := by rw [beq_eq_false_iff_ne]; omega
            rw [hlf] at b0
            clear hmv h1 hlf
            go_wp2
            go_ret
            exact ⟨_, rfl, by rw [HQQ.out]; exact HE2.out, HBE.out⟩
        · rw [hlf] at b0
          clear hmv hlf
          go_wp2
          go_ret
          exact ⟨_, rfl, by rw [HQQ.out]; exact HE2.out, HBE.out⟩
end Go.Proofs.Ytbeldjijnjgbfaa
