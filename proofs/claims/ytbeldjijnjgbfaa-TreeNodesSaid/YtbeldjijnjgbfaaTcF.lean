/-
  Package tree: load.
-/
import Derived.Test.YtbeldjijnjgbfaaMg23
namespace Go.Proofs.Ytbeldjijnjgbfaa
open Go Go.RowKit Go.ChangeShapes Go.WideShapes Go.ChangeAt

theorem load_far {S : StD} {ref : ByteArray} {h : Nat} (h1 : 20 < h) : loadN S ref h = (nilD, 3) := if_pos h1
theorem load_err {S : StD} {ref : ByteArray} {h : Nat} (h1 : ¬ 20 < h) (h2 : (getS S ref).2 ≠ 0) : loadN S ref h = (nilD, (getS S ref).2) := by unfold loadN; rw [if_neg h1, if_pos h2]
theorem load_form {S : StD} {ref : ByteArray} {h : Nat} (h1 : ¬ 20 < h) (h2 : (getS S ref).2 = 0) (h3 : (decP (getS S ref).1).2 ≠ 0 ∨ ((decP (getS S ref).1).1.leaf = false ∧ (decP (getS S ref).1).1.keys = [])) : loadN S ref h = (nilD, 3) := by unfold loadN; rw [if_neg h1, if_neg (by simp [h2]), if_pos h3]
theorem load_leaf {S : StD} {ref : ByteArray} {h : Nat} (h1 : ¬ 20 < h) (h2 : (getS S ref).2 = 0) (h3 : ¬ ((decP (getS S ref).1).2 ≠ 0 ∨ ((decP (getS S ref).1).1.leaf = false ∧ (decP (getS S ref).1).1.keys = []))) (h4 : (decP (getS S ref).1).1.leaf = true) : loadN S ref h = ((decP (getS S ref).1).1, 0) := by unfold loadN; rw [if_neg h1, if_neg (by simp [h2]), if_neg h3, if_pos h4]
theorem load_inner {S : StD} {ref : ByteArray} {h : Nat} (h1 : ¬ 20 < h) (h2 : (getS S ref).2 = 0) (h3 : ¬ ((decP (getS S ref).1).2 ≠ 0 ∨ ((decP (getS S ref).1).1.leaf = false ∧ (decP (getS S ref).1).1.keys = []))) (h4 : ¬ (decP (getS S ref).1).1.leaf = true) : loadN S ref h = (⟨false, (decP (getS S ref).1).1.keys.set 0 leastT, (decP (getS S ref).1).1.vals⟩, 0) := by unfold loadN; rw [if_neg h1, if_neg (by simp [h2]), if_neg h3, if_neg h4]
theorem dec_sm (s : ByteArray) : SmN 255 (decP s).1 := by
  by_cases h : (decP s).2 = 0
  · obtain ⟨e, h2, _⟩ := dec_ok h
    rw [e]
    exact sm_may (may_chk h2)
  · have : (decP s).1 = nilD := by
      unfold decP at h ⊢
      split
      · rfl
      · split
        · rfl
        · rename_i h1 h2
          rw [if_neg h1, if_neg h2] at h
          exact absurd rfl h
    rw [this]
    exact sm_nil _
theorem load_sm (S : StD) (ref : ByteArray) (h : Nat) : SmN 255 (loadN S ref h).1 := by
  unfold loadN
  split
  · exact sm_nil _
  · split
    · exact sm_nil _
    · split
      · exact sm_nil _
      · split
        · exact dec_sm _
        · have h1 := dec_sm (getS S ref).1
          refine ⟨by simpa using h1.kl, h1.vl, fun s hs => ?_⟩
          rcases List.mem_append.1 hs with h | h
          · rcases List.mem_or_eq_of_mem_set h with h | h
            · exact h1.sz s (List.mem_append_left _ h)
            · rw [h]; decide
          · exact h1.sz s (List.mem_append_right _ h)
theorem gets_small {S : StD} (h : StOk S) (ref : ByteArray) : (getS S ref).1.size ≤ 100000 := by
  unfold getS
  split
  · exact Nat.zero_le _
  · split
    · exact Nat.zero_le _
    · rename_i t ht
      exact h.txt t (List.mem_of_getElem? ht)
/-- The node v, laid into a result's block r. -/
theorem node_end {w0 w : World} {r : Nat} {x y z : Value} {a b c : Value} {d : NodeD} (hr : Box w r 51 #[x, y, z]) (hl : w0.heap.size ≤ r) (hb : Below w0.heap.size w0 w) (hn : NodeOwn w w0.heap.size (.agg #[a, b, c]) d) (hk : b.ownBlock ≠ some r) (hv : c.ownBlock ≠ some r) :
    Box (((w.setCell ⟨r, 0, none⟩ a).setCell ⟨r, 1, none⟩ b).setCell ⟨r, 2, none⟩ c) r 51 #[a, b, c] ∧ NodeOwn (((w.setCell ⟨r, 0, none⟩ a).setCell ⟨r, 1, none⟩ b).setCell ⟨r, 2, none⟩ c) w0.heap.size (.agg #[a, b, c]) d ∧ Below w0.heap.size w0 (((w.setCell ⟨r, 0, none⟩ a).setCell ⟨r, 1, none⟩ b).setCell ⟨r, 2, none⟩ c) := by
  have hC := chg_set3 w r a b c
  refine ⟨box_set3 hr a b c, ?_, hb.trans (hC.below hb.size (by intro k hk; simp at hk; omega))⟩
  obtain ⟨kv, vv, e, h1, h2⟩ := hn
  simp only [Value.agg.injEq, Array.mk.injEq, List.cons.injEq, and_true] at e
  obtain ⟨rfl, rfl, rfl⟩ := e
  refine ⟨_, _, rfl, h1.chg hC (fun k hk2 hm => ?_), h2.chg hC (fun k hk2 hm => ?_)⟩
  · simp at hm; subst hm; exact hk hk2
  · simp at hm; subst hm; exact hv hk2
set_option maxRecDepth 100000 in
set_option maxHeartbeats 4000000 in
theorem load_any (kb : Nat) (F : List Nat) (S : StD) (ref : ByteArray) (h : Nat) (w : World) (hK : KpF kb S F w) (hr : ref.size ≤ maxLen) (hh : h ≤ 100000) :
    Calls Try.prog 42 #[kpV kb, .agg #[.string ref, .int .i64 h]] w (DecTo (loadN S ref h) w) := by
  have HF := Lib.hid hK
  have HR := Lib.hid hr
  obtain ⟨PS, hPS⟩ : ∃ PS, PS = DecTo (loadN S ref h) w := ⟨_, rfl⟩
  rw [← hPS]
  have HPS := Lib.hid hPS
  clear hPS
  have HSM : Hid ((getS S ref).1.size ≤ 100000) := by obtain ⟨v, hv, _⟩ := hK; exact gets_small hv.ok ref
  clear hK hr
  go_enter Try.func42, Try.ntmps42
  obtain ⟨w1, hw1⟩ : ∃ w1, w1 = (w.alloc (.cells #[.string ref, .int .i64 (h : Int)] 89 (0, 0))).alloc (.cells #[.bool false, .slice none 0 0, .slice none 0 0] 51 (0, 0)) := ⟨_, rfl⟩
  have BR : Hid (Box w1 (w.heap.size + 1) 51 #[.bool false, .slice none 0 0, .slice none 0 0]) := by show Box _ _ _ _; rw [hw1]; exact box_second _ _ _ _
  have BW : Hid (Below w.heap.size w w1) := by show Below _ _ _; rw [hw1]; exact ((Below.refl _ _).alloc (Nat.le_refl _) _).alloc (by rw [size_alloc]; omega) _
  have KW : Hid (KpF kb S F w1) := HF.out.keep BW.out
  by_cases hh : 20 < h
  · have h2 : (20 : Int) < (h : Int) := by omega
    have HQ : Hid (loadN S ref h = (nilD, 3)) := load_far hh
    clear hh
    go_wp2
    rw [← hw1]
    refine bodyPost_ret (results_cell2 rfl _ _ (w.heap.size + 1) 51 _ (0, 0) _ rfl BR.out Try.underlying51 rfl sizeNode) rfl ?_
    rw [HPS.out, HQ.out]
    exact ⟨_, rfl, NodeOwn.nil _ _, BW.out⟩
  · have h2 : (h : Int) ≤ (20 : Int) := by omega
    have HH := Lib.hid hh
    clear hh
    go_wp2_with fail
    rw [← hw1]
    clear hw1
    refine (askget_any kb F S ref _ KW.out HR.out).mono ?_
    rintro e w2 ⟨rfl, hb⟩
    have BR2 := Lib.hid (BR.out.keep hb BR.out.lt)
    have BW2 := Lib.hid (BW.out.trans (hb.mono BW.out.size))
    clear hb BR BW KW
    by_cases h3 : (getS S ref).2 = 0
    · rw [h3]
      have H3 := Lib.hid h3
      clear h3
      obtain ⟨t, ht⟩ : ∃ t, t = (getS S ref).1 := ⟨_, rfl⟩
      rw [← ht] at HSM ⊢
      have HT := Lib.hid ht
      clear ht
      go_wp2_with fail
      refine (decode_sep t _ HSM.out).mono ?_
      rintro e w3 ⟨v, rfl, hn, hs, hb⟩
      have BR3 := Lib.hid (BR2.out.keep hb BR2.out.lt)
      have BW3 := Lib.hid (BW2.out.trans (hb.mono BW2.out.size))
      obtain ⟨kv, vv, rfl, hk, hv⟩ := hn
      have HZ : Hid (w.heap.size + 1 < w2.heap.size) := BR2.out.lt
      have HZ3 : Hid (w2.heap.size ≤ w3.heap.size) := hb.size
      have HSP := Lib.hid (hs _ _ _ rfl)
      clear hb hs
      obtain ⟨⟨a1, c1, rfl⟩, ⟨a2, c2, rfl⟩⟩ := own_rows hk hv
      obtain ⟨D, hD⟩ : ∃ D, D = (decP t).1 := ⟨_, rfl⟩
      rw [← hD] at hk hv HSP ⊢
      have HK := Lib.hid hk
      have HV := Lib.hid hv
      have HD := Lib.hid hD
      clear hD hk hv
      obtain ⟨w4, hw4⟩ : ∃ w4, w4 = w3.alloc (.cells #[.bool D.leaf, .slice a1 D.keys.length c1, .slice a2 D.vals.length c2] 51 (0, 0)) := ⟨_, rfl⟩
      obtain ⟨m, hm⟩ : ∃ m, m = w3.heap.size := ⟨_, rfl⟩
      have BN : Hid (Box w4 m 51 #[.bool D.leaf, .slice a1 D.keys.length c1, .slice a2 D.vals.length c2]) := by show Box _ _ _ _; rw [hw4, hm]; exact Box.new _ _ _
      have hb : Below w3.heap.size w3 w4 := by rw [hw4]; exact (Below.refl _ _).alloc (Nat.le_refl _) _
      have BR4 := Lib.hid (BR3.out.keep hb BR3.out.lt)
      have BW4 := Lib.hid (BW3.out.trans (hb.mono BW3.out.size))
      have HK4 := Lib.hid (HK.out.keep hb)
      have HV4 := Lib.hid (HV.out.keep hb)
      have HM : Hid (w2.heap.size ≤ m ∧ m < w4.heap.size) := by have := HZ3.out; exact ⟨by omega, BN.out.lt⟩
      have HKM : Hid ((Value.slice a1 D.keys.length c1).ownBlock ≠ some m) := fun e => by have := HK.out.lt _ e; omega
      clear hb HK HV BR3 BW3 BR2 BW2 HZ3
      have hw5 := hw4.symm
      have hm5 := hm.symm
      clear hw4 hm
      have b0 := BN.out.cell 0 _ rfl
      have b1 := BN.out.cell 1 _ rfl
      have b2 := BN.out.cell 2 _ rfl
      have r0 := BR4.out.cell 0 _ rfl
      have r1 := BR4.out.cell 1 _ rfl
      have r2 := BR4.out.cell 2 _ rfl
      have f0 := BR4.out.free 0
      have f1 := BR4.out.free 1
      have f2 := BR4.out.free 2
      have HHd : Hid (¬ 20 < h) := HH
      have HNE : Hid ((Value.slice a1 D.keys.length c1).ownBlock ≠ some (w.heap.size + 1) ∧ (Value.slice a2 D.vals.length c2).ownBlock ≠ some (w.heap.size + 1)) := ⟨fun e => by have := HK4.out.own_block _ e; have := HZ.out; omega, fun e => by have := HV4.out.own_block _ e; have := HZ.out; omega⟩
      have HBE := Lib.hid (BW4.out.trans ((chg_set3 w4 (w.heap.size + 1) (.bool false) (.slice none 0 0) (.slice none 0 0)).below BW4.out.size (fun j hj => by simp at hj; omega)))
      have HRE := Lib.hid (box_set3 BR4.out (.bool false) (.slice none 0 0) (.slice none 0 0))
      by_cases hd : (decP t).2 = 0
      · rw [hd]
        cases hl : D.leaf
        · by_cases hk : D.keys = []
          · have HQ : Hid (loadN S ref h = (nilD, 3)) := load_form HHd.out H3.out (.inr ⟨by rw [← HT.out, ← HD.out]; exact hl, by rw [← HT.out, ← HD.out]; exact hk⟩)
            have hk0 : D.keys.length = 0 := by rw [hk]; rfl
            rw [hk0, hl] at b1 b0 hw5
            rw [hk0]
            clear hk hd
            go_wp2
            refine bodyPost_ret (results_cell2 rfl _ _ (w.heap.size + 1) 51 _ (0, 0) _ rfl HRE.out Try.underlying51 rfl sizeNode) rfl ?_
            rw [HPS.out, HQ.out]
            exact ⟨_, rfl, NodeOwn.nil _ _, HBE.out⟩
          · have HQ : Hid (loadN S ref h = (⟨false, D.keys.set 0 leastT, D.vals⟩, 0)) := by
              have h9 := load_inner (S := S) (ref := ref) HHd.out H3.out (by rw [← HT.out, ← HD.out]; rintro (h | h); exact h hd; exact hk h.2) (by rw [← HT.out, ← HD.out, hl]; decide)
              rw [← HT.out, ← HD.out] at h9
              exact h9
            have hkl : 0 < D.keys.length := List.length_pos_iff.2 hk
            obtain ⟨g, hag⟩ : ∃ g, a1 = some ⟨g, 0, none⟩ := by
              rcases HK4.out.form with ⟨h1, h2⟩ | ⟨g, cap, h1, _⟩
              · exact absurd h2 hk
              · injection h1 with h1 _ _; exact ⟨g, h1⟩
            subst hag
            rw [hl] at b0 hw5
            have q0 : w4.frozen? ⟨g, 0, none⟩ = false := World.ownsRow.frozenAt HK4.out 0
            have q1 : w4.cell? ⟨g, 0, none⟩ = some (.string D.keys[0]) := by rw [World.ownsRow.cellAt HK4.out 0 (by omega), List.getElem?_map, List.getElem?_eq_getElem hkl]; rfl
            have hgm : g ≠ m := fun e => HKM.out (by rw [e]; rfl)
            have hgr : g ≠ w.heap.size + 1 := fun e => HNE.out.1 (by rw [e]; rfl)
            have hC : Chg [g] w4 (w4.setCell ⟨g, 0, none⟩ (.string leastT)) := Chg.only (Only.set g 0 w4 _)
            have BN5 : Hid (Box (w4.setCell ⟨g, 0, none⟩ (.string leastT)) m 51 #[.bool D.leaf, .slice (some ⟨g, 0, none⟩) D.keys.length c1, .slice a2 D.vals.length c2]) := BN.out.of (hC.block m BN.out.lt (by simp; exact fun e => hgm e.symm))
            have BR5 := Lib.hid (BR4.out.of (hC.block _ BR4.out.lt (by simp; exact fun e => hgr e.symm)))
            have hgB := HK4.out.own_block g rfl
            have BW5 : Hid (Below w.heap.size w (w4.setCell ⟨g, 0, none⟩ (.string leastT))) := BW4.out.setCell (p := ⟨g, 0, none⟩) (by have := HZ.out; show w.heap.size ≤ g; omega) _
            have HK5 : Hid (Ks (w4.setCell ⟨g, 0, none⟩ (.string leastT)) w2.heap.size (.slice (some ⟨g, 0, none⟩) D.keys.length c1) (D.keys.set 0 leastT)) := by
              show World.ownsRow _ _ _ _ _ _ _
              rw [List.length_set, List.map_set]
              exact (World.ownsRow.stored HK4.out 0 (.string leastT)).1
            have HV5 := Lib.hid (HV4.out.chg hC (fun k h2 h3 => by simp at h3; subst h3; exact HSP.out k rfl h2))
            have x0 := BN5.out.cell 0 _ rfl
            have x1 := BN5.out.cell 1 _ rfl
            have x2 := BN5.out.cell 2 _ rfl
            have s0 := BR5.out.cell 0 _ rfl
            have s1 := BR5.out.cell 1 _ rfl
            have s2 := BR5.out.cell 2 _ rfl
            have t0 := BR5.out.free 0
            have t1 := BR5.out.free 1
            have t2 := BR5.out.free 2
            have HN5 : NodeOwn (w4.setCell ⟨g, 0, none⟩ (.string leastT)) w.heap.size (.agg #[.bool D.leaf, .slice (some ⟨g, 0, none⟩) D.keys.length c1, .slice a2 D.vals.length c2]) ⟨false, D.keys.set 0 leastT, D.vals⟩ := ⟨_, _, by rw [hl], HK5.out.low (by have := HZ.out; omega), HV5.out.low (by have := HZ.out; omega)⟩
            have he := node_end (w0 := w) BR5.out (by omega) BW5.out HN5 HNE.out.1 HNE.out.2
            rw [hl] at x0 he
            have HE := Lib.hid he
            clear he
            have h1i : ¬ ((D.keys.length : Int) == 0) = true := by simp; omega
            have HL := Lib.hid hl
            clear hgm hgr hC hgB HN5 hk hd hl BN5 BR5 BW5 HK5 HV5
            generalize D.keys[0] = yk at *
            go_wp2
            refine bodyPost_ret (results_cell2 rfl _ _ (w.heap.size + 1) 51 _ (0, 0) _ rfl HE.out.1 Try.underlying51 rfl sizeNode) rfl ?_
            rw [HPS.out, HQ.out]
            exact ⟨_, rfl, HE.out.2.1, HE.out.2.2⟩
        · have HQ : Hid (loadN S ref h = (D, 0)) := by
            have h9 := load_leaf (S := S) (ref := ref) HHd.out H3.out (by rw [← HT.out, ← HD.out]; rintro (h | h); exact h hd; rw [h.1] at hl; cases hl) (by rw [← HT.out, ← HD.out, hl])
            rw [← HT.out, ← HD.out] at h9
            exact h9
          have HN4 : NodeOwn w4 w.heap.size (.agg #[.bool true, .slice a1 D.keys.length c1, .slice a2 D.vals.length c2]) D := ⟨_, _, by rw [hl], HK4.out.low (by have := HZ.out; omega), HV4.out.low (by have := HZ.out; omega)⟩
          have HE := Lib.hid (node_end (w0 := w) BR4.out (by omega) BW4.out HN4 HNE.out.1 HNE.out.2)
          rw [hl] at b0 hw5
          clear hd hl HN4
          go_wp2
          refine bodyPost_ret (results_cell2 rfl _ _ (w.heap.size + 1) 51 _ (0, 0) _ rfl HE.out.1 Try.underlying51 rfl sizeNode) rfl ?_
          rw [HPS.out, HQ.out]
          exact ⟨_, rfl, HE.out.2.1, HE.out.2.2⟩
      · have HQ : Hid (loadN S ref h = (nilD, 3)) := load_form HHd.out H3.out (.inl (by rw [← HT.out]; exact hd))
        have e1 : ((decP t).2 != 0) = true := by simpa using hd
        clear hd
        generalize (decP t).2 = c at *
        go_wp2
        refine bodyPost_ret (results_cell2 rfl _ _ (w.heap.size + 1) 51 _ (0, 0) _ rfl HRE.out Try.underlying51 rfl sizeNode) rfl ?_
        rw [HPS.out, HQ.out]
        exact ⟨_, rfl, NodeOwn.nil _ _, HBE.out⟩
    · have HQ : Hid (loadN S ref h = (nilD, (getS S ref).2)) := load_err HH.out h3
      have e1 : ((getS S ref).2 != 0) = true := by simpa using h3
      clear h3
      have r0 := BR2.out.cell 0 _ rfl
      have r1 := BR2.out.cell 1 _ rfl
      have r2 := BR2.out.cell 2 _ rfl
      have f0 := BR2.out.free 0
      have f1 := BR2.out.free 1
      have f2 := BR2.out.free 2
      have HBE := Lib.hid (BW2.out.trans ((chg_set3 w2 (w.heap.size + 1) (.bool false) (.slice none 0 0) (.slice none 0 0)).below BW2.out.size (fun j hj => by simp at hj; omega)))
      have HRE := Lib.hid (box_set3 BR2.out (.bool false) (.slice none 0 0) (.slice none 0 0))
      generalize (getS S ref).2 = c at *
      generalize (getS S ref).1 = t at *
      go_wp2
      refine bodyPost_ret (results_cell2 rfl _ _ (w.heap.size + 1) 51 _ (0, 0) _ rfl HRE.out Try.underlying51 rfl sizeNode) rfl ?_
      rw [HPS.out, HQ.out]
      exact ⟨_, rfl, NodeOwn.nil _ _, HBE.out⟩
end Go.Proofs.Ytbeldjijnjgbfaa
