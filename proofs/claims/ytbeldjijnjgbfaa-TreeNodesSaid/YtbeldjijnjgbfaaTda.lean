/-
  Package tree: Scan.
-/
import Derived.Test.YtbeldjijnjgbfaaTcZ
namespace Go.Proofs.Ytbeldjijnjgbfaa
open Go Go.RowKit Go.Shelf Go.ChangeShapes Go.WideShapes Go.ChangeAt

attribute [local go_sem] Oper.semAt_some

/-- What Scan holds: what it found. -/
def ScS (B0 b8 b9 b10 : Nat) (acc : List Ent) (C : List Nat) (W : World) : Prop :=
  ∃ v, C = b8 :: b9 :: b10 :: v.ownBlock.toList ∧ Box W b8 38 #[.slice none 0 0] ∧ Box W b9 34 #[.int .i64 0] ∧ Box W b10 38 #[v] ∧ Rw kPr W B0 v acc ∧ (∀ i, v.ownBlock = some i → i ≠ b8 ∧ i ≠ b9 ∧ i ≠ b10)
theorem fixed_scs (B0 b8 b9 b10 : Nat) (acc : List Ent) : Fixed (ScS B0 b8 b9 b10 acc) := by
  refine ⟨?_, ?_⟩
  · rintro G S w1 w2 ⟨v, rfl, h1, h2, h3, h4, h7⟩ hc hn
    exact ⟨v, rfl, h1.of (hc.block _ h1.lt (hn _ (by simp))), h2.of (hc.block _ h2.lt (hn _ (by simp))), h3.of (hc.block _ h3.lt (hn _ (by simp))), h4.chg hc (fun k hk => hn k (by simp [hk])), h7⟩
  · rintro G w ⟨v, rfl, h1, h2, h3, h4, h7⟩ k hk
    simp only [List.mem_cons] at hk
    rcases hk with rfl | rfl | rfl | hk
    · exact h1.lt
    · exact h2.lt
    · exact h3.lt
    · exact h4.lt k (by simpa using hk)
def ScJ (B0 b8 b9 b10 m : Nat) (fr : ByteArray) (L : List (ByteArray × NodeD × Int)) (R : List Ent × Int) (k : Nat) (C : List Nat) (W : World) : Prop :=
  ∃ acc, ScS B0 b8 b9 b10 acc C W ∧ R = scanL fr m (L.drop k) acc ∧ acc.length < m ∧ acc.length ≤ 255 * k
def ScX (B0 b8 b9 : Nat) (R : List Ent × Int) (C : List Nat) (W : World) : Prop :=
  ∃ v, b8 ∈ C ∧ b9 ∈ C ∧ (∀ i, v.ownBlock = some i → i ∈ C) ∧ (∀ i ∈ C, i < W.heap.size) ∧ Box W b8 38 #[v] ∧ Box W b9 34 #[.int .i64 R.2] ∧ Rw kPr W B0 v R.1
theorem fixed_scj (B0 b8 b9 b10 m : Nat) (fr : ByteArray) (L : List (ByteArray × NodeD × Int)) (R : List Ent × Int) (k : Nat) : Fixed (ScJ B0 b8 b9 b10 m fr L R k) :=
  ⟨fun _G _S _w1 _w2 ⟨acc, h1, h2⟩ hc hn => ⟨acc, (fixed_scs _ _ _ _ acc).keep _ _ _ _ h1 hc hn, h2⟩, fun _G _w ⟨acc, h1, _⟩ => (fixed_scs _ _ _ _ acc).lt _ _ h1⟩
theorem fixed_scx (B0 b8 b9 : Nat) (R : List Ent × Int) : Fixed (ScX B0 b8 b9 R) :=
  ⟨fun _G _S _w1 _w2 ⟨v, h1, h2, h3, h4, h5, h6, h7⟩ hc hn => ⟨v, h1, h2, h3, fun i hi => Nat.lt_of_lt_of_le (h4 i hi) hc.size, h5.of (hc.block _ h5.lt (hn _ h1)), h6.of (hc.block _ h6.lt (hn _ h2)), h7.chg hc (fun i hi => hn i (h3 i hi))⟩, fun _G _w ⟨_v, _h1, _h2, _h3, h4, _⟩ => h4⟩
theorem scan_bad {fr : ByteArray} {m : Nat} {q : ByteArray × NodeD × Int} {r : List (ByteArray × NodeD × Int)} {acc : List Ent} (h : q.2.2 ≠ 0) : scanL fr m (q :: r) acc = ([], q.2.2) := by rw [scanL, if_pos h]
theorem scan_full {fr : ByteArray} {m j : Nat} {q : ByteArray × NodeD × Int} {r : List (ByteArray × NodeD × Int)} {acc : List Ent} (h : q.2.2 = 0) (hj : j < (pairsN q.2.1 fr).length) (hm : (acc ++ (pairsN q.2.1 fr).take (j + 1)).length = m) : scanL fr m (q :: r) acc = (acc ++ (pairsN q.2.1 fr).take (j + 1), 0) := by
  have h1 : m = acc.length + (j + 1) := by rw [← hm, List.length_append, List.length_take]; omega
  rw [scanL, if_neg (by simp [h]), if_pos (by rw [List.length_append]; omega), h1, List.take_length_add_append]
theorem scan_next {fr : ByteArray} {m : Nat} {q : ByteArray × NodeD × Int} {r : List (ByteArray × NodeD × Int)} {acc : List Ent} (h : q.2.2 = 0) (hm : (acc ++ pairsN q.2.1 fr).length < m) : scanL fr m (q :: r) acc = scanL fr m r (acc ++ pairsN q.2.1 fr) := by
  rw [scanL, if_neg (by simp [h]), if_neg (by omega)]
theorem pairs_len {d : NodeD} (h : GdN 239 d) (fr : ByteArray) : (pairsN d fr).length ≤ 255 := by
  unfold pairsN
  split
  · have h2 := h.len.1
    refine Nat.le_trans (List.length_filter_le _ _) ?_
    rw [List.length_zip]
    omega
  · exact Nat.zero_le _
theorem nodes_gd (S : StD) (fr : ByteArray) : ∀ (f : Nat) (todo : List (ByteArray × Nat)) (seen : List ByteArray), ∀ q ∈ nodesF S fr f todo seen, GdN 239 q.2.1
  | 0, _, _, q, h => nomatch h
  | f + 1, [], _, q, h => nomatch h
  | f + 1, p :: todo, seen, q, h => by
    rw [nodesF] at h
    split at h
    · rw [List.mem_singleton.1 h]; exact gd_nil _
    · split at h
      · rw [List.mem_singleton.1 h]; exact load_gd _ _ _
      · rcases List.mem_cons.1 h with rfl | h
        · exact load_gd _ _ _
        · exact nodes_gd S fr f _ _ q h
theorem nodesT_gd (S : StD) (root fr : ByteArray) : ∀ q ∈ nodesT S root fr, GdN 239 q.2.1 := by
  unfold nodesT
  split
  · exact fun q h => nomatch h
  · exact nodes_gd _ _ _ _ _
theorem meas_lt {a j : Nat} (h : j < a) : a - (j + 1) < a - j := by omega
theorem wrap_succ {j : Nat} (h : j ≤ 255) : wrap64 ((j : Int) + 1) = ((j + 1 : Nat) : Int) := by rw [IntWalk.wrap64_in _ (by omega)]; omega
set_option maxRecDepth 100000 in
set_option maxHeartbeats 8000000 in
theorem scan_in (kb : Nat) (F : List Nat) (S : StD) (root fr : ByteArray) (many : Int) (w : World) (h : KpF kb S F w) (hr : root.size ≤ 65535) (hfr : fr.size ≤ maxLen) (hnl : (nodesT S root fr).length ≤ 190000) (hm1 : 1 ≤ many) :
    CallsIn Fence.wide 8 Try.prog 14 #[kpV kb, .string root, .string fr, .int .i64 many] w fun e w' => ∃ v, e = .returned (.tuple #[v, .int .i64 (scanT S root fr many).2]) ∧ PrZ (w.heap.size ≤ ·) w' v (scanT S root fr many).1 ∧ Below w.heap.size w w' := by
  have hkp := kp_nil kb
  have HF := Lib.hid h
  have HRT := Lib.hid hr
  have HFR := Lib.hid hfr
  obtain ⟨L, hL⟩ : ∃ L, L = nodesT S root fr := ⟨_, rfl⟩
  obtain ⟨m, hm⟩ : ∃ m : Nat, many = m := ⟨many.toNat, by omega⟩
  obtain ⟨R, hR⟩ : ∃ R, R = scanT S root fr many := ⟨_, rfl⟩
  have hgd := nodesT_gd S root fr
  rw [← hL] at hnl hgd
  rw [← hR]
  have HR : Hid (R = scanL fr m L []) := by show _ = _; rw [hR, hL]; unfold scanT; rw [if_neg (by omega), hm]; rfl
  subst hm
  have HM1 : Hid (1 ≤ m) := by show 1 ≤ m; omega
  have HGD := Lib.hid hgd
  have HLQ := Lib.hid hL
  have HNL := Lib.hid hnl
  obtain ⟨W1, hW1⟩ : ∃ W1, W1 = ((((w.alloc (.cells #[.string fr] 9 (0, 0))).alloc (.cells #[.int .i64 (m : Int)] 3 (0, 0))).alloc (.cells #[.slice none 0 0] 38 (0, 0))).alloc (.cells #[.int .i64 0] 34 (0, 0))).alloc (.cells #[.slice none 0 0] 38 (0, 0)) := ⟨_, rfl⟩
  have HZ1 : Hid (W1.heap.size = w.heap.size + 5) := by show _ = _; rw [hW1]; simp only [size_alloc]
  have B6 : Hid (Box W1 w.heap.size 9 #[.string fr]) := by show Box _ _ _ _; rw [hW1]; exact ((((Box.new _ _ _).alloc _).alloc _).alloc _).alloc _
  have B7 : Hid (Box W1 (w.heap.size + 1) 3 #[.int .i64 (m : Int)]) := by show Box _ _ _ _; rw [hW1]; exact (((box_second _ _ _ _).alloc _).alloc _).alloc _
  have B8 : Hid (Box W1 (w.heap.size + 1 + 1) 38 #[.slice none 0 0]) := by show Box _ _ _ _; rw [hW1]; exact ((box_third _ _ _ _ _).alloc _).alloc _
  have B9 : Hid (Box W1 (w.heap.size + 1 + 1 + 1) 34 #[.int .i64 0]) := by
    show Box _ _ _ _
    have h9 := Box.new (((w.alloc (.cells #[.string fr] 9 (0, 0))).alloc (.cells #[.int .i64 (m : Int)] 3 (0, 0))).alloc (.cells #[.slice none 0 0] 38 (0, 0))) 34 #[.int .i64 0]
    simp only [size_alloc] at h9
    rw [hW1]; exact h9.alloc _
  have B10 : Hid (Box W1 (w.heap.size + 1 + 1 + 1 + 1) 38 #[.slice none 0 0]) := by
    show Box _ _ _ _
    have h9 := Box.new ((((w.alloc (.cells #[.string fr] 9 (0, 0))).alloc (.cells #[.int .i64 (m : Int)] 3 (0, 0))).alloc (.cells #[.slice none 0 0] 38 (0, 0))).alloc (.cells #[.int .i64 0] 34 (0, 0))) 38 #[.slice none 0 0]
    simp only [size_alloc] at h9
    rw [hW1]; exact h9
  have BW : Hid (Below w.heap.size w W1) := by
    show Below _ _ _
    rw [hW1]
    refine (((((Below.refl _ _).alloc (Nat.le_refl _) _).alloc ?_ _).alloc ?_ _).alloc ?_ _).alloc ?_ _ <;> (simp only [size_alloc]; omega)
  have hw1 := hW1.symm
  have k6 : ∀ W, Below W1.heap.size W1 W → W.cell? ⟨w.heap.size, 0, none⟩ = some (.string fr) := fun W hb => (B6.out.keep hb B6.out.lt).cell 0 _ rfl
  have b6c : W1.cell? ⟨w.heap.size, 0, none⟩ = some (.string fr) := B6.out.cell 0 _ rfl
  have h1m : (1 : Int) ≤ (m : Int) := hm1
  clear h hr hfr hnl hL hR hW1 hgd k6
  refine callsIn_of_wp_marks Try.func14 rfl trivial ?_ rfl
  simp only [Try.ntmps14, List.size_toArray, List.length_cons, List.length_nil, Nat.reduceAdd, Nat.reduceSub, Array.replicate_succ, Array.replicate_zero, List.push_toArray, List.append_toArray, List.nil_append, List.cons_append]
  gi_wp2_with fail
  refine ⟨trivial, ?_⟩
  refine (callsIn_wide.2 (nodes_any _ kb root fr _ rfl)).mono ?_
  rintro e Wg ⟨rfl, hbg, bs, b1, b3⟩
  have HBS := Lib.hid bs
  have HB1 := Lib.hid b1
  have HB3 := Lib.hid b3
  have G6 := Lib.hid (B6.out.keep hbg B6.out.lt)
  have G7 := Lib.hid (B7.out.keep hbg B7.out.lt)
  have G8 := Lib.hid (B8.out.keep hbg B8.out.lt)
  have G9 := Lib.hid (B9.out.keep hbg B9.out.lt)
  have G10 := Lib.hid (B10.out.keep hbg B10.out.lt)
  have GW := Lib.hid (BW.out.trans (hbg.mono BW.out.size))
  have HZG : Hid (W1.heap.size + 3 ≤ Wg.heap.size) := b3.lt
  clear hbg bs b1 b3 hw1 b6c
  gi_wp2_with fail
  have hz1 := HZ1.out
  obtain ⟨z, hz⟩ : ∃ z, z = w.heap.size := ⟨_, rfl⟩
  have HZ := Lib.hid hz
  rw [← hz] at G6 G7 G8 G9 G10 hz1 ⊢
  clear hz
  refine range_fx (gf := 44) (lb := #[.pointer (some ⟨W1.heap.size + 1, 0, none⟩), .pointer (some ⟨W1.heap.size, 0, none⟩), .pointer (some ⟨W1.heap.size + 2, 0, none⟩)]) (by decide) rfl (enters_of Try.func44 (by kernel_rfl) rfl) L.length (NodeA L) nodeA_size
    (ScJ z (z + 1 + 1) (z + 1 + 1 + 1) (z + 1 + 1 + 1 + 1) m fr L R) (ScX z (z + 1 + 1) (z + 1 + 1 + 1) R) (fun k => fixed_scj _ _ _ _ _ _ L R k) (fixed_scx _ _ _ R) [z + 1 + 1, z + 1 + 1 + 1, z + 1 + 1 + 1 + 1] ⟨[], ⟨.slice none 0 0, rfl, G8.out, G9.out, G10.out, Rw.nil _ _, fun i hi => by cases hi⟩, by rw [List.drop_zero]; exact HR.out, HM1.out, Nat.le_refl _⟩ ?iter ?body ?fin ?ret
  case iter =>
    intro l2 J2 Jx2 hf2 hfx2 C4 W4 hj4 hb4 hm4 hyy
    have h5 := HZG.out
    have h6 := GW.out.size
    have h7 := HZ.out
    have hnc : ∀ i, (i < z ∨ (W1.heap.size ≤ i ∧ i < Wg.heap.size)) → i ∉ C4 := fun i hi hm => by
      rcases hm4 _ hm with h | h
      · simp at h
        omega
      · omega
    refine nodes_iter 7 l2 (by decide) kb F S root fr (W1.heap.size + 1) W1.heap.size (W1.heap.size + 2) HRT.out HFR.out J2 Jx2 hf2 hfx2 C4 W4 hj4 (HF.out.keep (GW.out.trans (hb4.mono h6))) (fun i hi => hnc i (.inl (by rw [h7]; exact kp_below HF.out i hi))) (HB1.out.keep hb4 HB1.out.lt) (hnc _ (.inr ⟨by omega, by omega⟩)) (HBS.out.keep hb4 HBS.out.lt) (hnc _ (.inr ⟨by omega, by omega⟩)) (HB3.out.keep hb4 HB3.out.lt) (hnc _ (.inr ⟨by omega, by omega⟩)) L HLQ.out hyy
  case body =>
    rintro k C4 W4 ya hk ⟨acc, hsc, hRR, ham, hal⟩ ⟨q, x, hLk, rfl, hx⟩ hsz4 hr4 hd4 hch4 hm4
    have HSC := Lib.hid hsc
    have HR4 := Lib.hid hr4
    have HSZ4 := Lib.hid hsz4
    have HKL := Lib.hid hk
    have hdrop : L.drop k = q :: L.drop (k + 1) := by
      rw [List.drop_eq_getElem_cons hk]
      congr 1
      exact Option.some.inj ((List.getElem?_eq_getElem hk).symm.trans hLk)
    rw [hdrop] at hRR
    have HRR := Lib.hid hRR
    have HGQ : Hid (GdN 239 q.2.1) := HGD.out q (List.mem_of_getElem? hLk)
    have HAM := Lib.hid ham
    have HAL := Lib.hid hal
    have HXX := Lib.hid hx
    have hc0 : ∀ i, i < z + 1 + 1 → i ∉ [z + 1 + 1, z + 1 + 1 + 1, z + 1 + 1 + 1 + 1] := fun i hi hm => by simp at hm; omega
    have I6 := Lib.hid (G6.out.of (hch4.block _ G6.out.lt (hc0 _ (by omega))))
    have I7 := Lib.hid (G7.out.of (hch4.block _ G7.out.lt (hc0 _ (by omega))))
    have HM67 : Hid (z ∉ C4 ∧ z + 1 ∉ C4) := by
      have h5 := HZG.out
      refine ⟨fun hm => ?_, fun hm => ?_⟩
      · rcases hm4 _ hm with h | h
        · exact hc0 _ (by omega) h
        · omega
      · rcases hm4 _ hm with h | h
        · exact hc0 _ (by omega) h
        · omega
    clear hsc hr4 hd4 hch4 hm4 hx hLk hRR ham hal hk hdrop hc0
    gi_wp2_with fail
    refine ⟨(Below.refl _ _).alloc (Nat.le_refl _) _, fun o => ?_⟩
    obtain ⟨Wa, hWa⟩ : ∃ Wa, Wa = W4.alloc (.cells #[.string q.1, .bool x.leaf, .slice x.ka x.kn x.kc, .slice x.va x.vn x.vc] 73 (0, 0)) := ⟨_, rfl⟩
    have hba : Below W4.heap.size W4 Wa := by rw [hWa]; exact (Below.refl _ _).alloc (Nat.le_refl _) _
    have BFa : Box Wa W4.heap.size 73 #[.string q.1, .bool x.leaf, .slice x.ka x.kn x.kc, .slice x.va x.vn x.vc] := by rw [hWa]; exact Box.new _ _ _
    have hcp := chg_put Wa (Wg.heap.size + 1) o
    have hc5 : Chg [Wg.heap.size + 1] W4 (Wa.putObj (Wg.heap.size + 1) o) := (Chg.of hba (Nat.le_refl _)).trans hcp
    have nin : ∀ i, i ∈ C4 → i ∉ [Wg.heap.size + 1] := fun i hi hm => by rw [List.mem_singleton] at hm; subst hm; exact HR4.out hi
    have low : ∀ i, i ≤ Wg.heap.size → i ∉ [Wg.heap.size + 1] := fun i hi hm => by rw [List.mem_singleton] at hm; omega
    have hs5 := (fixed_scs _ _ _ _ acc).keep _ _ _ _ HSC.out hc5 nin
    have h67 := G7.out.lt
    have h6' := I6.out.of (hc5.block _ I6.out.lt (low _ (by omega)))
    have h7' := I7.out.of (hc5.block _ I7.out.lt (low _ (by omega)))
    have hxz : NdZ (· ∉ C4) (Wa.putObj (Wg.heap.size + 1) o) x q.2.1 := (HXX.out.chg hc5 (fun i hi hm => by rw [List.mem_singleton] at hm; subst hm; exact hi (by simp))).mono (fun i _ hi hm => hi (by simp [hm]))
    have hbf' : Box (Wa.putObj (Wg.heap.size + 1) o) W4.heap.size _ _ := BFa.of (hcp.block _ BFa.lt (by simp; have := HSZ4.out; omega))
    have hps : (Wa.putObj (Wg.heap.size + 1) o).heap.size = Wa.heap.size := by
      show (Wa.heap.setIfInBounds _ _).size = _
      rw [Array.size_setIfInBounds]
    have hza : Wa.heap.size = W4.heap.size + 1 := by rw [hWa, size_alloc]
    obtain ⟨W5, hW5⟩ : ∃ W5, W5 = Wa.putObj (Wg.heap.size + 1) o := ⟨_, rfl⟩
    rw [← hWa]
    rw [← hW5] at hs5 h6' h7' hxz hbf' hps ⊢
    have I6 := Lib.hid h6'
    have I7 := Lib.hid h7'
    have HSC5 := Lib.hid hs5
    have HX5 := Lib.hid hxz
    have IB := Lib.hid hbf'
    clear hWa hba BFa hcp hc5 nin low hs5 h67 h6' h7' hxz hbf' hps hza hW5 HXX HSC
    by_cases hqc : q.2.2 = 0
    · rw [hqc]
      have HQC := Lib.hid hqc
      have df0 : W5.cell? ⟨W4.heap.size, 1, none⟩ = some (.bool x.leaf) := IB.out.cell 1 _ rfl
      have df1 : W5.cell? ⟨W4.heap.size, 2, none⟩ = some (.slice x.ka x.kn x.kc) := IB.out.cell 2 _ rfl
      have df2 : W5.cell? ⟨W4.heap.size, 3, none⟩ = some (.slice x.va x.vn x.vc) := IB.out.cell 3 _ rfl
      have d6 : W5.cell? ⟨z, 0, none⟩ = some (.string fr) := I6.out.cell 0 _ rfl
      clear hqc
      gi_wp2_with fail
      refine ⟨trivial, ?_⟩
      refine (callsIn_wide.2 (pairs_any (· ∉ C4) x q.2.1 fr W5 HX5.out (HGQ.out.mono (by decide)) HFR.out)).mono ?_
      rintro e W6 ⟨pv, rfl, hpz, hb6⟩
      obtain ⟨P, hP⟩ : ∃ P, P = pairsN q.2.1 fr := ⟨_, rfl⟩
      have hpl := pairs_len HGQ.out fr
      rw [← hP] at hpz hpl
      have HPQ := Lib.hid hP
      have HPL := Lib.hid hpl
      have hcl4 := (fixed_scs _ _ _ _ acc).lt _ _ HSC5.out
      have HSC6 : Hid (ScS z (z + 1 + 1) (z + 1 + 1 + 1) (z + 1 + 1 + 1 + 1) (acc ++ P.take 0) C4 W6) := by
        rw [List.take_zero, List.append_nil]
        exact (fixed_scs _ _ _ _ acc).keep _ _ _ _ HSC5.out (Chg.of (S := []) hb6 (Nat.le_refl _)) (fun _ _ h => nomatch h)
      have HAM6 : Hid ((acc ++ P.take 0).length < m) := by rw [List.take_zero, List.append_nil]; exact HAM.out
      have HC6 : Hid (Chg C4 W5 W6) := Chg.of hb6 (Nat.le_refl _)
      have HP6 := Lib.hid (hpz.mono (Z' := fun i => i ∉ C4 ∧ W5.heap.size ≤ i) (fun i _ hi => ⟨fun hm => by have := hcl4 i hm; have hi2 : W5.heap.size ≤ i := hi; omega, hi⟩))
      have I76 := Lib.hid (I7.out.keep hb6 I7.out.lt)
      obtain ⟨pa, pc, rfl⟩ := HP6.out.form
      clear hpz hb6 hP hpl hcl4 df0 df1 df2 d6
      gi_wp2_with fail
      gi_loopw [33] (fun iv wr => ∃ (j : Nat) (C2 : List Nat), j ≤ P.length ∧ iv = .int .i64 j ∧ Hid (ScS z (z + 1 + 1) (z + 1 + 1 + 1) (z + 1 + 1 + 1 + 1) (acc ++ P.take j) C2 wr) ∧ Hid ((acc ++ P.take j).length < m) ∧ Hid (Chg C4 W5 wr) ∧ Hid (∀ i ∈ C2, i ∈ C4 ∨ W5.heap.size ≤ i) ∧ Hid (PrZ (fun i => i ∉ C2 ∧ W5.heap.size ≤ i) wr (.slice pa P.length pc) P) ∧ Hid (Box wr (z + 1) 3 #[.int .i64 (m : Int)]) ∧ Hid (z + 1 ∉ C2)) (fun iv _ => P.length - (intOf iv).toNat)
      case atStart => exact ⟨0, C4, Nat.zero_le _, rfl, HSC6, HAM6, HC6, fun i hi => .inl hi, HP6, I76, HM67.out.2⟩
      case round =>
        obtain ⟨j, C2, hj, rfl, HSR, HAR, HCR, HMR, HPR, H7R, H72⟩ := hrel
        clear HSC6 HAM6 HC6 HP6 I76
        have hpl9 : P.length ≤ 255 := HPL.out
        by_cases hlt : j < P.length
        · obtain ⟨v, hC2, h8, h9, h10, hrw, hvn⟩ := HSR.out
          obtain ⟨g, rfl, c0, c1⟩ := HPR.out.at j hlt
          obtain ⟨⟨pk, pv2⟩, hpe⟩ : ∃ p, p = P[j] := ⟨_, rfl⟩
          rw [← hpe] at c0 c1
          obtain ⟨l4, hl4⟩ : ∃ l4, l4 = acc ++ P.take j := ⟨_, rfl⟩
          have HL4 : Hid (l4 ++ [(pk, pv2)] = acc ++ P.take (j + 1)) := by show _ = _; rw [hl4, List.take_succ_eq_append_getElem hlt, List.append_assoc, ← hpe]
          have hlen4 : l4.length = acc.length + j := by rw [hl4, List.length_append, List.length_take]; omega
          rw [← hl4] at hrw HAR
          have HLB : Hid (l4.length + 1 ≤ 100000000) := by
            show _ ≤ _
            have := HAL.out; have := HKL.out; have := HNL.out; have := HPL.out
            omega
          have HLN : Hid (l4.length + 1 = (acc ++ P.take (j + 1)).length) := by show _ = _; rw [← HL4.out]; simp
          obtain ⟨Wu, hWu⟩ : ∃ Wu, Wu = (wr.alloc (.cells #[.string pk, .string pv2] 56 (0, 0))).alloc (.cells #[.string pk, .string pv2] 56 (0, 0)) := ⟨_, rfl⟩
          have hbu : Below wr.heap.size wr Wu := by rw [hWu]; exact ((Below.refl _ _).alloc (Nat.le_refl _) _).alloc (by rw [size_alloc]; omega) _
          have BU : Hid (Box Wu (wr.heap.size + 1) 56 #[.string pk, .string pv2]) := by show Box _ _ _ _; rw [hWu]; exact box_second _ _ _ _
          have HZU : Hid (Wu.heap.size = wr.heap.size + 2 ∧ z ≤ Wu.heap.size) := ⟨by rw [hWu, size_alloc, size_alloc], by have := h10.lt; have := hbu.size; omega⟩
          have HRU := Lib.hid (hrw.keep hbu)
          have HVU := Lib.hid (h10.keep hbu h10.lt)
          have H8U := Lib.hid (h8.keep hbu h8.lt)
          have H9U := Lib.hid (h9.keep hbu h9.lt)
          have H7U := Lib.hid (H7R.out.keep hbu H7R.out.lt)
          have HPU := Lib.hid (HPR.out.keep hbu)
          have HVN := Lib.hid hvn
          have HC2 := Lib.hid hC2
          have HN7 : Hid (∀ i, v.ownBlock = some i → i ≠ z + 1) := fun i hi e => H72.out (by rw [hC2, ← e]; simp [hi])
          have HCU : Hid (Chg C2 wr Wu) := Chg.of hbu (Nat.le_refl _)
          have HWX := Lib.hid hWu.symm
          have s10 : (wr.alloc (.cells #[.string pk, .string pv2] 56 (0, 0))).cell? ⟨z + 1 + 1 + 1 + 1, 0, none⟩ = some v := (h10.alloc _).cell 0 _ rfl
          have HJL := Lib.hid hlt
          clear hC2 h8 h9 h10 hrw hvn hpe hl4 hWu hbu hlen4
          by_cases heq : l4.length + 1 = m
          · have hq : ((l4.length : Int) + 1 == (m : Int)) = true := by rw [beq_iff_eq]; omega
            have HEQ := Lib.hid heq
            clear heq
            gi_wp2_with (gi_at_builtin; go_must (rw [HWX.out]; refine wpListIn_rw_big kPr_ok Try.underlying38 Wu rfl _ _ rfl z v l4 rfl HRU.out (wr.heap.size + 1) 1 (pk, pv2) rfl (fun j2 u hj2 => BU.out.cell j2 u (by rw [← hj2]; show #[Value.string pk, Value.string pv2][j2]? = [Value.string pk, Value.string pv2][j2]?; simp)) HLB.out (by have := HZU.out; omega) ?_; intro b6' cap w7 hR7 hg7 ho7; have hv7 : Box w7 (z + 1 + 1 + 1 + 1) 38 #[v] := HVU.out.of (hg7.block _ HVU.out.lt (fun e => (HVN.out _ e.symm).2.2 rfl)); have hm7 : Box w7 (z + 1) 3 #[.int .i64 (m : Int)] := H7U.out.of (hg7.block _ H7U.out.lt (fun e => HN7.out _ e.symm rfl)); have h8 : Box w7 (z + 1 + 1) 38 #[.slice none 0 0] := H8U.out.of (hg7.block _ H8U.out.lt (fun e => (HVN.out _ e.symm).1 rfl)); have h9 : Box w7 (z + 1 + 1 + 1) 34 #[.int .i64 0] := H9U.out.of (hg7.block _ H9U.out.lt (fun e => (HVN.out _ e.symm).2.1 rfl)); have hset : Chg [z + 1 + 1 + 1 + 1] w7 (w7.setCell ⟨z + 1 + 1 + 1 + 1, 0, none⟩ (.slice b6' (l4.length + 1) cap)) := Chg.only (Only.set _ 0 w7 _); have e0 := hv7.cell 0 _ rfl; have e1 := hv7.free 0; have V8 := Lib.hid (hv7.set 0 (.slice b6' (l4.length + 1) cap)); have M8 : Hid (Box (w7.setCell ⟨z + 1 + 1 + 1 + 1, 0, none⟩ (.slice b6' (l4.length + 1) cap)) (z + 1) 3 #[.int .i64 (m : Int)]) := hm7.of (hset.block _ hm7.lt (by first | (simp; done) | (simp; omega))); have N8 : Hid (Box (w7.setCell ⟨z + 1 + 1 + 1 + 1, 0, none⟩ (.slice b6' (l4.length + 1) cap)) (z + 1 + 1) 38 #[.slice none 0 0]) := h8.of (hset.block _ h8.lt (by first | (simp; done) | (simp; omega))); have N9 : Hid (Box (w7.setCell ⟨z + 1 + 1 + 1 + 1, 0, none⟩ (.slice b6' (l4.length + 1) cap)) (z + 1 + 1 + 1) 34 #[.int .i64 0]) := h9.of (hset.block _ h9.lt (by simp)); have x10 : (w7.setCell ⟨z + 1 + 1 + 1 + 1, 0, none⟩ (.slice b6' (l4.length + 1) cap)).cell? ⟨z + 1 + 1 + 1 + 1, 0, none⟩ = some (.slice b6' (l4.length + 1) cap) := V8.out.cell 0 _ rfl; have x7 : (w7.setCell ⟨z + 1 + 1 + 1 + 1, 0, none⟩ (.slice b6' (l4.length + 1) cap)).cell? ⟨z + 1, 0, none⟩ = some (.int .i64 (m : Int)) := Box.cell M8.out 0 _ rfl; have x8 : (w7.setCell ⟨z + 1 + 1 + 1 + 1, 0, none⟩ (.slice b6' (l4.length + 1) cap)).cell? ⟨z + 1 + 1, 0, none⟩ = some (.slice none 0 0) := Box.cell N8.out 0 _ rfl; have x9 : (w7.setCell ⟨z + 1 + 1 + 1 + 1, 0, none⟩ (.slice b6' (l4.length + 1) cap)).cell? ⟨z + 1 + 1 + 1, 0, none⟩ = some (.int .i64 0) := Box.cell N9.out 0 _ rfl; have y8 := N8.out.free 0; have y9 := N9.out.free 0; have HR7 := Lib.hid hR7; have HG7 := Lib.hid hg7; have HO7 := Lib.hid ho7; have HST := Lib.hid hset; clear hR7 hg7 hv7 ho7 hm7 h8 h9 hset))
            obtain ⟨w8, hw8⟩ : ∃ w8, w8 = w7.setCell ⟨z + 1 + 1 + 1 + 1, 0, none⟩ (.slice b6' (l4.length + 1) cap) := ⟨_, rfl⟩
            rw [← hw8] at V8 M8 N8 N9 HST
            have hne : ∀ i, (Value.slice b6' (l4.length + 1) cap).ownBlock = some i → i ≠ z + 1 + 1 ∧ i ≠ z + 1 + 1 + 1 ∧ i ≠ z + 1 + 1 + 1 + 1 ∧ (i ∈ C2 ∨ Wu.heap.size ≤ i) := fun i hi => by
              rcases HO7.out with h | h
              · rw [h] at hi
                obtain ⟨n1, n2, n3⟩ := HVN.out i hi
                exact ⟨n1, n2, n3, .inl (by rw [HC2.out]; simp [hi])⟩
              · rw [h] at hi
                injection hi with hi
                have := HVU.out.lt
                exact ⟨by omega, by omega, by omega, .inr (by omega)⟩
            have hr8 := HR7.out.chg HST.out (fun i hi hm => by rw [List.mem_singleton] at hm; exact (hne i hi).2.2.1 hm)
            have hch8 : Chg C2 wr w8 := (HCU.out.trans (Chg.grown HG7.out (fun i hi => by rw [HC2.out]; simp [hi]))).trans (HST.out.mono (fun i hi => by rw [List.mem_singleton.1 hi, HC2.out]; simp))
            have hC8 : ∀ i, i ∈ (z + 1 + 1) :: (z + 1 + 1 + 1) :: (z + 1 + 1 + 1 + 1) :: (Value.slice b6' (l4.length + 1) cap).ownBlock.toList → i ∈ C2 ∨ wr.heap.size ≤ i := fun i hi => by
              simp only [List.mem_cons] at hi
              rcases hi with rfl | rfl | rfl | hi
              · exact .inl (by rw [HC2.out]; simp)
              · exact .inl (by rw [HC2.out]; simp)
              · exact .inl (by rw [HC2.out]; simp)
              · rcases (hne i (by simpa using hi)).2.2.2 with h | h
                · exact .inl h
                · have := HZU.out; exact .inr (by omega)
            have hsc8 : ScS z (z + 1 + 1) (z + 1 + 1 + 1) (z + 1 + 1 + 1 + 1) (l4 ++ [(pk, pv2)]) ((z + 1 + 1) :: (z + 1 + 1 + 1) :: (z + 1 + 1 + 1 + 1) :: (Value.slice b6' (l4.length + 1) cap).ownBlock.toList) w8 := ⟨_, rfl, N8.out, N9.out, V8.out, hr8, fun i hi => ⟨(hne i hi).1, (hne i hi).2.1, (hne i hi).2.2.1⟩⟩
            rw [HL4.out] at hsc8
            have HRF : Hid (R = (acc ++ P.take (j + 1), 0)) := by
              show _ = _
              rw [HRR.out, HPQ.out]
              rw [HPQ.out] at HLN HJL
              exact scan_full HQC.out HJL.out (by rw [← HLN.out]; exact HEQ.out)
            obtain ⟨r0, r1, rc⟩ := two_set N8.out N9.out (by omega) (.slice b6' (l4.length + 1) cap) (.int .i64 0)
            rw [← hw8]
            have hch5 : Chg C4 W5 w8 := HCR.out.then hch8 (fun i hi => HMR.out i hi)
            have hin : ∀ i, i = z + 1 + 1 ∨ i = z + 1 + 1 + 1 → i ∈ C2 := fun i hi => by rw [HC2.out]; rcases hi with rfl | rfl <;> simp
            refine ⟨(z + 1 + 1) :: (z + 1 + 1 + 1) :: (z + 1 + 1 + 1 + 1) :: (Value.slice b6' (l4.length + 1) cap).ownBlock.toList, ⟨.slice b6' (l4.length + 1) cap, by simp, by simp, fun i hi => by simp [hi], fun i hi => ?_, r0, by rw [HRF.out]; exact r1, ?_⟩, hch5.then rc (fun i hi => HMR.out i (hin i (by simpa using hi))), fun i hi => ?_⟩
            · refine Nat.lt_of_lt_of_le ?_ rc.size
              exact (fixed_scs _ _ _ _ _).lt _ _ hsc8 i hi
            · rw [HRF.out, ← HL4.out]
              exact hr8.chg rc (fun i hi hm => by have := hne i hi; simp at hm; omega)
            · rcases hC8 i hi with h | h
              · exact HMR.out i h
              · exact .inr (Nat.le_trans HCR.out.size h)
          · have hq : ((l4.length : Int) + 1 == (m : Int)) = false := by rw [beq_eq_false_iff_ne]; omega
            have HEQ := Lib.hid heq
            clear heq
            gi_wp2_with (gi_at_builtin; go_must (rw [HWX.out]; refine wpListIn_rw_big kPr_ok Try.underlying38 Wu rfl _ _ rfl z v l4 rfl HRU.out (wr.heap.size + 1) 1 (pk, pv2) rfl (fun j2 u hj2 => BU.out.cell j2 u (by rw [← hj2]; show #[Value.string pk, Value.string pv2][j2]? = [Value.string pk, Value.string pv2][j2]?; simp)) HLB.out (by have := HZU.out; omega) ?_; intro b6' cap w7 hR7 hg7 ho7; have hv7 : Box w7 (z + 1 + 1 + 1 + 1) 38 #[v] := HVU.out.of (hg7.block _ HVU.out.lt (fun e => (HVN.out _ e.symm).2.2 rfl)); have hm7 : Box w7 (z + 1) 3 #[.int .i64 (m : Int)] := H7U.out.of (hg7.block _ H7U.out.lt (fun e => HN7.out _ e.symm rfl)); have h8 : Box w7 (z + 1 + 1) 38 #[.slice none 0 0] := H8U.out.of (hg7.block _ H8U.out.lt (fun e => (HVN.out _ e.symm).1 rfl)); have h9 : Box w7 (z + 1 + 1 + 1) 34 #[.int .i64 0] := H9U.out.of (hg7.block _ H9U.out.lt (fun e => (HVN.out _ e.symm).2.1 rfl)); have hset : Chg [z + 1 + 1 + 1 + 1] w7 (w7.setCell ⟨z + 1 + 1 + 1 + 1, 0, none⟩ (.slice b6' (l4.length + 1) cap)) := Chg.only (Only.set _ 0 w7 _); have e0 := hv7.cell 0 _ rfl; have e1 := hv7.free 0; have V8 := Lib.hid (hv7.set 0 (.slice b6' (l4.length + 1) cap)); have M8 : Hid (Box (w7.setCell ⟨z + 1 + 1 + 1 + 1, 0, none⟩ (.slice b6' (l4.length + 1) cap)) (z + 1) 3 #[.int .i64 (m : Int)]) := hm7.of (hset.block _ hm7.lt (by first | (simp; done) | (simp; omega))); have N8 : Hid (Box (w7.setCell ⟨z + 1 + 1 + 1 + 1, 0, none⟩ (.slice b6' (l4.length + 1) cap)) (z + 1 + 1) 38 #[.slice none 0 0]) := h8.of (hset.block _ h8.lt (by first | (simp; done) | (simp; omega))); have N9 : Hid (Box (w7.setCell ⟨z + 1 + 1 + 1 + 1, 0, none⟩ (.slice b6' (l4.length + 1) cap)) (z + 1 + 1 + 1) 34 #[.int .i64 0]) := h9.of (hset.block _ h9.lt (by simp)); have x10 : (w7.setCell ⟨z + 1 + 1 + 1 + 1, 0, none⟩ (.slice b6' (l4.length + 1) cap)).cell? ⟨z + 1 + 1 + 1 + 1, 0, none⟩ = some (.slice b6' (l4.length + 1) cap) := V8.out.cell 0 _ rfl; have x7 : (w7.setCell ⟨z + 1 + 1 + 1 + 1, 0, none⟩ (.slice b6' (l4.length + 1) cap)).cell? ⟨z + 1, 0, none⟩ = some (.int .i64 (m : Int)) := Box.cell M8.out 0 _ rfl; have x8 : (w7.setCell ⟨z + 1 + 1 + 1 + 1, 0, none⟩ (.slice b6' (l4.length + 1) cap)).cell? ⟨z + 1 + 1, 0, none⟩ = some (.slice none 0 0) := Box.cell N8.out 0 _ rfl; have x9 : (w7.setCell ⟨z + 1 + 1 + 1 + 1, 0, none⟩ (.slice b6' (l4.length + 1) cap)).cell? ⟨z + 1 + 1 + 1, 0, none⟩ = some (.int .i64 0) := Box.cell N9.out 0 _ rfl; have y8 := N8.out.free 0; have y9 := N9.out.free 0; have HR7 := Lib.hid hR7; have HG7 := Lib.hid hg7; have HO7 := Lib.hid ho7; have HST := Lib.hid hset; clear hR7 hg7 hv7 ho7 hm7 h8 h9 hset))
            obtain ⟨w8, hw8⟩ : ∃ w8, w8 = w7.setCell ⟨z + 1 + 1 + 1 + 1, 0, none⟩ (.slice b6' (l4.length + 1) cap) := ⟨_, rfl⟩
            rw [← hw8] at V8 M8 N8 N9 HST
            have hne : ∀ i, (Value.slice b6' (l4.length + 1) cap).ownBlock = some i → i ≠ z + 1 + 1 ∧ i ≠ z + 1 + 1 + 1 ∧ i ≠ z + 1 + 1 + 1 + 1 ∧ (i ∈ C2 ∨ Wu.heap.size ≤ i) := fun i hi => by
              rcases HO7.out with h | h
              · rw [h] at hi
                obtain ⟨n1, n2, n3⟩ := HVN.out i hi
                exact ⟨n1, n2, n3, .inl (by rw [HC2.out]; simp [hi])⟩
              · rw [h] at hi
                injection hi with hi
                have := HVU.out.lt
                exact ⟨by omega, by omega, by omega, .inr (by omega)⟩
            have hr8 := HR7.out.chg HST.out (fun i hi hm => by rw [List.mem_singleton] at hm; exact (hne i hi).2.2.1 hm)
            have hch8 : Chg C2 wr w8 := (HCU.out.trans (Chg.grown HG7.out (fun i hi => by rw [HC2.out]; simp [hi]))).trans (HST.out.mono (fun i hi => by rw [List.mem_singleton.1 hi, HC2.out]; simp))
            have hC8 : ∀ i, i ∈ (z + 1 + 1) :: (z + 1 + 1 + 1) :: (z + 1 + 1 + 1 + 1) :: (Value.slice b6' (l4.length + 1) cap).ownBlock.toList → i ∈ C2 ∨ wr.heap.size ≤ i := fun i hi => by
              simp only [List.mem_cons] at hi
              rcases hi with rfl | rfl | rfl | hi
              · exact .inl (by rw [HC2.out]; simp)
              · exact .inl (by rw [HC2.out]; simp)
              · exact .inl (by rw [HC2.out]; simp)
              · rcases (hne i (by simpa using hi)).2.2.2 with h | h
                · exact .inl h
                · have := HZU.out; exact .inr (by omega)
            have hsc8 : ScS z (z + 1 + 1) (z + 1 + 1 + 1) (z + 1 + 1 + 1 + 1) (l4 ++ [(pk, pv2)]) ((z + 1 + 1) :: (z + 1 + 1 + 1) :: (z + 1 + 1 + 1 + 1) :: (Value.slice b6' (l4.length + 1) cap).ownBlock.toList) w8 := ⟨_, rfl, N8.out, N9.out, V8.out, hr8, fun i hi => ⟨(hne i hi).1, (hne i hi).2.1, (hne i hi).2.2.1⟩⟩
            rw [HL4.out] at hsc8
            have HS8 := Lib.hid hsc8
            have HA8 : Hid ((acc ++ P.take (j + 1)).length < m) := by have := HLN.out; have := HAR.out; have := HEQ.out; show _ < _; omega
            have HCH8 : Hid (Chg C4 W5 w8) := HCR.out.then hch8 (fun i hi => HMR.out i hi)
            have HMR8 : Hid (∀ i ∈ (z + 1 + 1) :: (z + 1 + 1 + 1) :: (z + 1 + 1 + 1 + 1) :: (Value.slice b6' (l4.length + 1) cap).ownBlock.toList, i ∈ C4 ∨ W5.heap.size ≤ i) := fun i hi => by
              rcases hC8 i hi with h | h
              · exact HMR.out i h
              · exact .inr (Nat.le_trans HCR.out.size h)
            have HP8 := Lib.hid (HPR.out.tod2 hch8 hC8)
            have H78 : Hid (z + 1 ∉ (z + 1 + 1) :: (z + 1 + 1 + 1) :: (z + 1 + 1 + 1 + 1) :: (Value.slice b6' (l4.length + 1) cap).ownBlock.toList) := fun hm => by
              rcases hC8 _ hm with h | h
              · exact H72.out h
              · have := H7R.out.lt; omega
            rw [← hw8]
            go_roundw
            case rel => exact ⟨j + 1, _, HJL.out, by go_num, HS8, HA8, HCH8, HMR8, HP8, M8, H78⟩
            case measure => have := HJL.out; simp [intOf]; omega
        · have hjl : j = P.length := by omega
          have HRF : Hid (R = scanL fr m (L.drop (k + 1)) (acc ++ P)) := by
            show _ = _
            have h9 := HAR.out
            rw [List.take_of_length_le (by omega), HPQ.out] at h9
            rw [HRR.out, HPQ.out]
            exact scan_next HQC.out h9
          have HSF : Hid (ScS z (z + 1 + 1) (z + 1 + 1 + 1) (z + 1 + 1 + 1 + 1) (acc ++ P) C2 wr ∧ (acc ++ P).length < m) := by
            have h1 := HSR.out
            have h2 := HAR.out
            rw [List.take_of_length_le (by omega)] at h1 h2
            exact ⟨h1, h2⟩
          have HL9 : Hid ((acc ++ P).length ≤ 255 * (k + 1)) := by show _ ≤ _; rw [List.length_append]; have := HAL.out; have := HPL.out; omega
          clear hlt
          subst hjl
          gi_wp2
          exact ⟨C2, ⟨acc ++ P, HSF.out.1, HRF.out, HSF.out.2, HL9.out⟩, HCR.out, HMR.out⟩
    · have HRN : Hid (R = ([], q.2.2)) := by show _ = _; rw [HRR.out]; exact scan_bad hqc
      have e1 : (q.2.2 != 0) = true := by simpa using hqc
      obtain ⟨v, hC, h8, h9, h10, hrw, hvn⟩ := HSC5.out
      have d4 := h8.cell 0 _ rfl
      have d5 := h9.cell 0 _ rfl
      have f4 := h8.free 0
      have f5 := h9.free 0
      have hlt4 := (fixed_scs _ _ _ _ acc).lt _ _ HSC5.out
      clear hqc
      generalize q.2.2 = c at *
      have HC := Lib.hid hC
      have H8 := Lib.hid h8
      have H9 := Lib.hid h9
      have HLT := Lib.hid hlt4
      clear hC h8 h9 h10 hrw hvn hlt4
      gi_wp2
      obtain ⟨r0, r1, rc⟩ := two_set H8.out H9.out (Nat.ne_of_lt (Nat.lt_succ_self _)) (.slice none 0 0) (.int .i64 c)
      refine ⟨C4, ⟨.slice none 0 0, by rw [HC.out]; simp, by rw [HC.out]; simp, fun i hi => (nomatch hi), fun i hi => Nat.lt_of_lt_of_le (HLT.out i hi) rc.size, r0, by rw [HRN.out]; exact r1, by rw [HRN.out]; exact Rw.nil _ _⟩, rc.mono (fun i hi => by rw [HC.out]; simp at hi; rcases hi with rfl | rfl <;> simp), fun i hi => .inl hi⟩
  case fin =>
    rintro C4 W4 ⟨acc, ⟨v, hC, h8, h9, h10, hrw, hvn⟩, hRR, ham, hal⟩ hch hmem hd hsz hdd
    obtain ⟨va, vc, rfl, _⟩ := hrw.form
    have HRE : Hid (R = (acc, 0)) := by show _ = _; rw [hRR, List.drop_of_length_le (Nat.le_refl _)]; rfl
    have d4 : W4.cell? ⟨z + 1 + 1, 0, none⟩ = some (.slice none 0 0) := h8.cell 0 _ rfl
    have d5 : W4.cell? ⟨z + 1 + 1 + 1, 0, none⟩ = some (.int .i64 0) := h9.cell 0 _ rfl
    have d6 : W4.cell? ⟨z + 1 + 1 + 1 + 1, 0, none⟩ = some (.slice va acc.length vc) := h10.cell 0 _ rfl
    have f4 := h8.free 0
    have f5 := h9.free 0
    obtain ⟨r0, r1, rc⟩ := two_set h8 h9 (by omega) (.slice va acc.length vc) (.int .i64 0)
    have hrw2 := hrw.chg rc (fun i hi hm => by have := hvn i hi; simp at hm; omega)
    have hgz := HZG.out
    have hgw := GW.out.size
    have hzz := HZ.out
    have hdd2 := (rc.block _ (by omega : Wg.heap.size < W4.heap.size) (by simp; omega)).trans hdd
    have hcp := chg_put ((W4.setCell ⟨z + 1 + 1, 0, none⟩ (.slice va acc.length vc)).setCell ⟨z + 1 + 1 + 1, 0, none⟩ (.int .i64 0)) Wg.heap.size (.deferred none)
    have hown : ∀ i, (Value.slice va acc.length vc).ownBlock = some i → i ∈ C4 := fun i hi => by rw [hC]; simp [hi]
    have hpz : PrZ (w.heap.size ≤ ·) _ (.slice va acc.length vc) acc := ⟨((hrw2.chg hcp (fun i hi hm => by rw [List.mem_singleton] at hm; subst hm; exact hd (hown _ hi))).low (Nat.zero_le _)), fun i hi => by have := hrw.own_block i hi; omega⟩
    have HPZ := Lib.hid hpz
    have HR0 := Lib.hid (r0.of (hcp.block _ r0.lt (by simp; omega)))
    have HR1 := Lib.hid (r1.of (hcp.block _ r1.lt (by simp; omega)))
    have HBE : Hid (Below w.heap.size w _) := ((GW.out.trans (hch.below hgw (fun i hi => by simp at hi; omega))).trans (rc.below (Nat.le_trans hgw (by omega)) (fun i hi => by simp at hi; omega))).trans (hcp.below (Nat.le_trans (Nat.le_trans hgw (by omega)) rc.size) (fun i hi => by rw [List.mem_singleton] at hi; omega))
    have HDD := Lib.hid hdd2
    clear hC hrw hRR hal ham hvn hch hmem hd hsz hdd h8 h9 h10 r0 r1 rc hrw2 hdd2 hcp hown hpz hzz hgz hgw
    gi_wp2
    refine ⟨by simp, .inl ⟨_, _, rfl, run_takeDeferred HDD.out, ?_⟩⟩
    refine ⟨_, results_c2 rfl _ _ ⟨z + 1 + 1, 0, none⟩ ⟨z + 1 + 1 + 1, 0, none⟩ _ _ rfl rfl (Try.isAgg38 _) (Try.isAgg34 _) (HR0.out.cell 0 _ rfl) (HR1.out.cell 0 _ rfl), ?_⟩
    rw [HRE.out]
    exact ⟨_, rfl, HPZ.out, HBE.out⟩
  case ret =>
    rintro C4 W4 ⟨v, hm4, hm5, hown, hlt, h8, h9, hrw⟩ hch hmem hd hsz hdd
    obtain ⟨va, vc, rfl, _⟩ := hrw.form
    have hcp := chg_put W4 Wg.heap.size (.deferred none)
    have hgz := HZG.out
    have hgw := GW.out.size
    have hzz := HZ.out
    have HR0 := Lib.hid (h8.of (hcp.block _ h8.lt (by simp; omega)))
    have HR1 := Lib.hid (h9.of (hcp.block _ h9.lt (by simp; omega)))
    have hpz : PrZ (w.heap.size ≤ ·) _ (.slice va R.1.length vc) R.1 := ⟨((hrw.chg hcp (fun i hi hm => by rw [List.mem_singleton] at hm; subst hm; exact hd (hown _ hi))).low (Nat.zero_le _)), fun i hi => by have := hrw.own_block i hi; omega⟩
    have HPZ := Lib.hid hpz
    have HBE : Hid (Below w.heap.size w _) := (GW.out.trans (hch.below hgw (fun i hi => by simp at hi; omega))).trans (hcp.below (Nat.le_trans hgw (by omega)) (fun i hi => by rw [List.mem_singleton] at hi; omega))
    have HDD := Lib.hid hdd
    clear hch hmem hd hsz hdd hcp h8 h9 hrw hown hpz hzz hgz hgw
    gi_wp2
    refine ⟨by simp, .inl ⟨_, _, rfl, run_takeDeferred HDD.out, ?_⟩⟩
    refine ⟨_, results_c2 rfl _ _ ⟨z + 1 + 1, 0, none⟩ ⟨z + 1 + 1 + 1, 0, none⟩ _ _ rfl rfl (Try.isAgg38 _) (Try.isAgg34 _) (HR0.out.cell 0 _ rfl) (HR1.out.cell 0 _ rfl), ?_⟩
    exact ⟨_, rfl, HPZ.out, HBE.out⟩
set_option maxRecDepth 100000 in
set_option maxHeartbeats 4000000 in
theorem scan_none (kb : Nat) (S : StD) (root fr : ByteArray) (many : Int) (w : World) (hm : many < 1) :
    Calls Try.prog 14 #[kpV kb, .string root, .string fr, .int .i64 many] w fun e w' => ∃ v, e = .returned (.tuple #[v, .int .i64 (scanT S root fr many).2]) ∧ PrZ (w.heap.size ≤ ·) w' v (scanT S root fr many).1 ∧ Below w.heap.size w w' := by
  have hkp := kp_nil kb
  have hR : scanT S root fr many = ([], 0) := if_pos hm
  rw [hR]
  obtain ⟨W1, hW1⟩ : ∃ W1, W1 = (((w.alloc (.cells #[.string fr] 9 (0, 0))).alloc (.cells #[.int .i64 many] 3 (0, 0))).alloc (.cells #[.slice none 0 0] 38 (0, 0))).alloc (.cells #[.int .i64 0] 34 (0, 0)) := ⟨_, rfl⟩
  have B7 : Box W1 (w.heap.size + 1) 3 #[.int .i64 many] := by rw [hW1]; exact ((box_second _ _ _ _).alloc _).alloc _
  have B8 : Hid (Box W1 (w.heap.size + 1 + 1) 38 #[.slice none 0 0]) := by show Box _ _ _ _; rw [hW1]; exact (box_third _ _ _ _ _).alloc _
  have B9 : Hid (Box W1 (w.heap.size + 1 + 1 + 1) 34 #[.int .i64 0]) := by
    show Box _ _ _ _
    have h9 := Box.new (((w.alloc (.cells #[.string fr] 9 (0, 0))).alloc (.cells #[.int .i64 many] 3 (0, 0))).alloc (.cells #[.slice none 0 0] 38 (0, 0))) 34 #[.int .i64 0]
    simp only [size_alloc] at h9
    rw [hW1]; exact h9
  have BW : Hid (Below w.heap.size w W1) := by
    show Below _ _ _
    rw [hW1]
    refine ((((Below.refl _ _).alloc (Nat.le_refl _) _).alloc ?_ _).alloc ?_ _).alloc ?_ _ <;> (simp only [size_alloc]; omega)
  have c7 : W1.cell? ⟨w.heap.size + 1, 0, none⟩ = some (.int .i64 many) := B7.cell 0 _ rfl
  have d4 : W1.cell? ⟨w.heap.size + 1 + 1, 0, none⟩ = some (.slice none 0 0) := Box.cell B8.out 0 _ rfl
  have d5 : W1.cell? ⟨w.heap.size + 1 + 1 + 1, 0, none⟩ = some (.int .i64 0) := Box.cell B9.out 0 _ rfl
  have f4 := Box.free B8.out 0
  have f5 := Box.free B9.out 0
  have hw1 := hW1.symm
  obtain ⟨r0, r1, rc⟩ := two_set B8.out B9.out (Nat.ne_of_lt (Nat.lt_succ_self _)) (.slice none 0 0) (.int .i64 0)
  have R0 := Lib.hid r0
  have R1 := Lib.hid r1
  have HBE := Lib.hid (BW.out.trans (rc.below BW.out.size (fun i hi => by simp at hi; omega)))
  clear hW1 B7 r0 r1 rc hR
  go_enter Try.func14, Try.ntmps14
  go_wp2
  refine bodyPost_ret (results_c2 rfl _ _ ⟨w.heap.size + 1 + 1, 0, none⟩ ⟨w.heap.size + 1 + 1 + 1, 0, none⟩ _ _ rfl rfl (Try.isAgg38 _) (Try.isAgg34 _) (Box.cell R0.out 0 _ rfl) (Box.cell R1.out 0 _ rfl)) rfl ?_
  exact ⟨_, rfl, PrZ.nil _ _, HBE.out⟩
theorem scan_any (kb : Nat) (F : List Nat) (S : StD) (root fr : ByteArray) (many : Int) (w : World) (h : KpF kb S F w) (hr : root.size ≤ 65535) (hfr : fr.size ≤ maxLen) :
    Calls Try.prog 14 #[kpV kb, .string root, .string fr, .int .i64 many] w fun e w' => ∃ v, e = .returned (.tuple #[v, .int .i64 (scanT S root fr many).2]) ∧ PrZ (w.heap.size ≤ ·) w' v (scanT S root fr many).1 ∧ Below w.heap.size w w' := by
  rcases Int.lt_or_le many 1 with hm | hm
  · exact scan_none kb S root fr many w hm
  · have hl : (nodesT S root fr).length ≤ 190000 := by obtain ⟨v, hv, _⟩ := h; exact nodesT_len hv.ok root fr
    exact callsIn_wide.1 (scan_in kb F S root fr many w h hr hfr hl hm)
end Go.Proofs.Ytbeldjijnjgbfaa
