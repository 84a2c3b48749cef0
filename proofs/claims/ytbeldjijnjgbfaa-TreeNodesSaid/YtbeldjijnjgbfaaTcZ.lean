/-
  Package tree: Refs.
-/
import Derived.Test.YtbeldjijnjgbfaaTcY
namespace Go.Proofs.Ytbeldjijnjgbfaa
open Go Go.RowKit Go.Shelf Go.ChangeShapes Go.WideShapes Go.ChangeAt

attribute [local go_sem] Oper.semAt_some

def kTx : RwK ByteArray := ⟨9, 1, fun s => [.string s]⟩
theorem kTx_ok : RwOk kTx := by
  refine ⟨⟨.string ⟨#[]⟩, 16, by kernel_rfl, rfl, by decide⟩, by decide, fun _ => rfl, fun x u hu => ?_⟩
  simp only [kTx, List.mem_cons, List.not_mem_nil, or_false] at hu
  subst hu
  rfl
theorem tx_flat (l : List ByteArray) : l.flatMap kTx.f = l.map Value.string := by
  induction l with
  | nil => rfl
  | cons a r ih => rw [List.flatMap_cons, List.map_cons, ih]; rfl
theorem rw_ks {w : World} {base : Nat} {v : Value} {l : List ByteArray} (h : Rw kTx w base v l) : Ks w base v l := by
  unfold Rw at h
  rw [tx_flat] at h
  exact h
theorem nodeA_size {L : List (ByteArray × NodeD × Int)} (k : Nat) (ya : Array Value) (C : List Nat) (W : World) (h : NodeA L k ya C W) : ya.size = 2 := by
  obtain ⟨q, x, _, rfl, _⟩ := h
  rfl
theorem nodeA_mono {L : List (ByteArray × NodeD × Int)} (k : Nat) (ya : Array Value) (C C' : List Nat) (W : World) (hc : ∀ c ∈ C, c ∈ C') (h : NodeA L k ya C' W) : NodeA L k ya C W := by
  obtain ⟨q, x, h1, h2, h3⟩ := h
  exact ⟨q, x, h1, h2, h3.mono (fun i _ hi hm => hi (hc i hm))⟩
/-- What Refs holds between two rounds. -/
def RfJ (B0 b4 b5 b6 : Nat) (L : List (ByteArray × NodeD × Int)) (R : List ByteArray × Int) (k : Nat) (C : List Nat) (W : World) : Prop :=
  ∃ v acc, C = b4 :: b5 :: b6 :: v.ownBlock.toList ∧ Box W b4 26 #[.slice none 0 0] ∧ Box W b5 34 #[.int .i64 0] ∧ Box W b6 26 #[v] ∧ Rw kTx W B0 v acc ∧ R = refsL (L.drop k) acc ∧ acc.length ≤ k ∧ (∀ i, v.ownBlock = some i → i ≠ b4 ∧ i ≠ b5 ∧ i ≠ b6)
def RfX (b4 b5 : Nat) (R : List ByteArray × Int) (C : List Nat) (W : World) : Prop :=
  b4 ∈ C ∧ b5 ∈ C ∧ (∀ i ∈ C, i < W.heap.size) ∧ Box W b4 26 #[.slice none 0 0] ∧ Box W b5 34 #[.int .i64 R.2] ∧ R.1 = []
theorem fixed_rfj (B0 b4 b5 b6 : Nat) (L : List (ByteArray × NodeD × Int)) (R : List ByteArray × Int) (k : Nat) : Fixed (RfJ B0 b4 b5 b6 L R k) := by
  refine ⟨?_, ?_⟩
  · rintro G S w1 w2 ⟨v, acc, rfl, h1, h2, h3, h4, h5, h6, h7⟩ hc hn
    exact ⟨v, acc, rfl, h1.of (hc.block _ h1.lt (hn _ (by simp))), h2.of (hc.block _ h2.lt (hn _ (by simp))), h3.of (hc.block _ h3.lt (hn _ (by simp))), h4.chg hc (fun k hk => hn k (by simp [hk])), h5, h6, h7⟩
  · rintro G w ⟨v, acc, rfl, h1, h2, h3, h4, h5, h6, h7⟩ k hk
    simp only [List.mem_cons] at hk
    rcases hk with rfl | rfl | rfl | hk
    · exact h1.lt
    · exact h2.lt
    · exact h3.lt
    · exact h4.lt k (by simpa using hk)
theorem fixed_rfx (b4 b5 : Nat) (R : List ByteArray × Int) : Fixed (RfX b4 b5 R) :=
  ⟨fun _G _S _w1 _w2 h hc hn => ⟨h.1, h.2.1, fun i hi => Nat.lt_of_lt_of_le (h.2.2.1 i hi) hc.size, h.2.2.2.1.of (hc.block _ h.2.2.2.1.lt (hn _ h.1)), h.2.2.2.2.1.of (hc.block _ h.2.2.2.2.1.lt (hn _ h.2.1)), h.2.2.2.2.2⟩, fun _G _w h k hk => h.2.2.1 k hk⟩
set_option maxRecDepth 100000 in
set_option maxHeartbeats 8000000 in
theorem refs_in (kb : Nat) (F : List Nat) (S : StD) (root : ByteArray) (w : World) (h : KpF kb S F w) (hr : root.size ≤ 65535) (hnl : (nodesT S root noT).length ≤ 190000) :
    CallsIn Fence.wide 8 Try.prog 20 #[kpV kb, .string root] w fun e w' => ∃ v, e = .returned (.tuple #[v, .int .i64 (refsT S root).2]) ∧ Ks w' w.heap.size v (refsT S root).1 ∧ Below w.heap.size w w' := by
  have hkp := kp_nil kb
  have HF := Lib.hid h
  have HRT := Lib.hid hr
  obtain ⟨L, hL⟩ : ∃ L, L = nodesT S root noT := ⟨_, rfl⟩
  obtain ⟨R, hR⟩ : ∃ R, R = refsT S root := ⟨_, rfl⟩
  rw [← hL] at hnl
  rw [← hR]
  have HR : Hid (R = refsL L []) := by show _ = _; rw [hR, hL]; rfl
  have HLQ := Lib.hid hL
  have HNL := Lib.hid hnl
  obtain ⟨W1, hW1⟩ : ∃ W1, W1 = ((w.alloc (.cells #[.slice none 0 0] 26 (0, 0))).alloc (.cells #[.int .i64 0] 34 (0, 0))).alloc (.cells #[.slice none 0 0] 26 (0, 0)) := ⟨_, rfl⟩
  have B4 : Hid (Box W1 w.heap.size 26 #[.slice none 0 0]) := by show Box _ _ _ _; rw [hW1]; exact ((Box.new _ _ _).alloc _).alloc _
  have B5 : Hid (Box W1 (w.heap.size + 1) 34 #[.int .i64 0]) := by show Box _ _ _ _; rw [hW1]; exact (box_second _ _ _ _).alloc _
  have B6 : Hid (Box W1 (w.heap.size + 1 + 1) 26 #[.slice none 0 0]) := by show Box _ _ _ _; rw [hW1]; exact box_third _ _ _ _ _
  have BW : Hid (Below w.heap.size w W1) := by show Below _ _ _; rw [hW1]; exact (((Below.refl _ _).alloc (Nat.le_refl _) _).alloc (by rw [size_alloc]; omega) _).alloc (by rw [size_alloc, size_alloc]; omega) _
  have HZ1 : Hid (W1.heap.size = w.heap.size + 3) := by show _ = _; rw [hW1]; simp only [size_alloc]
  have hw1 := hW1.symm
  clear h hr hnl hL hR hW1
  refine callsIn_of_wp_marks Try.func20 rfl trivial ?_ rfl
  simp only [Try.ntmps20, List.size_toArray, List.length_cons, List.length_nil, Nat.reduceAdd, Nat.reduceSub, Array.replicate_succ, Array.replicate_zero, List.push_toArray, List.append_toArray, List.nil_append, List.cons_append]
  gi_wp2_with fail
  refine ⟨trivial, ?_⟩
  refine (callsIn_wide.2 (nodes_any _ kb root noT _ rfl)).mono ?_
  rintro e Wg ⟨rfl, hbg, bs, b1, b3⟩
  have HBS := Lib.hid bs
  have HB1 := Lib.hid b1
  have HB3 := Lib.hid b3
  have G4 := Lib.hid (B4.out.keep hbg B4.out.lt)
  have G5 := Lib.hid (B5.out.keep hbg B5.out.lt)
  have G6 := Lib.hid (B6.out.keep hbg B6.out.lt)
  have GW := Lib.hid (BW.out.trans (hbg.mono BW.out.size))
  have HZG : Hid (W1.heap.size + 3 ≤ Wg.heap.size) := b3.lt
  clear hbg bs b1 b3 hw1
  gi_wp2_with fail
  have hz1 := HZ1.out
  refine range_fx (gf := 44) (lb := #[.pointer (some ⟨W1.heap.size + 1, 0, none⟩), .pointer (some ⟨W1.heap.size, 0, none⟩), .pointer (some ⟨W1.heap.size + 2, 0, none⟩)]) (by decide) rfl (enters_of Try.func44 (by kernel_rfl) rfl) L.length (NodeA L) nodeA_size
    (RfJ w.heap.size w.heap.size (w.heap.size + 1) (w.heap.size + 1 + 1) L R) (RfX w.heap.size (w.heap.size + 1) R) (fun k => fixed_rfj _ _ _ _ L R k) (fixed_rfx _ _ R) [w.heap.size, w.heap.size + 1, w.heap.size + 1 + 1] ⟨.slice none 0 0, [], rfl, G4.out, G5.out, G6.out, Rw.nil _ _, by rw [List.drop_zero]; exact HR.out, Nat.le_refl _, fun i hi => by cases hi⟩ ?iter ?body ?fin ?ret
  case iter =>
    intro l2 J2 Jx2 hf2 hfx2 C4 W4 hj4 hb4 hm4 hyy
    have h5 := HZG.out
    have h6 := GW.out.size
    have hnc : ∀ i, (i < w.heap.size ∨ (W1.heap.size ≤ i ∧ i < Wg.heap.size)) → i ∉ C4 := fun i hi hm => by
      rcases hm4 _ hm with h | h
      · simp at h
        omega
      · omega
    refine nodes_iter 7 l2 (by decide) kb F S root noT (W1.heap.size + 1) W1.heap.size (W1.heap.size + 2) HRT.out (by decide) J2 Jx2 hf2 hfx2 C4 W4 hj4 (HF.out.keep (GW.out.trans (hb4.mono h6))) (fun i hi => hnc i (.inl (kp_below HF.out i hi))) (HB1.out.keep hb4 HB1.out.lt) (hnc _ (.inr ⟨by omega, by omega⟩)) (HBS.out.keep hb4 HBS.out.lt) (hnc _ (.inr ⟨by omega, by omega⟩)) (HB3.out.keep hb4 HB3.out.lt) (hnc _ (.inr ⟨by omega, by omega⟩)) L HLQ.out hyy
  case body =>
    rintro k C4 W4 ya hk ⟨v, acc, hC, h4, h5, h6, hrw, hRR, hal, hvn⟩ ⟨q, x, hLk, rfl, hx⟩ hsz4 hr4 hd4 hch4 hm4
    have HH4 := Lib.hid h4
    have HH5 := Lib.hid h5
    have HH6 := Lib.hid h6
    have HRW := Lib.hid hrw
    have HCE := Lib.hid hC
    have HVN := Lib.hid hvn
    have HR4 := Lib.hid hr4
    have HSZ4 := Lib.hid hsz4
    have HKL := Lib.hid hk
    have hRL : refsL (L.drop k) acc = if q.2.2 ≠ 0 then ([], q.2.2) else refsL (L.drop (k + 1)) (acc ++ [q.1]) := by
      have e : L.drop k = q :: L.drop (k + 1) := by
        rw [List.drop_eq_getElem_cons hk]
        congr 1
        exact Option.some.inj ((List.getElem?_eq_getElem hk).symm.trans hLk)
      rw [e, refsL]
    have HRL := Lib.hid (hRR.trans hRL)
    have HAL : Hid (acc.length + 1 ≤ 200000) := by have := HNL.out; show _ ≤ _; omega
    have HALK : Hid (acc.length ≤ k) := hal
    clear hC hrw hvn hr4 hd4 hch4 hm4 hx hLk hRR hRL hal h4 h5 h6 hk
    gi_wp2_with fail
    refine ⟨(Below.refl _ _).alloc (Nat.le_refl _) _, fun o => ?_⟩
    obtain ⟨Wa, hWa⟩ : ∃ Wa, Wa = W4.alloc (.cells #[.string q.1, .bool x.leaf, .slice x.ka x.kn x.kc, .slice x.va x.vn x.vc] 73 (0, 0)) := ⟨_, rfl⟩
    have hba : Below W4.heap.size W4 Wa := by rw [hWa]; exact (Below.refl _ _).alloc (Nat.le_refl _) _
    have BFa : Box Wa W4.heap.size 73 #[.string q.1, .bool x.leaf, .slice x.ka x.kn x.kc, .slice x.va x.vn x.vc] := by rw [hWa]; exact Box.new _ _ _
    have hcp := chg_put Wa (Wg.heap.size + 1) o
    have hmem : w.heap.size ∈ C4 ∧ w.heap.size + 1 ∈ C4 ∧ w.heap.size + 1 + 1 ∈ C4 ∧ ∀ i, v.ownBlock = some i → i ∈ C4 := by
      rw [HCE.out]
      exact ⟨by simp, by simp, by simp, fun i hi => by simp [hi]⟩
    have nin : ∀ i, i ∈ C4 → i ∉ [Wg.heap.size + 1] := fun i hi hm => by rw [List.mem_singleton] at hm; subst hm; exact HR4.out hi
    have h4' := (HH4.out.keep hba HH4.out.lt).of (hcp.block _ (Nat.lt_of_lt_of_le HH4.out.lt hba.size) (nin _ hmem.1))
    have h5' := (HH5.out.keep hba HH5.out.lt).of (hcp.block _ (Nat.lt_of_lt_of_le HH5.out.lt hba.size) (nin _ hmem.2.1))
    have h6' := (HH6.out.keep hba HH6.out.lt).of (hcp.block _ (Nat.lt_of_lt_of_le HH6.out.lt hba.size) (nin _ hmem.2.2.1))
    have hrw' := (HRW.out.keep hba).chg hcp (fun i hi => nin i (hmem.2.2.2 i hi))
    have hbf' : Box (Wa.putObj (Wg.heap.size + 1) o) W4.heap.size _ _ := BFa.of (hcp.block _ BFa.lt (by simp; have := HSZ4.out; omega))
    have hps : (Wa.putObj (Wg.heap.size + 1) o).heap.size = Wa.heap.size := by
      show (Wa.heap.setIfInBounds _ _).size = _
      rw [Array.size_setIfInBounds]
    have hza : Wa.heap.size = W4.heap.size + 1 := by rw [hWa, size_alloc]
    obtain ⟨W5, hW5⟩ : ∃ W5, W5 = Wa.putObj (Wg.heap.size + 1) o := ⟨_, rfl⟩
    rw [← hWa]
    rw [← hW5] at h4' h5' h6' hrw' hbf' hps ⊢
    have I4 := Lib.hid h4'
    have I5 := Lib.hid h5'
    have I6 := Lib.hid h6'
    have IR := Lib.hid hrw'
    have IB := Lib.hid hbf'
    have IZ : Hid (W5.heap.size = W4.heap.size + 1 ∧ w.heap.size + 1 + 1 < W5.heap.size) := ⟨by rw [hps, hza], h6'.lt⟩
    have HME := Lib.hid hmem
    clear hWa hba BFa hcp nin h4' h5' h6' hrw' hbf' hps hza hW5 hmem
    by_cases hqc : q.2.2 = 0
    · rw [hqc]
      have HRN : Hid (R = refsL (L.drop (k + 1)) (acc ++ [q.1])) := by show _ = _; rw [HRL.out, if_neg (by simp [hqc])]
      have d6 : W5.cell? ⟨w.heap.size + 1 + 1, 0, none⟩ = some v := I6.out.cell 0 _ rfl
      have df : W5.cell? ⟨W4.heap.size, 0, none⟩ = some (.string q.1) := IB.out.cell 0 _ rfl
      obtain ⟨Wx, hWx⟩ : ∃ Wx, Wx = W5.alloc (.cells #[.string q.1] 9 (0, 0)) := ⟨_, rfl⟩
      have hbx : Below W5.heap.size W5 Wx := by rw [hWx]; exact (Below.refl _ _).alloc (Nat.le_refl _) _
      have BX : Hid (Box Wx W5.heap.size 9 #[.string q.1]) := by show Box _ _ _ _; rw [hWx]; exact Box.new _ _ _
      have J4 := Lib.hid (I4.out.keep hbx I4.out.lt)
      have J5 := Lib.hid (I5.out.keep hbx I5.out.lt)
      have J6 := Lib.hid (I6.out.keep hbx I6.out.lt)
      have JR := Lib.hid (IR.out.keep hbx)
      have HWX := Lib.hid hWx.symm
      have JZ : Hid (Wx.heap.size = W5.heap.size + 1) := by show _ = _; rw [hWx, size_alloc]
      have HCX : Hid (Chg C4 W5 Wx) := Chg.of hbx (Nat.le_refl _)
      have HGW : Hid (w.heap.size ≤ Wx.heap.size) := by have := J6.out.lt; show _ ≤ _; omega
      clear hWx hbx hqc
      gi_wp2_with (gi_at_builtin; go_must (rw [HWX.out]; refine wpListIn_rw_push kTx_ok Try.underlying26 Wx rfl _ _ rfl w.heap.size v acc rfl JR.out W5.heap.size 1 q.1 rfl (fun j u hj => BX.out.cell j u (by rw [← hj]; show #[Value.string q.1][j]? = [Value.string q.1][j]?; simp)) HAL.out HGW.out ?_; intro b6' cap w6 hR6 hg6 ho6; have hv6 : Box w6 (w.heap.size + 1 + 1) 26 #[v] := J6.out.of (hg6.block _ J6.out.lt (fun e => (HVN.out _ e.symm).2.2 rfl)); have e0 := hv6.cell 0 _ rfl; have e1 := hv6.free 0; have HR6 := Lib.hid hR6; have HG6 := Lib.hid hg6; have HV6 := Lib.hid hv6; have HO6 := Lib.hid ho6; clear hR6 hg6 hv6 ho6))
      have hne : ∀ i, (Value.slice b6' (acc.length + 1) cap).ownBlock = some i → i ≠ w.heap.size ∧ i ≠ w.heap.size + 1 ∧ i ≠ w.heap.size + 1 + 1 := fun i hi => by
        rcases HO6.out with h | h
        · rw [h] at hi; exact HVN.out i hi
        · rw [h] at hi
          injection hi with hi
          have := JZ.out
          have := IZ.out.2
          omega
      have hset : Chg [w.heap.size + 1 + 1] w6 (w6.setCell ⟨w.heap.size + 1 + 1, 0, none⟩ (.slice b6' (acc.length + 1) cap)) := Chg.only (Only.set _ 0 w6 _)
      have n4 : Box w6 w.heap.size 26 #[.slice none 0 0] := J4.out.of (HG6.out.block _ J4.out.lt (fun e => (HVN.out _ e.symm).1 rfl))
      have n5 : Box w6 (w.heap.size + 1) 34 #[.int .i64 0] := J5.out.of (HG6.out.block _ J5.out.lt (fun e => (HVN.out _ e.symm).2.1 rfl))
      refine ⟨w.heap.size :: (w.heap.size + 1) :: (w.heap.size + 1 + 1) :: (Value.slice b6' (acc.length + 1) cap).ownBlock.toList, ⟨_, acc ++ [q.1], rfl, n4.of (hset.block _ n4.lt (by simp; omega)), n5.of (hset.block _ n5.lt (by simp)), HV6.out.set 0 _, HR6.out.chg hset (fun i hi hm => by rw [List.mem_singleton] at hm; exact (hne i hi).2.2 hm), HRN.out, by simp; exact HALK.out, hne⟩, ?_, fun i hi => ?_⟩
      · exact (HCX.out.trans (Chg.grown HG6.out (fun i hi => HME.out.2.2.2 i hi))).trans (hset.mono (fun i hi => by rw [List.mem_singleton.1 hi]; exact HME.out.2.2.1))
      · simp only [List.mem_cons] at hi
        rcases hi with rfl | rfl | rfl | hi
        · exact .inl HME.out.1
        · exact .inl HME.out.2.1
        · exact .inl HME.out.2.2.1
        · rcases HO6.out with h | h
          · rw [h] at hi; exact .inl (HME.out.2.2.2 i (by simpa using hi))
          · rw [h] at hi
            simp at hi
            have := JZ.out
            exact .inr (by omega)
    · have HRN : Hid (R = ([], q.2.2)) := by show _ = _; rw [HRL.out, if_pos hqc]
      have e1 : (q.2.2 != 0) = true := by simpa using hqc
      have d4 := I4.out.cell 0 _ rfl
      have d5 := I5.out.cell 0 _ rfl
      have f4 := I4.out.free 0
      have f5 := I5.out.free 0
      clear hqc
      generalize q.2.2 = c at *
      gi_wp2
      obtain ⟨r0, r1, rc⟩ := two_set I4.out I5.out (by omega) (.slice none 0 0) (.int .i64 c)
      refine ⟨C4, ⟨HME.out.1, HME.out.2.1, ?_, r0, by rw [HRN.out]; exact r1, by rw [HRN.out]⟩, rc.mono (fun i hi => by simp at hi; rcases hi with rfl | rfl; exact HME.out.1; exact HME.out.2.1), fun i hi => .inl hi⟩
      intro i hi
      rw [HCE.out] at hi
      refine Nat.lt_of_lt_of_le ?_ rc.size
      simp only [List.mem_cons] at hi
      rcases hi with rfl | rfl | rfl | hi
      · exact I4.out.lt
      · exact I5.out.lt
      · exact I6.out.lt
      · exact IR.out.lt i (by simpa using hi)
  case fin =>
    rintro C4 W4 ⟨v, acc, hC, h4, h5, h6, hrw, hRR, hal, hvn⟩ hch hmem hd hsz hdd
    obtain ⟨va, vc, rfl, _⟩ := hrw.form
    have HRE : Hid (R = (acc, 0)) := by show _ = _; rw [hRR, List.drop_of_length_le (Nat.le_refl _)]; rfl
    have d4 := h4.cell 0 _ rfl
    have d5 := h5.cell 0 _ rfl
    have d6 := h6.cell 0 _ rfl
    have f4 := h4.free 0
    have f5 := h5.free 0
    obtain ⟨r0, r1, rc⟩ := two_set h4 h5 (by omega) (.slice va acc.length vc) (.int .i64 0)
    have hrw2 := hrw.chg rc (fun i hi hm => by have := hvn i hi; simp at hm; omega)
    have hdd2 := (rc.block _ (by omega : Wg.heap.size < W4.heap.size) (by have := HZG.out; have := GW.out.size; simp; omega)).trans hdd
    have hcp := chg_put ((W4.setCell ⟨w.heap.size, 0, none⟩ (.slice va acc.length vc)).setCell ⟨w.heap.size + 1, 0, none⟩ (.int .i64 0)) Wg.heap.size (.deferred none)
    have hown : ∀ i, (Value.slice va acc.length vc).ownBlock = some i → i ∈ C4 := fun i hi => by rw [hC]; simp [hi]
    have HRS := Lib.hid (rw_ks (hrw2.chg hcp (fun i hi hm => by rw [List.mem_singleton] at hm; subst hm; exact hd (hown _ hi))))
    have hgz := HZG.out
    have hgw := GW.out.size
    have HR0 := Lib.hid (r0.of (hcp.block _ r0.lt (by simp; omega)))
    have HR1 := Lib.hid (r1.of (hcp.block _ r1.lt (by simp; omega)))
    have HBE : Hid (Below w.heap.size w _) := ((GW.out.trans (hch.below hgw (fun i hi => by simp at hi; omega))).trans (rc.below (Nat.le_trans hgw (by omega)) (fun i hi => by simp at hi; omega))).trans (hcp.below (Nat.le_trans (Nat.le_trans hgw (by omega)) rc.size) (fun i hi => by rw [List.mem_singleton] at hi; omega))
    have HDD := Lib.hid hdd2
    clear hC hrw hRR hal hvn hch hmem hd hsz hdd h4 h5 h6 r0 r1 rc hrw2 hdd2 hcp hown
    gi_wp2
    refine ⟨by simp, .inl ⟨_, _, rfl, run_takeDeferred HDD.out, ?_⟩⟩
    refine ⟨_, results_c2 rfl _ _ ⟨w.heap.size, 0, none⟩ ⟨w.heap.size + 1, 0, none⟩ _ _ rfl rfl (Try.isAgg26 _) (Try.isAgg34 _) (HR0.out.cell 0 _ rfl) (HR1.out.cell 0 _ rfl), ?_⟩
    rw [HRE.out]
    exact ⟨_, rfl, HRS.out, HBE.out⟩
  case ret =>
    rintro C4 W4 ⟨hm4, hm5, hlt, h4, h5, hR0⟩ hch hmem hd hsz hdd
    have hcp := chg_put W4 Wg.heap.size (.deferred none)
    have hgz := HZG.out
    have hgw := GW.out.size
    have HR0 := Lib.hid (h4.of (hcp.block _ h4.lt (by simp; omega)))
    have HR1 := Lib.hid (h5.of (hcp.block _ h5.lt (by simp; omega)))
    have HBE : Hid (Below w.heap.size w _) := (GW.out.trans (hch.below hgw (fun i hi => by simp at hi; omega))).trans (hcp.below (Nat.le_trans hgw (by omega)) (fun i hi => by rw [List.mem_singleton] at hi; omega))
    have HDD := Lib.hid hdd
    have HE := Lib.hid hR0
    clear hch hmem hd hsz hdd hcp h4 h5 hR0
    gi_wp2
    refine ⟨by simp, .inl ⟨_, _, rfl, run_takeDeferred HDD.out, ?_⟩⟩
    refine ⟨_, results_c2 rfl _ _ ⟨w.heap.size, 0, none⟩ ⟨w.heap.size + 1, 0, none⟩ _ _ rfl rfl (Try.isAgg26 _) (Try.isAgg34 _) (HR0.out.cell 0 _ rfl) (HR1.out.cell 0 _ rfl), ?_⟩
    exact ⟨_, rfl, by rw [HE.out]; exact Ks.nil _ _, HBE.out⟩
theorem nodes_len (S : StD) (fr : ByteArray) : ∀ (f : Nat) (todo : List (ByteArray × Nat)) (seen : List ByteArray), (nodesF S fr f todo seen).length ≤ f
  | 0, _, _ => Nat.le_refl _
  | f + 1, [], _ => Nat.zero_le _
  | f + 1, p :: todo, seen => by
    rw [nodesF]
    split
    · simp
    · split
      · simp
      · have := nodes_len S fr f
        simp only [List.length_cons]
        have h2 := this ((if (loadN S p.1 p.2).1.leaf = true then [] else ((loadN S p.1 p.2).1.vals.drop (findD (loadN S p.1 p.2).1 fr).1).map (fun r => (r, p.2 + 1))) ++ todo) (p.1 :: seen)
        omega
theorem nodesT_len {S : StD} (h : StOk S) (root fr : ByteArray) : (nodesT S root fr).length ≤ 190000 := by
  unfold nodesT
  split
  · exact Nat.zero_le _
  · have := nodes_len S fr (S.l.length + 2) [(root, 1)] []
    have := h.len
    omega
theorem refs_any (kb : Nat) (F : List Nat) (S : StD) (root : ByteArray) (w : World) (h : KpF kb S F w) (hr : root.size ≤ 65535) :
    Calls Try.prog 20 #[kpV kb, .string root] w fun e w' => ∃ v, e = .returned (.tuple #[v, .int .i64 (refsT S root).2]) ∧ Ks w' w.heap.size v (refsT S root).1 ∧ Below w.heap.size w w' := by
  have hl : (nodesT S root noT).length ≤ 190000 := by obtain ⟨v, hv, _⟩ := h; exact nodesT_len hv.ok root noT
  exact callsIn_wide.1 (refs_in kb F S root w h hr hl)
end Go.Proofs.Ytbeldjijnjgbfaa
