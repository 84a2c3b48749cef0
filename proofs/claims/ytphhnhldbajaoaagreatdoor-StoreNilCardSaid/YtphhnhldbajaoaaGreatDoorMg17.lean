/-
  Texts put together: BlkE, BlkF, StD.
-/
import Derived.Test.YtphhnhldbajaoaaGreatDoorMg16
import Derived.BigRegionIn
import Derived.RangeFuncBox
import Derived.Maps.AppendAt
import Derived.Test.YtphhnhldbajaoaaGreatDoorMg12
namespace Go.Proofs.YtphhnhldbajaoaaGreatDoor
open Go Go.RowKit Go.Shelf

attribute [local go_sem] Oper.semAt_some

/-- What stands between two rounds of Read. -/
def RdJ (t : Told) (p : PtrD) (X0 : World) (rec : Nat) (R : Loop) (k : Nat) (W : World) : Prop := Chg [rec] X0 W ∧ W.heap[rec]? = some (.loop R) ∧ ∀ j < k, t.good p j = false
/-- What stands behind the round that found one. -/
def RdX (t : Told) (p : PtrD) (X0 : World) (rec g : Nat) (R : Loop) (k : Nat) (W : World) : Prop :=
  Chg [rec, g, g + 1, g + 2] X0 W ∧ W.heap[rec]? = some (.loop R) ∧ W.heap[g]? = some (.cells #[.string (t.T (k - 1))] 9 (0, 0)) ∧ W.heap[g + 1]? = some (.cells #[.int .i64 ((k - 1 : Nat) : Int)] 3 (0, 0)) ∧ W.heap[g + 2]? = some (.cells #[.int .i64 0] 33 (0, 0)) ∧ firstG t p = some (k - 1)

set_option maxRecDepth 100000 in
set_option maxHeartbeats 2000000 in
theorem bread_in (x a : Option Addr) (cap : Nat) (p : PtrD) (t : Told) (w : World) (hl : p.locs.length ≤ 1000) (hs : SlP w a p.locs) (hK : Kt w) (hT : ∀ k, (t.T k).size ≤ 140737488355328) (hR : Rd x p t w) :
    CallsIn Fence.wide 6 Tryz.prog 115 #[.pointer x, ptrV a cap p] w fun e w' => e = .returned (.tuple #[.string (readR t p).1, .int .i64 ((readR t p).2.1 : Nat), .int .i64 (readR t p).2.2]) ∧ Below w.heap.size w w' := by
  have BP := Lib.hid (Box.new w 37 #[.slice a p.locs.length cap, .int .i64 p.len, .int .i64 p.birth, .string p.sum])
  obtain ⟨W1, hW1⟩ : ∃ W1, W1 = (((w.alloc (.cells #[.slice a p.locs.length cap, .int .i64 p.len, .int .i64 p.birth, .string p.sum] 37)).alloc (.cells #[.string ⟨#[]⟩] 9)).alloc (.cells #[.int .i64 0] 3)).alloc (.cells #[.int .i64 0] 33) := ⟨_, rfl⟩
  have hsz : W1.heap.size = w.heap.size + 4 := by rw [hW1]; simp only [size_alloc]
  have hb1 : Below w.heap.size w W1 := by
    rw [hW1]
    exact ((((Below.refl _ w).alloc (Nat.le_refl _) _).alloc (by simp only [size_alloc]; omega) _).alloc (by simp only [size_alloc]; omega) _).alloc (by simp only [size_alloc]; omega) _
  have hblk : W1.heap[w.heap.size]? = some (.cells #[.slice a p.locs.length cap, .int .i64 p.len, .int .i64 p.birth, .string p.sum] 37 (0, 0)) ∧ W1.heap[w.heap.size + 1]? = some (.cells #[.string ⟨#[]⟩] 9 (0, 0)) ∧ W1.heap[w.heap.size + 2]? = some (.cells #[.int .i64 0] 3 (0, 0)) ∧ W1.heap[w.heap.size + 3]? = some (.cells #[.int .i64 0] 33 (0, 0)) := by
    rw [hW1]
    have hnew := fun (W : World) (o : Obj) (k : Nat) (h : k = W.heap.size) => (show (W.alloc o).heap[k]? = some o from h ▸ World.alloc_heap_new W o)
    have hold := fun (W : World) (o : Obj) (k : Nat) (h : k < W.heap.size) => Below.heap_alloc W o k h
    refine ⟨?_, ?_, ?_, ?_⟩
    · exact (hold _ _ _ (by simp only [size_alloc]; omega)).trans ((hold _ _ _ (by simp only [size_alloc]; omega)).trans ((hold _ _ _ (by simp only [size_alloc]; omega)).trans (hnew _ _ _ rfl)))
    · exact (hold _ _ _ (by simp only [size_alloc]; omega)).trans ((hold _ _ _ (by simp only [size_alloc]; omega)).trans (hnew _ _ _ (by simp only [size_alloc])))
    · exact (hold _ _ _ (by simp only [size_alloc]; omega)).trans (hnew _ _ _ (by simp only [size_alloc]))
    · exact hnew _ _ _ (by simp only [size_alloc])
  have hp0 : W1.cell? ⟨w.heap.size, 0, none⟩ = some (.slice a p.locs.length cap) := Box.cell hblk.1 0 _ rfl
  have hp1 : W1.cell? ⟨w.heap.size, 1, none⟩ = some (.int .i64 p.len) := Box.cell hblk.1 1 _ rfl
  have hp2 : W1.cell? ⟨w.heap.size, 2, none⟩ = some (.int .i64 p.birth) := Box.cell hblk.1 2 _ rfl
  have hp3 : W1.cell? ⟨w.heap.size, 3, none⟩ = some (.string p.sum) := Box.cell hblk.1 3 _ rfl
  have hck := check_any a cap p W1 (hs.keep hb1) hl
  have HSZ := Lib.hid hsz
  have HB1 := Lib.hid hb1
  have HBLK := Lib.hid hblk
  have HK := Lib.hid hK
  have HS := Lib.hid hs
  have HT := Lib.hid hT
  have HRD := Lib.hid hR
  have HCK := Lib.hid hck
  unfold ptrV at HCK ⊢
  clear hsz hb1 hblk hK hs hT hR hck
  refine callsIn_of_wp_marks Tryz.func115 rfl trivial ?_ rfl
  simp only [Tryz.ntmps115, List.size_toArray, List.length_cons, List.length_nil, Nat.reduceAdd, Nat.reduceSub, Array.replicate_succ, Array.replicate_zero, List.push_toArray, List.append_toArray, List.nil_append, List.cons_append]
  rw [hW1] at hp0 hp1 hp2 hp3
  gi_wp2_with fail
  refine ⟨trivial, ?_⟩
  rw [← hW1]
  rw [← hW1] at hp0 hp1 hp2 hp3
  refine (callsIn_wide.2 HCK.out).mono ?_
  rintro e W2 ⟨rfl, hb⟩
  by_cases hbad : badP p
  · rw [show chkP p = 1 from if_pos hbad]
    have HQ := Lib.hid (readR_bad (t := t) hbad)
    have HB2 := Lib.hid (HB1.out.trans (hb.mono HB1.out.size))
    have hbl2 : ∀ k, k < w.heap.size + 4 → W2.heap[k]? = W1.heap[k]? := fun k hk => hb.block k (by rw [HSZ.out]; exact hk)
    have B1 : Hid (Box W2 (w.heap.size + 1) 9 #[.string ⟨#[]⟩]) := (hbl2 _ (by omega)).trans HBLK.out.2.1
    have B2 : Hid (Box W2 (w.heap.size + 2) 3 #[.int .i64 0]) := (hbl2 _ (by omega)).trans HBLK.out.2.2.1
    have B3 : Hid (Box W2 (w.heap.size + 3) 33 #[.int .i64 0]) := (hbl2 _ (by omega)).trans HBLK.out.2.2.2
    clear hb hbad hW1 HCK hbl2 hp0 hp1 hp2 hp3 HRD HS HK HBLK HB1 BP
    have c1 := B1.out.cell 0 _ rfl
    have c2 := B2.out.cell 0 _ rfl
    have c3 := B3.out.cell 0 _ rfl
    have f1 := B1.out.free 0
    have f2 := B2.out.free 0
    have f3 := B3.out.free 0
    gi_wp2
    obtain ⟨r1, r2, r3, rc⟩ := three_set B1.out B2.out B3.out (by omega) (by omega) (by omega) (.string ⟨#[]⟩) (.int .i64 0) (.int .i64 1)
    refine ⟨_, results_c3 rfl _ _ ⟨w.heap.size + 1, 0, none⟩ ⟨w.heap.size + 2, 0, none⟩ ⟨w.heap.size + 3, 0, none⟩ _ _ _ rfl rfl rfl (Tryz.isAgg9 _) (Tryz.isAgg3 _) (Tryz.isAgg33 _) (r1.cell 0 _ rfl) (r2.cell 0 _ rfl) (r3.cell 0 _ rfl), ?_⟩
    exact ⟨by rw [HQ.out]; rfl, HB2.out.trans (rc.below HB2.out.size (by intro k hk; simp at hk; omega))⟩
  · rw [show chkP p = 0 from if_neg hbad]
    have HBAD := Lib.hid hbad
    have HB2 := Lib.hid (HB1.out.trans (hb.mono HB1.out.size))
    have HBL2 : Hid (∀ k, k < w.heap.size + 4 → W2.heap[k]? = W1.heap[k]?) := fun k hk => hb.block k (by rw [HSZ.out]; exact hk)
    have HZ2 : Hid (w.heap.size + 4 ≤ W2.heap.size) := by have := hb.size; rw [HSZ.out] at this; exact this
    have hq : ∀ j, W2.cell? ⟨w.heap.size, j, none⟩ = W1.cell? ⟨w.heap.size, j, none⟩ := fun j => hb.cell (p := ⟨w.heap.size, j, none⟩) (by show w.heap.size < W1.heap.size; rw [HSZ.out]; omega)
    rw [← hq] at hp0 hp1 hp2 hp3
    clear hb hbad hq hW1 HCK
    gi_wp2_with fail
    refine ⟨trivial, ?_⟩
    have hca := copies_any 5 (by decide) x a cap p W2
    unfold ptrV at hca
    refine hca.mono ?_
    rintro e W3 ⟨rfl, hn3, hb3, hdb, hpb⟩
    clear hca
    have HB3 := Lib.hid (HB2.out.trans (hb3.mono HB2.out.size))
    have HBL3 : Hid (∀ k, k < w.heap.size + 4 → W3.heap[k]? = W1.heap[k]?) := fun k hk => (hb3.block k (Nat.lt_of_lt_of_le hk HZ2.out)).trans (HBL2.out k hk)
    have HDB := Lib.hid hdb
    have HPB := Lib.hid hpb
    have HN3 := Lib.hid hn3
    clear hdb hpb hb3 hp0 hp1 hp2 hp3 HB2 HBL2 hn3
    gi_wp2_with fail
    have hn3 := HN3.out
    refine range_enter rfl (by decide) (gf := 157) (lb := #[.pointer (some ⟨W2.heap.size + 1, 0, none⟩), .pointer (some ⟨W2.heap.size, 0, none⟩)]) rfl trivial (enters_of Tryz.func157 (by kernel_rfl) rfl) ?_
    intro fn hfn RC hRC
    simp only [Nat.reduceSub, List.append_toArray, List.cons_append, List.nil_append]
    obtain ⟨m, hm⟩ : ∃ m, m = W2.heap.size := ⟨_, rfl⟩
    rw [← hm] at HZ2 HN3 HDB HPB hn3 ⊢
    obtain ⟨g, hg⟩ : ∃ g, g = w.heap.size := ⟨_, rfl⟩
    have HG := Lib.hid hg
    rw [← hg] at HZ2 HBL3 HB3 HBLK ⊢
    rw [hn3]
    obtain ⟨X0, hX0⟩ : ∃ X0, X0 = (W3.alloc (.deferred (some []))).alloc (.loop (RC .ready none)) := ⟨_, rfl⟩
    rw [← hX0]
    have hzd : (W3.alloc (.deferred (some []))).heap.size = m + 3 := by rw [size_alloc, hn3]
    have hz0 : X0.heap.size = m + 4 := by rw [hX0, size_alloc, hzd]
    have hl0 : X0.heap[m + 3]? = some (.loop (RC .ready none)) := by
      have := World.alloc_heap_new (W3.alloc (.deferred (some []))) (.loop (RC .ready none))
      rw [hzd] at this
      rw [hX0]; exact this
    have hd0 : X0.heap[m + 2]? = some (.deferred (some [])) := by
      rw [hX0, Below.heap_alloc _ _ _ (by rw [hzd]; omega)]
      have := World.alloc_heap_new W3 (.deferred (some []))
      rw [hn3] at this
      exact this
    have ho0 : ∀ k, k < m + 2 → X0.heap[k]? = W3.heap[k]? := fun k hk => by
      rw [hX0, Below.heap_alloc _ _ _ (by rw [hzd]; omega), Below.heap_alloc _ _ _ (by rw [hn3]; omega)]
    have hbx0 : Below g w X0 := by rw [hX0]; exact (HB3.out.alloc (by rw [hn3]; have := HZ2.out; omega) _).alloc (by rw [hzd]; have := HZ2.out; omega) _
    have HZ0 := Lib.hid hz0
    have HL0 := Lib.hid hl0
    have HD0 := Lib.hid hd0
    have HO0 := Lib.hid ho0
    have HBX := Lib.hid hbx0
    have HM := Lib.hid hm
    have HRC := Lib.hid hRC
    have HFN := Lib.hid hfn
    clear hm hg hX0 hzd hz0 hl0 hd0 ho0 hbx0 hn3 hfn hRC HB3
    have HJW : Hid (∀ S W, Chg S X0 W → (∀ k ∈ S, g ≤ k) → Below g w W) := fun S W hc hS => HBX.out.trans (hc.below (by rw [HZ0.out]; have := HZ2.out; omega) hS)
    refine CallsIn.mono (copies_iter 5 (m + 3) (m + 1) m (by decide) x a cap p hl t (fun k _ => HT.out k) (RdJ t p X0 (m + 3) (RC .ready none)) (RdX t p X0 (m + 3) (g + 1) (RC .done (some .ret))) ?js ?jb ?rr ?yy X0 ⟨Chg.refl _ _, HL0.out, fun j h => absurd h (Nat.not_lt_zero j)⟩) ?post
    case js =>
      rintro k W ⟨hc, hr, hk⟩
      have hb := HJW.out _ _ hc (by intro k hk; rw [List.mem_singleton] at hk; have := HZ2.out; omega)
      rw [HG.out] at hb
      refine ⟨HK.out.below hb HK.out.pos, HS.out.keep hb, Box.cell (t := 56) ((hc.block m (by rw [HZ0.out]; omega) (by simp)).trans ((HO0.out m (by omega)).trans HDB.out)) 0 _ rfl, (hc.block (m + 1) (by rw [HZ0.out]; omega) (by simp)).trans ((HO0.out _ (by omega)).trans HPB.out)⟩
    case jb =>
      rintro k W W' ⟨hc, hr, hk⟩ hb
      exact ⟨hc.trans (Chg.of hb (Nat.le_refl _)), (hb.block _ (lt_of_block hr)).trans hr, hk⟩
    case rr =>
      rintro k W h ⟨hc, hr, hk⟩
      have hb := HJW.out _ _ hc (by intro k hk; rw [List.mem_singleton] at hk; have := HZ2.out; omega)
      rw [HG.out] at hb
      exact HRD.out W hb k h
    case yy =>
      rintro k W hlt ⟨hc, hr, hk⟩
      refine yield_round (r := RC .ready none) hr (by rw [HRC.out]; rfl) (by rw [HRC.out]; exact HFN.out) (by rw [HRC.out]; rfl) ?_
      rw [show (RC .ready none).assign = _ from by rw [HRC.out], show (RC .ready none).body = _ from by rw [HRC.out], show (RC .ready none).params = _ from by rw [HRC.out], show (RC .ready none).tmps = _ from by rw [HRC.out]]
      dsimp only [recL]
      unfold foundV
      generalize hgk : t.good p k = gk
      generalize hlk : p.locs[k] = lk
      have HC := Lib.hid hc
      have HR := Lib.hid hr
      have HKK := Lib.hid hk
      have HGK := Lib.hid hgk
      have HLT := Lib.hid hlt
      clear hc hr hk hgk hlk hlt
      have BF := Lib.hid (Box.new W 196 #[.int .i64 k, .int .i64 lk.1, .int .i64 lk.2, .string (t.T k), .bool gk])
      have HXF := Lib.hid ((Below.refl W.heap.size W).alloc (Nat.le_refl _) (.cells #[.int .i64 k, .int .i64 lk.1, .int .i64 lk.2, .string (t.T k), .bool gk] 196))
      gi_wp2_with fail
      refine ⟨(HXF.out.block _ (lt_of_block HR.out)).trans HR.out, ?_⟩
      have hnf : m + 3 < W.heap.size := lt_of_block HR.out
      generalize hXa : World.alloc W _ = Xa at *
      have hra : Xa.heap[m + 3]? = some (.loop (RC .ready none)) := (HXF.out.block _ hnf).trans HR.out
      generalize hX1 : Xa.putObj (m + 3) (.loop (busyL (RC .ready none))) = X1
      have hpc : Chg [m + 3] Xa X1 := by rw [← hX1]; exact chg_putObj _ _ _
      have hc1 : Chg [m + 3] X0 X1 := (HC.out.trans (Chg.of HXF.out (Nat.le_refl _))).trans hpc
      have hr1 : X1.heap[m + 3]? = some (.loop (busyL (RC .ready none))) := by rw [← hX1]; exact World.putObj_heap_same (Array.getElem?_eq_some_iff.1 hra).1
      have BF1 : Hid (Box X1 W.heap.size 196 #[.int .i64 k, .int .i64 lk.1, .int .i64 lk.2, .string (t.T k), .bool gk]) := (hpc.block _ BF.out.lt (by simp; omega)).trans BF.out
      have HC1 := Lib.hid hc1
      have HR1 := Lib.hid hr1
      have HNF := Lib.hid hnf
      have hz1 := HC1.out.size
      have hlow : ∀ j, j < w.heap.size + 4 → X1.heap[j]? = W1.heap[j]? := fun j hj => (HC1.out.block j (by rw [HZ0.out]; have := HZ2.out; rw [HG.out] at this; omega) (by have := HZ2.out; rw [HG.out] at this; simp; omega)).trans ((HO0.out j (by have := HZ2.out; rw [HG.out] at this; omega)).trans (HBL3.out j (by rw [HG.out]; exact hj)))
      rw [← HG.out] at hlow
      have HLOW := Lib.hid hlow
      clear hXa hra hX1 hpc hc1 hr1 hnf HXF BF HC HR hz1 hlow
      generalize hNF : W.heap.size = nf at *
      clear hNF
      have c0 : X1.cell? ⟨nf, 0, none⟩ = some (.int .i64 k) := BF1.out.cell 0 _ rfl
      have c3 : X1.cell? ⟨nf, 3, none⟩ = some (.string (t.T k)) := BF1.out.cell 3 _ rfl
      have c4 : X1.cell? ⟨nf, 4, none⟩ = some (.bool gk) := BF1.out.cell 4 _ rfl
      cases gk
      · gi_wp2
        refine ⟨HR1.out, .inl ⟨rfl, ?_, ?_, ?_⟩⟩
        · exact HC1.out.trans (chg_putObj _ _ _)
        · rw [show readyL (RC .ready none) = RC .ready none from by rw [HRC.out]; rfl]
          exact World.putObj_heap_same (Array.getElem?_eq_some_iff.1 HR1.out).1
        · intro j hj
          by_cases e : j = k
          · rw [e]; exact HGK.out
          · exact HKK.out j (by omega)
      · have HFG := Lib.hid (firstG_at HKK.out HLT.out HGK.out)
        have B1 : Hid (Box X1 (g + 1) 9 #[.string ⟨#[]⟩]) := (HLOW.out _ (by omega)).trans HBLK.out.2.1
        have B2 : Hid (Box X1 (g + 2) 3 #[.int .i64 0]) := (HLOW.out _ (by omega)).trans HBLK.out.2.2.1
        have B3 : Hid (Box X1 (g + 3) 33 #[.int .i64 0]) := (HLOW.out _ (by omega)).trans HBLK.out.2.2.2
        have d1 := B1.out.cell 0 _ rfl
        have d2 := B2.out.cell 0 _ rfl
        have d3 := B3.out.cell 0 _ rfl
        have f1 := B1.out.free 0
        have f2 := B2.out.free 0
        have f3 := B3.out.free 0
        rw [← HG.out]
        gi_wp2_with fail
        have c0' : X1.drew.cell? ⟨nf, 0, none⟩ = some (.int .i64 k) := c0
        have c3' : X1.drew.cell? ⟨nf, 3, none⟩ = some (.string (t.T k)) := c3
        have d1' : X1.drew.cell? ⟨g + 1, 0, none⟩ = some (.string ⟨#[]⟩) := d1
        have d2' : X1.drew.cell? ⟨g + 2, 0, none⟩ = some (.int .i64 0) := d2
        have d3' : X1.drew.cell? ⟨g + 3, 0, none⟩ = some (.int .i64 0) := d3
        have f1' : X1.drew.frozen? ⟨g + 1, 0, none⟩ = false := f1
        have f2' : X1.drew.frozen? ⟨g + 2, 0, none⟩ = false := f2
        have f3' : X1.drew.frozen? ⟨g + 3, 0, none⟩ = false := f3
        have hne1 : ∀ (X : World) (v : Value) (j o : Nat), j ≠ g + 1 → (X.setCell ⟨g + 1, 0, none⟩ v).cell? ⟨j, o, none⟩ = X.cell? ⟨j, o, none⟩ := fun X v j o h => World.cell?_of_block (a := ⟨j, o, none⟩) (heap_setCell_other X ⟨g + 1, 0, none⟩ j v h)
        have hne2 : ∀ (X : World) (v : Value) (j o : Nat), j ≠ g + 2 → (X.setCell ⟨g + 2, 0, none⟩ v).cell? ⟨j, o, none⟩ = X.cell? ⟨j, o, none⟩ := fun X v j o h => World.cell?_of_block (a := ⟨j, o, none⟩) (heap_setCell_other X ⟨g + 2, 0, none⟩ j v h)
        have hnf : nf ≠ g + 1 ∧ nf ≠ g + 2 := by have := HNF.out; have := HZ2.out; omega
        have c01 : (X1.setCell ⟨g + 1, 0, none⟩ (.string (t.T k))).drew.cell? ⟨nf, 0, none⟩ = some (.int .i64 k) := (hne1 _ _ _ _ hnf.1).trans c0
        have d21 : (X1.setCell ⟨g + 1, 0, none⟩ (.string (t.T k))).drew.cell? ⟨g + 2, 0, none⟩ = some (.int .i64 0) := (hne1 _ _ _ _ (by omega)).trans d2
        have f21 : (X1.setCell ⟨g + 1, 0, none⟩ (.string (t.T k))).drew.frozen? ⟨g + 2, 0, none⟩ = false := (B2.out.of (heap_setCell_other X1 ⟨g + 1, 0, none⟩ (g + 2) _ (by simp))).free 0
        have d32 : ((X1.setCell ⟨g + 1, 0, none⟩ (.string (t.T k))).setCell ⟨g + 2, 0, none⟩ (.int .i64 k)).drew.cell? ⟨g + 3, 0, none⟩ = some (.int .i64 0) := (hne2 _ _ _ _ (by omega)).trans ((hne1 _ _ _ _ (by omega)).trans d3)
        have f32 : ((X1.setCell ⟨g + 1, 0, none⟩ (.string (t.T k))).setCell ⟨g + 2, 0, none⟩ (.int .i64 k)).drew.frozen? ⟨g + 3, 0, none⟩ = false := ((B3.out.of (heap_setCell_other X1 ⟨g + 1, 0, none⟩ (g + 3) _ (by simp))).of (heap_setCell_other _ ⟨g + 2, 0, none⟩ (g + 3) _ (by simp))).free 0
        clear c0 c3 c4 d1 d2 d3 f1 f2 f3 hne1 hne2 hnf
        gi_region
        all_goals
          obtain ⟨r1, r2, r3, rc⟩ := three_set B1.out B2.out B3.out (by omega) (by omega) (by omega) (.string (t.T k)) (.int .i64 k) (.int .i64 0)
          have hz := HZ2.out
          have hrec := (rc.block (m + 3) (lt_of_block HR1.out) (by simp; omega)).trans HR1.out
          have R1 := Lib.hid r1
          have R2 := Lib.hid r2
          have R3 := Lib.hid r3
          have RC1 := Lib.hid rc
          have RR := Lib.hid hrec
          clear r1 r2 r3 rc hrec c0' c3' d1' d2' d3' f1' f2' f3' c01 d21 f21 d32 f32
          gi_wp2
          refine ⟨RR.out, .inr ⟨rfl, ?_, ?_, ?_, ?_, ?_, ?_⟩⟩
          · rw [show doneL (RC .ready none) .ret = RC .done (some .ret) from by rw [HRC.out]; rfl]
            refine ((HC1.out.mono ?_).trans ((RC1.out.drew).mono ?_)).trans ((chg_putObj _ _ _).mono ?_)
            · intro j hj; simp at hj; simp [hj]
            · intro j hj; simp at hj; simp; omega
            · intro j hj; simp at hj; simp [hj]
          · rw [show doneL (RC .ready none) .ret = RC .done (some .ret) from by rw [HRC.out]; rfl]
            exact World.putObj_heap_same (Array.getElem?_eq_some_iff.1 RR.out).1
          · exact (World.putObj_heap_other (by omega)).trans R1.out
          · exact (World.putObj_heap_other (by omega)).trans R2.out
          · exact (World.putObj_heap_other (by omega)).trans R3.out
          · exact HFG.out
    case post =>
      rintro e W4 ⟨⟨v, rfl⟩, ⟨hc, hr, hk⟩ | ⟨k, hk, hX⟩⟩
      · refine ⟨⟨_, rfl⟩, .ready, none, by simp, hr, ?_⟩
        have HQ := Lib.hid (readR_no HBAD.out (firstG_no hk))
        have hz := HZ2.out
        have hc5 : Chg [m + 3] X0 (W4.putObj (m + 3) (.loop (RC .exhausted none))) := hc.trans (chg_putObj _ _ _)
        dsimp only [leaveL]
        generalize W4.putObj (m + 3) (.loop (RC .exhausted none)) = W5 at *
        have hlow : ∀ j, j < g + 4 → W5.heap[j]? = W1.heap[j]? := fun j hj => (hc5.block j (by rw [HZ0.out]; omega) (by simp; omega)).trans ((HO0.out j (by omega)).trans (HBL3.out j hj))
        have B1 : Hid (Box W5 (g + 1) 9 #[.string ⟨#[]⟩]) := (hlow _ (by omega)).trans HBLK.out.2.1
        have B2 : Hid (Box W5 (g + 2) 3 #[.int .i64 0]) := (hlow _ (by omega)).trans HBLK.out.2.2.1
        have B3 : Hid (Box W5 (g + 3) 33 #[.int .i64 0]) := (hlow _ (by omega)).trans HBLK.out.2.2.2
        have hd5 := (hc5.block (m + 2) (by rw [HZ0.out]; omega) (by simp)).trans HD0.out
        have HD5 := Lib.hid hd5
        have HC5 := Lib.hid hc5
        clear hc hr hk hc5 hlow hd5
        have d1 := B1.out.cell 0 _ rfl
        have d2 := B2.out.cell 0 _ rfl
        have d3 := B3.out.cell 0 _ rfl
        have f1 := B1.out.free 0
        have f2 := B2.out.free 0
        have f3 := B3.out.free 0
        gi_wp2
        obtain ⟨r1, r2, r3, rc⟩ := three_set B1.out B2.out B3.out (by omega) (by omega) (by omega) (.string ⟨#[]⟩) (.int .i64 0) (.int .i64 7)
        generalize World.setCell (World.setCell (World.setCell _ _ _) _ _) _ _ = W6 at *
        have hd6 := (rc.block (m + 2) (lt_of_block HD5.out) (by simp; omega)).trans HD5.out
        have e := fun j (hj : j ≠ m + 2) => World.putObj_heap_other (w := W6) (r := m + 2) (o := .deferred none) hj
        refine ⟨by simp, .inl ⟨_, _, rfl, run_takeDeferred hd6, ?_⟩⟩
        refine ⟨_, results_c3 rfl _ _ ⟨g + 1, 0, none⟩ ⟨g + 2, 0, none⟩ ⟨g + 3, 0, none⟩ _ _ _ rfl rfl rfl (Tryz.isAgg9 _) (Tryz.isAgg3 _) (Tryz.isAgg33 _) ((r1.of (e _ (by omega))).cell 0 _ rfl) ((r2.of (e _ (by omega))).cell 0 _ rfl) ((r3.of (e _ (by omega))).cell 0 _ rfl), ?_⟩
        have hfin : Chg [m + 3, g + 1, g + 2, g + 3, m + 2] X0 (W6.putObj (m + 2) (.deferred none)) := ((HC5.out.mono (by intro j hj; simp at hj; simp [hj])).trans (rc.mono (by intro j hj; simp at hj; simp; omega))).trans ((chg_putObj _ _ _).mono (by intro j hj; simp at hj; simp [hj]))
        exact ⟨by rw [HQ.out]; rfl, by rw [← HG.out]; exact HJW.out _ _ hfin (by intro j hj; simp at hj; omega)⟩
      · obtain ⟨hc, hr, b1, b2, b3, hfg⟩ := hX
        refine ⟨⟨_, rfl⟩, .done, some .ret, by simp, hr, ?_⟩
        have HQ := Lib.hid (readR_at HBAD.out hfg)
        have hz := HZ2.out
        have hc5 : Chg [m + 3, g + 1, g + 1 + 1, g + 1 + 2] X0 (W4.putObj (m + 3) (.loop (RC .exhausted (some .ret)))) := hc.trans ((chg_putObj _ _ _).mono (by intro j hj; simp at hj; simp [hj]))
        have e := fun j (hj : j ≠ m + 3) => World.putObj_heap_other (w := W4) (r := m + 3) (o := .loop (RC .exhausted (some .ret))) hj
        have r1 : Box _ (g + 1) 9 _ := (e _ (by omega)).trans b1
        have r2 : Box _ (g + 2) 3 _ := (e _ (by omega)).trans b2
        have r3 : Box _ (g + 3) 33 _ := (e _ (by omega)).trans b3
        have hd5 := (hc5.block (m + 2) (by rw [HZ0.out]; omega) (by simp; omega)).trans HD0.out
        clear e hc b1 b2 b3 hfg hr
        dsimp only [leaveL]
        generalize W4.putObj (m + 3) (.loop (RC .exhausted (some .ret))) = W6 at *
        gi_wp2
        have e := fun j (hj : j ≠ m + 2) => World.putObj_heap_other (w := W6) (r := m + 2) (o := .deferred none) hj
        refine ⟨by simp, .inl ⟨_, _, rfl, run_takeDeferred hd5, ?_⟩⟩
        refine ⟨_, results_c3 rfl _ _ ⟨g + 1, 0, none⟩ ⟨g + 2, 0, none⟩ ⟨g + 3, 0, none⟩ _ _ _ rfl rfl rfl (Tryz.isAgg9 _) (Tryz.isAgg3 _) (Tryz.isAgg33 _) ((r1.of (e _ (by omega))).cell 0 _ rfl) ((r2.of (e _ (by omega))).cell 0 _ rfl) ((r3.of (e _ (by omega))).cell 0 _ rfl), ?_⟩
        have hfin : Chg [m + 3, g + 1, g + 1 + 1, g + 1 + 2, m + 2] X0 (W6.putObj (m + 2) (.deferred none)) := (hc5.mono (by intro j hj; simp at hj; simp; omega)).trans ((chg_putObj _ _ _).mono (by intro j hj; simp at hj; simp [hj]))
        exact ⟨by rw [HQ.out]; rfl, by rw [← HG.out]; exact HJW.out _ _ hfin (by intro j hj; simp at hj; omega)⟩
end Go.Proofs.YtphhnhldbajaoaaGreatDoor

namespace Go.Proofs.YtphhnhldbajaoaaGreatDoor
open Go Go.RowKit Go.Shelf

attribute [local go_sem] Oper.semAt_some

/-- A row of bools of the call's own. -/
def Bs (w : World) (base : Nat) (v : Value) (l : List Bool) : Prop := w.ownsRow base 4 1 v l.length (l.map Value.bool)
theorem Bs.keep {w w' : World} {base : Nat} {v : Value} {l : List Bool} (h : Bs w base v l) (hb : Below w.heap.size w w') : Bs w' base v l := ownsRow_of h fun k _ hlt => hb.block k hlt
theorem Bs.view {w : World} {base : Nat} {v : Value} {l : List Bool} (h : Bs w base v l) : ∃ a cap, v = .slice a l.length cap ∧ Sl w Value.bool a l := by
  rcases h.2 with ⟨rfl, h0⟩ | ⟨g, cap, cur, rfl, hg, hh, _⟩
  · have : l = [] := List.eq_nil_of_length_eq_zero h0
    subst this
    exact ⟨none, 0, rfl, Sl.nil⟩
  · refine ⟨some ⟨g, 0, none⟩, cap, rfl, fun _ => ⟨g, 0, rfl, lt_of_block hh, fun i x hx => ?_⟩⟩
    have hi : i < l.length := (List.getElem?_eq_some_iff.1 hx).1
    rw [Nat.zero_add, World.ownsRow.cellAt h i (by simpa using hi), List.getElem?_map, hx]
    rfl

end Go.Proofs.YtphhnhldbajaoaaGreatDoor

namespace Go.Proofs.YtphhnhldbajaoaaGreatDoor
open Go Go.RowKit Go.ChangeShapes Go.WideShapes Go.ChangeAt

theorem infoBoolS : (Tryz.prog.info? 4).map (fun i => (i.zero, i.size, i.bytes)) = some (some (.bool false), 1, 1) := by kernel_rfl
theorem made_bools (n : Nat) {w1 : World} {g cap : Nat} (h : w1.ownsRow g 4 1 (.slice (some ⟨g, 0, none⟩) n cap) n (madeCells #[Value.bool false] n).toList) : Bs w1 g (.slice (some ⟨g, 0, none⟩) n cap) (List.replicate n false) := by
  have e : (madeCells #[Value.bool false] n).toList = (List.replicate n false).map Value.bool := by
    apply List.ext_getElem
    · simp [size_madeCells]
    · intro i h1 h2
      simp [madeCells, Nat.mod_one]
  unfold Bs
  rw [List.length_replicate, ← e]
  exact h
theorem bs_cell {w : World} {base g cap n : Nat} {l : List Bool} (h : Bs w base (.slice (some ⟨g, 0, none⟩) n cap) l) (hn : l.length = n) (k : Nat) (hk : k < n) : w.cell? ⟨g, k, none⟩ = some (.bool (l.getD k false)) := by
  subst hn
  rw [World.ownsRow.cellAt h k (by omega), List.getElem?_map, List.getD, List.getElem?_eq_getElem hk]
  rfl
theorem bs_free {w : World} {base g cap n : Nat} {l : List Bool} (h : Bs w base (.slice (some ⟨g, 0, none⟩) n cap) l) (k : Nat) : w.frozen? ⟨g, k, none⟩ = false := by
  rcases h.2 with ⟨h', _⟩ | ⟨g', cap', cur, h', _, hg, _⟩
  · simp at h'
  · simp only [Value.slice.injEq, Option.some.injEq, Addr.mk.injEq, and_true] at h'
    obtain ⟨rfl, _⟩ := h'
    simp [World.frozen?, hg]
theorem bs_set {w : World} {base g cap n : Nat} {l : List Bool} (h : Bs w base (.slice (some ⟨g, 0, none⟩) n cap) l) (hn : l.length = n) (k : Nat) (b : Bool) : Bs (w.setCell ⟨g, k, none⟩ (.bool b)) base (.slice (some ⟨g, 0, none⟩) n cap) (l.set k b) := by
  subst hn
  have := (World.ownsRow.stored h k (Value.bool b)).1
  unfold Bs
  rw [List.length_set, List.map_set]
  exact this
/-- The sectors of the ring and of the second cache, as far as place k. -/
def tkA (e : Int) (n k : Nat) : List Bool := (List.range n).map (fun i => decide (i < k) && (decide (i < 4) || decide (e ≤ (i : Int))))
theorem tkA_len (e : Int) (n k : Nat) : (tkA e n k).length = n := by unfold tkA; rw [List.length_map, List.length_range]
theorem tkA_nil (e : Int) (n : Nat) : tkA e n 0 = List.replicate n false := by
  unfold tkA
  apply List.ext_getElem
  · simp
  · intro i h1 h2; simp
theorem tkA_set (e : Int) (n k : Nat) : (tkA e n k).set k (decide (k < 4) || decide (e ≤ (k : Int))) = tkA e n (k + 1) := by
  unfold tkA
  apply List.ext_getElem
  · simp
  · intro i h1 h2
    rw [List.getElem_set]
    by_cases h : k = i
    · subst h; simp
    · rw [if_neg h]
      simp only [List.getElem_map, List.getElem_range]
      have : decide (i < k + 1) = decide (i < k) := decide_eq_decide.2 (by omega)
      rw [this]
def setU (side : Int) (L : List Bool) (u : Int × Int) : List Bool := if u.1 = side then L.set u.2.toNat true else L
theorem setU_len (side : Int) (L : List Bool) (u : Int × Int) : (setU side L u).length = L.length := by
  unfold setU
  split
  · exact List.length_set
  · rfl
theorem setUs_len (side : Int) : ∀ (l : List (Int × Int)) (L : List Bool), (l.foldl (setU side) L).length = L.length
  | [], _ => rfl
  | u :: r, L => by rw [List.foldl_cons, setUs_len side r, setU_len]
theorem foldl_take {side : Int} {l : List (Int × Int)} {j : Nat} (hj : j < l.length) (L : List Bool) : (l.take (j + 1)).foldl (setU side) L = setU side ((l.take j).foldl (setU side) L) l[j] := by
  rw [List.take_succ_eq_append_getElem hj, List.foldl_append]; rfl
/-- Where the sectors end that may be taken. -/
def endS (x : StoV) (d : DevD) (side : Int) : Int := if side = 1 then (devSize d side : Int) - regionS x d else devSize d side
def takenS (x : StoV) (d : DevD) (side : Int) (used : List (Int × Int)) : List Bool := used.foldl (setU side) (tkA (endS x d side) (devSize d side) (devSize d side))
section
variable {B : Nat} {P : List Nat → World → Prop} {s : Nat} {x : StoV} {d : DevD} {w : World}
set_option maxRecDepth 100000 in
set_option maxHeartbeats 8000000 in
theorem staken_any (hP : Fixed P) (h : StoB w s x) (ho : One B P x.db d w) (side : Int) (hs : side = 0 ∨ side = 1) (hz : ∀ t, devSize d t ≤ 512) (a : Option Addr) (cap : Nat) (l : List (Int × Int)) (hl : l.length ≤ 1000) (hu : SlP w a l) (hn : ∀ u ∈ l, nowhS d u = false) (hsec : -1000000 ≤ x.pol.second ∧ x.pol.second ≤ 1000000) :
    Calls Tryz.prog 60 #[.pointer (some ⟨s, 0, none⟩), .int .i64 side, .slice a l.length cap] w fun e w' => ∃ v, e = .returned v ∧ Bs w' w.heap.size v (takenS x d side l) ∧ Below w.heap.size w w' := by
  have c0 : w.cell? ⟨s, 0, none⟩ = some (.pointer (some ⟨x.db, 0, none⟩)) := h.cell 0 _ rfl
  have HX : Hid (∀ W, Below w.heap.size w W → StoB W s x ∧ One B P x.db d W) := fun W hb => ⟨h.keep hb h.lt, ho.keep hP hb⟩
  have HU := Lib.hid hu
  have HN := Lib.hid hn
  have HD := Lib.hid (one_size ho side)
  have HZ := Lib.hid hz
  obtain ⟨R, hR⟩ : ∃ R, R = takenS x d side l := ⟨_, rfl⟩
  rw [← hR]
  obtain ⟨PS, hPS⟩ : ∃ PS : Ending → World → Prop, PS = fun e w' => ∃ v, e = .returned v ∧ Bs w' w.heap.size v R ∧ Below w.heap.size w w' := ⟨_, rfl⟩
  have hgoal : Calls Tryz.prog 60 #[.pointer (some ⟨s, 0, none⟩), .int .i64 side, .slice a l.length cap] w PS := by
    have HPS := Lib.hid hPS
    have HRR := Lib.hid hR
    have HRG : Hid (-1000000 ≤ regionS x d ∧ regionS x d ≤ 1000000) := by
      show _ ∧ _
      unfold regionS
      split
      · omega
      · exact hsec
    clear h ho hR hPS hu hn
    obtain ⟨i0, hi, hz0, hz1, hz2⟩ := info_parts infoBoolS
    obtain ⟨n, hnn⟩ : ∃ n, n = devSize d side := ⟨_, rfl⟩
    have hn5 : n ≤ 512 := by rw [hnn]; exact hz side
    have HNN := Lib.hid hnn
    rw [← hnn] at HD
    clear hnn hz
    go_enter Tryz.func60, Tryz.ntmps60
    go_wp2_with fail
    refine HD.out.mono ?_
    rintro e w1 ⟨rfl, rfl⟩
    go_wp2_with (at_make; refine wpList_make_full _ rfl _ _ 113 rfl w.heap.size 4 i0 (.bool false) 1 Tryz.underlying113 hi hz0 hz1 .i64 .i64 n n n rfl rfl rfl rfl (by rw [hz2]; omega) (by unfold maxLen; omega) (Nat.le_refl _) ?_)
    intro w1 hown hg
    have hbuf := made_bools n hown
    rw [← tkA_nil (endS x d side)] at hbuf
    have hbel : Below w.heap.size w w1 := (Below.refl _ _).grown hg (Nat.le_refl _) (fun k hk => by cases hk)
    have HB := Lib.hid hbuf
    have HL := Lib.hid hbel
    clear hown hg hbuf hbel hi hz0 hz1 hz2 c0
    rcases hs with rfl | rfl
    · go_wp2_with fail
      have HEN : Hid ((n : Int) = endS x d 0) := by show _ = _; rw [HNN.out]; rfl
      rw [← HEN.out] at HB
      clear HRG
      go_loopw [29] (fun iv wr => ∃ k : Nat, k ≤ n ∧ iv = .int .i64 k ∧ Hid (Bs wr w.heap.size (.slice (some ⟨w.heap.size, 0, none⟩) n n) (tkA (n : Int) n k)) ∧ Hid (Below w.heap.size w wr)) (fun iv _ => ((n : Int) - RowKit.intOf iv).toNat)
      case atStart => exact ⟨0, Nat.zero_le _, rfl, HB, HL⟩
      case round =>
        clear HB HL
        rename_i hkk
        obtain ⟨k, hk, rfl, HB, HL⟩ := hrel
        by_cases hlt : k < n
        · clear hkk
          have h0k : (0 : Int) ≤ (k : Int) := by omega
          have h1k : (k : Int) < (n : Int) := by omega
          have f0 := bs_free HB.out k
          have g0 := bs_cell HB.out (tkA_len (n : Int) n k) k hlt
          have HST := Lib.hid (bs_set HB.out (tkA_len (n : Int) n k) k (decide (k < 4) || decide ((n : Int) ≤ (k : Int))))
          rw [tkA_set] at HST
          have HBL : Hid (∀ b, Below w.heap.size w (wr.setCell ⟨w.heap.size, k, none⟩ (.bool b))) := fun b => ((Chg.of HL.out (Nat.le_refl _) (S := [])).set w.heap.size k _ (.inr (Nat.le_refl _))).below (Nat.le_refl _) (fun _ h => by cases h)
          by_cases h4 : k < 4
          · have d4 : decide ((k : Int) < 4) = true := decide_eq_true (by omega)
            rw [decide_eq_true h4, Bool.true_or] at HST
            have HB2 := Lib.hid (HBL.out true)
            clear HBL h4
            go_wp2_with fail
            go_roundw
            case rel => exact ⟨k + 1, by omega, by go_num, HST, HB2⟩
            case measure => simp [RowKit.intOf]; omega
          · have d4 : decide ((k : Int) < 4) = false := decide_eq_false (by omega)
            rw [decide_eq_false h4, Bool.false_or, show decide ((n : Int) ≤ (k : Int)) = decide (n ≤ k) from decide_eq_decide.2 (by omega)] at HST
            have HB2 := Lib.hid (HBL.out (decide (n ≤ k)))
            clear HBL h4
            go_wp2_with fail
            go_roundw
            case rel => exact ⟨k + 1, by omega, by go_num, HST, HB2⟩
            case measure => simp [RowKit.intOf]; omega
        · have hkn : k = n := by omega
          have HB1 : Hid (Bs wr w.heap.size (.slice (some ⟨w.heap.size, 0, none⟩) n n) ((l.take 0).foldl (setU 0) (tkA (n : Int) n n))) := by have := HB.out; rw [hkn] at this; exact this
          clear HB hkn
          go_wp2_with fail
          go_loopw [45] (fun iv wr => ∃ j : Nat, j ≤ l.length ∧ iv = .int .i64 j ∧ Hid (Bs wr w.heap.size (.slice (some ⟨w.heap.size, 0, none⟩) n n) ((l.take j).foldl (setU 0) (tkA (n : Int) n n))) ∧ Hid (Below w.heap.size w wr)) (fun iv _ => ((l.length : Int) - RowKit.intOf iv).toNat)
          case atStart => exact ⟨0, Nat.zero_le _, rfl, HB1, HL⟩
          case round =>
            clear HB1 HL
            rename_i hjj
            obtain ⟨j, hj, rfl, HB, HL⟩ := hrel
            by_cases hlj : j < l.length
            · clear hjj
              obtain ⟨b, off, rfl, hb, hc0, hc1⟩ := (HU.out.keep HL.out).get j hlj
              have h0j : (0 : Int) ≤ (j : Int) := by omega
              have h1j : (j : Int) < (l.length : Int) := by omega
              have HFT := Lib.hid (foldl_take (side := 0) hlj (tkA (n : Int) n n))
              have HNU := Lib.hid (HN.out l[j] (List.getElem_mem hlj))
              generalize l[j] = u at *
              obtain ⟨u1, u2⟩ := u
              have HLN : Hid (((l.take j).foldl (setU 0) (tkA (n : Int) n n)).length = n) := by show _ = _; rw [setUs_len, tkA_len]
              obtain ⟨gb, hgb⟩ : ∃ gb, gb = wr.heap.size := ⟨_, rfl⟩
              obtain ⟨wa, hwa⟩ : ∃ wa, wa = wr.alloc (.cells #[.int .i64 u1, .int .i64 u2] 47 (0, 0)) := ⟨_, rfl⟩
              have hba : Below wr.heap.size wr wa := by rw [hwa]; exact (Below.refl _ _).alloc (Nat.le_refl _) _
              have HBX : Hid (Box wa gb 47 #[.int .i64 u1, .int .i64 u2]) := by show Box _ _ _ _; rw [hwa, hgb]; exact Box.new _ _ _
              have b0 : wa.cell? ⟨gb, 0, none⟩ = some (.int .i64 u1) := HBX.out.cell 0 _ rfl
              have b1 : wa.cell? ⟨gb, 1, none⟩ = some (.int .i64 u2) := HBX.out.cell 1 _ rfl
              have HB2 := Lib.hid (HB.out.keep hba)
              have HL2 := Lib.hid (HL.out.trans (hba.mono HL.out.size))
              have hwa2 := hwa.symm
              have hgb2 := hgb.symm
              clear hwa hgb hba HB HL
              by_cases h1 : u1 = 0
              · have d1 : (u1 == (0 : Int)) = true := by simp [h1]
                have h5 := HNU.out
                unfold nowhS at h5
                rw [Bool.or_eq_false_iff] at h5
                have h6 := of_decide_eq_false h5.1
                have h7 := of_decide_eq_false h5.2
                rw [h1, ← HNN.out] at h7
                obtain ⟨q, rfl⟩ : ∃ q : Nat, u2 = q := ⟨u2.toNat, by omega⟩
                have hq : q < n := by omega
                have h0q : (0 : Int) ≤ (q : Int) := by omega
                have h1q : (q : Int) < (n : Int) := by omega
                have f0 := bs_free HB2.out q
                have g0 := bs_cell HB2.out HLN.out q hq
                have HST := Lib.hid (bs_set HB2.out HLN.out q true)
                have HSE : Hid (setU 0 ((l.take j).foldl (setU 0) (tkA (n : Int) n n)) (u1, (q : Int)) = ((l.take j).foldl (setU 0) (tkA (n : Int) n n)).set q true) := by show _ = _; unfold setU; rw [if_pos h1]; rfl
                rw [← HSE.out, ← HFT.out] at HST
                have HB3 : Hid (Below w.heap.size w (wa.setCell ⟨w.heap.size, q, none⟩ (.bool true))) := ((Chg.of HL2.out (Nat.le_refl _) (S := [])).set w.heap.size q _ (.inr (Nat.le_refl _))).below (Nat.le_refl _) (fun _ h => by cases h)
                clear h5 h6 h7 h1
                go_wp2_with fail
                go_roundw
                case rel => exact ⟨j + 1, by omega, by go_num, HST, HB3⟩
                case measure => simp [RowKit.intOf]; omega
              · have d1 : (u1 == (0 : Int)) = false := by rw [beq_eq_false_iff_ne]; exact h1
                have HSE : Hid (setU 0 ((l.take j).foldl (setU 0) (tkA (n : Int) n n)) (u1, u2) = (l.take j).foldl (setU 0) (tkA (n : Int) n n)) := by show _ = _; unfold setU; rw [if_neg h1]
                have HST : Hid (Bs wa w.heap.size (.slice (some ⟨w.heap.size, 0, none⟩) n n) ((l.take (j + 1)).foldl (setU 0) (tkA (n : Int) n n))) := by show Bs _ _ _ _; rw [HFT.out, HSE.out]; exact HB2.out
                clear h1
                go_wp2_with fail
                go_roundw
                case rel => exact ⟨j + 1, by omega, by go_num, HST, HL2⟩
                case measure => simp [RowKit.intOf]; omega
            · have hjl : j = l.length := by omega
              have HF : Hid (Bs wr w.heap.size (.slice (some ⟨w.heap.size, 0, none⟩) n n) R) := by
                have h5 := HB.out
                rw [hjl, List.take_length, HEN.out] at h5
                show Bs _ _ _ _
                rw [HRR.out]
                unfold takenS
                rw [← HNN.out]
                exact h5
              clear hjl
              go_wp2
              rw [HPS.out]
              exact ⟨_, rfl, HF.out, HL.out⟩
    · go_wp2_with fail
      refine (sregion_any (HX.out _ HL.out).1 (HX.out _ HL.out).2 (by have := HZ.out 1; omega)).mono ?_
      rintro e9 w9 ⟨rfl, rfl⟩
      obtain ⟨r, hr⟩ : ∃ r, r = regionS x d := ⟨_, rfl⟩
      rw [← hr]
      have hrg := HRG.out
      rw [← hr] at hrg
      obtain ⟨e, he⟩ : ∃ e : Int, e = (n : Int) - r := ⟨_, rfl⟩
      have HE := Lib.hid he
      have HRX := Lib.hid hr
      clear he hr
      go_wp2_with fail
      rw [← HE.out]
      have HEN : Hid (e = endS x d 1) := by show _ = _; rw [HE.out, HRX.out, HNN.out]; rfl
      rw [← HEN.out] at HB
      clear HRG
      go_loopw [29] (fun iv wr => ∃ k : Nat, k ≤ n ∧ iv = .int .i64 k ∧ Hid (Bs wr w.heap.size (.slice (some ⟨w.heap.size, 0, none⟩) n n) (tkA e n k)) ∧ Hid (Below w.heap.size w wr)) (fun iv _ => ((n : Int) - RowKit.intOf iv).toNat)
      case atStart => exact ⟨0, Nat.zero_le _, rfl, HB, HL⟩
      case round =>
        clear HB HL
        rename_i hkk
        obtain ⟨k, hk, rfl, HB, HL⟩ := hrel
        by_cases hlt : k < n
        · clear hkk
          have h0k : (0 : Int) ≤ (k : Int) := by omega
          have h1k : (k : Int) < (n : Int) := by omega
          have f0 := bs_free HB.out k
          have g0 := bs_cell HB.out (tkA_len e n k) k hlt
          have HST := Lib.hid (bs_set HB.out (tkA_len e n k) k (decide (k < 4) || decide (e ≤ (k : Int))))
          rw [tkA_set] at HST
          have HBL : Hid (∀ b, Below w.heap.size w (wr.setCell ⟨w.heap.size, k, none⟩ (.bool b))) := fun b => ((Chg.of HL.out (Nat.le_refl _) (S := [])).set w.heap.size k _ (.inr (Nat.le_refl _))).below (Nat.le_refl _) (fun _ h => by cases h)
          by_cases h4 : k < 4
          · have d4 : decide ((k : Int) < 4) = true := decide_eq_true (by omega)
            rw [decide_eq_true h4, Bool.true_or] at HST
            have HB2 := Lib.hid (HBL.out true)
            clear HBL h4
            go_wp2_with fail
            go_roundw
            case rel => exact ⟨k + 1, by omega, by go_num, HST, HB2⟩
            case measure => simp [RowKit.intOf]; omega
          · have d4 : decide ((k : Int) < 4) = false := decide_eq_false (by omega)
            rw [decide_eq_false h4, Bool.false_or] at HST
            have HB2 := Lib.hid (HBL.out (decide (e ≤ (k : Int))))
            clear HBL h4
            go_wp2_with fail
            go_roundw
            case rel => exact ⟨k + 1, by omega, by go_num, HST, HB2⟩
            case measure => simp [RowKit.intOf]; omega
        · have hkn : k = n := by omega
          have HB1 : Hid (Bs wr w.heap.size (.slice (some ⟨w.heap.size, 0, none⟩) n n) ((l.take 0).foldl (setU 1) (tkA e n n))) := by have := HB.out; rw [hkn] at this; exact this
          clear HB hkn
          go_wp2_with fail
          go_loopw [45] (fun iv wr => ∃ j : Nat, j ≤ l.length ∧ iv = .int .i64 j ∧ Hid (Bs wr w.heap.size (.slice (some ⟨w.heap.size, 0, none⟩) n n) ((l.take j).foldl (setU 1) (tkA e n n))) ∧ Hid (Below w.heap.size w wr)) (fun iv _ => ((l.length : Int) - RowKit.intOf iv).toNat)
          case atStart => exact ⟨0, Nat.zero_le _, rfl, HB1, HL⟩
          case round =>
            clear HB1 HL
            rename_i hjj
            obtain ⟨j, hj, rfl, HB, HL⟩ := hrel
            by_cases hlj : j < l.length
            · clear hjj
              obtain ⟨b, off, rfl, hb, hc0, hc1⟩ := (HU.out.keep HL.out).get j hlj
              have h0j : (0 : Int) ≤ (j : Int) := by omega
              have h1j : (j : Int) < (l.length : Int) := by omega
              have HFT := Lib.hid (foldl_take (side := 1) hlj (tkA e n n))
              have HNU := Lib.hid (HN.out l[j] (List.getElem_mem hlj))
              generalize l[j] = u at *
              obtain ⟨u1, u2⟩ := u
              have HLN : Hid (((l.take j).foldl (setU 1) (tkA e n n)).length = n) := by show _ = _; rw [setUs_len, tkA_len]
              obtain ⟨gb, hgb⟩ : ∃ gb, gb = wr.heap.size := ⟨_, rfl⟩
              obtain ⟨wa, hwa⟩ : ∃ wa, wa = wr.alloc (.cells #[.int .i64 u1, .int .i64 u2] 47 (0, 0)) := ⟨_, rfl⟩
              have hba : Below wr.heap.size wr wa := by rw [hwa]; exact (Below.refl _ _).alloc (Nat.le_refl _) _
              have HBX : Hid (Box wa gb 47 #[.int .i64 u1, .int .i64 u2]) := by show Box _ _ _ _; rw [hwa, hgb]; exact Box.new _ _ _
              have b0 : wa.cell? ⟨gb, 0, none⟩ = some (.int .i64 u1) := HBX.out.cell 0 _ rfl
              have b1 : wa.cell? ⟨gb, 1, none⟩ = some (.int .i64 u2) := HBX.out.cell 1 _ rfl
              have HB2 := Lib.hid (HB.out.keep hba)
              have HL2 := Lib.hid (HL.out.trans (hba.mono HL.out.size))
              have hwa2 := hwa.symm
              have hgb2 := hgb.symm
              clear hwa hgb hba HB HL
              by_cases h1 : u1 = 1
              · have d1 : (u1 == (1 : Int)) = true := by simp [h1]
                have h5 := HNU.out
                unfold nowhS at h5
                rw [Bool.or_eq_false_iff] at h5
                have h6 := of_decide_eq_false h5.1
                have h7 := of_decide_eq_false h5.2
                rw [h1, ← HNN.out] at h7
                obtain ⟨q, rfl⟩ : ∃ q : Nat, u2 = q := ⟨u2.toNat, by omega⟩
                have hq : q < n := by omega
                have h0q : (0 : Int) ≤ (q : Int) := by omega
                have h1q : (q : Int) < (n : Int) := by omega
                have f0 := bs_free HB2.out q
                have g0 := bs_cell HB2.out HLN.out q hq
                have HST := Lib.hid (bs_set HB2.out HLN.out q true)
                have HSE : Hid (setU 1 ((l.take j).foldl (setU 1) (tkA e n n)) (u1, (q : Int)) = ((l.take j).foldl (setU 1) (tkA e n n)).set q true) := by show _ = _; unfold setU; rw [if_pos h1]; rfl
                rw [← HSE.out, ← HFT.out] at HST
                have HB3 : Hid (Below w.heap.size w (wa.setCell ⟨w.heap.size, q, none⟩ (.bool true))) := ((Chg.of HL2.out (Nat.le_refl _) (S := [])).set w.heap.size q _ (.inr (Nat.le_refl _))).below (Nat.le_refl _) (fun _ h => by cases h)
                clear h5 h6 h7 h1
                go_wp2_with fail
                go_roundw
                case rel => exact ⟨j + 1, by omega, by go_num, HST, HB3⟩
                case measure => simp [RowKit.intOf]; omega
              · have d1 : (u1 == (1 : Int)) = false := by rw [beq_eq_false_iff_ne]; exact h1
                have HSE : Hid (setU 1 ((l.take j).foldl (setU 1) (tkA e n n)) (u1, u2) = (l.take j).foldl (setU 1) (tkA e n n)) := by show _ = _; unfold setU; rw [if_neg h1]
                have HST : Hid (Bs wa w.heap.size (.slice (some ⟨w.heap.size, 0, none⟩) n n) ((l.take (j + 1)).foldl (setU 1) (tkA e n n))) := by show Bs _ _ _ _; rw [HFT.out, HSE.out]; exact HB2.out
                clear h1
                go_wp2_with fail
                go_roundw
                case rel => exact ⟨j + 1, by omega, by go_num, HST, HL2⟩
                case measure => simp [RowKit.intOf]; omega
            · have hjl : j = l.length := by omega
              have HF : Hid (Bs wr w.heap.size (.slice (some ⟨w.heap.size, 0, none⟩) n n) R) := by
                have h5 := HB.out
                rw [hjl, List.take_length, HEN.out] at h5
                show Bs _ _ _ _
                rw [HRR.out]
                unfold takenS
                rw [← HNN.out]
                exact h5
              clear hjl
              go_wp2
              rw [HPS.out]
              exact ⟨_, rfl, HF.out, HL.out⟩
  rw [hPS] at hgoal
  exact hgoal
end
end Go.Proofs.YtphhnhldbajaoaaGreatDoor
