/-
  Texts put together: BlkF, BlkG.
-/
import Derived.Test.YtonkmffipjdhkaaDoorBlkE
import Derived.RangeFuncBox
import Derived.Maps.AppendAt
namespace Go.Proofs.YtonkmffipjdhkaaDoor
open Go Go.RowKit Go.Shelf

attribute [local go_sem] Oper.semAt_some

theorem infoBoo : (Tryd.prog.info? 4).map (fun i => (i.zero, i.size, i.bytes)) = some (some (.bool false), 1, 1) := by kernel_rfl
/-- A row of bools of the call's own. -/
def Bs (w : World) (base : Nat) (v : Value) (l : List Bool) : Prop := w.ownsRow base 4 1 v l.length (l.map Value.bool)
theorem Bs.nil (w : World) (base : Nat) : Bs w base (.slice none 0 0) [] := World.ownsRow_nil _ _ _ _
theorem Bs.own_block {w : World} {base : Nat} {v : Value} {l : List Bool} (h : Bs w base v l) : ∀ k, v.ownBlock = some k → base ≤ k := fun k hk => (World.ownsRow.lt h k hk).1
theorem Bs.low {w : World} {base b : Nat} {v : Value} {l : List Bool} (h : Bs w base v l) (hb : b ≤ base) : Bs w b v l := by
  refine ⟨h.1, ?_⟩
  rcases h.2 with h | ⟨g, cap, cur, h1, h2, h3⟩
  · exact .inl h
  · exact .inr ⟨g, cap, cur, h1, Nat.le_trans hb h2, h3⟩
theorem Bs.keep {w w' : World} {base : Nat} {v : Value} {l : List Bool} (h : Bs w base v l) (hb : Below w.heap.size w w') : Bs w' base v l := ownsRow_of h fun k _ hlt => hb.block k hlt
theorem Bs.view {w : World} {base : Nat} {v : Value} {l : List Bool} (h : Bs w base v l) : ∃ a cap, v = .slice a l.length cap ∧ Sl w Value.bool a l := by
  rcases h.2 with ⟨rfl, h0⟩ | ⟨g, cap, cur, rfl, hg, hh, _⟩
  · have : l = [] := List.eq_nil_of_length_eq_zero h0
    subst this
    exact ⟨none, 0, rfl, Sl.nil⟩
  · refine ⟨some ⟨g, 0, none⟩, cap, rfl, fun _ => ⟨g, 0, rfl, lt_of_block hh, fun i x hx => ?_⟩⟩
    have hi : i < l.length := (List.getElem?_eq_some_iff.1 hx).1
    rw [Nat.zero_add, World.ownsRow.cellAt h i (by simpa using hi), List.getElem?_map, hx]
    rfl

def goods (t : Told) (p : PtrD) (k : Nat) : List Bool := (List.range k).map (t.good p)
theorem goods_succ (t : Told) (p : PtrD) (k : Nat) : goods t p (k + 1) = goods t p k ++ [t.good p k] := by unfold goods; rw [List.range_succ, List.map_append]; rfl
theorem goods_len (t : Told) (p : PtrD) (k : Nat) : (goods t p k).length = k := by simp [goods]
def goodR (t : Told) (p : PtrD) : List Bool := if badP p then [] else goods t p p.locs.length

/-- What stands between two rounds of Good: c the row's variable, the loop's record at c + 4. -/
structure GdJ (t : Told) (p : PtrD) (w : World) (g : Nat) (X0 : World) (c : Nat) (R : Loop) (k : Nat) (W : World) : Prop where
  low : ∀ i, i < c + 5 → i ≠ c → i ≠ c + 4 → W.heap[i]? = X0.heap[i]?
  rc : W.heap[c + 4]? = some (.loop R)
  row : ∃ v, Boxed W c 47 v ∧ Bs W (c + 5) v (goods t p k)
  sz : c + 5 ≤ W.heap.size
  bel : Below g w W
theorem GdJ.turn {t : Told} {p : PtrD} {w : World} {g : Nat} {X0 W : World} {c k : Nat} {R R' : Loop} (h : GdJ t p w g X0 c R k W) (hg : g ≤ c) : GdJ t p w g X0 c R' k (W.putObj (c + 4) (.loop R')) := by
  have e := fun j (hj : j ≠ c + 4) => World.putObj_heap_other (w := W) (r := c + 4) (o := .loop R') hj
  obtain ⟨v, hv, hk⟩ := h.row
  refine ⟨fun i h1 h2 h3 => (e i h3).trans (h.low i h1 h2 h3), World.putObj_heap_same (Array.getElem?_eq_some_iff.1 h.rc).1, ⟨v, (e _ (by omega)).trans hv, ?_⟩, by rw [World.putObj_size]; exact h.sz, ?_⟩
  · exact ownsRow_of hk fun i hi _ => e i (by have := hk.own_block i hi; omega)
  · exact h.bel.grown (grownBy_putObj' W _ _) (by have := h.sz; omega) (fun k e => by cases e; omega)
theorem GdJ.keep {t : Told} {p : PtrD} {w : World} {g : Nat} {X0 W W' : World} {c k : Nat} {R : Loop} (h : GdJ t p w g X0 c R k W) (hg : g ≤ c) (hb : Below W.heap.size W W') : GdJ t p w g X0 c R k W' := by
  have hs := h.sz
  obtain ⟨v, hv, hk⟩ := h.row
  exact ⟨fun i h1 h2 h3 => (hb.block i (by omega)).trans (h.low i h1 h2 h3), (hb.block _ (by omega)).trans h.rc, ⟨v, (hb.block _ hv.lt).trans hv, hk.keep hb⟩, Nat.le_trans hs hb.size, h.bel.trans (hb.mono (by omega))⟩
/-- One more. -/
theorem GdJ.push {t : Told} {p : PtrD} {w : World} {g : Nat} {X0 X w1 : World} {c k : Nat} {R : Loop} {v v' : Value} {o : Obj} (h : GdJ t p w g X0 c R k X) (hg : g ≤ c) (hv : Boxed X c 47 v) (hk : Bs X (c + 5) v (goods t p k))
    (hown : Bs w1 (c + 5) v' (goods t p (k + 1))) (hgr : (X.alloc o).grownBy w1 v.ownBlock) :
    Boxed w1 c 47 v ∧ GdJ t p w g X0 c R (k + 1) (w1.setCell ⟨c, 0, none⟩ v') := by
  have hsz := h.sz
  have hob := hk.own_block
  have h1 : ∀ i, i < c + 5 → w1.heap[i]? = X.heap[i]? := fun i hi => by
    rw [hgr.block i (by rw [size_alloc]; omega) (fun e => by have := hob i e.symm; omega)]
    exact Below.heap_alloc X o i (by omega)
  have e := fun i (hi : i ≠ c) => heap_setCell_other w1 ⟨c, 0, none⟩ i v' hi
  have hv1 : Boxed w1 c 47 v := (h1 _ (by omega)).trans hv
  refine ⟨hv1, fun i a1 a2 a3 => (e i a2).trans ((h1 i a1).trans (h.low i a1 a2 a3)), (e _ (by omega)).trans ((h1 _ (by omega)).trans h.rc), ⟨v', hv1.set v', ?_⟩, ?_, ?_⟩
  · exact ownsRow_of hown fun i hi _ => e i (by have := hown.own_block i hi; omega)
  · have h3 := hgr.size
    rw [size_alloc] at h3
    have := ((Below.refl 0 w1).setCell (p := ⟨c, 0, none⟩) (Nat.zero_le _) v').size
    omega
  · have h4 : Below g w w1 := (h.bel.alloc (by omega) o).grown hgr (by rw [size_alloc]; omega) (fun i hi => by have := hob i hi; omega)
    exact h4.setCell (p := ⟨c, 0, none⟩) hg _

set_option maxRecDepth 100000 in
set_option maxHeartbeats 2000000 in
theorem bgood_in (x a : Option Addr) (cap : Nat) (p : PtrD) (t : Told) (w : World) (hl : p.locs.length ≤ 1000) (hs : SlP w a p.locs) (hK : Kt w) (hT : ∀ k, (t.T k).size ≤ 140737488355328) (hR : Rd x p t w) :
    CallsIn Fence.wide 6 Tryd.prog 19 #[.pointer x, ptrV a cap p] w fun e w' => ∃ v, e = .returned v ∧ Bs w' w.heap.size v (goodR t p) ∧ Below w.heap.size w w' := by
  have hb1 : Below w.heap.size w (w.alloc (.cells #[.slice a p.locs.length cap, .int .i64 p.len, .int .i64 p.birth, .string p.sum] 25)) := (Below.refl _ w).alloc (Nat.le_refl _) _
  have BP := Lib.hid (Box.new w 25 #[.slice a p.locs.length cap, .int .i64 p.len, .int .i64 p.birth, .string p.sum])
  have hp0 := BP.out.cell 0 _ rfl
  have hp1 := BP.out.cell 1 _ rfl
  have hp2 := BP.out.cell 2 _ rfl
  have hp3 := BP.out.cell 3 _ rfl
  have hck := check_any a cap p _ (hs.keep hb1) hl
  have HB1 := Lib.hid hb1
  have HK := Lib.hid hK
  have HS := Lib.hid hs
  have HT := Lib.hid hT
  have HRD := Lib.hid hR
  have HCK := Lib.hid hck
  unfold ptrV at HCK ⊢
  clear hb1 hK hs hT hR hck
  refine callsIn_of_wp_marks Tryd.func19 rfl trivial ?_ rfl
  simp only [Tryd.ntmps19, List.size_toArray, List.length_cons, List.length_nil, Nat.reduceAdd, Nat.reduceSub, Array.replicate_succ, Array.replicate_zero, List.push_toArray, List.append_toArray, List.nil_append, List.cons_append]
  gi_wp2_with fail
  refine ⟨trivial, ?_⟩
  generalize World.alloc _ _ = W1 at *
  refine (callsIn_wide.2 HCK.out).mono ?_
  rintro e W2 ⟨rfl, hb⟩
  have HB2 := Lib.hid (HB1.out.trans (hb.mono HB1.out.size))
  have BP2 := Lib.hid (BP.out.keep hb BP.out.lt)
  clear hb HCK hp0 hp1 hp2 hp3 HB1 BP
  by_cases hbad : badP p
  · rw [show chkP p = 1 from if_pos hbad]
    have HQ := Lib.hid (show goodR t p = [] from if_pos hbad)
    clear hbad
    gi_wp2
    refine ⟨_, results_tmp rfl _ _ _, ?_⟩
    exact ⟨_, rfl, by rw [HQ.out]; exact Bs.nil _ _, HB2.out⟩
  · rw [show chkP p = 0 from if_neg hbad]
    have HQ := Lib.hid (show goodR t p = goods t p p.locs.length from if_neg hbad)
    have hx := (Below.refl W2.heap.size W2).alloc (Nat.le_refl _) (.cells #[.slice none 0 0] 47)
    have HB3 := Lib.hid (HB2.out.trans (hx.mono HB2.out.size))
    have BP3 := Lib.hid (BP2.out.keep hx BP2.out.lt)
    have BC3 := Lib.hid (Boxed.new W2 47 (.slice none 0 0))
    have HN : Hid ((W2.alloc (.cells #[.slice none 0 0] 47)).heap.size = W2.heap.size + 1) := size_alloc _ _
    have HGC : Hid (w.heap.size ≤ W2.heap.size) := HB2.out.size
    have hp0 := BP3.out.cell 0 _ rfl
    have hp1 := BP3.out.cell 1 _ rfl
    have hp2 := BP3.out.cell 2 _ rfl
    have hp3 := BP3.out.cell 3 _ rfl
    clear hx hbad HB2 BP2
    gi_wp2_with fail
    refine ⟨trivial, ?_⟩
    generalize World.alloc _ _ = W3 at *
    have hca := copies_any 5 (by decide) x a cap p W3
    unfold ptrV at hca
    refine hca.mono ?_
    rintro e W4 ⟨rfl, hn4, hb4, hdb, hpb⟩
    clear hca
    rw [HN.out] at hn4 hdb hpb ⊢
    have HB4 := Lib.hid (HB3.out.trans (hb4.mono HB3.out.size))
    have BC4 : Hid (Boxed W4 W2.heap.size 47 (.slice none 0 0)) := (hb4.block _ BC3.out.lt).trans BC3.out
    have HDB := Lib.hid hdb
    have HPB := Lib.hid hpb
    have HN4 := Lib.hid hn4
    clear hdb hpb hb4 hp0 hp1 hp2 hp3 HB3 BC3 hn4 HN
    gi_wp2_with fail
    have hn4 := HN4.out
    refine range_enter rfl (by decide) (gf := 54) (lb := #[.pointer (some ⟨W2.heap.size + 1 + 1, 0, none⟩), .pointer (some ⟨W2.heap.size + 1, 0, none⟩)]) rfl trivial (enters_of Tryd.func54 (by kernel_rfl) rfl) ?_
    intro fn hfn RC hRC
    simp only [Nat.reduceSub, List.append_toArray, List.cons_append, List.nil_append]
    obtain ⟨c, hc⟩ : ∃ c, c = W2.heap.size := ⟨_, rfl⟩
    rw [← hc] at HN4 HDB HPB hn4 BC4 HGC ⊢
    obtain ⟨g, hg⟩ : ∃ g, g = w.heap.size := ⟨_, rfl⟩
    have HG := Lib.hid hg
    rw [← hg] at HB4 HGC ⊢
    rw [hn4]
    obtain ⟨X0, hX0⟩ : ∃ X0, X0 = (W4.alloc (.deferred (some []))).alloc (.loop (RC .ready none)) := ⟨_, rfl⟩
    rw [← hX0]
    have hzd : (W4.alloc (.deferred (some []))).heap.size = c + 4 := by rw [size_alloc, hn4]
    have hz0 : X0.heap.size = c + 5 := by rw [hX0, size_alloc, hzd]
    have hl0 : X0.heap[c + 4]? = some (.loop (RC .ready none)) := by
      have := World.alloc_heap_new (W4.alloc (.deferred (some []))) (.loop (RC .ready none))
      rw [hzd] at this
      rw [hX0]; exact this
    have hd0 : X0.heap[c + 3]? = some (.deferred (some [])) := by
      rw [hX0, Below.heap_alloc _ _ _ (by rw [hzd]; omega)]
      have := World.alloc_heap_new W4 (.deferred (some []))
      rw [hn4] at this
      exact this
    have ho0 : ∀ k, k < c + 3 → X0.heap[k]? = W4.heap[k]? := fun k hk => by
      rw [hX0, Below.heap_alloc _ _ _ (by rw [hzd]; omega), Below.heap_alloc _ _ _ (by rw [hn4]; omega)]
    have hbx0 : Below g w X0 := by rw [hX0]; exact (HB4.out.alloc (by rw [hn4]; have := HGC.out; omega) _).alloc (by rw [hzd]; have := HGC.out; omega) _
    have HZ0 := Lib.hid hz0
    have HD0 := Lib.hid hd0
    have HO0 := Lib.hid ho0
    have HM := Lib.hid hc
    have HRC := Lib.hid hRC
    have HFN := Lib.hid hfn
    have hJ0 : GdJ t p w g X0 c (RC .ready none) 0 X0 := ⟨fun _ _ _ _ => rfl, hl0, ⟨_, (ho0 c (by omega)).trans BC4.out, Bs.nil _ _⟩, by omega, hbx0⟩
    have HJ0 := Lib.hid hJ0
    clear hc hg hX0 hzd hz0 hl0 hd0 ho0 hbx0 hn4 hfn hRC HB4 hJ0
    refine CallsIn.mono (copies_iter 5 (c + 4) (c + 1 + 1) (c + 1) (by decide) x a cap p hl t (fun k _ => HT.out k) (GdJ t p w g X0 c (RC .ready none)) (fun _ _ => False) ?js ?jb ?rr ?yy X0 HJ0.out) ?post
    case js =>
      intro k W h
      have hb := h.bel
      rw [HG.out] at hb
      exact ⟨HK.out.below hb HK.out.pos, HS.out.keep hb, Box.cell (t := 27) ((h.low (c + 1) (by omega) (by omega) (by omega)).trans ((HO0.out _ (by omega)).trans HDB.out)) 0 _ rfl, (h.low (c + 2) (by omega) (by omega) (by omega)).trans ((HO0.out _ (by omega)).trans HPB.out)⟩
    case jb => exact fun k W W' h hb => h.keep HGC.out hb
    case rr =>
      intro k W h hj
      have hb := hj.bel
      rw [HG.out] at hb
      exact HRD.out W hb k h
    case yy =>
      intro k W hlt hJ
      refine yield_round (r := RC .ready none) hJ.rc (by rw [HRC.out]; rfl) (by rw [HRC.out]; exact HFN.out) (by rw [HRC.out]; rfl) ?_
      rw [show (RC .ready none).assign = _ from by rw [HRC.out], show (RC .ready none).body = _ from by rw [HRC.out], show (RC .ready none).params = _ from by rw [HRC.out], show (RC .ready none).tmps = _ from by rw [HRC.out]]
      dsimp only [recL]
      unfold foundV
      have HGS := Lib.hid (goods_succ t p k)
      generalize hgk : t.good p k = gk at *
      generalize hlk : p.locs[k] = lk
      have HJ := Lib.hid hJ
      clear hJ hgk hlk
      have HLT := Lib.hid hlt
      clear hlt
      have BF := Lib.hid (Box.new W 77 #[.int .i64 k, .int .i64 lk.1, .int .i64 lk.2, .string (t.T k), .bool gk])
      have HXF := Lib.hid ((Below.refl W.heap.size W).alloc (Nat.le_refl _) (.cells #[.int .i64 k, .int .i64 lk.1, .int .i64 lk.2, .string (t.T k), .bool gk] 77))
      gi_wp2_with fail
      have HJa := Lib.hid (HJ.out.keep HGC.out HXF.out)
      generalize World.alloc W _ = Xa at *
      refine ⟨HJa.out.rc, ?_⟩
      have HJ1 := Lib.hid (HJa.out.turn (R' := busyL (RC .ready none)) HGC.out)
      have hnf : c + 4 < W.heap.size := by have := HJ.out.sz; omega
      generalize hX1 : Xa.putObj (c + 4) (.loop (busyL (RC .ready none))) = X1 at *
      have BF1 : Hid (Box X1 W.heap.size 77 #[.int .i64 k, .int .i64 lk.1, .int .i64 lk.2, .string (t.T k), .bool gk]) := by
        show Box _ _ _ _
        rw [← hX1]
        exact (World.putObj_heap_other (by omega)).trans BF.out
      clear hX1 HJa HJ HXF BF hnf
      generalize W.heap.size = nf at *
      have c4 : X1.cell? ⟨nf, 4, none⟩ = some (.bool gk) := BF1.out.cell 4 _ rfl
      have c4o : ∀ o : Obj, (X1.alloc o).cell? ⟨nf, 4, none⟩ = some (.bool gk) := fun o => (BF1.out.alloc o).cell 4 _ rfl
      obtain ⟨v, hv, hk⟩ := HJ1.out.row
      have hcv := hv.cell
      obtain ⟨i0, hi, hz0, hz1, hz2⟩ := info_parts infoBoo
      have hpl := HLT.out
      have hgl := goods_len t p k
      have hbz := HJ1.out.sz
      rw [← HM.out]
      gi_wp2_with (gi_at_builtin; refine wpListIn_append_own _ rfl _ _ 47 rfl (c + 5) 4 i0 (.bool false) 1 1 Tryd.underlying47 hi hz0 hz1 hz2 rfl (by decide) _ _ _ rfl (World.ownsRow.alloc hk _) ⟨X1.heap.size, 0, none⟩ 1 1 [.bool gk] rfl rfl (cell_one_new _ _ _) (by simp [Value.oneCell']) (by unfold maxLen; omega) (by omega) (by rw [size_alloc]; omega) ?_; intro v' w1 hown' hgrow _; obtain ⟨g', cap', rfl⟩ := ownsRow_succ hown'; obtain ⟨hv1, hJ2⟩ := HJ1.out.push HGC.out hv hk (by unfold Bs; rw [HGS.out, List.map_append, List.length_append]; exact hown') hgrow; rw [hgl] at hJ2; have hc1 := hv1.cell; have hf1 := hv1.frozen)
      refine ⟨hJ2.rc, rfl, ?_⟩
      have h := hJ2.turn (R' := readyL (RC .ready none)) HGC.out
      rw [show readyL (RC .ready none) = RC .ready none from by rw [HRC.out]; rfl] at h ⊢
      exact h
    case post =>
      rintro e W5 ⟨⟨v, rfl⟩, hJ | ⟨k, hk, hX⟩⟩
      · refine ⟨⟨_, rfl⟩, .ready, none, by simp, hJ.rc, ?_⟩
        have hJe := hJ.turn (R' := RC .exhausted none) HGC.out
        dsimp only [leaveL]
        generalize W5.putObj (c + 4) (.loop (RC .exhausted none)) = W6 at *
        have HJ6 := Lib.hid hJe
        obtain ⟨v, hv, hk⟩ := hJe.row
        have hcv := hv.cell
        have HKK := Lib.hid hk
        clear hJ hJe hv hk
        gi_wp2
        have hd6 := (HJ6.out.low (c + 3) (by omega) (by omega) (by omega)).trans HD0.out
        have e := fun j (hj : j ≠ c + 3) => World.putObj_heap_other (w := W6) (r := c + 3) (o := .deferred none) hj
        refine ⟨by simp, .inl ⟨_, _, rfl, run_takeDeferred hd6, ?_⟩⟩
        refine ⟨_, results_tmp rfl _ _ _, ?_⟩
        refine ⟨_, rfl, ?_, ?_⟩
        · rw [HQ.out, ← HG.out]
          exact Bs.low (b := g) (ownsRow_of HKK.out fun i hi _ => e i (by have := HKK.out.own_block i hi; omega)) (by have := HGC.out; omega)
        · rw [← HG.out]
          exact HJ6.out.bel.grown (grownBy_putObj' W6 _ _) (by have := HJ6.out.sz; have := HGC.out; omega) (fun k e => by cases e; have := HGC.out; omega)
      · exact hX.elim
end Go.Proofs.YtonkmffipjdhkaaDoor

namespace Go.Proofs.YtonkmffipjdhkaaDoor
open Go Go.RowKit

theorem bread_any (x a : Option Addr) (cap : Nat) (p : PtrD) (t : Told) (w : World) (hl : p.locs.length ≤ 1000) (hs : SlP w a p.locs) (hK : Kt w) (hT : ∀ k, (t.T k).size ≤ 140737488355328) (hR : Rd x p t w) :
    Calls Tryd.prog 14 #[.pointer x, ptrV a cap p] w fun e w' => e = .returned (.tuple #[.string (readR t p).1, .int .i64 ((readR t p).2.1 : Nat), .int .i64 (readR t p).2.2]) ∧ Below w.heap.size w w' :=
  callsIn_wide.1 (bread_in x a cap p t w hl hs hK hT hR)
theorem bgood_any (x a : Option Addr) (cap : Nat) (p : PtrD) (t : Told) (w : World) (hl : p.locs.length ≤ 1000) (hs : SlP w a p.locs) (hK : Kt w) (hT : ∀ k, (t.T k).size ≤ 140737488355328) (hR : Rd x p t w) :
    Calls Tryd.prog 19 #[.pointer x, ptrV a cap p] w fun e w' => ∃ v, e = .returned v ∧ Bs w' w.heap.size v (goodR t p) ∧ Below w.heap.size w w' :=
  callsIn_wide.1 (bgood_in x a cap p t w hl hs hK hT hR)

/-- What devices tell of p's places. -/
def toldD (d : DevD) (p : PtrD) : Told := ⟨fun k => tellD d (p.locs.getD k (0, 0)), fun k => chkD d (p.locs.getD k (0, 0)) 0⟩
def toldN : Told := ⟨fun _ => ⟨#[]⟩, fun _ => 1⟩
theorem getD_at {l : List (Int × Int)} {k : Nat} (h : k < l.length) : l.getD k (0, 0) = l[k] := by simp [List.getD, List.getElem?_eq_getElem h]
theorem one_rd {B : Nat} {P : List Nat → World → Prop} (hP : Fixed P) {b : Nat} {d : DevD} {w : World} (h : One B P b d w) (p : PtrD) : Rd (some ⟨b, 0, none⟩) p (toldD d p) w := fun W hW k hk => by
  refine (one_readS hP (h.keep hP hW) p.locs[k]).mono ?_
  rintro e W' ⟨rfl, _, hb⟩
  refine ⟨?_, hb⟩
  show _ = Ending.returned (.tuple #[.string (tellD d (p.locs.getD k (0, 0))), .int .i64 (chkD d (p.locs.getD k (0, 0)) 0)])
  rw [getD_at hk]
theorem nil_rd (p : PtrD) (w : World) : Rd none p toldN w := fun W _ _ _ => dread_nil _ W

/-- Objects of the call's own. -/
def ObjP (L : List (Nat × Obj)) (G : List Nat) (W : World) : Prop := G = L.map Prod.fst ∧ ∀ x ∈ L, W.heap[x.1]? = some x.2
theorem fixed_obj (L : List (Nat × Obj)) : Fixed (ObjP L) := by
  refine ⟨?_, ?_⟩
  · rintro G S w1 w2 ⟨rfl, h⟩ hc hn
    exact ⟨rfl, fun x hx => (hc.block x.1 (Array.getElem?_eq_some_iff.1 (h x hx)).1 (hn _ (List.mem_map_of_mem hx))).trans (h x hx)⟩
  · rintro G w ⟨rfl, h⟩ k hk
    obtain ⟨x, hx, rfl⟩ := List.mem_map.1 hk
    exact (Array.getElem?_eq_some_iff.1 (h x hx)).1
theorem One.obj {B : Nat} {P : List Nat → World → Prop} {b : Nat} {d : DevD} {w : World} {L : List (Nat × Obj)} (h : One B (Both P (ObjP L)) b d w) (x : Nat × Obj) (hx : x ∈ L) : w.heap[x.1]? = some x.2 := by
  obtain ⟨_, _, _, _, ⟨_, _, _, _, hl, _⟩, _⟩ := h
  exact hl.2 x hx
/-- One of the own objects is changed. -/
theorem One.touch {B : Nat} {P : List Nat → World → Prop} {b : Nat} {d : DevD} {w w' : World} {L L' : List (Nat × Obj)} (hP : Fixed P) (h : One B (Both P (ObjP L)) b d w) (g : Nat) (hg : g ∈ L.map Prod.fst) (hc : Chg [g] w w') (hk : L'.map Prod.fst = L.map Prod.fst) (ho : ∀ x ∈ L', w'.heap[x.1]? = some x.2) : One B (Both P (ObjP L')) b d w' := by
  obtain ⟨hz, F, G, h1, ⟨G1, G2, rfl, h2, ⟨rfl, h3⟩, h4⟩, h5, h6⟩ := h
  refine ⟨Nat.le_trans hz hc.size, F, _, (fixed_dev b d).keep _ _ _ _ h1 hc (fun k hk hm => ?_), ⟨G1, _, rfl, hP.keep _ _ _ _ h2 hc (fun k hk hm => ?_), ⟨hk.symm, ho⟩, h4⟩, h5, h6⟩
  · rw [List.mem_singleton] at hm
    subst hm
    exact (h5 _ hk).2 (List.mem_append_right _ hg)
  · rw [List.mem_singleton] at hm
    subst hm
    exact h4 _ hk hg

/-- Is the copy there good? -/
def gdD (d : DevD) (p : PtrD) (l : Int × Int) : Bool := chkD d l 0 == 0 && isT p (tellD d l)
theorem good_told (d : DevD) (p : PtrD) (k : Nat) : (toldD d p).good p k = gdD d p (p.locs.getD k (0, 0)) := rfl
/-- Mend's devices, and its count, behind k copies. -/
def mdK (p : PtrD) (s : ByteArray) (d : DevD) : Nat → DevD × Nat
  | 0 => (d, 0)
  | k + 1 => if gdD (mdK p s d k).1 p (p.locs.getD k (0, 0)) then mdK p s d k else (writeD (mdK p s d k).1 (p.locs.getD k (0, 0)) s, (mdK p s d k).2 + if chkD (mdK p s d k).1 (p.locs.getD k (0, 0)) s.size = 0 then 1 else 0)
def mdT (p : PtrD) (s : ByteArray) (d : DevD) : Told := ⟨fun k => tellD (mdK p s d k).1 (p.locs.getD k (0, 0)), fun k => chkD (mdK p s d k).1 (p.locs.getD k (0, 0)) 0⟩
theorem mdT_good (p : PtrD) (s : ByteArray) (d : DevD) (k : Nat) : (mdT p s d).good p k = gdD (mdK p s d k).1 p (p.locs.getD k (0, 0)) := rfl
theorem mdK_len (p : PtrD) (s : ByteArray) (d : DevD) : ∀ k, (mdK p s d k).1.waits.length ≤ d.waits.length + k ∧ (mdK p s d k).2 ≤ k
  | 0 => ⟨Nat.le_refl _, Nat.le_refl _⟩
  | k + 1 => by
    obtain ⟨h1, h2⟩ := mdK_len p s d k
    unfold mdK
    split
    · omega
    · have h3 : (writeD (mdK p s d k).1 (p.locs.getD k (0, 0)) s).waits.length ≤ (mdK p s d k).1.waits.length + 1 := by
        unfold writeD
        split <;> simp
      simp only
      refine ⟨by omega, ?_⟩
      split <;> omega
theorem mdK_good {p : PtrD} {s : ByteArray} {d : DevD} {k : Nat} (h : gdD (mdK p s d k).1 p (p.locs.getD k (0, 0)) = true) : mdK p s d (k + 1) = mdK p s d k := by
  show (if _ then _ else _) = _
  rw [if_pos h]
theorem mdK_bad {p : PtrD} {s : ByteArray} {d : DevD} {k : Nat} (h : gdD (mdK p s d k).1 p (p.locs.getD k (0, 0)) = false) : mdK p s d (k + 1) = (writeD (mdK p s d k).1 (p.locs.getD k (0, 0)) s, (mdK p s d k).2 + if chkD (mdK p s d k).1 (p.locs.getD k (0, 0)) s.size = 0 then 1 else 0) := by
  show (if _ then _ else _) = _
  rw [if_neg (by rw [h]; simp)]
end Go.Proofs.YtonkmffipjdhkaaDoor
