/-
  Texts put together: TcN, TcO, TcP.
-/
import Derived.Test.YtbeldjijnjgbfaaMg28
namespace Go.Proofs.Ytbeldjijnjgbfaa
open Go Go.RowKit Go.ChangeShapes Go.WideShapes Go.ChangeAt

def swF : List Ent → Nat → NodeD → ByteArray → NodeD
  | [], _, n, _ => n
  | p :: r, 0, n, key => swF r 1 (withD n key p.2) key
  | p :: r, j + 1, n, _ => swF r (j + 2) (withD n p.1 p.2) p.1
theorem swF_fold : ∀ (r : List Ent) (j : Nat) (n : NodeD) (key : ByteArray), swF r (j + 1) n key = r.foldl (fun m x => withD m x.1 x.2) n
  | [], _, _, _ => rfl
  | p :: r, j, n, key => by rw [swF, List.foldl_cons]; exact swF_fold r (j + 1) _ _
theorem swap_swF (d : NodeD) (i : Nat) (l : List Ent) : swapN d i l = swF l 0 (withoutD d (d.keys.getD i noT)) (d.keys.getD i noT) := by
  unfold swapN
  cases l with
  | nil => rfl
  | cons p r => show _ = swF r 1 _ _; rw [swF_fold]
def stV (x : NdV) (i : Nat) : Value := .agg #[.bool x.leaf, .slice x.ka x.kn x.kc, .slice x.va x.vn x.vc, .int .i64 (i : Int)]
set_option maxRecDepth 100000 in
set_option maxHeartbeats 8000000 in
theorem swapped_any (Z Z2 : Nat → Prop) (x : NdV) (d : NodeD) (i : Nat) (lv : Value) (l : List Ent) (w : World) (hx : NdZ Z w x d) (hd : GdN 240 d) (hi : i < d.keys.length) (hl : PrZ Z2 w lv l) (hll : l.length ≤ 2) (hls : ∀ p ∈ l, p.1.size ≤ 65535 ∧ p.2.size ≤ 65535) :
    Calls Try.prog 49 #[stV x i, lv] w (NodeTo (swapN d i l) w) := by
  have HX := Lib.hid hx
  have HD := Lib.hid hd
  have HS : Hid (SmN 255 d) := hd.sm (by decide)
  have HLS := Lib.hid hls
  have HL := Lib.hid (hl.mono (Z' := (· < w.heap.size)) (fun k hk _ => hk))
  obtain ⟨R, hR⟩ : ∃ R, R = swapN d i l := ⟨_, rfl⟩
  obtain ⟨PS, hPS⟩ : ∃ PS, PS = NodeTo R w := ⟨_, rfl⟩
  rw [← hR, ← hPS]
  have HPS := Lib.hid hPS
  have hgd : d.keys.getD i noT = d.keys[i] := by simp [List.getD, hi]
  have HR0 := hR.trans (swap_swF d i l)
  rw [hgd] at HR0
  have HKS : Hid (d.keys[i].size ≤ 65535) := HS.out.sz _ (List.mem_append_left _ (List.getElem_mem hi))
  have hli : i < x.kn := by rw [hx.kn]; exact hi
  have hi9 : i ≤ 1000 := by have := HS.out.kl; omega
  obtain ⟨wi, h0i, _⟩ := idx_facts hi9
  have h1i : (i : Int) < (x.kn : Int) := by omega
  obtain ⟨ka, kc, hke, hks⟩ := ks_form2 hx.kr
  unfold NdV.k at hke
  injection hke with hka x1 x2
  clear x1 x2
  rw [← hka] at hks
  obtain ⟨gk, ok, hkx, hgl, hkc⟩ := hks.get i hi
  have hcc : ∀ W, Below w.heap.size w W → W.cell? ⟨gk, ok + i, none⟩ = some (.string d.keys[i]) := fun W hb => (hb.cell (p := ⟨gk, ok + i, none⟩) hgl).trans hkc
  obtain ⟨key, hkey⟩ : ∃ key, key = d.keys[i] := ⟨_, rfl⟩
  rw [← hkey] at HR0 HKS hcc
  have HR := Lib.hid HR0
  have HCC := Lib.hid hcc
  have hagg : Value.agg #[.bool x.leaf, .slice x.ka x.kn x.kc, .slice x.va x.vn x.vc] = nodeV x.ka x.kc x.va x.vc d := hx.agg
  obtain ⟨w1, hw1⟩ : ∃ w1, w1 = (w.alloc (.cells #[.bool x.leaf, .slice x.ka x.kn x.kc, .slice x.va x.vn x.vc, .int .i64 (i : Int)] 91 (0, 0))).alloc (.cells #[.bool false, .slice none 0 0, .slice none 0 0] 51 (0, 0)) := ⟨_, rfl⟩
  have BS : Hid (Box w1 w.heap.size 91 #[.bool x.leaf, .slice x.ka x.kn x.kc, .slice x.va x.vn x.vc, .int .i64 (i : Int)]) := by show Box _ _ _ _; rw [hw1]; exact (Box.new _ _ _).alloc _
  have BR : Hid (Box w1 (w.heap.size + 1) 51 #[.bool false, .slice none 0 0, .slice none 0 0]) := by show Box _ _ _ _; rw [hw1]; exact box_second _ _ _ _
  have BW : Hid (Below w.heap.size w w1) := by show Below _ _ _; rw [hw1]; exact ((Below.refl _ _).alloc (Nat.le_refl _) _).alloc (by rw [size_alloc]; omega) _
  obtain ⟨la, lc, rfl⟩ := hl.form
  have hw2 := hw1.symm
  have k0 : w1.cell? ⟨w.heap.size, 0, none⟩ = some (.bool x.leaf) := BS.out.cell 0 _ rfl
  have k1 : w1.cell? ⟨w.heap.size, 1, none⟩ = some (.slice (some ⟨gk, ok, none⟩) x.kn x.kc) := by rw [← hkx]; exact BS.out.cell 1 _ rfl
  have k2 : w1.cell? ⟨w.heap.size, 2, none⟩ = some (.slice x.va x.vn x.vc) := BS.out.cell 2 _ rfl
  have k3 : w1.cell? ⟨w.heap.size, 3, none⟩ = some (.int .i64 (i : Int)) := BS.out.cell 3 _ rfl
  have k4 := HCC.out w1 BW.out
  rw [hkx] at hw2 hagg
  have HAG := Lib.hid hagg
  unfold stV
  rw [hkx]
  have HKX := Lib.hid hkx
  clear hx hd hi hl hls hR hPS hgd hgl hkc hcc hkey hw1 hagg hkx hka hks hi9 hli HR0
  go_enter Try.func49, Try.ntmps49
  go_wp2_with fail
  rw [HAG.out]
  have hni : NodeIn w1 x.ka x.va d := (HX.out.keep BW.out).nodeIn (by have := HS.out.kl; omega) (by have := HS.out.vl; omega)
  rw [HKX.out] at hni
  refine (without_any (some ⟨gk, ok, none⟩) x.kc x.va x.vc d key _ hni HS.out.max).mono ?_
  clear hni
  rintro e w3 ⟨nv, rfl, hn, hb⟩
  obtain ⟨y0, rfl, hy⟩ := hn.ndz
  unfold NdV.val
  obtain ⟨m, hm⟩ : ∃ m, m = w3.heap.size := ⟨_, rfl⟩
  obtain ⟨w4, hw4⟩ : ∃ w4, w4 = w3.alloc (.cells #[.bool y0.leaf, .slice y0.ka y0.kn y0.kc, .slice y0.va y0.vn y0.vc] 51 (0, 0)) := ⟨_, rfl⟩
  have BM : Hid (Box w4 m 51 #[.bool y0.leaf, .slice y0.ka y0.kn y0.kc, .slice y0.va y0.vn y0.vc]) := by show Box _ _ _ _; rw [hw4, hm]; exact Box.new _ _ _
  have hb4 : Below w3.heap.size w3 w4 := by rw [hw4]; exact (Below.refl _ _).alloc (Nat.le_refl _) _
  have BR4 := Lib.hid ((BR.out.keep hb BR.out.lt).keep hb4 (Nat.lt_of_lt_of_le BR.out.lt hb.size))
  have BW4 := Lib.hid ((BW.out.trans (hb.mono BW.out.size)).trans (hb4.mono (Nat.le_trans BW.out.size hb.size)))
  have HY4 := Lib.hid ((hy.mono (Z' := fun k => w1.heap.size ≤ k ∧ k ≠ m) (fun k hk hz => ⟨hz, by omega⟩)).keep hb4)
  have HL4 := Lib.hid (HL.out.keep BW4.out)
  have HM : Hid (w1.heap.size ≤ m ∧ w.heap.size + 1 < w1.heap.size) := ⟨by rw [hm]; exact hb.size, BR.out.lt⟩
  have HG0 : Hid (GdN (240 + 0) (withoutD d key)) := HD.out.without (by decide)
  have hw5 := hw4.symm
  have hm5 := hm.symm
  clear hn hy hm hw4 hb4 hb BS BR BW HL hw2 k0 k1 k2 k3 k4 HX HD HKX HAG h0i h1i wi
  go_wp2_with fail
  go_loopw [5, 22] (fun kv jv wr => ∃ (j : Nat) (n : NodeD) (ky : ByteArray) (y : NdV), j ≤ l.length ∧ jv = .int .i64 j ∧ kv = .string ky ∧ Hid (ky.size ≤ 65535) ∧ Hid (R = swF (l.drop j) j n ky) ∧ Hid (GdN (240 + j) n) ∧ Hid (Box wr m 51 #[.bool y.leaf, .slice y.ka y.kn y.kc, .slice y.va y.vn y.vc]) ∧ Hid (NdZ (fun k => w1.heap.size ≤ k ∧ k ≠ m) wr y n) ∧ Hid (Box wr (w.heap.size + 1) 51 #[.bool false, .slice none 0 0, .slice none 0 0]) ∧ Hid (PrZ (· < w.heap.size) wr (.slice la l.length lc) l) ∧ Hid (Below w.heap.size w wr)) (fun _ jv _ => l.length - (RowKit.intOf jv).toNat)
  case atStart => exact ⟨0, _, key, y0, Nat.zero_le _, rfl, rfl, HKS, HR, HG0, BM, HY4, BR4, HL4, BW4⟩
  case round =>
    clear HR HG0 BM HY4 BR4 HL4 BW4 hw5 hm5
    obtain ⟨j, n, ky, y, hj, rfl, rfl, HKY, HR, HG, BM, HY, BR, HL, BW⟩ := hrel
    by_cases hlt : j < l.length
    · obtain ⟨g, rfl, c0, c1⟩ := HL.out.at j hlt
      have hls := HLS.out l[j] (List.getElem_mem hlt)
      have HRJ : R = swF (l[j] :: l.drop (j + 1)) j n ky := by rw [HR.out, List.drop_eq_getElem_cons hlt]
      obtain ⟨⟨pk, pv⟩, hp⟩ : ∃ p, p = l[j] := ⟨_, rfl⟩
      rw [← hp] at HRJ c0 c1 hls
      obtain ⟨nk, hnk⟩ : ∃ nk, nk = if 0 < j then pk else ky := ⟨_, rfl⟩
      have HRN : Hid (R = swF (l.drop (j + 1)) (j + 1) (withD n nk pv) nk) := by
        show _ = _
        rw [HRJ, hnk]
        cases j with
        | zero => rfl
        | succ j => rfl
      have HNK : Hid (nk.size ≤ 65535) := by
        show _ ≤ _
        rw [hnk]
        split
        · exact hls.1
        · exact HKY.out
      have HPV : Hid (pv.size ≤ 65535) := hls.2
      have h0j : (0 : Int) ≤ (j : Int) := by omega
      have h1j : (j : Int) < (l.length : Int) := by omega
      have wj : wrap64 (j : Int) = (j : Int) := IntWalk.wrap64_in _ (by omega)
      obtain ⟨W1, hW1⟩ : ∃ W1, W1 = wr.alloc (.cells #[.string pk, .string pv] 56 (0, 0)) := ⟨_, rfl⟩
      have BP : Hid (Box W1 wr.heap.size 56 #[.string pk, .string pv]) := by show Box _ _ _ _; rw [hW1]; exact Box.new _ _ _
      have hb : Below wr.heap.size wr W1 := by rw [hW1]; exact (Below.refl _ _).alloc (Nat.le_refl _) _
      have BM1 := Lib.hid (BM.out.keep hb BM.out.lt)
      have HY1 := Lib.hid (HY.out.keep hb)
      have BR1 := Lib.hid (BR.out.keep hb BR.out.lt)
      have HL1 := Lib.hid (HL.out.keep hb)
      have BW1 := Lib.hid (BW.out.trans (hb.mono BW.out.size))
      have hW2 := hW1.symm
      have p0 : W1.cell? ⟨wr.heap.size, 0, none⟩ = some (.string pk) := BP.out.cell 0 _ rfl
      have p1 : W1.cell? ⟨wr.heap.size, 1, none⟩ = some (.string pv) := BP.out.cell 1 _ rfl
      have m0 : W1.cell? ⟨m, 0, none⟩ = some (.bool y.leaf) := BM1.out.cell 0 _ rfl
      have m1 : W1.cell? ⟨m, 1, none⟩ = some (.slice y.ka y.kn y.kc) := BM1.out.cell 1 _ rfl
      have m2 : W1.cell? ⟨m, 2, none⟩ = some (.slice y.va y.vn y.vc) := BM1.out.cell 2 _ rfl
      have HAG : Hid (Value.agg #[.bool y.leaf, .slice y.ka y.kn y.kc, .slice y.va y.vn y.vc] = nodeV y.ka y.kc y.va y.vc n) := HY.out.agg
      have HSN : Hid (SmN 255 n) := HG.out.sm (by omega)
      clear hls HRJ hp hW1 hb HR BM HY BR HL BW BP
      by_cases hj0 : 0 < j
      · have hj1 : (0 : Int) < (j : Int) := by omega
        rw [if_pos hj0] at hnk
        subst hnk
        clear hj0
        go_wp2_with fail
        rw [HAG.out]
        refine (with_any y.ka y.kc y.va y.vc n nk pv _ (HY1.out.nodeIn (by have := HSN.out.kl; omega) (by have := HSN.out.vl; omega)) HSN.out.max (by unfold maxLen; have := HNK.out; omega) (by unfold maxLen; have := HPV.out; omega)).mono ?_
        rintro e W3 ⟨nv, rfl, hn, hb⟩
        obtain ⟨z, rfl, hz⟩ := hn.ndz
        unfold NdV.val
        have BM3 := Lib.hid (BM1.out.keep hb BM1.out.lt)
        have BR3 := Lib.hid (BR1.out.keep hb BR1.out.lt)
        have HL3 := Lib.hid (HL1.out.keep hb)
        have BW3 := Lib.hid (BW1.out.trans (hb.mono BW1.out.size))
        have HZ3 := Lib.hid (hz.mono (Z' := fun k => w1.heap.size ≤ k ∧ k ≠ m) (fun k _ hk => by have := BM1.out.lt; have := HM.out; have hk2 : W1.heap.size ≤ k := hk; exact ⟨by omega, by omega⟩))
        clear hb hn hz m0 m1 m2 p0 p1 hW2 BM1 BR1 HL1 BW1 HY1
        have m0 := BM3.out.cell 0 _ rfl
        have m1 := BM3.out.cell 1 _ rfl
        have m2 := BM3.out.cell 2 _ rfl
        have f0 := BM3.out.free 0
        have f1 := BM3.out.free 1
        have f2 := BM3.out.free 2
        have hC := chg_set3 W3 m (.bool z.leaf) (.slice z.ka z.kn z.kc) (.slice z.va z.vn z.vc)
        have BM4 := Lib.hid (box_set3 BM3.out (.bool z.leaf) (.slice z.ka z.kn z.kc) (.slice z.va z.vn z.vc))
        have BR4 := Lib.hid (box_other3 (c := m) BR3.out (by have := HM.out; omega) (.bool z.leaf) (.slice z.ka z.kn z.kc) (.slice z.va z.vn z.vc))
        have HL4 : Hid (PrZ (· < w.heap.size) _ (.slice (some ⟨g, 0, none⟩) l.length lc) l) := ⟨HL3.out.row.chg hC (fun k hk hm => by have := HL3.out.bz k hk; have := HM.out; simp at hm; omega), HL3.out.bz⟩
        have HZ4 := Lib.hid (HZ3.out.chg hC (fun k hk hm => by simp at hm; exact hk.2 hm))
        have BW4 := Lib.hid (BW3.out.trans (hC.below BW3.out.size (fun k hk => by simp at hk; have := HM.out; omega)))
        have HG4 : Hid (GdN (240 + (j + 1)) (withD n nk pv)) := HG.out.with (by omega)
        clear hC BM3 BR3 HL3 BW3 HZ3 HG
        go_wp2
        go_roundw
        case rel => exact ⟨j + 1, _, nk, z, by omega, by go_num, rfl, HNK, HRN, HG4, BM4, HZ4, BR4, HL4, BW4⟩
        case measure => simp [RowKit.intOf]; omega
      · have hj1 : (j : Int) ≤ 0 := by omega
        rw [if_neg hj0] at hnk
        subst hnk
        clear hj0
        go_wp2_with fail
        rw [HAG.out]
        refine (with_any y.ka y.kc y.va y.vc n nk pv _ (HY1.out.nodeIn (by have := HSN.out.kl; omega) (by have := HSN.out.vl; omega)) HSN.out.max (by unfold maxLen; have := HNK.out; omega) (by unfold maxLen; have := HPV.out; omega)).mono ?_
        rintro e W3 ⟨nv, rfl, hn, hb⟩
        obtain ⟨z, rfl, hz⟩ := hn.ndz
        unfold NdV.val
        have BM3 := Lib.hid (BM1.out.keep hb BM1.out.lt)
        have BR3 := Lib.hid (BR1.out.keep hb BR1.out.lt)
        have HL3 := Lib.hid (HL1.out.keep hb)
        have BW3 := Lib.hid (BW1.out.trans (hb.mono BW1.out.size))
        have HZ3 := Lib.hid (hz.mono (Z' := fun k => w1.heap.size ≤ k ∧ k ≠ m) (fun k _ hk => by have := BM1.out.lt; have := HM.out; have hk2 : W1.heap.size ≤ k := hk; exact ⟨by omega, by omega⟩))
        clear hb hn hz m0 m1 m2 p0 p1 hW2 BM1 BR1 HL1 BW1 HY1
        have m0 := BM3.out.cell 0 _ rfl
        have m1 := BM3.out.cell 1 _ rfl
        have m2 := BM3.out.cell 2 _ rfl
        have f0 := BM3.out.free 0
        have f1 := BM3.out.free 1
        have f2 := BM3.out.free 2
        have hC := chg_set3 W3 m (.bool z.leaf) (.slice z.ka z.kn z.kc) (.slice z.va z.vn z.vc)
        have BM4 := Lib.hid (box_set3 BM3.out (.bool z.leaf) (.slice z.ka z.kn z.kc) (.slice z.va z.vn z.vc))
        have BR4 := Lib.hid (box_other3 (c := m) BR3.out (by have := HM.out; omega) (.bool z.leaf) (.slice z.ka z.kn z.kc) (.slice z.va z.vn z.vc))
        have HL4 : Hid (PrZ (· < w.heap.size) _ (.slice (some ⟨g, 0, none⟩) l.length lc) l) := ⟨HL3.out.row.chg hC (fun k hk hm => by have := HL3.out.bz k hk; have := HM.out; simp at hm; omega), HL3.out.bz⟩
        have HZ4 := Lib.hid (HZ3.out.chg hC (fun k hk hm => by simp at hm; exact hk.2 hm))
        have BW4 := Lib.hid (BW3.out.trans (hC.below BW3.out.size (fun k hk => by simp at hk; have := HM.out; omega)))
        have HG4 : Hid (GdN (240 + (j + 1)) (withD n nk pv)) := HG.out.with (by omega)
        clear hC BM3 BR3 HL3 BW3 HZ3 HG
        go_wp2
        go_roundw
        case rel => exact ⟨j + 1, _, nk, z, by omega, by go_num, rfl, HNK, HRN, HG4, BM4, HZ4, BR4, HL4, BW4⟩
        case measure => simp [RowKit.intOf]; omega
    · have hjl : j = l.length := by omega
      have HRE : Hid (R = n) := by show _ = _; rw [HR.out, List.drop_of_length_le (by omega)]; rfl
      have m0 : wr.cell? ⟨m, 0, none⟩ = some (.bool y.leaf) := BM.out.cell 0 _ rfl
      have m1 : wr.cell? ⟨m, 1, none⟩ = some (.slice y.ka y.kn y.kc) := BM.out.cell 1 _ rfl
      have m2 : wr.cell? ⟨m, 2, none⟩ = some (.slice y.va y.vn y.vc) := BM.out.cell 2 _ rfl
      have r0 := BR.out.cell 0 _ rfl
      have r1 := BR.out.cell 1 _ rfl
      have r2 := BR.out.cell 2 _ rfl
      have f0 := BR.out.free 0
      have f1 := BR.out.free 1
      have f2 := BR.out.free 2
      have hno : NodeOwn wr w.heap.size y.val n := (HY.out.mono (Z' := (w.heap.size ≤ ·)) (fun k _ hk => by have := HM.out; omega)).own
      have HE := Lib.hid (node_end (w0 := w) BR.out (by omega) BW.out hno (fun e => by have := (HY.out.kz _ e).1; have := HM.out; omega) (fun e => by have := (HY.out.vz _ e).1; have := HM.out; omega))
      clear hno
      subst hjl
      go_wp2
      refine bodyPost_ret (results_cell_row rfl _ _ (w.heap.size + 1) 51 _ (0, 0) _ rfl HE.out.1 Try.underlying51 rfl sizeNode) rfl ?_
      rw [HPS.out, HRE.out]
      exact ⟨_, rfl, HE.out.2.1, HE.out.2.2⟩
end Go.Proofs.Ytbeldjijnjgbfaa

namespace Go.Proofs.Ytbeldjijnjgbfaa
open Go Go.RowKit Go.ChangeShapes Go.WideShapes Go.ChangeAt

theorem top_nil (S : StD) (h : Nat) : topN S [] h = ((noT, 0), S) := rfl
theorem top_one (S : StD) (p : Ent) (h : Nat) : topN S [p] h = ((p.2, 0), S) := rfl
theorem top_far (S : StD) (p x : Ent) : topN S [p, x] 20 = ((noT, 3), S) := by unfold topN; exact if_pos rfl
theorem top_two (S : StD) (p x : Ent) (h : Nat) (hh : ¬ h = 20) : topN S [p, x] h = putN S ⟨false, [leastT, x.1], [p.2, x.2]⟩ := by unfold topN; exact if_neg hh
theorem two_row (w : World) (a b : ByteArray) : Sl (w.alloc (.cells #[.string a, .string b] 9 (0, 0))) Value.string (some ⟨w.heap.size, 0, none⟩) [a, b] := by
  intro _
  refine ⟨w.heap.size, 0, rfl, by rw [size_alloc]; omega, fun i x hx => ?_⟩
  have hb := Box.new w 9 #[.string a, .string b]
  match i, hx with
  | 0, hx => simp at hx; subst hx; exact hb.cell 0 _ rfl
  | 1, hx => simp at hx; subst hx; exact hb.cell 1 _ rfl
  | i + 2, hx => simp at hx
set_option maxRecDepth 100000 in
set_option maxHeartbeats 8000000 in
theorem top_any (kb : Nat) (F : List Nat) (S : StD) (lv : Value) (l : List Ent) (h : Nat) (w : World) (hK : KpF kb S F w) (hl : PrZ (· ∉ F) w lv l) (hll : l.length ≤ 2) (hls : ∀ p ∈ l, p.1.size ≤ 65535 ∧ p.2.size ≤ 65535) (hh : h ≤ 1000) :
    Calls Try.prog 48 #[kpV kb, lv, .int .i64 h] w fun e w' => e = .returned (.tuple #[.string (topN S l h).1.1, .int .i64 (topN S l h).1.2]) ∧ Tod (KpF kb (topN S l h).2) F w w' := by
  obtain ⟨la, lc, rfl⟩ := hl.form
  have HF := Lib.hid hK
  match l, hl, hll, hls with
  | [], _, _, _ =>
    rw [top_nil]
    clear hl hK hh
    go_enter Try.func48, Try.ntmps48
    go_wp2
    go_ret2
    exact ⟨rfl, Tod.same (fixed_kp kb S) HF.out (Below.refl _ _)⟩
  | [p], hl, _, _ =>
    rw [top_one]
    obtain ⟨g, rfl, c0, c1⟩ := hl.at 0 (by simp)
    have c1 : w.cell? ⟨g, 1, none⟩ = some (.string p.2) := c1
    clear hl hK hh c0
    go_enter Try.func48, Try.ntmps48
    go_wp2
    go_ret2
    exact ⟨rfl, Tod.same (fixed_kp kb S) HF.out (Below.refl _ _)⟩
  | p :: q :: x :: r, _, hll, _ => exact absurd hll (by simp)
  | [p, x], hl, _, hls =>
    obtain ⟨g, rfl, c0, c1⟩ := hl.at 0 (by simp)
    obtain ⟨g2, e2, d0, d1⟩ := hl.at 1 (by simp)
    injection e2 with e2
    injection e2 with e2 _ _
    subst e2
    have c1 : w.cell? ⟨g, 1, none⟩ = some (.string p.2) := c1
    have d0 : w.cell? ⟨g, 2, none⟩ = some (.string x.1) := d0
    have d1 : w.cell? ⟨g, 3, none⟩ = some (.string x.2) := d1
    by_cases h20 : h = 20
    · subst h20
      rw [top_far]
      clear hl hK hh c0 hls
      go_enter Try.func48, Try.ntmps48
      go_wp2
      go_ret2
      exact ⟨rfl, Tod.same (fixed_kp kb S) HF.out (Below.refl _ _)⟩
    · rw [top_two S p x h h20]
      obtain ⟨D, hD⟩ : ∃ D : NodeD, D = ⟨false, [leastT, x.1], [p.2, x.2]⟩ := ⟨_, rfl⟩
      rw [← hD]
      have HZ : Hid (∀ s ∈ D.keys ++ D.vals, s.size ≤ maxLen) := by
        rw [hD]
        intro s hs
        have h1 := hls p (by simp)
        have h2 := hls x (by simp)
        have h3 : leastT.size = 1 := rfl
        simp at hs
        unfold maxLen
        rcases hs with rfl | rfl | rfl | rfl <;> omega
      have HP : Hid (∀ W ka va, Below w.heap.size w W → Sl W Value.string ka [leastT, x.1] → Sl W Value.string va [p.2, x.2] → Calls Try.prog 62 #[kpV kb, .agg #[.bool false, .slice ka 2 2, .slice va 2 2]] W fun e w' => e = .returned (.tuple #[.string (putN S D).1.1, .int .i64 (putN S D).1.2]) ∧ Tod (KpF kb (putN S D).2) F w w') := by
        intro W ka va hb h1 h2
        have h9 := tput_any kb F S ka 2 va 2 D W (HF.out.keep hb) ⟨by rw [hD]; exact h1, by rw [hD]; exact h2, by rw [hD]; show 2 ≤ _; decide, by rw [hD]; show 2 ≤ _; decide⟩ HZ.out
        rw [hD] at h9 ⊢
        exact h9.mono (fun e w' hh => ⟨hh.1, hh.2.pre hb⟩)
      have h1i : ((h : Int) == 20) = false := by rw [beq_eq_false_iff_ne]; omega
      have hgF : g ∉ F := hl.bz g rfl
      have HSB : Hid (∀ W, Below w.heap.size w W → W.cell? ⟨g, 1, none⟩ = some (.string p.2) ∧ W.cell? ⟨g, 2, none⟩ = some (.string x.1) ∧ W.cell? ⟨g, 3, none⟩ = some (.string x.2)) := fun W hb => ⟨(hb.cell (p := ⟨g, 1, none⟩) (lt_of_cell c1)).trans c1, (hb.cell (p := ⟨g, 2, none⟩) (lt_of_cell d0)).trans d0, (hb.cell (p := ⟨g, 3, none⟩) (lt_of_cell d1)).trans d1⟩
      have HST : Hid (∀ W, Chg F w W → W.cell? ⟨g, 1, none⟩ = some (.string p.2) ∧ W.cell? ⟨g, 2, none⟩ = some (.string x.1) ∧ W.cell? ⟨g, 3, none⟩ = some (.string x.2)) := fun W hc => by
        have hb := hc.block g (lt_of_cell c1) hgF
        exact ⟨(World.cell?_of_block (w := w) (a := ⟨g, 1, none⟩) hb).trans c1, (World.cell?_of_block (w := w) (a := ⟨g, 2, none⟩) hb).trans d0, (World.cell?_of_block (w := w) (a := ⟨g, 3, none⟩) hb).trans d1⟩
      have HB1 : Hid (∀ o, Below w.heap.size w (w.drew.alloc o)) := fun o => (Below.refl _ w).drew.alloc (Nat.le_refl _) o
      have HB2 : Hid (∀ o o', Below w.heap.size w ((w.alloc o).alloc o').drew) := fun o o' => (((Below.refl _ w).alloc (Nat.le_refl _) o).alloc (by rw [size_alloc]; exact Nat.le_succ _) o').drew
      clear hD hls hl hK c0 h20 HZ hgF
      go_enter Try.func48, Try.ntmps48
      go_wp2_with fail
      refine wp_region_tree (fun W => W.cell? ⟨g, 1, none⟩ = some (.string p.2) ∧ W.cell? ⟨g, 2, none⟩ = some (.string x.1) ∧ W.cell? ⟨g, 3, none⟩ = some (.string x.2)) 19 (.quiet 0 (.quiet 1 (.quiet 2 (.quiet 3 (.quiet 4 (.quiet 6 (.quiet 7 (.quiet 8 (.quiet 9 (.quiet 10 (.quiet 11 (.quiet 12 (.quiet 13 (.two 5 14 (.make 14 (.quiet 15 (.make 16 (.quiet 17 (.quiet 18 .nil))))) (.make 5 (.quiet 15 (.make 16 (.quiet 17 (.quiet 18 .nil))))))))))))))))))) (by kernel_rfl) (by kernel_rfl) ⟨c1, d0, d1⟩ ?_
      simp only [List.drop_succ_cons, List.drop_zero]
      iterate 13 (apply wpTr_step rfl; (intro W hS K hK; obtain ⟨r1, r2, r3⟩ := hS; go_simp; exact hK _ rfl))
      refine wpTr_two rfl rfl (fun K' hK => ?_) (fun K' hK => ?_)
      · go_simp
        refine hK _ _ _ (fun _ h => h) (HSB.out _ (HB1.out _)) ?_
        clear hK K'
        obtain ⟨s1, s2, s3⟩ := HSB.out _ (HB1.out (.cells #[Value.string leastT, .string x.1] 9 (0, 0)))
        refine wpTr_make rfl (fun K' hK => ?_)
        go_simp
        refine hK _ _ _ (fun _ h => h) (HSB.out _ (HB2.out _ _)) ?_
        clear hK K' s1 s2 s3
        apply wpTr_step rfl
        · intro W hS K hK
          go_simp
          exact hK _ rfl
        refine wpTr_make rfl (fun K' hK => ?_)
        go_simp
        have hA : Sl ((w.alloc (.cells #[Value.string leastT, .string x.1] 9 (0, 0))).alloc (.cells #[Value.string p.2, .string x.2] 9 (0, 0))).drew Value.string (some ⟨w.heap.size, 0, none⟩) [leastT, x.1] := (two_row w _ _).keep (Below.drew ((Below.refl _ _).alloc (Nat.le_refl _) _))
        have hB : Sl ((w.alloc (.cells #[Value.string leastT, .string x.1] 9 (0, 0))).alloc (.cells #[Value.string p.2, .string x.2] 9 (0, 0))).drew Value.string (some ⟨w.heap.size + 1, 0, none⟩) [p.2, x.2] := by rw [← size_alloc w (.cells #[Value.string leastT, .string x.1] 9 (0, 0))]; exact two_row (w.alloc _) _ _
        refine (HP.out _ _ _ (HB2.out _ _) hA hB).mono ?_
        clear hA hB
        rintro e w' ⟨rfl, ht⟩
        have HT := Lib.hid ht
        obtain ⟨F', _, hc, _⟩ := ht
        refine hK _ _ _ (fun _ h => h) (HST.out _ hc) ?_
        clear hK K' hc
        iterate 2 (apply wpTr_step rfl; (intro W hS K hK; go_simp; exact hK _ rfl))
        refine wpTr_nil ?_
        go_wp2
        go_ret2
        exact ⟨rfl, HT.out⟩
      · go_simp
        refine hK _ _ _ (fun _ h => h) (HSB.out _ (HB1.out _)) ?_
        clear hK K'
        obtain ⟨s1, s2, s3⟩ := HSB.out _ (HB1.out (.cells #[Value.string p.2, .string x.2] 9 (0, 0)))
        refine wpTr_make rfl (fun K' hK => ?_)
        go_simp
        refine hK _ _ _ (fun _ h => h) (HSB.out _ (HB2.out _ _)) ?_
        clear hK K' s1 s2 s3
        apply wpTr_step rfl
        · intro W hS K hK
          go_simp
          exact hK _ rfl
        refine wpTr_make rfl (fun K' hK => ?_)
        go_simp
        have hA : Sl ((w.alloc (.cells #[Value.string p.2, .string x.2] 9 (0, 0))).alloc (.cells #[Value.string leastT, .string x.1] 9 (0, 0))).drew Value.string (some ⟨w.heap.size, 0, none⟩) [p.2, x.2] := (two_row w _ _).keep (Below.drew ((Below.refl _ _).alloc (Nat.le_refl _) _))
        have hB : Sl ((w.alloc (.cells #[Value.string p.2, .string x.2] 9 (0, 0))).alloc (.cells #[Value.string leastT, .string x.1] 9 (0, 0))).drew Value.string (some ⟨w.heap.size + 1, 0, none⟩) [leastT, x.1] := by rw [← size_alloc w (.cells #[Value.string p.2, .string x.2] 9 (0, 0))]; exact two_row (w.alloc _) _ _
        refine (HP.out _ _ _ (HB2.out _ _) hB hA).mono ?_
        clear hA hB
        rintro e w' ⟨rfl, ht⟩
        have HT := Lib.hid ht
        obtain ⟨F', _, hc, _⟩ := ht
        refine hK _ _ _ (fun _ h => h) (HST.out _ hc) ?_
        clear hK K' hc
        iterate 2 (apply wpTr_step rfl; (intro W hS K hK; go_simp; exact hK _ rfl))
        refine wpTr_nil ?_
        go_wp2
        go_ret2
        exact ⟨rfl, HT.out⟩
end Go.Proofs.Ytbeldjijnjgbfaa

namespace Go.Proofs.Ytbeldjijnjgbfaa
open Go Go.RowKit Go.ChangeShapes Go.WideShapes Go.ChangeAt

theorem putn_ref {S : StD} {d : NodeD} (h : (putN S d).1.2 = 0) : (putN S d).1.1.size ≤ 120 := by
  by_cases h1 : chkN d = 0
  · by_cases h2 : (putS S (encD d)).1.2 = 0
    · by_cases h3 : (putS S (encD d)).1.1.size = 0 ∨ 120 < (putS S (encD d)).1.1.size
      · rw [putn_arg h1 h2 h3] at h; cases h
      · rw [putn_ok h1 h2 h3]; omega
    · rw [putn_err h1 h2] at h; exact absurd h h2
  · rw [putn_bad h1] at h; exact absurd h h1
theorem keepl_sm : ∀ (L : List NodeD) (S : StD) (acc : List Ent), (∀ p ∈ L, SmN 1000 p) → (∀ p ∈ acc, p.1.size ≤ 65535 ∧ p.2.size ≤ 65535) → (∀ p ∈ (keepL S L acc).1.1, p.1.size ≤ 65535 ∧ p.2.size ≤ 65535) ∧ (keepL S L acc).1.1.length ≤ acc.length + L.length
  | [], S, acc, _, h => ⟨h, Nat.le_refl _⟩
  | p :: r, S, acc, hL, h => by
    by_cases hc : (putN S p).1.2 = 0
    · rw [keepl_ok hc]
      have h9 := keepl_sm r (putN S p).2 (acc ++ [(p.keys.headD noT, (putN S p).1.1)]) (fun q hq => hL q (List.mem_cons_of_mem _ hq)) (fun q hq => by
        rcases List.mem_append.1 hq with h1 | h1
        · exact h q h1
        · rw [List.mem_singleton.1 h1]
          refine ⟨?_, by have := putn_ref hc; show (putN S p).1.1.size ≤ _; omega⟩
          cases hk : p.keys with
          | nil => show noT.size ≤ 65535; decide
          | cons a t => exact (hL p (by simp)).sz a (List.mem_append_left _ (by rw [hk]; simp)))
      refine ⟨h9.1, Nat.le_trans h9.2 ?_⟩
      simp; omega
    · rw [keepl_bad hc]
      exact ⟨fun q hq => (nomatch hq), Nat.zero_le _⟩
theorem keepn_sm {n : Nat} {d : NodeD} (S : StD) (h : GdN n d) (hn : n ≤ 250) : (∀ p ∈ (keepN S d).1.1, p.1.size ≤ 65535 ∧ p.2.size ≤ 65535) ∧ (keepN S d).1.1.length ≤ 2 := by
  have h1 := keepl_sm (partsN d) S [] (fun p hp => (parts_ok h hn p hp).2) (fun q hq => (nomatch hq))
  refine ⟨h1.1, Nat.le_trans h1.2 ?_⟩
  have := parts_len d
  simpa using this
theorem swF_gd : ∀ (l : List Ent) (j m : Nat) (n : NodeD) (key : ByteArray), GdN m n → m + l.length ≤ 250 → GdN (m + l.length) (swF l j n key)
  | [], _, _, _, _, h, _ => h
  | p :: r, 0, m, n, key, h, hm => by
    rw [swF]
    have := swF_gd r 1 (m + 1) _ key (h.with (k := key) (v := p.2) (by simp at hm; omega)) (by simp at hm; omega)
    exact this.mono (by simp; omega)
  | p :: r, j + 1, m, n, key, h, hm => by
    rw [swF]
    have := swF_gd r (j + 2) (m + 1) _ p.1 (h.with (k := p.1) (v := p.2) (by simp at hm; omega)) (by simp at hm; omega)
    exact this.mono (by simp; omega)
theorem swap_gd {d : NodeD} {i : Nat} {l : List Ent} (h : GdN 239 d) (hl : l.length ≤ 2) : GdN 241 (swapN d i l) := by
  rw [swap_swF]
  exact (swF_gd l 0 239 _ _ (h.without (by decide)) (by omega)).mono (by omega)
theorem upr_one {S : StD} {n : NodeD} {h : Nat} (hn : n.leaf = false ∧ n.keys.length = 1) : upR [] S n h = ((n.vals.headD noT, 0), S) := by rw [upR, if_pos hn]
theorem upr_bad {S : StD} {n : NodeD} {h : Nat} (hn : ¬ (n.leaf = false ∧ n.keys.length = 1)) (hk : (keepN S n).1.2 ≠ 0) : upR [] S n h = ((noT, (keepN S n).1.2), (keepN S n).2) := by rw [upR, if_neg hn, if_pos hk]
theorem upr_top {S : StD} {n : NodeD} {h : Nat} (hn : ¬ (n.leaf = false ∧ n.keys.length = 1)) (hk : (keepN S n).1.2 = 0) : upR [] S n h = topN (keepN S n).2 (keepN S n).1.1 h := by rw [upR, if_neg hn, if_neg (by simp [hk])]
theorem upr_err {S : StD} {n : NodeD} {h : Nat} {s : StepD} {r : List StepD} (hk : (keepN S n).1.2 ≠ 0) : upR (s :: r) S n h = ((noT, (keepN S n).1.2), (keepN S n).2) := by rw [upR, if_pos hk]
theorem upr_go {S : StD} {n : NodeD} {h : Nat} {s : StepD} {r : List StepD} (hk : (keepN S n).1.2 = 0) : upR (s :: r) S n h = upR r (keepN S n).2 (swapN s.1 s.2 (keepN S n).1.1) h := by rw [upR, if_neg (by simp [hk])]
theorem StZ.form {Z : Nat → Prop} {w : World} {v : Value} {l : List StepD} (h : StZ Z w v l) : ∃ a c, v = .slice a l.length c ∧ l.length ≤ c ∧ c ≤ maxLen := by
  obtain ⟨r, h1, h2, _⟩ := h.ex
  obtain ⟨a, c, e, h3, h4⟩ := h1.form
  exact ⟨a, c, by rw [e, h2], by omega, h4⟩
theorem StZ.at {Z : Nat → Prop} {w : World} {a : Option Addr} {c : Nat} {l : List StepD} (h : StZ Z w (.slice a l.length c) l) (j : Nat) (hj : j < l.length) : ∃ (x : NdV) (g : Nat), a = some ⟨g, 0, none⟩ ∧ NdZ Z w x l[j].1 ∧ w.cell? ⟨g, j * 4, none⟩ = some (.bool x.leaf) ∧ w.cell? ⟨g, j * 4 + 1, none⟩ = some (.slice x.ka x.kn x.kc) ∧ w.cell? ⟨g, j * 4 + 2, none⟩ = some (.slice x.va x.vn x.vc) ∧ w.cell? ⟨g, j * 4 + 3, none⟩ = some (.int .i64 (l[j].2 : Int)) := by
  obtain ⟨r, h1, h2, h3⟩ := h.ex
  have hr : r[j]? = some r[j] := List.getElem?_eq_getElem (by omega)
  obtain ⟨g, cap, e, _, hc⟩ := h1.at kSt_ok j _ hr
  injection e with e _ _
  obtain ⟨h5, h6⟩ := h3 j _ _ hr (List.getElem?_eq_getElem hj)
  exact ⟨r[j].1, g, e, h5, hc 0 _ rfl, hc 1 _ rfl, hc 2 _ rfl, by rw [← h6]; exact hc 3 _ rfl⟩
theorem StZ.take {Z : Nat → Prop} {w : World} {g c : Nat} {l : List StepD} (h : StZ Z w (.slice (some ⟨g, 0, none⟩) l.length c) l) (m : Nat) (hm : m ≤ l.length) : StZ Z w (.slice (some ⟨g, 0, none⟩) m c) (l.take m) := by
  obtain ⟨⟨r, h1, h2, h3⟩, h4⟩ := h
  refine ⟨⟨r.take m, h1.take kSt_ok g c (by rw [h2]) m (by omega), by simp [h2], fun i x s hx hs => ?_⟩, fun k hk => h4 k hk⟩
  rw [List.getElem?_take] at hx hs
  split at hx
  · rename_i hi
    rw [if_pos hi] at hs
    exact h3 i x s hx hs
  · cases hx
end Go.Proofs.Ytbeldjijnjgbfaa
