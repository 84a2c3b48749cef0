/-
  The contracts of squareRoots, finish and Of.
-/
import Derived.Test.YtopinlnjdgedeaaDoorMg22
import Derived.Deep.DeepCutAuto
namespace Go.Proofs.YtopinlnjdgedeaaDoor
open Go.RowKit

set_option maxRecDepth 100000 in
theorem roots_any (w : World) : Calls Tryd.prog 45 #[] w fun e w' => e = .returned (.agg (hrow H0).toArray) ∧ Below w.heap.size w w' := by
  go_enter Tryd.func45, Tryd.ntmps45
  go_wp2_with (refine wpList_store_row rfl 90 (.tmp 0) (.tmp 1) rfl w.heap.size (hrow H0).toArray rfl rfl _ _ (heap_alloc_new w _) (hrow_info _) rfl (hrow_one _) ?_)
  refine bodyPost_ret (v := .agg (hrow H0).toArray) (results_cell_row (p := 0) (ty := 90) rfl _ _ w.heap.size 90 _ (0, 0) _ rfl (setRow_heap _ _ _ _ _ _ (heap_alloc_new w _)) Tryd.underlying90 rfl (hrow_info _)) rfl ⟨rfl, ((Below.refl _ _).alloc (Nat.le_refl _) _).trans (belowRow _ _ _ _ (Nat.le_refl _))⟩

set_option maxRecDepth 100000 in
theorem absorb_lit (h : St) (s : ByteArray) (w : World) (hh : h.ok) (hK : Kt w) :
    Calls Tryd.prog 58 #[.agg #[.int .u32 (h.a : Nat), .int .u32 (h.b : Nat), .int .u32 (h.c : Nat), .int .u32 (h.d : Nat), .int .u32 (h.e : Nat), .int .u32 (h.f : Nat), .int .u32 (h.g : Nat), .int .u32 (h.h : Nat)], .string s] w fun e w' =>
      ∃ st : St, st = absK h s (s.size / 64) ∧ e = .returned (.agg #[.int .u32 (st.a : Nat), .int .u32 (st.b : Nat), .int .u32 (st.c : Nat), .int .u32 (st.d : Nat), .int .u32 (st.e : Nat), .int .u32 (st.f : Nat), .int .u32 (st.g : Nat), .int .u32 (st.h : Nat)]) ∧ Below w.heap.size w w' :=
  (absorb_any h s w hh hK).mono fun _ _ hq => ⟨_, rfl, hq.1, hq.2⟩

set_option maxRecDepth 100000 in
theorem padding_lit (n : Nat) (w : World) (hn : n ≤ 140737488355328) : Calls Tryd.prog 59 #[.int .i64 n] w fun e w' =>
    ∃ pb : ByteArray, pb = ⟨(padB n).toArray⟩ ∧ pb.size ≤ 73 ∧ e = .returned (.string pb) ∧ Below w.heap.size w w' :=
  (padding_any n w hn).mono fun _ _ hq => ⟨_, rfl, by have := padZ_lt n; have := padB_length n; simp only [ByteArray.size, List.size_toArray]; omega, hq.1, hq.2⟩

set_option maxRecDepth 100000 in
theorem index39 (W : World) (s : St) (k : Nat) (hk : k < 8) : (Instr.index 90 (.agg (hrow s).toArray) (.int .i64 (k : Int))).run Tryd.prog W = .ok (.int .u32 (s.list.getD k 0 : Nat)) W :=
  run_index_arr W _ 88 8 _ _ _ Tryd.underlying90 (agg32 W) (size32 W) (by omega) (by
    have hl : k < s.list.length := by simpa [St.list] using hk
    rw [List.getElem?_toArray, hrow_list, Int.toNat_natCast, List.getElem?_map, List.getD, List.getElem?_eq_getElem hl]
    rfl)
set_option maxRecDepth 100000 in
set_option maxHeartbeats 4000000 in
theorem finish_any (h : St) (s : ByteArray) (n : Nat) (w : World) (hh : h.ok) (hn : n ≤ 140737488355328) (hs : s.size ≤ 140737488355328) (hK : Kt w) :
    Calls Tryd.prog 44 #[.agg (hrow h).toArray, .string s, .int .i64 n] w fun e w' => e = .returned (.string ⟨(digest (finS h s n)).toArray⟩) ∧ Below w.heap.size w w' := by
  have hKp := Lib.hid hK.pos
  have HK := Lib.hid hK
  have HH := Lib.hid hh
  clear hK hh
  go_enter Tryd.func44, Tryd.ntmps44
  go_upto_region 2 with (fail)
  have hB0 : Hid (w.heap.size < (w.alloc (.cells (hrow h).toArray 90)).heap.size) := by show _ < _; simp
  have G0 : Hid (HAt (w.alloc (.cells (hrow h).toArray 90)) w.heap.size h) := heap_alloc_new w _
  have GB0 : Hid (Below w.heap.size w (w.alloc (.cells (hrow h).toArray 90))) := (Below.refl _ _).alloc (Nat.le_refl _) _
  have K0 := Lib.hid (HK.out.below GB0.out hKp.out)
  generalize w.alloc (.cells (hrow h).toArray 90) = W0 at *
  have hfull : ((s.size : Int) - (s.size : Int) % 64) = (fullN s : Nat) := by unfold fullN; omega
  have hfl : fullN s ≤ s.size := Nat.sub_le _ _
  rw [hfull]
  clear hfull
  go_cut [17] (fun s17 wx => Hid (HAt wx w.heap.size (fin1 h s)) ∧ Hid (Below w.heap.size w wx) ∧ Hid (Kt wx))
  case first =>
    obtain ⟨c0, c1, c2, c3, c4, c5, c6, c7⟩ := G0.out.cells
    go_region_with (first
      | (go_at_call 58; refine (absorb_lit h _ _ HH.out (by exact K0.out)).mono ?_; rintro e w1 ⟨st, hst, rfl, hb⟩; have H1 := Lib.hid (HAt.below G0.out (show Below W0.heap.size W0 w1 from ⟨hb.os, hb.tape, hb.output, hb.size, hb.block⟩) hB0.out); have HB := Lib.hid (GB0.out.trans (Below.mono (show Below W0.heap.size W0 w1 from ⟨hb.os, hb.tape, hb.output, hb.size, hb.block⟩) (Nat.le_of_lt hB0.out))); have Hst := Lib.hid hst; clear hb hst c0 c1 c2 c3 c4 c5 c6 c7; obtain ⟨e0, e1, e2, e3, e4, e5, e6, e7⟩ := H1.out.cells; have f0 := H1.out.free 0; have f1 := H1.out.free 1; have f2 := H1.out.free 2; have f3 := H1.out.free 3; have f4 := H1.out.free 4; have f5 := H1.out.free 5; have f6 := H1.out.free 6; have f7 := H1.out.free 7))
    all_goals
      go_wp2_with fail
      go_meet
      have hfin : fin1 h s = st := Hst.out.symm
      exact ⟨by rw [hfin]; exact put8 H1.out st, HB.out.trans (put8_other _ _ _ _ (Nat.le_refl _)), HK.out.below (HB.out.trans (put8_other _ _ _ _ (Nat.le_refl _))) hKp.out⟩
  case rest =>
    clear G0 GB0 K0 hB0
    obtain ⟨wx, rfl⟩ : ∃ wx : World, wx = wc := ⟨_, rfl⟩
    obtain ⟨G0, GB0, K0⟩ := hcut
    have hB0 : Hid (w.heap.size < wx.heap.size) := World.block_lt_of_cell? wx _ G0.out.cells.1
    have HF1 : Hid (fin1 h s).ok := absK_ok _ HH.out _
    have hxs : (s.extract (fullN s) s.size).size ≤ 140737488355328 := by rw [ByteArray.size_extract]; omega
    have HLB : Hid (lastB s n = s.extract (fullN s) s.size ++ ⟨(padB n).toArray⟩) := rfl
    have HFS : Hid (finS h s n = absK (fin1 h s) (lastB s n) ((lastB s n).size / 64)) := rfl
    generalize fin1 h s = h1 at *
    have HDG : Hid (digest (finS h s n) = digK (finS h s n) 8) := rfl
    generalize hgen : finS h s n = fs at *
    rw [← hgen] at HDG
    have HGEN := Lib.hid hgen
    clear hgen
    go_upto_region 3 with (fail)
    go_cut [17] (fun s17 wx => Hid (HAt wx w.heap.size fs) ∧ Hid (Below w.heap.size w wx))
    case first =>
      obtain ⟨c0, c1, c2, c3, c4, c5, c6, c7⟩ := G0.out.cells
      go_region_with (first
        | (go_at_call 59; refine (padding_lit n _ hn).mono ?_; rintro e w1 ⟨pb, hpb, hpz, rfl, hb⟩; have HPB := Lib.hid hpb; clear hpb; have H1 := Lib.hid (HAt.below G0.out (show Below wx.heap.size wx w1 from ⟨hb.os, hb.tape, hb.output, hb.size, hb.block⟩) hB0.out); have HS1 := Lib.hid hb.size; have HB := Lib.hid (GB0.out.trans (Below.mono (show Below wx.heap.size wx w1 from ⟨hb.os, hb.tape, hb.output, hb.size, hb.block⟩) (Nat.le_of_lt hB0.out))); have HK1 := Lib.hid (K0.out.below (show Below wx.heap.size wx w1 from ⟨hb.os, hb.tape, hb.output, hb.size, hb.block⟩) (Nat.lt_trans hKp.out hB0.out)); clear hb; obtain ⟨d0, d1, d2, d3, d4, d5, d6, d7⟩ := H1.out.cells)
        | (go_at_call 58; refine (absorb_lit h1 _ _ HF1.out (by exact HK1.out)).mono ?_; rintro e w2 ⟨st, hst, rfl, hb⟩; have H2 := Lib.hid (HAt.below H1.out hb (Nat.lt_of_lt_of_le hB0.out HS1.out)); have HB2 := Lib.hid (HB.out.trans (hb.mono (Nat.le_trans (Nat.le_of_lt hB0.out) HS1.out))); have Hst := Lib.hid hst; clear hb hst c0 c1 c2 c3 c4 c5 c6 c7 d0 d1 d2 d3 d4 d5 d6 d7; obtain ⟨e0, e1, e2, e3, e4, e5, e6, e7⟩ := H2.out.cells; have f0 := H2.out.free 0; have f1 := H2.out.free 1; have f2 := H2.out.free 2; have f3 := H2.out.free 3; have f4 := H2.out.free 4; have f5 := H2.out.free 5; have f6 := H2.out.free 6; have f7 := H2.out.free 7))
      all_goals
        go_wp2_with fail
        go_meet
        have hfin : fs = st := by rw [HFS.out, HLB.out, ← HPB.out]; exact Hst.out.symm
        exact ⟨by rw [hfin]; exact put8 H2.out st, HB2.out.trans (put8_other _ _ _ _ (Nat.le_refl _))⟩
    case rest =>
      clear G0 GB0 K0 hB0
      obtain ⟨wy, rfl⟩ : ∃ wy : World, wy = wc := ⟨_, rfl⟩
      obtain ⟨G0, GB0⟩ := hcut
      have hB0 : Hid (w.heap.size < wy.heap.size) := World.block_lt_of_cell? wy _ G0.out.cells.1
      have HFO : Hid fs.ok := by rw [HFS.out]; exact absK_ok _ HF1.out _
      go_wp2_with (at_make; refine wp_buf_make _ rfl _ _ rfl (w.heap.size + 1) .i64 .i64 32 32 rfl rfl rfl (by omega) hB0.out ?_)
      intro v1 w1 hb hl
      have G1 := Lib.hid (HAt.below G0.out hl (Nat.lt_succ_self _))
      have HB := Lib.hid hb
      have GB1 := Lib.hid (GB0.out.trans (hl.mono (Nat.le_succ _)))
      have HZ := Lib.hid (Nat.le_trans hB0.out hl.size)
      clear hb hl G0 GB0 hB0
      go_wp2_with (refine wpList_load_row rfl 90 (.tmp 3) rfl w.heap.size rfl _ _ _ _ (HAt.raw G1.out) Tryd.underlying90 rfl (hrow_info _) ?_)
      go_loopw [8, 32] (fun v i wr => ∃ k : Nat, k ≤ 8 ∧ i = .int .i64 k ∧ Hid (Buf wr (w.heap.size + 1) v (digK fs k)) ∧ Hid (Below w.heap.size w wr) ∧ Hid (w.heap.size + 1 ≤ wr.heap.size)) (fun _ i _ => 8 - (RowKit.intOf i).toNat)
      case atStart => exact ⟨0, Nat.zero_le _, rfl, HB, GB1, HZ⟩
      case round =>
        clear HB GB1 HZ
        obtain ⟨k, hk, rfl, HB, HL, HZ⟩ := hrel
        by_cases hlt : k < 8
        · have hidx := fun W => index39 W fs k hlt
          have hx := list_lt HFO.out k
          have hnext := Lib.hid (digK_succ fs k hlt)
          have hdl := digK_length fs k hk
          have hz := HZ.out
          generalize fs.list.getD k 0 = x at *
          go_wp2_with (at_builtin; refine wp_buf_push _ rfl _ _ rfl (w.heap.size + 1) _ (digK fs k) rfl (HB.out.alloc _) ⟨wr.heap.size, 0, none⟩ 4 4 (digB x) rfl rfl ?c1 (by omega) (by simp; omega) ?_)
          case c1 =>
            intro i u hi
            match i, hi with
            | 0, hi => simp [digB] at hi; subst hi; simp [Addr.add, byV]; omega
            | 1, hi => simp [digB] at hi; subst hi; simp [Addr.add, byV]
            | 2, hi => simp [digB] at hi; subst hi; simp [Addr.add, byV]
            | 3, hi => simp [digB] at hi; subst hi; simp [Addr.add, byV]
            | _ + 4, hi => simp [digB] at hi
          intro v' w' hb' hl'
          rw [← hnext.out] at hb'
          have HB' := Lib.hid hb'
          have HL' := Lib.hid (HL.out.trans (((Below.refl _ _).alloc (by omega) _).trans (hl'.mono (Nat.le_succ _))))
          have HZ' : Hid (w.heap.size + 1 ≤ w'.heap.size) := by have h1 := hl'.size; simp at h1; show _ ≤ _; omega
          clear hb' hl'
          go_wp2
          go_roundw
          case rel => exact ⟨k + 1, by omega, by go_num, HB', HL', HZ'⟩
          case measure => simp [RowKit.intOf]; omega
        · have hk8 : k = 8 := by omega
          subst hk8
          have hc := HB.out.text
          have hfin : Hid ((⟨(digK fs 8).toArray⟩ : ByteArray) = ⟨(digest (finS h s n)).toArray⟩) := by show _ = _; rw [HGEN.out]; rfl
          go_wp2
          go_ret
          exact ⟨ret_str hfin.out, HL.out⟩
set_option maxRecDepth 100000 in
theorem of_any (s : ByteArray) (w : World) (hs : s.size ≤ 140737488355328) (hK : Kt w) :
    Calls Tryd.prog 30 #[.string s] w fun e w' => e = .returned (.string (sha s)) ∧ Below w.heap.size w w' := by
  have HK := Lib.hid hK
  have HP := Lib.hid hK.pos
  clear hK
  go_enter Tryd.func30, Tryd.ntmps30
  go_wp2_with fail
  refine (roots_any _).mono ?_
  rintro e w1 ⟨rfl, hb⟩
  have H1 := Lib.hid hb
  have K1 := Lib.hid (HK.out.below hb HP.out)
  clear hb
  go_wp2_with fail
  refine (finish_any H0 s s.size _ H0_ok hs hs K1.out).mono ?_
  rintro e w2 ⟨rfl, hb⟩
  have H2 := Lib.hid (H1.out.trans (hb.mono H1.out.size))
  clear hb
  have HS : Hid ((⟨(digest (finS H0 s s.size)).toArray⟩ : ByteArray) = sha s) := rfl
  rw [HS.out]
  go_wp2
  go_ret
  exact ⟨rfl, H2.out⟩
end Go.Proofs.YtopinlnjdgedeaaDoor
