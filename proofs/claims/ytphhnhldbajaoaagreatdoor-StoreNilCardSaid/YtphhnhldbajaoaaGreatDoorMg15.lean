/-
  Texts put together: Finish, PairsT, PairsMore, PairsIdx, BlkA.
-/
import Derived.Test.YtphhnhldbajaoaaGreatDoorMg14
import Derived.Deep.DeepCutAuto
import Derived.Test.YtphhnhldbajaoaaGreatDoorMg11
import Derived.Test.YtphhnhldbajaoaaGreatDoorMg0
import Derived.Deep.RegionLaw
import Derived.Maps.AppendAt
import Derived.Deep.Upon
import Derived.Lib.AppendZeros
import Derived.Deep.Onto
import Derived.Deep.AppendSrc
import Derived.Test.YtphhnhldbajaoaaGreatDoorMg10
import Derived.Test.YtphhnhldbajaoaaGreatDoorMg12
import Derived.Lib.SliceRun
namespace Go.Proofs.YtphhnhldbajaoaaGreatDoor
open Go.RowKit

set_option maxRecDepth 100000 in
theorem roots_any (w : World) : Calls Tryz.prog 133 #[] w fun e w' => e = .returned (.agg (hrow H0).toArray) ∧ Below w.heap.size w w' := by
  go_enter Tryz.func133, Tryz.ntmps133
  go_wp2_with (refine wpList_store_row rfl 182 (.tmp 0) (.tmp 1) rfl w.heap.size (hrow H0).toArray rfl rfl _ _ (heap_alloc_new w _) (hrow_info _) rfl (hrow_one _) ?_)
  refine bodyPost_ret (v := .agg (hrow H0).toArray) (results_cell_row (p := 0) (ty := 182) rfl _ _ w.heap.size 182 _ (0, 0) _ rfl (setRow_heap _ _ _ _ _ _ (heap_alloc_new w _)) Tryz.underlying182 rfl (hrow_info _)) rfl ⟨rfl, ((Below.refl _ _).alloc (Nat.le_refl _) _).trans (belowRow _ _ _ _ (Nat.le_refl _))⟩

set_option maxRecDepth 100000 in
theorem absorb_lit (h : St) (s : ByteArray) (w : World) (hh : h.ok) (hK : Kt w) :
    Calls Tryz.prog 150 #[.agg #[.int .u32 (h.a : Nat), .int .u32 (h.b : Nat), .int .u32 (h.c : Nat), .int .u32 (h.d : Nat), .int .u32 (h.e : Nat), .int .u32 (h.f : Nat), .int .u32 (h.g : Nat), .int .u32 (h.h : Nat)], .string s] w fun e w' =>
      ∃ st : St, st = absK h s (s.size / 64) ∧ e = .returned (.agg #[.int .u32 (st.a : Nat), .int .u32 (st.b : Nat), .int .u32 (st.c : Nat), .int .u32 (st.d : Nat), .int .u32 (st.e : Nat), .int .u32 (st.f : Nat), .int .u32 (st.g : Nat), .int .u32 (st.h : Nat)]) ∧ Below w.heap.size w w' :=
  (absorb_any h s w hh hK).mono fun _ _ hq => ⟨_, rfl, hq.1, hq.2⟩

set_option maxRecDepth 100000 in
theorem padding_lit (n : Nat) (w : World) (hn : n ≤ 140737488355328) : Calls Tryz.prog 151 #[.int .i64 n] w fun e w' =>
    ∃ pb : ByteArray, pb = ⟨(padB n).toArray⟩ ∧ pb.size ≤ 73 ∧ e = .returned (.string pb) ∧ Below w.heap.size w w' :=
  (padding_any n w hn).mono fun _ _ hq => ⟨_, rfl, by have := padZ_lt n; have := padB_length n; simp only [ByteArray.size, List.size_toArray]; omega, hq.1, hq.2⟩

set_option maxRecDepth 100000 in
theorem index39 (W : World) (s : St) (k : Nat) (hk : k < 8) : (Instr.index 182 (.agg (hrow s).toArray) (.int .i64 (k : Int))).run Tryz.prog W = .ok (.int .u32 (s.list.getD k 0 : Nat)) W :=
  run_index_arr W _ 180 8 _ _ _ Tryz.underlying182 (agg32 W) (size32 W) (by omega) (by
    have hl : k < s.list.length := by simpa [St.list] using hk
    rw [List.getElem?_toArray, hrow_list, Int.toNat_natCast, List.getElem?_map, List.getD, List.getElem?_eq_getElem hl]
    rfl)
set_option maxRecDepth 100000 in
set_option maxHeartbeats 4000000 in
theorem finish_any (h : St) (s : ByteArray) (n : Nat) (w : World) (hh : h.ok) (hn : n ≤ 140737488355328) (hs : s.size ≤ 140737488355328) (hK : Kt w) :
    Calls Tryz.prog 132 #[.agg (hrow h).toArray, .string s, .int .i64 n] w fun e w' => e = .returned (.string ⟨(digest (finS h s n)).toArray⟩) ∧ Below w.heap.size w w' := by
  have hKp := Lib.hid hK.pos
  have HK := Lib.hid hK
  have HH := Lib.hid hh
  clear hK hh
  go_enter Tryz.func132, Tryz.ntmps132
  go_upto_region 2 with (fail)
  have hB0 : Hid (w.heap.size < (w.alloc (.cells (hrow h).toArray 182)).heap.size) := by show _ < _; simp
  have G0 : Hid (HAt (w.alloc (.cells (hrow h).toArray 182)) w.heap.size h) := heap_alloc_new w _
  have GB0 : Hid (Below w.heap.size w (w.alloc (.cells (hrow h).toArray 182))) := (Below.refl _ _).alloc (Nat.le_refl _) _
  have K0 := Lib.hid (HK.out.below GB0.out hKp.out)
  generalize w.alloc (.cells (hrow h).toArray 182) = W0 at *
  have hfull : ((s.size : Int) - (s.size : Int) % 64) = (fullN s : Nat) := by unfold fullN; omega
  have hfl : fullN s ≤ s.size := Nat.sub_le _ _
  rw [hfull]
  clear hfull
  go_cut [17] (fun s17 wx => Hid (HAt wx w.heap.size (fin1 h s)) ∧ Hid (Below w.heap.size w wx) ∧ Hid (Kt wx))
  case first =>
    obtain ⟨c0, c1, c2, c3, c4, c5, c6, c7⟩ := G0.out.cells
    go_region_with (first
      | (go_at_call 150; refine (absorb_lit h _ _ HH.out (by exact K0.out)).mono ?_; rintro e w1 ⟨st, hst, rfl, hb⟩; have H1 := Lib.hid (HAt.below G0.out (show Below W0.heap.size W0 w1 from ⟨hb.os, hb.tape, hb.output, hb.size, hb.block⟩) hB0.out); have HB := Lib.hid (GB0.out.trans (Below.mono (show Below W0.heap.size W0 w1 from ⟨hb.os, hb.tape, hb.output, hb.size, hb.block⟩) (Nat.le_of_lt hB0.out))); have Hst := Lib.hid hst; clear hb hst c0 c1 c2 c3 c4 c5 c6 c7; obtain ⟨e0, e1, e2, e3, e4, e5, e6, e7⟩ := H1.out.cells; have f0 := H1.out.free 0; have f1 := H1.out.free 1; have f2 := H1.out.free 2; have f3 := H1.out.free 3; have f4 := H1.out.free 4; have f5 := H1.out.free 5; have f6 := H1.out.free 6; have f7 := H1.out.free 7))
    all_goals
      go_wp2_with fail
      go_meet
      have hfin : fin1 h s = st := Hst.out.symm
      exact ⟨by rw [hfin]; exact put8 H1.out st, HB.out.trans (put8_other _ _ _ _ (Nat.le_refl _)), HK.out.below (HB.out.trans (put8_other _ _ _ _ (Nat.le_refl _))) hKp.out⟩
  case rest =>
    clear G0 GB0 K0 hB0
    obtain ⟨wx, rfl⟩ : ∃ wx : World, wx = wc := ⟨_, rfl⟩
    obtain ⟨G0, GB0, K0⟩ := hcut
    have hB0 : Hid (w.heap.size < wx.heap.size) := World.block_lt_of_cell? wx _ G0.out.cells.1
    have HF1 : Hid (fin1 h s).ok := absK_ok _ HH.out _
    have hxs : (s.extract (fullN s) s.size).size ≤ 140737488355328 := by rw [ByteArray.size_extract]; omega
    have HLB : Hid (lastB s n = s.extract (fullN s) s.size ++ ⟨(padB n).toArray⟩) := rfl
    have HFS : Hid (finS h s n = absK (fin1 h s) (lastB s n) ((lastB s n).size / 64)) := rfl
    generalize fin1 h s = h1 at *
    have HDG : Hid (digest (finS h s n) = digK (finS h s n) 8) := rfl
    generalize hgen : finS h s n = fs at *
    rw [← hgen] at HDG
    have HGEN := Lib.hid hgen
    clear hgen
    go_upto_region 3 with (fail)
    go_cut [17] (fun s17 wx => Hid (HAt wx w.heap.size fs) ∧ Hid (Below w.heap.size w wx))
    case first =>
      obtain ⟨c0, c1, c2, c3, c4, c5, c6, c7⟩ := G0.out.cells
      go_region_with (first
        | (go_at_call 151; refine (padding_lit n _ hn).mono ?_; rintro e w1 ⟨pb, hpb, hpz, rfl, hb⟩; have HPB := Lib.hid hpb; clear hpb; have H1 := Lib.hid (HAt.below G0.out (show Below wx.heap.size wx w1 from ⟨hb.os, hb.tape, hb.output, hb.size, hb.block⟩) hB0.out); have HS1 := Lib.hid hb.size; have HB := Lib.hid (GB0.out.trans (Below.mono (show Below wx.heap.size wx w1 from ⟨hb.os, hb.tape, hb.output, hb.size, hb.block⟩) (Nat.le_of_lt hB0.out))); have HK1 := Lib.hid (K0.out.below (show Below wx.heap.size wx w1 from ⟨hb.os, hb.tape, hb.output, hb.size, hb.block⟩) (Nat.lt_trans hKp.out hB0.out)); clear hb; obtain ⟨d0, d1, d2, d3, d4, d5, d6, d7⟩ := H1.out.cells)
        | (go_at_call 150; refine (absorb_lit h1 _ _ HF1.out (by exact HK1.out)).mono ?_; rintro e w2 ⟨st, hst, rfl, hb⟩; have H2 := Lib.hid (HAt.below H1.out hb (Nat.lt_of_lt_of_le hB0.out HS1.out)); have HB2 := Lib.hid (HB.out.trans (hb.mono (Nat.le_trans (Nat.le_of_lt hB0.out) HS1.out))); have Hst := Lib.hid hst; clear hb hst c0 c1 c2 c3 c4 c5 c6 c7 d0 d1 d2 d3 d4 d5 d6 d7; obtain ⟨e0, e1, e2, e3, e4, e5, e6, e7⟩ := H2.out.cells; have f0 := H2.out.free 0; have f1 := H2.out.free 1; have f2 := H2.out.free 2; have f3 := H2.out.free 3; have f4 := H2.out.free 4; have f5 := H2.out.free 5; have f6 := H2.out.free 6; have f7 := H2.out.free 7))
      all_goals
        go_wp2_with fail
        go_meet
        have hfin : fs = st := by rw [HFS.out, HLB.out, ← HPB.out]; exact Hst.out.symm
        exact ⟨by rw [hfin]; exact put8 H2.out st, HB2.out.trans (put8_other _ _ _ _ (Nat.le_refl _))⟩
    case rest =>
      clear G0 GB0 K0 hB0
      obtain ⟨wy, rfl⟩ : ∃ wy : World, wy = wc := ⟨_, rfl⟩
      obtain ⟨G0, GB0⟩ := hcut
      have hB0 : Hid (w.heap.size < wy.heap.size) := World.block_lt_of_cell? wy _ G0.out.cells.1
      have HFO : Hid fs.ok := by rw [HFS.out]; exact absK_ok _ HF1.out _
      go_wp2_with (at_make; refine wp_buf_make _ rfl _ _ rfl (w.heap.size + 1) .i64 .i64 32 32 rfl rfl rfl (by omega) hB0.out ?_)
      intro v1 w1 hb hl
      have G1 := Lib.hid (HAt.below G0.out hl (Nat.lt_succ_self _))
      have HB := Lib.hid hb
      have GB1 := Lib.hid (GB0.out.trans (hl.mono (Nat.le_succ _)))
      have HZ := Lib.hid (Nat.le_trans hB0.out hl.size)
      clear hb hl G0 GB0 hB0
      go_wp2_with (refine wpList_load_row rfl 182 (.tmp 3) rfl w.heap.size rfl _ _ _ _ (HAt.raw G1.out) Tryz.underlying182 rfl (hrow_info _) ?_)
      go_loopw [8, 32] (fun v i wr => ∃ k : Nat, k ≤ 8 ∧ i = .int .i64 k ∧ Hid (Buf wr (w.heap.size + 1) v (digK fs k)) ∧ Hid (Below w.heap.size w wr) ∧ Hid (w.heap.size + 1 ≤ wr.heap.size)) (fun _ i _ => 8 - (RowKit.intOf i).toNat)
      case atStart => exact ⟨0, Nat.zero_le _, rfl, HB, GB1, HZ⟩
      case round =>
        clear HB GB1 HZ
        obtain ⟨k, hk, rfl, HB, HL, HZ⟩ := hrel
        by_cases hlt : k < 8
        · have hidx := fun W => index39 W fs k hlt
          have hx := list_lt HFO.out k
          have hnext := Lib.hid (digK_succ fs k hlt)
          have hdl := digK_length fs k hk
          have hz := HZ.out
          generalize fs.list.getD k 0 = x at *
          go_wp2_with (at_builtin; refine wp_buf_push _ rfl _ _ rfl (w.heap.size + 1) _ (digK fs k) rfl (HB.out.alloc _) ⟨wr.heap.size, 0, none⟩ 4 4 (digB x) rfl rfl ?c1 (by omega) (by simp; omega) ?_)
          case c1 =>
            intro i u hi
            match i, hi with
            | 0, hi => simp [digB] at hi; subst hi; simp [Addr.add, byV]; omega
            | 1, hi => simp [digB] at hi; subst hi; simp [Addr.add, byV]
            | 2, hi => simp [digB] at hi; subst hi; simp [Addr.add, byV]
            | 3, hi => simp [digB] at hi; subst hi; simp [Addr.add, byV]
            | _ + 4, hi => simp [digB] at hi
          intro v' w' hb' hl'
          rw [← hnext.out] at hb'
          have HB' := Lib.hid hb'
          have HL' := Lib.hid (HL.out.trans (((Below.refl _ _).alloc (by omega) _).trans (hl'.mono (Nat.le_succ _))))
          have HZ' : Hid (w.heap.size + 1 ≤ w'.heap.size) := by have h1 := hl'.size; simp at h1; show _ ≤ _; omega
          clear hb' hl'
          go_wp2
          go_roundw
          case rel => exact ⟨k + 1, by omega, by go_num, HB', HL', HZ'⟩
          case measure => simp [RowKit.intOf]; omega
        · have hk8 : k = 8 := by omega
          subst hk8
          have hc := HB.out.text
          have hfin : Hid ((⟨(digK fs 8).toArray⟩ : ByteArray) = ⟨(digest (finS h s n)).toArray⟩) := by show _ = _; rw [HGEN.out]; rfl
          go_wp2
          go_ret
          exact ⟨ret_str hfin.out, HL.out⟩
set_option maxRecDepth 100000 in
theorem of_any (s : ByteArray) (w : World) (hs : s.size ≤ 140737488355328) (hK : Kt w) :
    Calls Tryz.prog 103 #[.string s] w fun e w' => e = .returned (.string (sha s)) ∧ Below w.heap.size w w' := by
  have HK := Lib.hid hK
  have HP := Lib.hid hK.pos
  clear hK
  go_enter Tryz.func103, Tryz.ntmps103
  go_wp2_with fail
  refine (roots_any _).mono ?_
  rintro e w1 ⟨rfl, hb⟩
  have H1 := Lib.hid hb
  have K1 := Lib.hid (HK.out.below hb HP.out)
  clear hb
  go_wp2_with fail
  refine (finish_any H0 s s.size _ H0_ok hs hs K1.out).mono ?_
  rintro e w2 ⟨rfl, hb⟩
  have H2 := Lib.hid (H1.out.trans (hb.mono H1.out.size))
  clear hb
  have HS : Hid ((⟨(digest (finS H0 s s.size)).toArray⟩ : ByteArray) = sha s) := rfl
  rw [HS.out]
  go_wp2
  go_ret
  exact ⟨rfl, H2.out⟩
end Go.Proofs.YtphhnhldbajaoaaGreatDoor

namespace Go.Proofs.YtphhnhldbajaoaaGreatDoor
open Go.RowKit

def PrVT (x : Int × Int) : List Value := [.int .i64 x.1, .int .i64 x.2]
/-- A type of two ints. -/
def TwoT (e : TypeId) : Prop := (Tryz.prog.info? e).map (fun i => (i.zero, i.size, i.bytes)) = some (some (.agg #[.int .i64 0, .int .i64 0]), 2, 16)

/-- The value v is a slice of the call's own that holds the pairs l. -/
def PrsT (e : TypeId) (w : World) (base : Nat) (v : Value) (l : List (Int × Int)) : Prop := w.ownsRow base e 2 v l.length (l.flatMap PrVT)
theorem PrsT.view {e : TypeId} {w : World} {base : Nat} {v : Value} {l : List (Int × Int)} (h : PrsT e w base v l) :
    (v = .slice none 0 0 ∧ l = []) ∨ ∃ g cap, v = .slice (some ⟨g, 0, none⟩) l.length cap ∧ l.length ≤ cap ∧ cap ≤ maxLen ∧ base ≤ g ∧ g < w.heap.size ∧ ∀ j u, (l.flatMap PrVT)[j]? = some u → w.cell? ⟨g, j, none⟩ = some u := by
  have h' := h
  rcases h.2 with ⟨rfl, h0⟩ | ⟨g, cap, cur, rfl, hg, hh, hc, hm, _⟩
  · exact .inl ⟨rfl, List.eq_nil_of_length_eq_zero h0⟩
  · refine .inr ⟨g, cap, rfl, hc, hm, hg, lt_of_block hh, fun j u hj => ?_⟩
    have hlt : j < (l.flatMap PrVT).length := (List.getElem?_eq_some_iff.1 hj).1
    rw [World.ownsRow.cellAt h' j (by rw [h.1] at hlt; exact hlt)]
    exact hj
theorem slP_flatT {w : World} {g : Nat} {l : List (Int × Int)} (hlt : g < w.heap.size) (h : ∀ j u, (l.flatMap PrVT)[j]? = some u → w.cell? ⟨g, j, none⟩ = some u) : SlP w (some ⟨g, 0, none⟩) l := by
  intro _
  refine ⟨g, 0, rfl, hlt, fun i x hx => ?_⟩
  have h0 := flat_get PrVT 2 (fun _ => rfl) l i x hx 0 (by decide)
  have h1 := flat_get PrVT 2 (fun _ => rfl) l i x hx 1 (by decide)
  constructor
  · rw [Nat.zero_add]; exact h _ _ h0
  · rw [Nat.zero_add]; exact h _ _ h1
/-- A slice's cells, from its k-th element on. -/
theorem SlP.cells {w : World} {a : Option Addr} {l : List (Int × Int)} (h : SlP w a l) (hne : l ≠ []) : ∃ b off, a = some ⟨b, off, none⟩ ∧ b < w.heap.size ∧ ∀ j u, (l.flatMap PrVT)[j]? = some u → w.cell? ⟨b, off + j, none⟩ = some u := by
  obtain ⟨b, off, rfl, hlt, hc⟩ := h hne
  refine ⟨b, off, rfl, hlt, fun j u hj => ?_⟩
  have hlen := flat_len PrVT 2 (fun _ => rfl) l
  have hj' : j < l.length * 2 := by rw [← hlen]; exact (List.getElem?_eq_some_iff.1 hj).1
  have hi : j / 2 < l.length := by omega
  have hx := List.getElem?_eq_getElem hi
  have hm : j = j / 2 * 2 + j % 2 := by omega
  have hf := flat_get PrVT 2 (fun _ => rfl) l (j / 2) _ hx (j % 2) (by omega)
  rw [← hm, hj] at hf
  have h2 := hc (j / 2) _ hx
  rcases (show j % 2 = 0 ∨ j % 2 = 1 by omega) with e | e
  · rw [e] at hf hm
    simp [PrVT] at hf
    rw [hm, hf, Nat.add_zero, h2.1]
  · rw [e] at hf hm
    simp [PrVT] at hf
    rw [hm, hf, ← Nat.add_assoc, h2.2]
/-- 'append(out, x...)' of pairs. -/
theorem wp_prsT_app {t e : TypeId} (ht : Tryz.prog.underlying t = some (.slice e)) (he : TwoT e) {ops : Array Oper} {rest : List Oper} {o : Oper} {a : Act} {Q : Exit → Act → World → Prop} (W : World) (hgd : o.guard = none) (s x : Operand)
    (ho : o.op = .call { callee := .builtin .append, args := #[s, x], argTypes := #[t, t] })
    (base : Nat) (v : Value) (l : List (Int × Int)) (hs : a.eval s = v) (hb : PrsT e W base v l)
    (ad : Addr) (c : Nat) (ps : List (Int × Int)) (hx : a.eval x = .slice (some ad) ps.length c) (hcell : ∀ j u, (ps.flatMap PrVT)[j]? = some u → W.cell? (ad.add j) = some u)
    (hbytes : l.length + ps.length ≤ 100000) (hbase : base ≤ W.heap.size)
    (h : ∀ v' w', PrsT e w' base v' (l ++ ps) → W.grownBy w' v.ownBlock → wpList Tryz.prog ops Q rest (a.put o.dst v') w') : wpList Tryz.prog ops Q (o :: rest) a W := by
  obtain ⟨i0, hi, hz0, hz1, hz2⟩ := info_parts he
  refine wpList_append_own W hgd s x t ho base e i0 (.agg #[.int .i64 0, .int .i64 0]) 2 16 ht hi hz0 hz1 hz2 rfl (by decide) v l.length _ hs hb ad ps.length c (ps.flatMap PrVT) hx (flat_len PrVT 2 (fun _ => rfl) ps) hcell ?_ (by unfold maxLen; omega) (by omega) hbase ?_
  · intro u hu
    simp only [List.mem_flatMap] at hu
    obtain ⟨y, _, hy⟩ := hu
    simp [PrVT] at hy
    rcases hy with rfl | rfl <;> rfl
  · intro v' w' h1 h2 _
    refine h v' w' ?_ h2
    unfold PrsT
    rw [List.flatMap_append, List.length_append]
    exact h1
theorem below_growT {w w' : World} {base : Nat} {e : TypeId} {v : Value} {l : List (Int × Int)} {a : World} (h : Below base a w) (hg : w.grownBy w' v.ownBlock) (hr : PrsT e w base v l) (hb : base ≤ w.heap.size) : Below base a w' :=
  h.grown hg hb fun k hk => (World.ownsRow.lt hr k hk).1
end Go.Proofs.YtphhnhldbajaoaaGreatDoor

namespace Go.Proofs.YtphhnhldbajaoaaGreatDoor
open Go.RowKit Go.ChangeShapes Go.WideShapes Go.ChangeAt

/-- 'append(v, x...)', x any row that lies in memory, an empty one too. -/
theorem wp_prsT_more {t e : TypeId} (ht : Tryz.prog.underlying t = some (.slice e)) (he : TwoT e) {ops : Array Oper} {rest : List Oper} {o : Oper} {a : Act} {Q : Exit → Act → World → Prop} (W : World) (hgd : o.guard = none) (s x : Operand)
    (ho : o.op = .call { callee := .builtin .append, args := #[s, x], argTypes := #[t, t] })
    (base : Nat) (v : Value) (l : List (Int × Int)) (hs : a.eval s = v) (hb : PrsT e W base v l)
    (xa : Option Addr) (c : Nat) (ps : List (Int × Int)) (hx : a.eval x = .slice xa ps.length c) (hsl : SlP W xa ps)
    (hbytes : l.length + ps.length ≤ 100000) (hbase : base ≤ W.heap.size)
    (h : ∀ v' w', PrsT e w' base v' (l ++ ps) → W.grownBy w' v.ownBlock → wpList Tryz.prog ops Q rest (a.put o.dst v') w') : wpList Tryz.prog ops Q (o :: rest) a W := by
  by_cases hne : ps = []
  · subst hne
    have hsrc : Src Tryz.prog 2 t (.slice xa 0 c) 0 [] W := by
      cases xa with
      | none => exact Src.ofNil W ht c
      | some ad => exact Src.ofSlice W ht ad 0 c [] rfl (fun j u hj => by simp at hj) (fun u hu => by cases hu)
    obtain ⟨i0, hi, hz0, hz1, hz2⟩ := info_parts he
    have hv : ∃ ba n cp, v = .slice ba n cp ∧ n ≤ cp := by
      rcases hb.view with ⟨rfl, _⟩ | ⟨g, cap, rfl, hc, _⟩
      · exact ⟨none, 0, 0, rfl, Nat.le_refl _⟩
      · exact ⟨_, _, _, rfl, hc⟩
    obtain ⟨ba, n, cp, rfl, hcp⟩ := hv
    have hr := run_append_nothing (P := Tryz.prog) W t t o.type e i0 ht hi ba n cp hcp (.slice xa 0 c) (by rw [hz1]; exact hsrc)
    refine wpList_plain hgd fun K hK => ?_
    unfold Oper.wp execOp
    have hx' : a.eval x = .slice xa 0 c := hx
    simp only [ho, resolve, invoke, builtin, Sem.run_bind, Sem.run_pure, Result.andThen_ok, List.map_toArray, List.map_cons, List.map_nil, hs, hx', hr]
    exact hK _ _ (h _ _ (by rw [List.append_nil]; exact hb) ⟨rfl, rfl, rfl, Nat.le_refl _, fun _ _ _ => rfl⟩)
  · obtain ⟨b, off, rfl, _, hcell⟩ := hsl.cells hne
    exact wp_prsT_app ht he W hgd s x ho base v l hs hb ⟨b, off, none⟩ c ps hx (fun j u hj => by rw [add_plain]; exact hcell j u hj) hbytes hbase h
end Go.Proofs.YtphhnhldbajaoaaGreatDoor

namespace Go.Proofs.YtphhnhldbajaoaaGreatDoor
open Go.RowKit

def idxP (P : Int × Int → Bool) (l : List (Int × Int)) : Int := match l.findIdx? P with | some i => (i : Int) | none => -1
theorem idx_at {P : Int × Int → Bool} {l : List (Int × Int)} {k : Nat} (h : ∀ x ∈ l.take k, P x = false) (hk : k < l.length) (hp : P l[k] = true) : idxP P l = k := by
  unfold idxP
  have : l.findIdx? P = some k := by
    rw [List.findIdx?_eq_some_iff_getElem]
    refine ⟨hk, hp, fun j hj => ?_⟩
    have := h l[j] (by rw [List.mem_take_iff_getElem]; exact ⟨j, by omega, rfl⟩)
    simp [this]
  rw [this]
theorem idx_no {P : Int × Int → Bool} {l : List (Int × Int)} (h : ∀ x ∈ l, P x = false) : idxP P l = -1 := by
  unfold idxP
  have : l.findIdx? P = none := by rw [List.findIdx?_eq_none_iff]; exact h
  rw [this]
theorem idx_any (P : Int × Int → Bool) (l : List (Int × Int)) : decide (0 ≤ idxP P l) = l.any P := by
  unfold idxP
  cases h : l.findIdx? P with
  | none =>
    rw [List.findIdx?_eq_none_iff] at h
    have : l.any P = false := by rw [List.any_eq_false]; intro x hx; simp [h x hx]
    rw [this]
    decide
  | some i =>
    rw [List.findIdx?_eq_some_iff_getElem] at h
    obtain ⟨hi, hp, _⟩ := h
    have : l.any P = true := List.any_eq_true.2 ⟨l[i], List.getElem_mem hi, hp⟩
    rw [this]
    simp
theorem step_no {P : Int × Int → Bool} {l : List (Int × Int)} {k : Nat} (h : ∀ x ∈ l.take k, P x = false) (hk : k < l.length) (hp : P l[k] = false) : ∀ x ∈ l.take (k + 1), P x = false := by
  rw [List.take_succ_eq_append_getElem hk]
  intro x hx
  rcases List.mem_append.1 hx with hx | hx
  · exact h x hx
  · rw [List.mem_singleton.1 hx]; exact hp
end Go.Proofs.YtphhnhldbajaoaaGreatDoor

namespace Go.Proofs.YtphhnhldbajaoaaGreatDoor
open Go.RowKit Go.ChangeShapes Go.WideShapes Go.ChangeAt

/-- A row of Locs that the call made, its block told. -/
def LocP (a : Option Addr) (l : List (Int × Int)) (G : List Nat) (w : World) : Prop :=
  (l = [] ∧ G = []) ∨ ∃ b off, a = some ⟨b, off, none⟩ ∧ G = [b] ∧ b < w.heap.size ∧ ∀ i x, l[i]? = some x → w.cell? ⟨b, off + i * 2, none⟩ = some (.int .i64 x.1) ∧ w.cell? ⟨b, off + i * 2 + 1, none⟩ = some (.int .i64 x.2)
theorem fixed_loc (a : Option Addr) (l : List (Int × Int)) : Fixed (LocP a l) := by
  refine ⟨?_, ?_⟩
  · rintro G S w1 w2 h hc hn
    rcases h with h | ⟨b, off, rfl, rfl, hlt, hx⟩
    · exact .inl h
    · have hb := hc.block b hlt (hn b (by simp))
      refine .inr ⟨b, off, rfl, rfl, Nat.lt_of_lt_of_le hlt hc.size, fun i x hi => ?_⟩
      rw [World.cell?_of_block (a := ⟨b, off + i * 2, none⟩) hb, World.cell?_of_block (a := ⟨b, off + i * 2 + 1, none⟩) hb]
      exact hx i x hi
  · rintro G w (⟨_, rfl⟩ | ⟨b, off, _, rfl, hlt, _⟩) k hk
    · cases hk
    · rw [List.mem_singleton] at hk; rw [hk]; exact hlt
theorem LocP.slP {a : Option Addr} {l : List (Int × Int)} {G : List Nat} {w : World} (h : LocP a l G w) : SlP w a l := by
  intro hne
  rcases h with ⟨h, _⟩ | ⟨b, off, e, _, hlt, hx⟩
  · exact absurd h hne
  · exact ⟨b, off, e, hlt, hx⟩
/-- What a call made joins. -/
theorem One.add {B : Nat} {P Q : List Nat → World → Prop} {b : Nat} {d : DevD} {w w' : World} (hP : Fixed P) (h : One B P b d w) (hb : Below w.heap.size w w') (hq : ∃ G, Q G w' ∧ ∀ k ∈ G, w.heap.size ≤ k) : One B (Both P Q) b d w' := by
  obtain ⟨G2, hq, hg⟩ := hq
  obtain ⟨hz, F, G, h1, h2, h3, h4⟩ := h.keep hP hb
  obtain ⟨hz0, F0, G0, g1, g2, g3, g4⟩ := h
  have hc : Chg [] w w' := Chg.of hb (Nat.le_refl _)
  have hFl := (fixed_dev b d).lt _ _ g1
  have hGl := hP.lt _ _ g2
  refine ⟨hz, F0, G0 ++ G2, (fixed_dev b d).keep _ _ _ _ g1 hc (fun _ _ h => by cases h), ⟨G0, G2, rfl, hP.keep _ _ _ _ g2 hc (fun _ _ h => by cases h), hq, fun k hk hm => ?_⟩, fun k hk => ⟨(g3 k hk).1, fun hm => ?_⟩, fun k hk => ?_⟩
  · have := hGl k hk; have := hg k hm; omega
  · rcases List.mem_append.1 hm with h5 | h5
    · exact (g3 k hk).2 h5
    · have := hFl k hk; have := hg k h5; omega
  · rcases List.mem_append.1 hk with h5 | h5
    · exact g4 k h5
    · exact Nat.le_trans hz0 (hg k h5)
theorem One.row {B : Nat} {P : List Nat → World → Prop} {b : Nat} {d : DevD} {w : World} {a : Option Addr} {l : List (Int × Int)} (h : One B (Both P (LocP a l)) b d w) : SlP w a l := by
  obtain ⟨_, _, _, _, ⟨_, _, _, _, hl, _⟩, _⟩ := h
  exact hl.slP

theorem eq_nil_loc (a : Option Addr) (n c : Nat) (b : Bool) (hb : a.isNone = b) (w : World) : (binOp .eql 24 (.slice a n c) (.slice none 0 0)).run Tryz.prog w = .ok (.bool b) w := by
  rw [← hb]; exact Go.Lib.run_eql_slice_nil w _ _ a n c 0 0 Tryz.underlying24
theorem two_L : TwoT 47 := by unfold TwoT; kernel_rfl

theorem clone_locs (a : Option Addr) (cap : Nat) (l : List (Int × Int)) (w : World) (h : SlP w a l) (hl : l.length ≤ 1000) : Calls Tryz.prog 102 #[.slice a l.length cap] w fun e w' =>
    ∃ a' c', e = .returned (.slice a' l.length c') ∧ (∃ G, LocP a' l G w' ∧ ∀ k ∈ G, w.heap.size ≤ k) ∧ Below w.heap.size w w' := by
  cases a with
  | none =>
    have hn : l = [] := by
      by_cases hne : l = []
      · exact hne
      · obtain ⟨b, off, e, _⟩ := h hne; cases e
    subst hn
    have hq := fun W => eq_nil_loc none 0 cap true rfl W
    go_enter Tryz.func102, Tryz.ntmps102
    go_wp2
    go_ret
    exact ⟨_, _, rfl, ⟨[], .inl ⟨rfl, rfl⟩, fun _ h => by cases h⟩, Below.refl _ _⟩
  | some ad =>
    have HV := Lib.hid h
    have hq := fun W => eq_nil_loc (some ad) l.length cap false rfl W
    clear h
    go_enter Tryz.func102, Tryz.ntmps102
    go_wp2_with (with_reducible refine wp_prsT_more Tryz.underlying24 two_L _ rfl (.tmp 5) (.tmp 6) rfl w.heap.size (.slice (some ⟨w.heap.size, 0, none⟩) 0 0) [] rfl ?c1 (some ad) cap l rfl ?c2 ?c3 ?c4 ?c5)
    case c1 => exact World.ownsRow_made w #[] 0 (Nat.le_refl _) (Nat.zero_le _) (by simp)
    case c2 => exact HV.out.keep ((Below.refl _ _).alloc (Nat.le_refl _) _)
    case c3 => simp; omega
    case c4 => rw [size_alloc]; omega
    intro v' w2 hp hg
    have hb := below_growT ((Below.refl w.heap.size w).alloc (Nat.le_refl _) (.cells #[] 47 (0, 0))) hg (l := []) (show PrsT 47 _ _ _ _ from World.ownsRow_made w #[] 0 (Nat.le_refl _) (Nat.zero_le _) (by simp)) (by rw [size_alloc]; omega)
    have HB := Lib.hid hb
    have HX : Hid (∃ a' c', v' = .slice a' l.length c' ∧ ∃ G, LocP a' l G w2 ∧ ∀ k ∈ G, w.heap.size ≤ k) := by
      rcases hp.view with ⟨rfl, rfl⟩ | ⟨g, c', rfl, _, _, hg0, hgl, hcell⟩
      · exact ⟨none, 0, rfl, [], .inl ⟨rfl, rfl⟩, fun _ h => by cases h⟩
      · by_cases hne : l = []
        · exact ⟨_, _, rfl, [], .inl ⟨hne, rfl⟩, fun _ h => by cases h⟩
        · obtain ⟨b, off, e, hlt, hx⟩ := slP_flatT hgl hcell hne
          exact ⟨_, _, rfl, [g], .inr ⟨g, 0, rfl, rfl, hgl, by injection e with e; injection e with e1 e2; subst e1 e2; exact hx⟩, fun k hk => by rw [List.mem_singleton] at hk; omega⟩
    clear hp hg hb hq
    go_wp2
    go_ret
    obtain ⟨a', c', rfl, hG⟩ := HX.out
    exact ⟨_, _, rfl, hG, HB.out⟩
end Go.Proofs.YtphhnhldbajaoaaGreatDoor
