/-
  Texts put together: Absorb, Pad, Finish.
-/
import Derived.Test.YtopinlnjdgedeaaDoorMix
import Derived.Deep.RegionWith
import Derived.Deep.RegionHeld3
import Derived.Test.YtopinlnjdgedeaaDoorMg0
import Derived.Test.YtopinlnjdgedeaaDoorMg18
import Derived.Deep.DeepCutAuto
namespace Go.Proofs.YtopinlnjdgedeaaDoor
open Go.RowKit

set_option maxRecDepth 100000 in
theorem HAt.below {n : Nat} {w w' : World} {b : Nat} {s : St} (h : HAt w b s) (hb : Below n w w') (hn : b < n) : HAt w' b s := (hb.block b hn).trans h
set_option maxRecDepth 100000 in
theorem setAt {w : World} {b i : Nat} {t : TypeId} {cs cs' : Array Value} {u : Value} (h : w.heap[b]? = some (.cells cs t (0, 0))) (e : cs.setIfInBounds i u = cs') :
    (w.setCell ⟨b, i, none⟩ u).heap[b]? = some (.cells cs' t (0, 0)) := by rw [← e]; exact heap_setCell_same w b i cs t u h

set_option maxRecDepth 100000 in
/-- Eight words stored one behind the other. -/
theorem put8 {w : World} {b : Nat} {s : St} (h : HAt w b s) (v : St) : HAt ((((((((w.setCell ⟨b, 0, none⟩ (.int .u32 (v.a : Nat))).setCell ⟨b, 1, none⟩ (.int .u32 (v.b : Nat))).setCell ⟨b, 2, none⟩ (.int .u32 (v.c : Nat))).setCell ⟨b, 3, none⟩ (.int .u32 (v.d : Nat))).setCell ⟨b, 4, none⟩ (.int .u32 (v.e : Nat))).setCell ⟨b, 5, none⟩ (.int .u32 (v.f : Nat))).setCell ⟨b, 6, none⟩ (.int .u32 (v.g : Nat))).setCell ⟨b, 7, none⟩ (.int .u32 (v.h : Nat))) b v := by
  have h0 := setAt (i := 0) (u := uV v.a) (cs' := #[uV v.a, uV s.b, uV s.c, uV s.d, uV s.e, uV s.f, uV s.g, uV s.h]) h rfl
  have h1 := setAt (i := 1) (u := uV v.b) (cs' := #[uV v.a, uV v.b, uV s.c, uV s.d, uV s.e, uV s.f, uV s.g, uV s.h]) h0 rfl
  have h2 := setAt (i := 2) (u := uV v.c) (cs' := #[uV v.a, uV v.b, uV v.c, uV s.d, uV s.e, uV s.f, uV s.g, uV s.h]) h1 rfl
  have h3 := setAt (i := 3) (u := uV v.d) (cs' := #[uV v.a, uV v.b, uV v.c, uV v.d, uV s.e, uV s.f, uV s.g, uV s.h]) h2 rfl
  have h4 := setAt (i := 4) (u := uV v.e) (cs' := #[uV v.a, uV v.b, uV v.c, uV v.d, uV v.e, uV s.f, uV s.g, uV s.h]) h3 rfl
  have h5 := setAt (i := 5) (u := uV v.f) (cs' := #[uV v.a, uV v.b, uV v.c, uV v.d, uV v.e, uV v.f, uV s.g, uV s.h]) h4 rfl
  have h6 := setAt (i := 6) (u := uV v.g) (cs' := #[uV v.a, uV v.b, uV v.c, uV v.d, uV v.e, uV v.f, uV v.g, uV s.h]) h5 rfl
  have h7 := setAt (i := 7) (u := uV v.h) (cs' := #[uV v.a, uV v.b, uV v.c, uV v.d, uV v.e, uV v.f, uV v.g, uV v.h]) h6 rfl
  exact h7
set_option maxRecDepth 100000 in
theorem put8_other (w : World) (b : Nat) (v : St) (B : Nat) (hB : B ≤ b) : Below B w ((((((((w.setCell ⟨b, 0, none⟩ (.int .u32 (v.a : Nat))).setCell ⟨b, 1, none⟩ (.int .u32 (v.b : Nat))).setCell ⟨b, 2, none⟩ (.int .u32 (v.c : Nat))).setCell ⟨b, 3, none⟩ (.int .u32 (v.d : Nat))).setCell ⟨b, 4, none⟩ (.int .u32 (v.e : Nat))).setCell ⟨b, 5, none⟩ (.int .u32 (v.f : Nat))).setCell ⟨b, 6, none⟩ (.int .u32 (v.g : Nat))).setCell ⟨b, 7, none⟩ (.int .u32 (v.h : Nat))) :=
  (((((((((Below.refl B w).setCell (p := ⟨b, 0, none⟩) hB _).setCell (p := ⟨b, 1, none⟩) hB _).setCell (p := ⟨b, 2, none⟩) hB _).setCell (p := ⟨b, 3, none⟩) hB _).setCell (p := ⟨b, 4, none⟩) hB _).setCell (p := ⟨b, 5, none⟩) hB _).setCell (p := ⟨b, 6, none⟩) hB _).setCell (p := ⟨b, 7, none⟩) hB _)
set_option maxRecDepth 100000 in
theorem put8_far (w : World) (b : Nat) (v : St) (k : Nat) (hk : k ≠ b) : ((((((((w.setCell ⟨b, 0, none⟩ (.int .u32 (v.a : Nat))).setCell ⟨b, 1, none⟩ (.int .u32 (v.b : Nat))).setCell ⟨b, 2, none⟩ (.int .u32 (v.c : Nat))).setCell ⟨b, 3, none⟩ (.int .u32 (v.d : Nat))).setCell ⟨b, 4, none⟩ (.int .u32 (v.e : Nat))).setCell ⟨b, 5, none⟩ (.int .u32 (v.f : Nat))).setCell ⟨b, 6, none⟩ (.int .u32 (v.g : Nat))).setCell ⟨b, 7, none⟩ (.int .u32 (v.h : Nat))).heap[k]? = w.heap[k]? := by
  rw [heap_setCell_other _ _ _ _ hk, heap_setCell_other _ _ _ _ hk, heap_setCell_other _ _ _ _ hk, heap_setCell_other _ _ _ _ hk, heap_setCell_other _ _ _ _ hk, heap_setCell_other _ _ _ _ hk, heap_setCell_other _ _ _ _ hk, heap_setCell_other _ _ _ _ hk]

set_option maxRecDepth 100000 in
theorem mix_lit (s : St) (l : List Nat) (w : World) (hs : s.ok) (hl : l.length = 64) (hw : ∀ x ∈ l, x < 4294967296) (hK : Kt w) :
    Calls Tryd.prog 72 #[.agg #[.int .u32 (s.a : Nat), .int .u32 (s.b : Nat), .int .u32 (s.c : Nat), .int .u32 (s.d : Nat), .int .u32 (s.e : Nat), .int .u32 (s.f : Nat), .int .u32 (s.g : Nat), .int .u32 (s.h : Nat)], .agg (wrow l).toArray] w fun e w' => e = .returned (.agg #[.int .u32 ((mixS s l).a : Nat), .int .u32 ((mixS s l).b : Nat), .int .u32 ((mixS s l).c : Nat), .int .u32 ((mixS s l).d : Nat), .int .u32 ((mixS s l).e : Nat), .int .u32 ((mixS s l).f : Nat), .int .u32 ((mixS s l).g : Nat), .int .u32 ((mixS s l).h : Nat)]) ∧ Below w.heap.size w w' :=
  mix_any s l w hs hl hw hK

set_option maxRecDepth 100000 in
set_option maxHeartbeats 4000000 in
theorem absorb_any (h : St) (s : ByteArray) (w : World) (hh : h.ok) (hK : Kt w) :
    Calls Tryd.prog 58 #[.agg (hrow h).toArray, .string s] w fun e w' => e = .returned (.agg (hrow (absK h s (s.size / 64))).toArray) ∧ Below w.heap.size w w' := by
  have hKp := Lib.hid hK.pos
  have HK := Lib.hid hK
  have HH := Lib.hid hh
  clear hK hh
  go_enter Tryd.func58, Tryd.ntmps58
  go_wp2
  go_loopw [1] (fun v wr => ∃ k : Nat, 64 * k ≤ s.size ∧ v = .string (s.extract (64 * k) s.size) ∧ Hid (HAt wr w.heap.size (absK h s k)) ∧ Hid (HAt wr (w.heap.size + 1) ⟨0, 0, 0, 0, 0, 0, 0, 0⟩) ∧ Hid (Below w.heap.size w wr)) (fun v _ => match v with | .string t => t.size | _ => 0)
  case atStart =>
    exact ⟨0, Nat.zero_le _, by rw [Nat.mul_zero, rest_zero], (heap_alloc2_old w _ _), (heap_alloc2_new w _ _), ((Below.refl _ _).alloc (Nat.le_refl _) _).alloc (by simp) _⟩
  case round =>
    obtain ⟨k, hk, rfl, G1, G3, GB⟩ := hrel
    have hsz : (s.extract (64 * k) s.size).size = s.size - 64 * k := by rw [ByteArray.size_extract]; omega
    have HX := Lib.hid (extract_next s k)
    generalize hx : s.extract (64 * k) s.size = x at *
    have Hx := Lib.hid hx
    clear hx
    by_cases hlt : 64 * (k + 1) ≤ s.size
    · have h64 : 64 ≤ x.size := by omega
      have FK := Lib.hid (HK.out.below GB.out hKp.out)
      have hok := absK_ok s HH.out k
      have hBwr : Hid (w.heap.size < wr.heap.size) := World.block_lt_of_cell? wr _ G1.out.cells.1
      have hBwr1 : Hid (w.heap.size + 1 < wr.heap.size) := World.block_lt_of_cell? wr _ G3.out.cells.1
      have HF : Hid (∀ W1 : World, Below wr.heap.size wr W1 → HAt W1 w.heap.size (absK h s k) ∧ HAt W1 (w.heap.size + 1) ⟨0, 0, 0, 0, 0, 0, 0, 0⟩ ∧ Below w.heap.size w W1 ∧ Kt W1 ∧ wr.heap.size ≤ W1.heap.size) := fun W1 hb =>
        ⟨HAt.below G1.out hb hBwr.out, HAt.below G3.out hb hBwr1.out, GB.out.trans (hb.mono (by have := hBwr.out; omega)), FK.out.below hb (by have := hBwr.out; omega), hb.size⟩
      have hM : Hid (absK h s (k + 1) = mixS (absK h s k) (wk x 64)) := by rw [← Hx.out]; rfl
      generalize absK h s k = st at *
      obtain ⟨c0, c1, c2, c3, c4, c5, c6, c7⟩ := G1.out.cells
      go_wp2_with fail
      go_region_with (first
        | (go_at_call 73; refine (sched_any x _ h64).mono ?_; rintro e w1 ⟨rfl, hb⟩; obtain ⟨g1, g3, gb, gk, gs⟩ := HF.out w1 ⟨hb.os, hb.tape, hb.output, hb.size, hb.block⟩; obtain ⟨d0, d1, d2, d3, d4, d5, d6, d7⟩ := g1.cells; have G1' := Lib.hid g1; have GK' := Lib.hid gk; have GS := Lib.hid gs; have GB' := Lib.hid gb; have G3' := Lib.hid g3; clear hb g1 g3 gb gk gs)
        | (go_at_call 72; refine (mix_lit st _ _ hok (wk_length x 64) (wk_lt x 64) (by exact GK'.out)).mono ?_; rintro e w2 ⟨rfl, hb⟩; have H1 := Lib.hid (HAt.below G1'.out hb (Nat.lt_of_lt_of_le hBwr.out GS.out)); have H3 := Lib.hid (HAt.below G3'.out hb (Nat.lt_of_lt_of_le hBwr1.out GS.out)); have HB := Lib.hid (GB'.out.trans (hb.mono (by have := hBwr.out; have := GS.out; omega))); clear hb d0 d1 d2 d3 d4 d5 d6 d7; obtain ⟨e0, e1, e2, e3, e4, e5, e6, e7⟩ := H1.out.cells; have f0 := H1.out.free 0; have f1 := H1.out.free 1; have f2 := H1.out.free 2; have f3 := H1.out.free 3; have f4 := H1.out.free 4; have f5 := H1.out.free 5; have f6 := H1.out.free 6; have f7 := H1.out.free 7))
      all_goals
        go_wp2
        go_roundw
        case rel => exact ⟨k + 1, by omega, by rw [← HX.out, hsz], by rw [hM.out]; exact put8 H1.out _, (put8_far w2 w.heap.size _ _ (by omega)).trans H3.out, HB.out.trans (put8_other _ _ _ _ (Nat.le_refl _))⟩
        case measure =>
          show (x.extract 64 (s.size - 64 * k)).size < x.size
          rw [ByteArray.size_extract]
          omega
    · have hk' : s.size / 64 = k := by omega
      have hx64 : ¬ 64 ≤ x.size := by omega
      rw [← hk'] at G1
      have hi8 : (Tryd.prog.info? 90).map (·.size) = some (hrow (absK h s (s.size / 64))).toArray.size := hrow_info _
      have hone : (hrow (absK h s (s.size / 64))).toArray.all (·.oneCell') = true := hrow_one _
      have hsz8 : (hrow ⟨0, 0, 0, 0, 0, 0, 0, 0⟩).toArray.size = (hrow (absK h s (s.size / 64))).toArray.size := by rw [hrow_size, hrow_size]
      clear hk hlt hk'
      go_wp2_with (first
        | (refine wpList_load_row rfl 90 (.tmp 2) rfl w.heap.size rfl _ _ _ _ (HAt.raw G1.out) Tryd.underlying90 rfl hi8 ?_)
        | (refine wpList_store_row rfl 90 (.tmp 4) (.tmp 14) rfl (w.heap.size + 1) _ rfl rfl _ _ G3.out hi8 hsz8 hone ?_))
      refine bodyPost_ret (v := .agg (hrow (absK h s (s.size / 64))).toArray) (results_cell_row (p := 4) (ty := 90) rfl _ _ (w.heap.size + 1) 90 _ (0, 0) _ rfl (setRow_heap _ _ _ _ _ _ G3.out) Tryd.underlying90 rfl hi8) rfl ⟨rfl, GB.out.trans (belowRow _ _ _ _ (by omega))⟩
end Go.Proofs.YtopinlnjdgedeaaDoor

namespace Go.Proofs.YtopinlnjdgedeaaDoor
open Go.RowKit

set_option maxRecDepth 100000 in
theorem pad_byte (n k : Nat) : Value.int .u8 ((n : Int) * 8 / 2 ^ (56 - 8 * k) % 256) = byV (UInt8.ofNat (8 * n / 2 ^ (56 - 8 * k))) := by
  unfold byV
  congr 1
  rw [Nat.mul_comm 8 n]
  simp

set_option maxRecDepth 100000 in
set_option maxHeartbeats 1000000 in
theorem padding_any (n : Nat) (w : World) (hn : n ≤ 140737488355328) :
    Calls Tryd.prog 59 #[.int .i64 n] w fun e w' => e = .returned (.string ⟨(padB n).toArray⟩) ∧ Below w.heap.size w w' := by
  go_enter Tryd.func59, Tryd.ntmps59
  go_wp2
  go_loopw [3] (fun v wr => ∃ j : Nat, j ≤ padZ n ∧ lenOf v = 1 + j ∧ Hid (Buf wr w.heap.size v (128 :: List.replicate j 0)) ∧ Hid (Below w.heap.size w wr)) (fun v _ => 66 - lenOf v)
  case atStart =>
    exact ⟨0, Nat.zero_le _, rfl, ⟨rfl, .inr ⟨w.heap.size, 1, #[.int .u8 128], rfl, Nat.le_refl _, heap_alloc_new w _, Nat.le_refl _, by decide, rfl, rfl⟩⟩, (Below.refl _ _).alloc (Nat.le_refl _) _⟩
  case round =>
    obtain ⟨j, hj, hlen, HB, HL⟩ := hrel
    obtain ⟨a, cap, rfl⟩ := HB.out.shape
    have hz := padZ_lt n
    have hd := hz
    have hll : (128 :: List.replicate j (0 : UInt8)).length = 1 + j := by simp; omega
    have hnext := Lib.hid (padRow_succ j)
    rw [hll] at hlen HB ⊢
    have hsz := HL.out.size
    by_cases hlt : j < padZ n
    · have ht := pad_more n j hlt
      generalize 128 :: List.replicate j (0 : UInt8) = row at *
      have hl1 : row.length ≤ 65 := by omega
      clear hll hlen
      go_wp2_with (at_builtin; refine wp_buf_push _ rfl _ _ rfl w.heap.size _ row rfl (HB.out.alloc _) ⟨wr.heap.size, 0, none⟩ 1 1 [0] rfl rfl ?c1 (by omega) (by simp; omega) ?_)
      case c1 =>
        intro i u hi
        match i, hi with
        | 0, hi => simp at hi; subst hi; simp [Addr.add, byV]
      intro v' w' hb' hl'
      rw [hnext.out] at hb'
      have HB' := Lib.hid hb'
      have HL' := Lib.hid (HL.out.trans (((Below.refl _ _).alloc (by omega) _).trans hl'))
      clear hb' hl'
      go_wp2
      go_roundw
      case rel => exact ⟨j + 1, by omega, by rw [HB'.out.len]; simp; omega, HB', HL'⟩
      case measure =>
        have := HB'.out.len
        simp at this
        show 66 - lenOf v' < 66 - (1 + j)
        omega
    · obtain rfl : j = padZ n := by omega
      have ht := pad_done n (padZ n) rfl
      have hrow : Hid (128 :: List.replicate (padZ n) (0 : UInt8) = 128 :: List.replicate (padZ n) 0) := rfl
      have hl1 : (128 :: List.replicate (padZ n) (0 : UInt8)).length ≤ 65 := by omega
      clear hll hlen hnext hj hd
      generalize hgr : 128 :: List.replicate (padZ n) (0 : UInt8) = row at *
      have Hgr := Lib.hid hgr
      clear hgr hrow
      go_wp2
      clear ht
      go_loopw [3, 19] (fun v i wr => ∃ k : Nat, k ≤ 8 ∧ i = .int .i64 k ∧ Hid (Buf wr w.heap.size v (row ++ be8 (8 * n) k)) ∧ Hid (Below w.heap.size w wr)) (fun _ i _ => 8 - (RowKit.intOf i).toNat)
      case atStart => exact ⟨0, Nat.zero_le _, rfl, by simpa [be8] using HB, HL⟩
      case round =>
        clear HB HL hsz
        obtain ⟨k, hk, rfl, HB, HL⟩ := hrel
        have hsz := HL.out.size
        have hb8 := be8_length (8 * n) k
        have hnext := Lib.hid (be8_succ (8 * n) k)
        by_cases hlt : k < 8
        · go_wp2_with (at_builtin; refine wp_buf_push _ rfl _ _ rfl w.heap.size _ (row ++ be8 (8 * n) k) rfl (HB.out.alloc _) ⟨wr.heap.size, 0, none⟩ 1 1 [UInt8.ofNat (8 * n / 2 ^ (56 - 8 * k))] rfl rfl ?c2 (by rw [List.length_append]; omega) (by simp; omega) ?_)
          case c2 =>
            intro i u hi
            match i, hi with
            | 0, hi =>
              simp at hi
              subst hi
              simp [Addr.add]
              exact pad_byte n k
          intro v' w' hb' hl'
          rw [← hnext.out] at hb'
          have HB' := Lib.hid hb'
          have HL' := Lib.hid (HL.out.trans (((Below.refl _ _).alloc (by omega) _).trans hl'))
          clear hb' hl'
          go_wp2
          go_roundw
          case rel => exact ⟨k + 1, by omega, by go_num, HB', HL'⟩
          case measure => simp [RowKit.intOf]; omega
        · have hk8 : k = 8 := by omega
          subst hk8
          have hc := HB.out.text
          have hfin : Hid ((⟨(row ++ be8 (8 * n) 8).toArray⟩ : ByteArray) = ⟨(padB n).toArray⟩) := by show _ = _; rw [← Hgr.out]; rfl
          go_wp2
          go_ret
          exact ⟨ret_str hfin.out, HL.out⟩
end Go.Proofs.YtopinlnjdgedeaaDoor

namespace Go.Proofs.YtopinlnjdgedeaaDoor
open Go.RowKit

set_option maxRecDepth 100000 in
theorem roots_any (w : World) : Calls Tryd.prog 45 #[] w fun e w' => e = .returned (.agg (hrow H0).toArray) ∧ Below w.heap.size w w' := by
  go_enter Tryd.func45, Tryd.ntmps45
  go_wp2_with (refine wpList_store_row rfl 90 (.tmp 0) (.tmp 1) rfl w.heap.size (hrow H0).toArray rfl rfl _ _ (heap_alloc_new w _) (hrow_info _) rfl (hrow_one _) ?_)
  refine bodyPost_ret (v := .agg (hrow H0).toArray) (results_cell_row (p := 0) (ty := 90) rfl _ _ w.heap.size 90 _ (0, 0) _ rfl (setRow_heap _ _ _ _ _ _ (heap_alloc_new w _)) Tryd.underlying90 rfl (hrow_info _)) rfl ⟨rfl, ((Below.refl _ _).alloc (Nat.le_refl _) _).trans (belowRow _ _ _ _ (Nat.le_refl _))⟩

set_option maxRecDepth 100000 in
theorem absorb_lit (h : St) (s : ByteArray) (w : World) (hh : h.ok) (hK : Kt w) :
    Calls Tryd.prog 58 #[.agg #[.int .u32 (h.a : Nat), .int .u32 (h.b : Nat), .int .u32 (h.c : Nat), .int .u32 (h.d : Nat), .int .u32 (h.e : Nat), .int .u32 (h.f : Nat), .int .u32 (h.g : Nat), .int .u32 (h.h : Nat)], .string s] w fun e w' =>
      ∃ st : St, st = absK h s (s.size / 64) ∧ e = .returned (.agg #[.int .u32 (st.a : Nat), .int .u32 (st.b : Nat), .int .u32 (st.c : Nat), .int .u32 (st.d : Nat), .int .u32 (st.e : Nat), .int .u32 (st.f : Nat), .int .u32 (st.g : Nat), .int .u32 (st.h : Nat)]) ∧ Below w.heap.size w w' :=
  (absorb_any h s w hh hK).mono fun _ _ hq => ⟨_, rfl, hq.1, hq.2⟩

set_option maxRecDepth 100000 in
theorem padding_lit (n : Nat) (w : World) (hn : n ≤ 140737488355328) : Calls Tryd.prog 59 #[.int .i64 n] w fun e w' =>
    ∃ pb : ByteArray, pb = ⟨(padB n).toArray⟩ ∧ pb.size ≤ 73 ∧ e = .returned (.string pb) ∧ Below w.heap.size w w' :=
  (padding_any n w hn).mono fun _ _ hq => ⟨_, rfl, by have := padZ_lt n; have := padB_length n; simp only [ByteArray.size, List.size_toArray]; omega, hq.1, hq.2⟩

set_option maxRecDepth 100000 in
theorem index39 (W : World) (s : St) (k : Nat) (hk : k < 8) : (Instr.index 90 (.agg (hrow s).toArray) (.int .i64 (k : Int))).run Tryd.prog W = .ok (.int .u32 (s.list.getD k 0 : Nat)) W :=
  run_index_arr W _ 88 8 _ _ _ Tryd.underlying90 (agg32 W) (size32 W) (by omega) (by
    have hl : k < s.list.length := by simpa [St.list] using hk
    rw [List.getElem?_toArray, hrow_list, Int.toNat_natCast, List.getElem?_map, List.getD, List.getElem?_eq_getElem hl]
    rfl)
set_option maxRecDepth 100000 in
set_option maxHeartbeats 4000000 in
theorem finish_any (h : St) (s : ByteArray) (n : Nat) (w : World) (hh : h.ok) (hn : n ≤ 140737488355328) (hs : s.size ≤ 140737488355328) (hK : Kt w) :
    Calls Tryd.prog 44 #[.agg (hrow h).toArray, .string s, .int .i64 n] w fun e w' => e = .returned (.string ⟨(digest (finS h s n)).toArray⟩) ∧ Below w.heap.size w w' := by
  have hKp := Lib.hid hK.pos
  have HK := Lib.hid hK
  have HH := Lib.hid hh
  clear hK hh
  go_enter Tryd.func44, Tryd.ntmps44
  go_upto_region 2 with (fail)
  have hB0 : Hid (w.heap.size < (w.alloc (.cells (hrow h).toArray 90)).heap.size) := by show _ < _; simp
  have G0 : Hid (HAt (w.alloc (.cells (hrow h).toArray 90)) w.heap.size h) := heap_alloc_new w _
  have GB0 : Hid (Below w.heap.size w (w.alloc (.cells (hrow h).toArray 90))) := (Below.refl _ _).alloc (Nat.le_refl _) _
  have K0 := Lib.hid (HK.out.below GB0.out hKp.out)
  generalize w.alloc (.cells (hrow h).toArray 90) = W0 at *
  have hfull : ((s.size : Int) - (s.size : Int) % 64) = (fullN s : Nat) := by unfold fullN; omega
  have hfl : fullN s ≤ s.size := Nat.sub_le _ _
  rw [hfull]
  clear hfull
  go_cut [17] (fun s17 wx => Hid (HAt wx w.heap.size (fin1 h s)) ∧ Hid (Below w.heap.size w wx) ∧ Hid (Kt wx))
  case first =>
    obtain ⟨c0, c1, c2, c3, c4, c5, c6, c7⟩ := G0.out.cells
    go_region_with (first
      | (go_at_call 58; refine (absorb_lit h _ _ HH.out (by exact K0.out)).mono ?_; rintro e w1 ⟨st, hst, rfl, hb⟩; have H1 := Lib.hid (HAt.below G0.out (show Below W0.heap.size W0 w1 from ⟨hb.os, hb.tape, hb.output, hb.size, hb.block⟩) hB0.out); have HB := Lib.hid (GB0.out.trans (Below.mono (show Below W0.heap.size W0 w1 from ⟨hb.os, hb.tape, hb.output, hb.size, hb.block⟩) (Nat.le_of_lt hB0.out))); have Hst := Lib.hid hst; clear hb hst c0 c1 c2 c3 c4 c5 c6 c7; obtain ⟨e0, e1, e2, e3, e4, e5, e6, e7⟩ := H1.out.cells; have f0 := H1.out.free 0; have f1 := H1.out.free 1; have f2 := H1.out.free 2; have f3 := H1.out.free 3; have f4 := H1.out.free 4; have f5 := H1.out.free 5; have f6 := H1.out.free 6; have f7 := H1.out.free 7))
    all_goals
      go_wp2_with fail
      go_meet
      have hfin : fin1 h s = st := Hst.out.symm
      exact ⟨by rw [hfin]; exact put8 H1.out st, HB.out.trans (put8_other _ _ _ _ (Nat.le_refl _)), HK.out.below (HB.out.trans (put8_other _ _ _ _ (Nat.le_refl _))) hKp.out⟩
  case rest =>
    clear G0 GB0 K0 hB0
    obtain ⟨wx, rfl⟩ : ∃ wx : World, wx = wc := ⟨_, rfl⟩
    obtain ⟨G0, GB0, K0⟩ := hcut
    have hB0 : Hid (w.heap.size < wx.heap.size) := World.block_lt_of_cell? wx _ G0.out.cells.1
    have HF1 : Hid (fin1 h s).ok := absK_ok _ HH.out _
    have hxs : (s.extract (fullN s) s.size).size ≤ 140737488355328 := by rw [ByteArray.size_extract]; omega
    have HLB : Hid (lastB s n = s.extract (fullN s) s.size ++ ⟨(padB n).toArray⟩) := rfl
    have HFS : Hid (finS h s n = absK (fin1 h s) (lastB s n) ((lastB s n).size / 64)) := rfl
    generalize fin1 h s = h1 at *
    have HDG : Hid (digest (finS h s n) = digK (finS h s n) 8) := rfl
    generalize hgen : finS h s n = fs at *
    rw [← hgen] at HDG
    have HGEN := Lib.hid hgen
    clear hgen
    go_upto_region 3 with (fail)
    go_cut [17] (fun s17 wx => Hid (HAt wx w.heap.size fs) ∧ Hid (Below w.heap.size w wx))
    case first =>
      obtain ⟨c0, c1, c2, c3, c4, c5, c6, c7⟩ := G0.out.cells
      go_region_with (first
        | (go_at_call 59; refine (padding_lit n _ hn).mono ?_; rintro e w1 ⟨pb, hpb, hpz, rfl, hb⟩; have HPB := Lib.hid hpb; clear hpb; have H1 := Lib.hid (HAt.below G0.out (show Below wx.heap.size wx w1 from ⟨hb.os, hb.tape, hb.output, hb.size, hb.block⟩) hB0.out); have HS1 := Lib.hid hb.size; have HB := Lib.hid (GB0.out.trans (Below.mono (show Below wx.heap.size wx w1 from ⟨hb.os, hb.tape, hb.output, hb.size, hb.block⟩) (Nat.le_of_lt hB0.out))); have HK1 := Lib.hid (K0.out.below (show Below wx.heap.size wx w1 from ⟨hb.os, hb.tape, hb.output, hb.size, hb.block⟩) (Nat.lt_trans hKp.out hB0.out)); clear hb; obtain ⟨d0, d1, d2, d3, d4, d5, d6, d7⟩ := H1.out.cells)
        | (go_at_call 58; refine (absorb_lit h1 _ _ HF1.out (by exact HK1.out)).mono ?_; rintro e w2 ⟨st, hst, rfl, hb⟩; have H2 := Lib.hid (HAt.below H1.out hb (Nat.lt_of_lt_of_le hB0.out HS1.out)); have HB2 := Lib.hid (HB.out.trans (hb.mono (Nat.le_trans (Nat.le_of_lt hB0.out) HS1.out))); have Hst := Lib.hid hst; clear hb hst c0 c1 c2 c3 c4 c5 c6 c7 d0 d1 d2 d3 d4 d5 d6 d7; obtain ⟨e0, e1, e2, e3, e4, e5, e6, e7⟩ := H2.out.cells; have f0 := H2.out.free 0; have f1 := H2.out.free 1; have f2 := H2.out.free 2; have f3 := H2.out.free 3; have f4 := H2.out.free 4; have f5 := H2.out.free 5; have f6 := H2.out.free 6; have f7 := H2.out.free 7))
      all_goals
        go_wp2_with fail
        go_meet
        have hfin : fs = st := by rw [HFS.out, HLB.out, ← HPB.out]; exact Hst.out.symm
        exact ⟨by rw [hfin]; exact put8 H2.out st, HB2.out.trans (put8_other _ _ _ _ (Nat.le_refl _))⟩
    case rest =>
      clear G0 GB0 K0 hB0
      obtain ⟨wy, rfl⟩ : ∃ wy : World, wy = wc := ⟨_, rfl⟩
      obtain ⟨G0, GB0⟩ := hcut
      have hB0 : Hid (w.heap.size < wy.heap.size) := World.block_lt_of_cell? wy _ G0.out.cells.1
      have HFO : Hid fs.ok := by rw [HFS.out]; exact absK_ok _ HF1.out _
      go_wp2_with (at_make; refine wp_buf_make _ rfl _ _ rfl (w.heap.size + 1) .i64 .i64 32 32 rfl rfl rfl (by omega) hB0.out ?_)
      intro v1 w1 hb hl
      have G1 := Lib.hid (HAt.below G0.out hl (Nat.lt_succ_self _))
      have HB := Lib.hid hb
      have GB1 := Lib.hid (GB0.out.trans (hl.mono (Nat.le_succ _)))
      have HZ := Lib.hid (Nat.le_trans hB0.out hl.size)
      clear hb hl G0 GB0 hB0
      go_wp2_with (refine wpList_load_row rfl 90 (.tmp 3) rfl w.heap.size rfl _ _ _ _ (HAt.raw G1.out) Tryd.underlying90 rfl (hrow_info _) ?_)
      go_loopw [8, 32] (fun v i wr => ∃ k : Nat, k ≤ 8 ∧ i = .int .i64 k ∧ Hid (Buf wr (w.heap.size + 1) v (digK fs k)) ∧ Hid (Below w.heap.size w wr) ∧ Hid (w.heap.size + 1 ≤ wr.heap.size)) (fun _ i _ => 8 - (RowKit.intOf i).toNat)
      case atStart => exact ⟨0, Nat.zero_le _, rfl, HB, GB1, HZ⟩
      case round =>
        clear HB GB1 HZ
        obtain ⟨k, hk, rfl, HB, HL, HZ⟩ := hrel
        by_cases hlt : k < 8
        · have hidx := fun W => index39 W fs k hlt
          have hx := list_lt HFO.out k
          have hnext := Lib.hid (digK_succ fs k hlt)
          have hdl := digK_length fs k hk
          have hz := HZ.out
          generalize fs.list.getD k 0 = x at *
          go_wp2_with (at_builtin; refine wp_buf_push _ rfl _ _ rfl (w.heap.size + 1) _ (digK fs k) rfl (HB.out.alloc _) ⟨wr.heap.size, 0, none⟩ 4 4 (digB x) rfl rfl ?c1 (by omega) (by simp; omega) ?_)
          case c1 =>
            intro i u hi
            match i, hi with
            | 0, hi => simp [digB] at hi; subst hi; simp [Addr.add, byV]; omega
            | 1, hi => simp [digB] at hi; subst hi; simp [Addr.add, byV]
            | 2, hi => simp [digB] at hi; subst hi; simp [Addr.add, byV]
            | 3, hi => simp [digB] at hi; subst hi; simp [Addr.add, byV]
            | _ + 4, hi => simp [digB] at hi
          intro v' w' hb' hl'
          rw [← hnext.out] at hb'
          have HB' := Lib.hid hb'
          have HL' := Lib.hid (HL.out.trans (((Below.refl _ _).alloc (by omega) _).trans (hl'.mono (Nat.le_succ _))))
          have HZ' : Hid (w.heap.size + 1 ≤ w'.heap.size) := by have h1 := hl'.size; simp at h1; show _ ≤ _; omega
          clear hb' hl'
          go_wp2
          go_roundw
          case rel => exact ⟨k + 1, by omega, by go_num, HB', HL', HZ'⟩
          case measure => simp [RowKit.intOf]; omega
        · have hk8 : k = 8 := by omega
          subst hk8
          have hc := HB.out.text
          have hfin : Hid ((⟨(digK fs 8).toArray⟩ : ByteArray) = ⟨(digest (finS h s n)).toArray⟩) := by show _ = _; rw [HGEN.out]; rfl
          go_wp2
          go_ret
          exact ⟨ret_str hfin.out, HL.out⟩
set_option maxRecDepth 100000 in
theorem of_any (s : ByteArray) (w : World) (hs : s.size ≤ 140737488355328) (hK : Kt w) :
    Calls Tryd.prog 30 #[.string s] w fun e w' => e = .returned (.string (sha s)) ∧ Below w.heap.size w w' := by
  have HK := Lib.hid hK
  have HP := Lib.hid hK.pos
  clear hK
  go_enter Tryd.func30, Tryd.ntmps30
  go_wp2_with fail
  refine (roots_any _).mono ?_
  rintro e w1 ⟨rfl, hb⟩
  have H1 := Lib.hid hb
  have K1 := Lib.hid (HK.out.below hb HP.out)
  clear hb
  go_wp2_with fail
  refine (finish_any H0 s s.size _ H0_ok hs hs K1.out).mono ?_
  rintro e w2 ⟨rfl, hb⟩
  have H2 := Lib.hid (H1.out.trans (hb.mono H1.out.size))
  clear hb
  have HS : Hid ((⟨(digest (finS H0 s s.size)).toArray⟩ : ByteArray) = sha s) := rfl
  rw [HS.out]
  go_wp2
  go_ret
  exact ⟨rfl, H2.out⟩
end Go.Proofs.YtopinlnjdgedeaaDoor
