/-
  Texts put together: Absorb, Pad.
-/
import Derived.Test.YtopinlnjdgedeaaDoorMix
import Derived.Deep.RegionWith
import Derived.Deep.RegionHeld3
import Derived.Test.YtopinlnjdgedeaaDoorMg1
import Derived.Test.YtopinlnjdgedeaaDoorMg19
namespace Go.Proofs.YtopinlnjdgedeaaDoor
open Go.RowKit

set_option maxRecDepth 100000 in
theorem HAt.below {n : Nat} {w w' : World} {b : Nat} {s : St} (h : HAt w b s) (hb : Below n w w') (hn : b < n) : HAt w' b s := (hb.block b hn).trans h
set_option maxRecDepth 100000 in
theorem setAt {w : World} {b i : Nat} {t : TypeId} {cs cs' : Array Value} {u : Value} (h : w.heap[b]? = some (.cells cs t (0, 0))) (e : cs.setIfInBounds i u = cs') :
    (w.setCell ⟨b, i, none⟩ u).heap[b]? = some (.cells cs' t (0, 0)) := by rw [← e]; exact heap_setCell_same w b i cs t u h

set_option maxRecDepth 100000 in
/-- Eight words stored one behind the other. -/
theorem put8 {w : World} {b : Nat} {s : St} (h : HAt w b s) (v : St) : HAt ((((((((w.setCell ⟨b, 0, none⟩ (.int .u32 (v.a : Nat))).setCell ⟨b, 1, none⟩ (.int .u32 (v.b : Nat))).setCell ⟨b, 2, none⟩ (.int .u32 (v.c : Nat))).setCell ⟨b, 3, none⟩ (.int .u32 (v.d : Nat))).setCell ⟨b, 4, none⟩ (.int .u32 (v.e : Nat))).setCell ⟨b, 5, none⟩ (.int .u32 (v.f : Nat))).setCell ⟨b, 6, none⟩ (.int .u32 (v.g : Nat))).setCell ⟨b, 7, none⟩ (.int .u32 (v.h : Nat))) b v := by
  have h0 := setAt (i := 0) (u := uV v.a) (cs' := #[uV v.a, uV s.b, uV s.c, uV s.d, uV s.e, uV s.f, uV s.g, uV s.h]) h rfl
  have h1 := setAt (i := 1) (u := uV v.b) (cs' := #[uV v.a, uV v.b, uV s.c, uV s.d, uV s.e, uV s.f, uV s.g, uV s.h]) h0 rfl
  have h2 := setAt (i := 2) (u := uV v.c) (cs' := #[uV v.a, uV v.b, uV v.c, uV s.d, uV s.e, uV s.f, uV s.g, uV s.h]) h1 rfl
  have h3 := setAt (i := 3) (u := uV v.d) (cs' := #[uV v.a, uV v.b, uV v.c, uV v.d, uV s.e, uV s.f, uV s.g, uV s.h]) h2 rfl
  have h4 := setAt (i := 4) (u := uV v.e) (cs' := #[uV v.a, uV v.b, uV v.c, uV v.d, uV v.e, uV s.f, uV s.g, uV s.h]) h3 rfl
  have h5 := setAt (i := 5) (u := uV v.f) (cs' := #[uV v.a, uV v.b, uV v.c, uV v.d, uV v.e, uV v.f, uV s.g, uV s.h]) h4 rfl
  have h6 := setAt (i := 6) (u := uV v.g) (cs' := #[uV v.a, uV v.b, uV v.c, uV v.d, uV v.e, uV v.f, uV v.g, uV s.h]) h5 rfl
  have h7 := setAt (i := 7) (u := uV v.h) (cs' := #[uV v.a, uV v.b, uV v.c, uV v.d, uV v.e, uV v.f, uV v.g, uV v.h]) h6 rfl
  exact h7
set_option maxRecDepth 100000 in
theorem put8_other (w : World) (b : Nat) (v : St) (B : Nat) (hB : B ≤ b) : Below B w ((((((((w.setCell ⟨b, 0, none⟩ (.int .u32 (v.a : Nat))).setCell ⟨b, 1, none⟩ (.int .u32 (v.b : Nat))).setCell ⟨b, 2, none⟩ (.int .u32 (v.c : Nat))).setCell ⟨b, 3, none⟩ (.int .u32 (v.d : Nat))).setCell ⟨b, 4, none⟩ (.int .u32 (v.e : Nat))).setCell ⟨b, 5, none⟩ (.int .u32 (v.f : Nat))).setCell ⟨b, 6, none⟩ (.int .u32 (v.g : Nat))).setCell ⟨b, 7, none⟩ (.int .u32 (v.h : Nat))) :=
  (((((((((Below.refl B w).setCell (p := ⟨b, 0, none⟩) hB _).setCell (p := ⟨b, 1, none⟩) hB _).setCell (p := ⟨b, 2, none⟩) hB _).setCell (p := ⟨b, 3, none⟩) hB _).setCell (p := ⟨b, 4, none⟩) hB _).setCell (p := ⟨b, 5, none⟩) hB _).setCell (p := ⟨b, 6, none⟩) hB _).setCell (p := ⟨b, 7, none⟩) hB _)
set_option maxRecDepth 100000 in
theorem put8_far (w : World) (b : Nat) (v : St) (k : Nat) (hk : k ≠ b) : ((((((((w.setCell ⟨b, 0, none⟩ (.int .u32 (v.a : Nat))).setCell ⟨b, 1, none⟩ (.int .u32 (v.b : Nat))).setCell ⟨b, 2, none⟩ (.int .u32 (v.c : Nat))).setCell ⟨b, 3, none⟩ (.int .u32 (v.d : Nat))).setCell ⟨b, 4, none⟩ (.int .u32 (v.e : Nat))).setCell ⟨b, 5, none⟩ (.int .u32 (v.f : Nat))).setCell ⟨b, 6, none⟩ (.int .u32 (v.g : Nat))).setCell ⟨b, 7, none⟩ (.int .u32 (v.h : Nat))).heap[k]? = w.heap[k]? := by
  rw [heap_setCell_other _ _ _ _ hk, heap_setCell_other _ _ _ _ hk, heap_setCell_other _ _ _ _ hk, heap_setCell_other _ _ _ _ hk, heap_setCell_other _ _ _ _ hk, heap_setCell_other _ _ _ _ hk, heap_setCell_other _ _ _ _ hk, heap_setCell_other _ _ _ _ hk]

set_option maxRecDepth 100000 in
theorem mix_lit (s : St) (l : List Nat) (w : World) (hs : s.ok) (hl : l.length = 64) (hw : ∀ x ∈ l, x < 4294967296) (hK : Kt w) :
    Calls Tryd.prog 72 #[.agg #[.int .u32 (s.a : Nat), .int .u32 (s.b : Nat), .int .u32 (s.c : Nat), .int .u32 (s.d : Nat), .int .u32 (s.e : Nat), .int .u32 (s.f : Nat), .int .u32 (s.g : Nat), .int .u32 (s.h : Nat)], .agg (wrow l).toArray] w fun e w' => e = .returned (.agg #[.int .u32 ((mixS s l).a : Nat), .int .u32 ((mixS s l).b : Nat), .int .u32 ((mixS s l).c : Nat), .int .u32 ((mixS s l).d : Nat), .int .u32 ((mixS s l).e : Nat), .int .u32 ((mixS s l).f : Nat), .int .u32 ((mixS s l).g : Nat), .int .u32 ((mixS s l).h : Nat)]) ∧ Below w.heap.size w w' :=
  mix_any s l w hs hl hw hK

set_option maxRecDepth 100000 in
set_option maxHeartbeats 4000000 in
theorem absorb_any (h : St) (s : ByteArray) (w : World) (hh : h.ok) (hK : Kt w) :
    Calls Tryd.prog 58 #[.agg (hrow h).toArray, .string s] w fun e w' => e = .returned (.agg (hrow (absK h s (s.size / 64))).toArray) ∧ Below w.heap.size w w' := by
  have hKp := Lib.hid hK.pos
  have HK := Lib.hid hK
  have HH := Lib.hid hh
  clear hK hh
  go_enter Tryd.func58, Tryd.ntmps58
  go_wp2
  go_loopw [1] (fun v wr => ∃ k : Nat, 64 * k ≤ s.size ∧ v = .string (s.extract (64 * k) s.size) ∧ Hid (HAt wr w.heap.size (absK h s k)) ∧ Hid (HAt wr (w.heap.size + 1) ⟨0, 0, 0, 0, 0, 0, 0, 0⟩) ∧ Hid (Below w.heap.size w wr)) (fun v _ => match v with | .string t => t.size | _ => 0)
  case atStart =>
    exact ⟨0, Nat.zero_le _, by rw [Nat.mul_zero, rest_zero], (heap_alloc2_old w _ _), (heap_alloc2_new w _ _), ((Below.refl _ _).alloc (Nat.le_refl _) _).alloc (by simp) _⟩
  case round =>
    obtain ⟨k, hk, rfl, G1, G3, GB⟩ := hrel
    have hsz : (s.extract (64 * k) s.size).size = s.size - 64 * k := by rw [ByteArray.size_extract]; omega
    have HX := Lib.hid (extract_next s k)
    generalize hx : s.extract (64 * k) s.size = x at *
    have Hx := Lib.hid hx
    clear hx
    by_cases hlt : 64 * (k + 1) ≤ s.size
    · have h64 : 64 ≤ x.size := by omega
      have FK := Lib.hid (HK.out.below GB.out hKp.out)
      have hok := absK_ok s HH.out k
      have hBwr : Hid (w.heap.size < wr.heap.size) := World.block_lt_of_cell? wr _ G1.out.cells.1
      have hBwr1 : Hid (w.heap.size + 1 < wr.heap.size) := World.block_lt_of_cell? wr _ G3.out.cells.1
      have HF : Hid (∀ W1 : World, Below wr.heap.size wr W1 → HAt W1 w.heap.size (absK h s k) ∧ HAt W1 (w.heap.size + 1) ⟨0, 0, 0, 0, 0, 0, 0, 0⟩ ∧ Below w.heap.size w W1 ∧ Kt W1 ∧ wr.heap.size ≤ W1.heap.size) := fun W1 hb =>
        ⟨HAt.below G1.out hb hBwr.out, HAt.below G3.out hb hBwr1.out, GB.out.trans (hb.mono (by have := hBwr.out; omega)), FK.out.below hb (by have := hBwr.out; omega), hb.size⟩
      have hM : Hid (absK h s (k + 1) = mixS (absK h s k) (wk x 64)) := by rw [← Hx.out]; rfl
      generalize absK h s k = st at *
      obtain ⟨c0, c1, c2, c3, c4, c5, c6, c7⟩ := G1.out.cells
      go_wp2_with fail
      go_region_with (first
        | (go_at_call 73; refine (sched_any x _ h64).mono ?_; rintro e w1 ⟨rfl, hb⟩; obtain ⟨g1, g3, gb, gk, gs⟩ := HF.out w1 ⟨hb.os, hb.tape, hb.output, hb.size, hb.block⟩; obtain ⟨d0, d1, d2, d3, d4, d5, d6, d7⟩ := g1.cells; have G1' := Lib.hid g1; have GK' := Lib.hid gk; have GS := Lib.hid gs; have GB' := Lib.hid gb; have G3' := Lib.hid g3; clear hb g1 g3 gb gk gs)
        | (go_at_call 72; refine (mix_lit st _ _ hok (wk_length x 64) (wk_lt x 64) (by exact GK'.out)).mono ?_; rintro e w2 ⟨rfl, hb⟩; have H1 := Lib.hid (HAt.below G1'.out hb (Nat.lt_of_lt_of_le hBwr.out GS.out)); have H3 := Lib.hid (HAt.below G3'.out hb (Nat.lt_of_lt_of_le hBwr1.out GS.out)); have HB := Lib.hid (GB'.out.trans (hb.mono (by have := hBwr.out; have := GS.out; omega))); clear hb d0 d1 d2 d3 d4 d5 d6 d7; obtain ⟨e0, e1, e2, e3, e4, e5, e6, e7⟩ := H1.out.cells; have f0 := H1.out.free 0; have f1 := H1.out.free 1; have f2 := H1.out.free 2; have f3 := H1.out.free 3; have f4 := H1.out.free 4; have f5 := H1.out.free 5; have f6 := H1.out.free 6; have f7 := H1.out.free 7))
      all_goals
        go_wp2
        go_roundw
        case rel => exact ⟨k + 1, by omega, by rw [← HX.out, hsz], by rw [hM.out]; exact put8 H1.out _, (put8_far w2 w.heap.size _ _ (by omega)).trans H3.out, HB.out.trans (put8_other _ _ _ _ (Nat.le_refl _))⟩
        case measure =>
          show (x.extract 64 (s.size - 64 * k)).size < x.size
          rw [ByteArray.size_extract]
          omega
    · have hk' : s.size / 64 = k := by omega
      have hx64 : ¬ 64 ≤ x.size := by omega
      rw [← hk'] at G1
      have hi8 : (Tryd.prog.info? 90).map (·.size) = some (hrow (absK h s (s.size / 64))).toArray.size := hrow_info _
      have hone : (hrow (absK h s (s.size / 64))).toArray.all (·.oneCell') = true := hrow_one _
      have hsz8 : (hrow ⟨0, 0, 0, 0, 0, 0, 0, 0⟩).toArray.size = (hrow (absK h s (s.size / 64))).toArray.size := by rw [hrow_size, hrow_size]
      clear hk hlt hk'
      go_wp2_with (first
        | (refine wpList_load_row rfl 90 (.tmp 2) rfl w.heap.size rfl _ _ _ _ (HAt.raw G1.out) Tryd.underlying90 rfl hi8 ?_)
        | (refine wpList_store_row rfl 90 (.tmp 4) (.tmp 14) rfl (w.heap.size + 1) _ rfl rfl _ _ G3.out hi8 hsz8 hone ?_))
      refine bodyPost_ret (v := .agg (hrow (absK h s (s.size / 64))).toArray) (results_cell_row (p := 4) (ty := 90) rfl _ _ (w.heap.size + 1) 90 _ (0, 0) _ rfl (setRow_heap _ _ _ _ _ _ G3.out) Tryd.underlying90 rfl hi8) rfl ⟨rfl, GB.out.trans (belowRow _ _ _ _ (by omega))⟩
end Go.Proofs.YtopinlnjdgedeaaDoor

namespace Go.Proofs.YtopinlnjdgedeaaDoor
open Go.RowKit

set_option maxRecDepth 100000 in
theorem pad_byte (n k : Nat) : Value.int .u8 ((n : Int) * 8 / 2 ^ (56 - 8 * k) % 256) = byV (UInt8.ofNat (8 * n / 2 ^ (56 - 8 * k))) := by
  unfold byV
  congr 1
  rw [Nat.mul_comm 8 n]
  simp

set_option maxRecDepth 100000 in
set_option maxHeartbeats 1000000 in
theorem padding_any (n : Nat) (w : World) (hn : n ≤ 140737488355328) :
    Calls Tryd.prog 59 #[.int .i64 n] w fun e w' => e = .returned (.string ⟨(padB n).toArray⟩) ∧ Below w.heap.size w w' := by
  go_enter Tryd.func59, Tryd.ntmps59
  go_wp2
  go_loopw [3] (fun v wr => ∃ j : Nat, j ≤ padZ n ∧ lenOf v = 1 + j ∧ Hid (Buf wr w.heap.size v (128 :: List.replicate j 0)) ∧ Hid (Below w.heap.size w wr)) (fun v _ => 66 - lenOf v)
  case atStart =>
    exact ⟨0, Nat.zero_le _, rfl, ⟨rfl, .inr ⟨w.heap.size, 1, #[.int .u8 128], rfl, Nat.le_refl _, heap_alloc_new w _, Nat.le_refl _, by decide, rfl, rfl⟩⟩, (Below.refl _ _).alloc (Nat.le_refl _) _⟩
  case round =>
    obtain ⟨j, hj, hlen, HB, HL⟩ := hrel
    obtain ⟨a, cap, rfl⟩ := HB.out.shape
    have hz := padZ_lt n
    have hd := hz
    have hll : (128 :: List.replicate j (0 : UInt8)).length = 1 + j := by simp; omega
    have hnext := Lib.hid (padRow_succ j)
    rw [hll] at hlen HB ⊢
    have hsz := HL.out.size
    by_cases hlt : j < padZ n
    · have ht := pad_more n j hlt
      generalize 128 :: List.replicate j (0 : UInt8) = row at *
      have hl1 : row.length ≤ 65 := by omega
      clear hll hlen
      go_wp2_with (at_builtin; refine wp_buf_push _ rfl _ _ rfl w.heap.size _ row rfl (HB.out.alloc _) ⟨wr.heap.size, 0, none⟩ 1 1 [0] rfl rfl ?c1 (by omega) (by simp; omega) ?_)
      case c1 =>
        intro i u hi
        match i, hi with
        | 0, hi => simp at hi; subst hi; simp [Addr.add, byV]
      intro v' w' hb' hl'
      rw [hnext.out] at hb'
      have HB' := Lib.hid hb'
      have HL' := Lib.hid (HL.out.trans (((Below.refl _ _).alloc (by omega) _).trans hl'))
      clear hb' hl'
      go_wp2
      go_roundw
      case rel => exact ⟨j + 1, by omega, by rw [HB'.out.len]; simp; omega, HB', HL'⟩
      case measure =>
        have := HB'.out.len
        simp at this
        show 66 - lenOf v' < 66 - (1 + j)
        omega
    · obtain rfl : j = padZ n := by omega
      have ht := pad_done n (padZ n) rfl
      have hrow : Hid (128 :: List.replicate (padZ n) (0 : UInt8) = 128 :: List.replicate (padZ n) 0) := rfl
      have hl1 : (128 :: List.replicate (padZ n) (0 : UInt8)).length ≤ 65 := by omega
      clear hll hlen hnext hj hd
      generalize hgr : 128 :: List.replicate (padZ n) (0 : UInt8) = row at *
      have Hgr := Lib.hid hgr
      clear hgr hrow
      go_wp2
      clear ht
      go_loopw [3, 19] (fun v i wr => ∃ k : Nat, k ≤ 8 ∧ i = .int .i64 k ∧ Hid (Buf wr w.heap.size v (row ++ be8 (8 * n) k)) ∧ Hid (Below w.heap.size w wr)) (fun _ i _ => 8 - (RowKit.intOf i).toNat)
      case atStart => exact ⟨0, Nat.zero_le _, rfl, by simpa [be8] using HB, HL⟩
      case round =>
        clear HB HL hsz
        obtain ⟨k, hk, rfl, HB, HL⟩ := hrel
        have hsz := HL.out.size
        have hb8 := be8_length (8 * n) k
        have hnext := Lib.hid (be8_succ (8 * n) k)
        by_cases hlt : k < 8
        · go_wp2_with (at_builtin; refine wp_buf_push _ rfl _ _ rfl w.heap.size _ (row ++ be8 (8 * n) k) rfl (HB.out.alloc _) ⟨wr.heap.size, 0, none⟩ 1 1 [UInt8.ofNat (8 * n / 2 ^ (56 - 8 * k))] rfl rfl ?c2 (by rw [List.length_append]; omega) (by simp; omega) ?_)
          case c2 =>
            intro i u hi
            match i, hi with
            | 0, hi =>
              simp at hi
              subst hi
              simp [Addr.add]
              exact pad_byte n k
          intro v' w' hb' hl'
          rw [← hnext.out] at hb'
          have HB' := Lib.hid hb'
          have HL' := Lib.hid (HL.out.trans (((Below.refl _ _).alloc (by omega) _).trans hl'))
          clear hb' hl'
          go_wp2
          go_roundw
          case rel => exact ⟨k + 1, by omega, by go_num, HB', HL'⟩
          case measure => simp [RowKit.intOf]; omega
        · have hk8 : k = 8 := by omega
          subst hk8
          have hc := HB.out.text
          have hfin : Hid ((⟨(row ++ be8 (8 * n) 8).toArray⟩ : ByteArray) = ⟨(padB n).toArray⟩) := by show _ = _; rw [← Hgr.out]; rfl
          go_wp2
          go_ret
          exact ⟨ret_str hfin.out, HL.out⟩
end Go.Proofs.YtopinlnjdgedeaaDoor
