/-
  The contract of mix.
-/
import Derived.Test.YtopinlnjdgedeaaDoorMg20
namespace Go.Proofs.YtopinlnjdgedeaaDoor
open Go.RowKit

/-- The package variable holds the cube roots' words. -/
def Kt (w : World) : Prop := ∀ t, t < 64 → w.cell? ⟨0, t, none⟩ = some (.int .u32 (kTab.getD t 0 : Nat))
theorem Kt.pos {w : World} (h : Kt w) : 0 < w.heap.size := World.block_lt_of_cell? w _ (h 0 (by decide))
theorem Kt.below {B : Nat} {w w' : World} (h : Kt w) (hb : Below B w w') (hB : 0 < B) : Kt w' := fun t ht => (hb.cell (p := ⟨0, t, none⟩) hB).trans (h t ht)

/-- Block b is an array of eight words. -/
def HAt (w : World) (b : Nat) (s : St) : Prop := w.heap[b]? = some (.cells (hrow s).toArray 90 (0, 0))
theorem HAt.cells {w : World} {b : Nat} {s : St} (h : HAt w b s) :
    w.cell? ⟨b, 0, none⟩ = some (.int .u32 s.a) ∧ w.cell? ⟨b, 1, none⟩ = some (.int .u32 s.b) ∧ w.cell? ⟨b, 2, none⟩ = some (.int .u32 s.c) ∧ w.cell? ⟨b, 3, none⟩ = some (.int .u32 s.d) ∧
    w.cell? ⟨b, 4, none⟩ = some (.int .u32 s.e) ∧ w.cell? ⟨b, 5, none⟩ = some (.int .u32 s.f) ∧ w.cell? ⟨b, 6, none⟩ = some (.int .u32 s.g) ∧ w.cell? ⟨b, 7, none⟩ = some (.int .u32 s.h) := by
  refine ⟨?_, ?_, ?_, ?_, ?_, ?_, ?_, ?_⟩ <;> (rw [cell_of_row w b _ _ _ _ h]; rfl)
theorem HAt.free {w : World} {b : Nat} {s : St} (h : HAt w b s) (i : Nat) : w.frozen? ⟨b, i, none⟩ = false := frozen_of_row w b i _ _ h

/-- The sums of the first k words are there. -/
def partS (s v : St) (k : Nat) : St := ⟨if 0 < k then (s.a + v.a) % 4294967296 else s.a, if 1 < k then (s.b + v.b) % 4294967296 else s.b, if 2 < k then (s.c + v.c) % 4294967296 else s.c, if 3 < k then (s.d + v.d) % 4294967296 else s.d,
  if 4 < k then (s.e + v.e) % 4294967296 else s.e, if 5 < k then (s.f + v.f) % 4294967296 else s.f, if 6 < k then (s.g + v.g) % 4294967296 else s.g, if 7 < k then (s.h + v.h) % 4294967296 else s.h⟩

theorem hrow_one (s : St) : (hrow s).toArray.all (·.oneCell') = true := by rw [List.all_toArray]; rfl
theorem partS_all (s v : St) : partS s v 8 = addS s v := by simp [partS, addS]
theorem partS_none (s v : St) : partS s v 0 = s := by simp [partS]
theorem info8 : (Tryd.prog.info? 90).map (·.size) = some 8 := by kernel_rfl
theorem hrow_size (s : St) : (hrow s).toArray.size = 8 := by simp [hrow]
theorem hrow_info (s : St) : (Tryd.prog.info? 90).map (·.size) = some (hrow s).toArray.size := by rw [hrow_size]; exact info8
theorem HAt.raw {w : World} {b : Nat} {s : St} (h : HAt w b s) : w.heap[b]? = some (.cells (hrow s).toArray 90 (0, 0)) := h
theorem run_index_arr {P : Program} (w : World) (t e : TypeId) (n : Nat) (cs : Array Value) (i : Int) (v : Value) (h : P.underlying t = some (.array n e))
    (h1 : (isAgg e).run P w = .ok false w) (h2 : (sizeOf e).run P w = .ok 1 w) (hi : 0 ≤ i ∧ i < n) (hv : cs[i.toNat]? = some v) :
    (Instr.index t (.agg cs) (.int .i64 i)).run P w = .ok v w := by
  simp [Instr.index, run_underlying h, asIntOf, hi, part, Sem.run_bind, h1, h2, Result.andThen, hv]

theorem agg32 (w : World) : (isAgg 88).run Tryd.prog w = .ok false w := by kernel_rfl
theorem size32 (w : World) : (sizeOf 88).run Tryd.prog w = .ok 1 w := by kernel_rfl
theorem index8 (w : World) (cs : Array Value) (i : Int) (v : Value) (hi : 0 ≤ i ∧ i < 8) (hv : cs[i.toNat]? = some v) :
    (Instr.index 89 (.agg cs) (.int .i64 i)).run Tryd.prog w = .ok v w :=
  run_index_arr w _ 88 8 cs i v Tryd.underlying89 (agg32 w) (size32 w) hi hv

theorem three (w : World) (A B C : Obj) : (((w.alloc A).alloc B).alloc C).heap[w.heap.size]? = some A ∧ (((w.alloc A).alloc B).alloc C).heap[w.heap.size + 1]? = some B ∧
    (((w.alloc A).alloc B).alloc C).heap[w.heap.size + 1 + 1]? = some C ∧ Below w.heap.size w (((w.alloc A).alloc B).alloc C) := by
  refine ⟨?_, ?_, ?_, ?_⟩
  · rw [heap_alloc_old _ _ (by simp; omega)]; exact heap_alloc2_old w A B
  · rw [heap_alloc_old _ _ (by simp)]; exact heap_alloc2_new w A B
  · have := heap_alloc_new ((w.alloc A).alloc B) C
    simpa using this
  · exact (((Below.refl _ _).alloc (Nat.le_refl _) _).alloc (by simp) _).alloc (by simp; omega) _

set_option maxRecDepth 100000 in
set_option maxHeartbeats 4000000 in
theorem mix_any (s : St) (l : List Nat) (w : World) (hs : s.ok) (hl : l.length = 64) (hw : ∀ x ∈ l, x < 4294967296) (hK : Kt w) :
    Calls Tryd.prog 72 #[.agg (hrow s).toArray, .agg (wrow l).toArray] w fun e w' => e = .returned (.agg (hrow (mixS s l)).toArray) ∧ Below w.heap.size w w' := by
  go_enter Tryd.func72, Tryd.ntmps72
  go_wp2_with fail
  obtain ⟨F1, F2, F3, FB⟩ := three w (.cells (hrow s).toArray 90) (.cells (wrow l).toArray 127) (.cells #[Value.int IntKind.u32 0, Value.int IntKind.u32 0, Value.int IntKind.u32 0, Value.int IntKind.u32 0, Value.int IntKind.u32 0, Value.int IntKind.u32 0, Value.int IntKind.u32 0, Value.int IntKind.u32 0] 90)
  have FK := Lib.hid (hK.below FB hK.pos)
  have G1 : Hid (HAt _ w.heap.size s) := F1
  have G2 : Hid (WAt _ (w.heap.size + 1) l) := F2
  have G3 : Hid (HAt _ (w.heap.size + 1 + 1) ⟨0, 0, 0, 0, 0, 0, 0, 0⟩) := F3
  have GB := Lib.hid FB
  clear F1 F2 F3 FB hK
  generalize ((w.alloc (.cells (hrow s).toArray 90)).alloc (.cells (wrow l).toArray 127)).alloc (.cells #[Value.int IntKind.u32 0, Value.int IntKind.u32 0, Value.int IntKind.u32 0, Value.int IntKind.u32 0, Value.int IntKind.u32 0, Value.int IntKind.u32 0, Value.int IntKind.u32 0, Value.int IntKind.u32 0] 90) = W0 at *
  have HL64 := Lib.hid hl
  have HLlt := Lib.hid hw
  have HSok := Lib.hid hs
  clear hl hw hs
  obtain ⟨c0, c1, c2, c3, c4, c5, c6, c7⟩ := G1.out.cells
  go_quiet (fail)
  clear c0 c1 c2 c3 c4 c5 c6 c7
  go_wp2
  go_loopw [5, 6, 7, 8, 9, 10, 11, 12, 36] (fun va vb vc vd ve vf vg vh i wr => ∃ k : Nat, k ≤ 64 ∧ i = .int .i64 k ∧ va = .int .u32 (rnds s l k).a ∧ vb = .int .u32 (rnds s l k).b ∧ vc = .int .u32 (rnds s l k).c ∧ vd = .int .u32 (rnds s l k).d ∧
      ve = .int .u32 (rnds s l k).e ∧ vf = .int .u32 (rnds s l k).f ∧ vg = .int .u32 (rnds s l k).g ∧ vh = .int .u32 (rnds s l k).h ∧
      Hid (HAt wr w.heap.size s) ∧ Hid (WAt wr (w.heap.size + 1) l) ∧ Hid (HAt wr (w.heap.size + 1 + 1) ⟨0, 0, 0, 0, 0, 0, 0, 0⟩) ∧ Hid (Below w.heap.size w wr) ∧ Hid (Kt wr)) (fun _ _ _ _ _ _ _ _ i _ => 64 - (RowKit.intOf i).toNat)
  case atStart => exact ⟨0, Nat.zero_le _, rfl, rfl, rfl, rfl, rfl, rfl, rfl, rfl, rfl, G1, G2, G3, below_drewN GB.out _, FK⟩
  case round =>
    clear G1 G2 G3 GB FK
    obtain ⟨k, hk, rfl, rfl, rfl, rfl, rfl, rfl, rfl, rfl, rfl, G1, G2, G3, GB, FK⟩ := hrel
    by_cases hlt : k < 64
    · have hok := rnds_ok HSok.out l k
      have HS : Hid (rnds s l (k + 1) = stepS (rnds s l k) (kTab.getD k 0) (l.getD k 0)) := rfl
      have hck := FK.out k hlt
      have hcw := G2.out.cell (i := k) (by have := HL64.out; omega)
      have hk32 := getD_lt kTab_lt k
      have hw32 := getD_lt HLlt.out k
      generalize kTab.getD k 0 = kk at *
      generalize l.getD k 0 = ww at *
      generalize rnds s l k = v at *
      obtain ⟨va, vb, vc, vd, ve, vf, vg, vh⟩ := v
      obtain ⟨ha, hb, hc, hd, he, hf, hg, hh⟩ := hok
      simp only at ha hb hc hd he hf hg hh
      go_wp2_with fail
      rw [chf_eq ve vf vg he hf hg, majf_eq va vb vc ha hb hc]
      go_quiet ((go_at_call 80; exact still1 fun _ => right_any ve _ _ he (by decide)))
      go_wp2_with (go_at_call 80; refine (right_any va _ _ ha (by decide)).mono ?_; rintro e w' ⟨rfl, rfl⟩)
      go_roundw
      case rel =>
        rw [Sig1_eq ve he, Sig0_eq va ha]
        exact ⟨k + 1, by omega, by go_num, by rw [HS.out]; simp [stepS, tOne, tTwo], by rw [HS.out]; rfl, by rw [HS.out]; rfl, by rw [HS.out]; rfl, by rw [HS.out]; simp [stepS, tOne], by rw [HS.out]; rfl, by rw [HS.out]; rfl, by rw [HS.out]; rfl,
          G1, G2, G3, below_drewN GB.out _, FK⟩
      case measure => simp [RowKit.intOf]; omega
    · have hk64 : k = 64 := by omega
      subst hk64
      have hok := rnds_ok HSok.out l 64
      have HM : Hid (mixS s l = addS s (rnds s l 64)) := rfl
      generalize rnds s l 64 = v at *
      obtain ⟨va, vb, vc, vd, ve, vf, vg, vh⟩ := v
      obtain ⟨ha, hb, hc, hd, he, hf, hg, hh⟩ := hok
      simp only at ha hb hc hd he hf hg hh
      go_wp2
      go_loopw [109] (fun i wr => ∃ k : Nat, k ≤ 8 ∧ i = .int .i64 k ∧ Hid (HAt wr w.heap.size (partS s ⟨va, vb, vc, vd, ve, vf, vg, vh⟩ k)) ∧ Hid (HAt wr (w.heap.size + 1 + 1) ⟨0, 0, 0, 0, 0, 0, 0, 0⟩) ∧ Hid (Below w.heap.size w wr)) (fun i _ => 8 - (RowKit.intOf i).toNat)
      case atStart => exact ⟨0, Nat.zero_le _, rfl, by rw [partS_none]; exact G1, G3, GB⟩
      case round =>
        clear G1 G2 G3 GB FK
        obtain ⟨k, hk, rfl, G1, G3, GB⟩ := hrel
        by_cases hlt : k < 8
        · have hf := G1.out.free k
          have hc := G1.out.cells
          rcases (show k = 0 ∨ k = 1 ∨ k = 2 ∨ k = 3 ∨ k = 4 ∨ k = 5 ∨ k = 6 ∨ k = 7 by omega) with rfl | rfl | rfl | rfl | rfl | rfl | rfl | rfl
          · obtain ⟨c0, c1, c2, c3, c4, c5, c6, c7⟩ := hc
            clear c1 c2 c3 c4 c5 c6 c7
            have hck : wr.cell? ⟨w.heap.size, 0, none⟩ = some (.int .u32 (s.a : Int)) := by simpa [partS] using c0
            have hsk : s.a < 4294967296 := HSok.out.a
            clear hlt c0
            have hx0 := index8 wr #[Value.int IntKind.u32 (va : Int), Value.int IntKind.u32 (vb : Int), Value.int IntKind.u32 (vc : Int), Value.int IntKind.u32 (vd : Int), Value.int IntKind.u32 (ve : Int), Value.int IntKind.u32 (vf : Int), Value.int IntKind.u32 (vg : Int), Value.int IntKind.u32 (vh : Int)]
            go_wp2
            go_roundw
            case rel => exact ⟨1, by omega, by go_num, (heap_setCell_same wr w.heap.size 0 _ _ _ G1.out).trans (by simp [hrow, partS, uV]), (heap_setCell_other wr ⟨w.heap.size, _, none⟩ _ _ (by show w.heap.size + 1 + 1 ≠ w.heap.size; omega)).trans G3.out, GB.out.trans (belowUp _ _ _ _ _ (Nat.le_refl _))⟩
            case measure => simp [RowKit.intOf]
          · obtain ⟨c0, c1, c2, c3, c4, c5, c6, c7⟩ := hc
            clear c0 c2 c3 c4 c5 c6 c7
            have hck : wr.cell? ⟨w.heap.size, 1, none⟩ = some (.int .u32 (s.b : Int)) := by simpa [partS] using c1
            have hsk : s.b < 4294967296 := HSok.out.b
            clear hlt c1
            have hx0 := index8 wr #[Value.int IntKind.u32 (va : Int), Value.int IntKind.u32 (vb : Int), Value.int IntKind.u32 (vc : Int), Value.int IntKind.u32 (vd : Int), Value.int IntKind.u32 (ve : Int), Value.int IntKind.u32 (vf : Int), Value.int IntKind.u32 (vg : Int), Value.int IntKind.u32 (vh : Int)]
            go_wp2
            go_roundw
            case rel => exact ⟨2, by omega, by go_num, (heap_setCell_same wr w.heap.size 1 _ _ _ G1.out).trans (by simp [hrow, partS, uV]), (heap_setCell_other wr ⟨w.heap.size, _, none⟩ _ _ (by show w.heap.size + 1 + 1 ≠ w.heap.size; omega)).trans G3.out, GB.out.trans (belowUp _ _ _ _ _ (Nat.le_refl _))⟩
            case measure => simp [RowKit.intOf]
          · obtain ⟨c0, c1, c2, c3, c4, c5, c6, c7⟩ := hc
            clear c0 c1 c3 c4 c5 c6 c7
            have hck : wr.cell? ⟨w.heap.size, 2, none⟩ = some (.int .u32 (s.c : Int)) := by simpa [partS] using c2
            have hsk : s.c < 4294967296 := HSok.out.c
            clear hlt c2
            have hx0 := index8 wr #[Value.int IntKind.u32 (va : Int), Value.int IntKind.u32 (vb : Int), Value.int IntKind.u32 (vc : Int), Value.int IntKind.u32 (vd : Int), Value.int IntKind.u32 (ve : Int), Value.int IntKind.u32 (vf : Int), Value.int IntKind.u32 (vg : Int), Value.int IntKind.u32 (vh : Int)]
            go_wp2
            go_roundw
            case rel => exact ⟨3, by omega, by go_num, (heap_setCell_same wr w.heap.size 2 _ _ _ G1.out).trans (by simp [hrow, partS, uV]), (heap_setCell_other wr ⟨w.heap.size, _, none⟩ _ _ (by show w.heap.size + 1 + 1 ≠ w.heap.size; omega)).trans G3.out, GB.out.trans (belowUp _ _ _ _ _ (Nat.le_refl _))⟩
            case measure => simp [RowKit.intOf]
          · obtain ⟨c0, c1, c2, c3, c4, c5, c6, c7⟩ := hc
            clear c0 c1 c2 c4 c5 c6 c7
            have hck : wr.cell? ⟨w.heap.size, 3, none⟩ = some (.int .u32 (s.d : Int)) := by simpa [partS] using c3
            have hsk : s.d < 4294967296 := HSok.out.d
            clear hlt c3
            have hx0 := index8 wr #[Value.int IntKind.u32 (va : Int), Value.int IntKind.u32 (vb : Int), Value.int IntKind.u32 (vc : Int), Value.int IntKind.u32 (vd : Int), Value.int IntKind.u32 (ve : Int), Value.int IntKind.u32 (vf : Int), Value.int IntKind.u32 (vg : Int), Value.int IntKind.u32 (vh : Int)]
            go_wp2
            go_roundw
            case rel => exact ⟨4, by omega, by go_num, (heap_setCell_same wr w.heap.size 3 _ _ _ G1.out).trans (by simp [hrow, partS, uV]), (heap_setCell_other wr ⟨w.heap.size, _, none⟩ _ _ (by show w.heap.size + 1 + 1 ≠ w.heap.size; omega)).trans G3.out, GB.out.trans (belowUp _ _ _ _ _ (Nat.le_refl _))⟩
            case measure => simp [RowKit.intOf]
          · obtain ⟨c0, c1, c2, c3, c4, c5, c6, c7⟩ := hc
            clear c0 c1 c2 c3 c5 c6 c7
            have hck : wr.cell? ⟨w.heap.size, 4, none⟩ = some (.int .u32 (s.e : Int)) := by simpa [partS] using c4
            have hsk : s.e < 4294967296 := HSok.out.e
            clear hlt c4
            have hx0 := index8 wr #[Value.int IntKind.u32 (va : Int), Value.int IntKind.u32 (vb : Int), Value.int IntKind.u32 (vc : Int), Value.int IntKind.u32 (vd : Int), Value.int IntKind.u32 (ve : Int), Value.int IntKind.u32 (vf : Int), Value.int IntKind.u32 (vg : Int), Value.int IntKind.u32 (vh : Int)]
            go_wp2
            go_roundw
            case rel => exact ⟨5, by omega, by go_num, (heap_setCell_same wr w.heap.size 4 _ _ _ G1.out).trans (by simp [hrow, partS, uV]), (heap_setCell_other wr ⟨w.heap.size, _, none⟩ _ _ (by show w.heap.size + 1 + 1 ≠ w.heap.size; omega)).trans G3.out, GB.out.trans (belowUp _ _ _ _ _ (Nat.le_refl _))⟩
            case measure => simp [RowKit.intOf]
          · obtain ⟨c0, c1, c2, c3, c4, c5, c6, c7⟩ := hc
            clear c0 c1 c2 c3 c4 c6 c7
            have hck : wr.cell? ⟨w.heap.size, 5, none⟩ = some (.int .u32 (s.f : Int)) := by simpa [partS] using c5
            have hsk : s.f < 4294967296 := HSok.out.f
            clear hlt c5
            have hx0 := index8 wr #[Value.int IntKind.u32 (va : Int), Value.int IntKind.u32 (vb : Int), Value.int IntKind.u32 (vc : Int), Value.int IntKind.u32 (vd : Int), Value.int IntKind.u32 (ve : Int), Value.int IntKind.u32 (vf : Int), Value.int IntKind.u32 (vg : Int), Value.int IntKind.u32 (vh : Int)]
            go_wp2
            go_roundw
            case rel => exact ⟨6, by omega, by go_num, (heap_setCell_same wr w.heap.size 5 _ _ _ G1.out).trans (by simp [hrow, partS, uV]), (heap_setCell_other wr ⟨w.heap.size, _, none⟩ _ _ (by show w.heap.size + 1 + 1 ≠ w.heap.size; omega)).trans G3.out, GB.out.trans (belowUp _ _ _ _ _ (Nat.le_refl _))⟩
            case measure => simp [RowKit.intOf]
          · obtain ⟨c0, c1, c2, c3, c4, c5, c6, c7⟩ := hc
            clear c0 c1 c2 c3 c4 c5 c7
            have hck : wr.cell? ⟨w.heap.size, 6, none⟩ = some (.int .u32 (s.g : Int)) := by simpa [partS] using c6
            have hsk : s.g < 4294967296 := HSok.out.g
            clear hlt c6
            have hx0 := index8 wr #[Value.int IntKind.u32 (va : Int), Value.int IntKind.u32 (vb : Int), Value.int IntKind.u32 (vc : Int), Value.int IntKind.u32 (vd : Int), Value.int IntKind.u32 (ve : Int), Value.int IntKind.u32 (vf : Int), Value.int IntKind.u32 (vg : Int), Value.int IntKind.u32 (vh : Int)]
            go_wp2
            go_roundw
            case rel => exact ⟨7, by omega, by go_num, (heap_setCell_same wr w.heap.size 6 _ _ _ G1.out).trans (by simp [hrow, partS, uV]), (heap_setCell_other wr ⟨w.heap.size, _, none⟩ _ _ (by show w.heap.size + 1 + 1 ≠ w.heap.size; omega)).trans G3.out, GB.out.trans (belowUp _ _ _ _ _ (Nat.le_refl _))⟩
            case measure => simp [RowKit.intOf]
          · obtain ⟨c0, c1, c2, c3, c4, c5, c6, c7⟩ := hc
            clear c0 c1 c2 c3 c4 c5 c6
            have hck : wr.cell? ⟨w.heap.size, 7, none⟩ = some (.int .u32 (s.h : Int)) := by simpa [partS] using c7
            have hsk : s.h < 4294967296 := HSok.out.h
            clear hlt c7
            have hx0 := index8 wr #[Value.int IntKind.u32 (va : Int), Value.int IntKind.u32 (vb : Int), Value.int IntKind.u32 (vc : Int), Value.int IntKind.u32 (vd : Int), Value.int IntKind.u32 (ve : Int), Value.int IntKind.u32 (vf : Int), Value.int IntKind.u32 (vg : Int), Value.int IntKind.u32 (vh : Int)]
            go_wp2
            go_roundw
            case rel => exact ⟨8, by omega, by go_num, (heap_setCell_same wr w.heap.size 7 _ _ _ G1.out).trans (by simp [hrow, partS, uV]), (heap_setCell_other wr ⟨w.heap.size, _, none⟩ _ _ (by show w.heap.size + 1 + 1 ≠ w.heap.size; omega)).trans G3.out, GB.out.trans (belowUp _ _ _ _ _ (Nat.le_refl _))⟩
            case measure => simp [RowKit.intOf]
        · have hk8 : k = 8 := by omega
          subst hk8
          have G1' : Hid (wr.heap[w.heap.size]? = some (.cells (hrow (mixS s l)).toArray 90 (0, 0))) := by rw [HM.out, ← partS_all]; exact HAt.raw G1.out
          have hi8 : (Tryd.prog.info? 90).map (·.size) = some (hrow (mixS s l)).toArray.size := hrow_info _
          have hone : (hrow (mixS s l)).toArray.all (·.oneCell') = true := hrow_one _
          have hsz8 : (hrow ⟨0, 0, 0, 0, 0, 0, 0, 0⟩).toArray.size = (hrow (mixS s l)).toArray.size := by rw [hrow_size, hrow_size]
          go_wp2_with (first
            | (refine wpList_load_row rfl 90 (.tmp 2) rfl w.heap.size rfl _ _ _ _ G1'.out Tryd.underlying90 rfl hi8 ?_)
            | (refine wpList_store_row rfl 90 (.tmp 4) (.tmp 120) rfl (w.heap.size + 1 + 1) _ rfl rfl _ _ G3.out hi8 hsz8 hone ?_))
          refine bodyPost_ret (v := .agg (hrow (mixS s l)).toArray) (results_cell_row (p := 4) (ty := 90) rfl _ _ (w.heap.size + 1 + 1) 90 _ (0, 0) _ rfl (setRow_heap _ _ _ _ _ _ G3.out) Tryd.underlying90 rfl hi8) rfl ⟨rfl, GB.out.trans (belowRow _ _ _ _ (by omega))⟩
end Go.Proofs.YtopinlnjdgedeaaDoor
