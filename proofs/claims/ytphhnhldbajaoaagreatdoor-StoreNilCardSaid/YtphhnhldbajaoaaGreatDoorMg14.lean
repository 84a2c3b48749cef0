/-
  Texts put together: Mix, Absorb, Buf, Pad.
-/
import Derived.Test.YtphhnhldbajaoaaGreatDoorMg13
import Derived.Deep.RegionWith
import Derived.Deep.RegionHeld3
import Derived.Test.YtphhnhldbajaoaaGreatDoorRows
import Derived.Test.YtphhnhldbajaoaaGreatDoorMg0
import Derived.Deep.RegionLaw
namespace Go.Proofs.YtphhnhldbajaoaaGreatDoor
open Go.RowKit

/-- The package variable holds the cube roots' words. -/
def Kt (w : World) : Prop := ∀ t, t < 64 → w.cell? ⟨0, t, none⟩ = some (.int .u32 (kTab.getD t 0 : Nat))
theorem Kt.pos {w : World} (h : Kt w) : 0 < w.heap.size := World.block_lt_of_cell? w _ (h 0 (by decide))
theorem Kt.below {B : Nat} {w w' : World} (h : Kt w) (hb : Below B w w') (hB : 0 < B) : Kt w' := fun t ht => (hb.cell (p := ⟨0, t, none⟩) hB).trans (h t ht)

/-- Block b is an array of eight words. -/
def HAt (w : World) (b : Nat) (s : St) : Prop := w.heap[b]? = some (.cells (hrow s).toArray 182 (0, 0))
theorem HAt.cells {w : World} {b : Nat} {s : St} (h : HAt w b s) :
    w.cell? ⟨b, 0, none⟩ = some (.int .u32 s.a) ∧ w.cell? ⟨b, 1, none⟩ = some (.int .u32 s.b) ∧ w.cell? ⟨b, 2, none⟩ = some (.int .u32 s.c) ∧ w.cell? ⟨b, 3, none⟩ = some (.int .u32 s.d) ∧
    w.cell? ⟨b, 4, none⟩ = some (.int .u32 s.e) ∧ w.cell? ⟨b, 5, none⟩ = some (.int .u32 s.f) ∧ w.cell? ⟨b, 6, none⟩ = some (.int .u32 s.g) ∧ w.cell? ⟨b, 7, none⟩ = some (.int .u32 s.h) := by
  refine ⟨?_, ?_, ?_, ?_, ?_, ?_, ?_, ?_⟩ <;> (rw [cell_of_row w b _ _ _ _ h]; rfl)
theorem HAt.free {w : World} {b : Nat} {s : St} (h : HAt w b s) (i : Nat) : w.frozen? ⟨b, i, none⟩ = false := frozen_of_row w b i _ _ h

/-- The sums of the first k words are there. -/
def partS (s v : St) (k : Nat) : St := ⟨if 0 < k then (s.a + v.a) % 4294967296 else s.a, if 1 < k then (s.b + v.b) % 4294967296 else s.b, if 2 < k then (s.c + v.c) % 4294967296 else s.c, if 3 < k then (s.d + v.d) % 4294967296 else s.d,
  if 4 < k then (s.e + v.e) % 4294967296 else s.e, if 5 < k then (s.f + v.f) % 4294967296 else s.f, if 6 < k then (s.g + v.g) % 4294967296 else s.g, if 7 < k then (s.h + v.h) % 4294967296 else s.h⟩

theorem hrow_one (s : St) : (hrow s).toArray.all (·.oneCell') = true := by rw [List.all_toArray]; rfl
theorem partS_all (s v : St) : partS s v 8 = addS s v := by simp [partS, addS]
theorem partS_none (s v : St) : partS s v 0 = s := by simp [partS]
theorem info8 : (Tryz.prog.info? 182).map (·.size) = some 8 := by kernel_rfl
theorem hrow_size (s : St) : (hrow s).toArray.size = 8 := by simp [hrow]
theorem hrow_info (s : St) : (Tryz.prog.info? 182).map (·.size) = some (hrow s).toArray.size := by rw [hrow_size]; exact info8
theorem HAt.raw {w : World} {b : Nat} {s : St} (h : HAt w b s) : w.heap[b]? = some (.cells (hrow s).toArray 182 (0, 0)) := h
theorem run_index_arr {P : Program} (w : World) (t e : TypeId) (n : Nat) (cs : Array Value) (i : Int) (v : Value) (h : P.underlying t = some (.array n e))
    (h1 : (isAgg e).run P w = .ok false w) (h2 : (sizeOf e).run P w = .ok 1 w) (hi : 0 ≤ i ∧ i < n) (hv : cs[i.toNat]? = some v) :
    (Instr.index t (.agg cs) (.int .i64 i)).run P w = .ok v w := by
  simp [Instr.index, run_underlying h, asIntOf, hi, part, Sem.run_bind, h1, h2, Result.andThen, hv]

theorem agg32 (w : World) : (isAgg 180).run Tryz.prog w = .ok false w := by kernel_rfl
theorem size32 (w : World) : (sizeOf 180).run Tryz.prog w = .ok 1 w := by kernel_rfl
theorem index8 (w : World) (cs : Array Value) (i : Int) (v : Value) (hi : 0 ≤ i ∧ i < 8) (hv : cs[i.toNat]? = some v) :
    (Instr.index 181 (.agg cs) (.int .i64 i)).run Tryz.prog w = .ok v w :=
  run_index_arr w _ 180 8 cs i v Tryz.underlying181 (agg32 w) (size32 w) hi hv

theorem three (w : World) (A B C : Obj) : (((w.alloc A).alloc B).alloc C).heap[w.heap.size]? = some A ∧ (((w.alloc A).alloc B).alloc C).heap[w.heap.size + 1]? = some B ∧
    (((w.alloc A).alloc B).alloc C).heap[w.heap.size + 1 + 1]? = some C ∧ Below w.heap.size w (((w.alloc A).alloc B).alloc C) := by
  refine ⟨?_, ?_, ?_, ?_⟩
  · rw [heap_alloc_old _ _ (by simp; omega)]; exact heap_alloc2_old w A B
  · rw [heap_alloc_old _ _ (by simp)]; exact heap_alloc2_new w A B
  · have := heap_alloc_new ((w.alloc A).alloc B) C
    simpa using this
  · exact (((Below.refl _ _).alloc (Nat.le_refl _) _).alloc (by simp) _).alloc (by simp; omega) _

set_option maxRecDepth 100000 in
set_option maxHeartbeats 4000000 in
theorem mix_any (s : St) (l : List Nat) (w : World) (hs : s.ok) (hl : l.length = 64) (hw : ∀ x ∈ l, x < 4294967296) (hK : Kt w) :
    Calls Tryz.prog 166 #[.agg (hrow s).toArray, .agg (wrow l).toArray] w fun e w' => e = .returned (.agg (hrow (mixS s l)).toArray) ∧ Below w.heap.size w w' := by
  go_enter Tryz.func166, Tryz.ntmps166
  go_wp2_with fail
  obtain ⟨F1, F2, F3, FB⟩ := three w (.cells (hrow s).toArray 182) (.cells (wrow l).toArray 233) (.cells #[Value.int IntKind.u32 0, Value.int IntKind.u32 0, Value.int IntKind.u32 0, Value.int IntKind.u32 0, Value.int IntKind.u32 0, Value.int IntKind.u32 0, Value.int IntKind.u32 0, Value.int IntKind.u32 0] 182)
  have FK := Lib.hid (hK.below FB hK.pos)
  have G1 : Hid (HAt _ w.heap.size s) := F1
  have G2 : Hid (WAt _ (w.heap.size + 1) l) := F2
  have G3 : Hid (HAt _ (w.heap.size + 1 + 1) ⟨0, 0, 0, 0, 0, 0, 0, 0⟩) := F3
  have GB := Lib.hid FB
  clear F1 F2 F3 FB hK
  generalize ((w.alloc (.cells (hrow s).toArray 182)).alloc (.cells (wrow l).toArray 233)).alloc (.cells #[Value.int IntKind.u32 0, Value.int IntKind.u32 0, Value.int IntKind.u32 0, Value.int IntKind.u32 0, Value.int IntKind.u32 0, Value.int IntKind.u32 0, Value.int IntKind.u32 0, Value.int IntKind.u32 0] 182) = W0 at *
  have HL64 := Lib.hid hl
  have HLlt := Lib.hid hw
  have HSok := Lib.hid hs
  clear hl hw hs
  obtain ⟨c0, c1, c2, c3, c4, c5, c6, c7⟩ := G1.out.cells
  go_quiet (fail)
  clear c0 c1 c2 c3 c4 c5 c6 c7
  go_wp2
  go_loopw [5, 6, 7, 8, 9, 10, 11, 12, 36] (fun va vb vc vd ve vf vg vh i wr => ∃ k : Nat, k ≤ 64 ∧ i = .int .i64 k ∧ va = .int .u32 (rnds s l k).a ∧ vb = .int .u32 (rnds s l k).b ∧ vc = .int .u32 (rnds s l k).c ∧ vd = .int .u32 (rnds s l k).d ∧
      ve = .int .u32 (rnds s l k).e ∧ vf = .int .u32 (rnds s l k).f ∧ vg = .int .u32 (rnds s l k).g ∧ vh = .int .u32 (rnds s l k).h ∧
      Hid (HAt wr w.heap.size s) ∧ Hid (WAt wr (w.heap.size + 1) l) ∧ Hid (HAt wr (w.heap.size + 1 + 1) ⟨0, 0, 0, 0, 0, 0, 0, 0⟩) ∧ Hid (Below w.heap.size w wr) ∧ Hid (Kt wr)) (fun _ _ _ _ _ _ _ _ i _ => 64 - (RowKit.intOf i).toNat)
  case atStart => exact ⟨0, Nat.zero_le _, rfl, rfl, rfl, rfl, rfl, rfl, rfl, rfl, rfl, G1, G2, G3, below_drewN GB.out _, FK⟩
  case round =>
    clear G1 G2 G3 GB FK
    obtain ⟨k, hk, rfl, rfl, rfl, rfl, rfl, rfl, rfl, rfl, rfl, G1, G2, G3, GB, FK⟩ := hrel
    by_cases hlt : k < 64
    · have hok := rnds_ok HSok.out l k
      have HS : Hid (rnds s l (k + 1) = stepS (rnds s l k) (kTab.getD k 0) (l.getD k 0)) := rfl
      have hck := FK.out k hlt
      have hcw := G2.out.cell (i := k) (by have := HL64.out; omega)
      have hk32 := getD_lt kTab_lt k
      have hw32 := getD_lt HLlt.out k
      generalize kTab.getD k 0 = kk at *
      generalize l.getD k 0 = ww at *
      generalize rnds s l k = v at *
      obtain ⟨va, vb, vc, vd, ve, vf, vg, vh⟩ := v
      obtain ⟨ha, hb, hc, hd, he, hf, hg, hh⟩ := hok
      simp only at ha hb hc hd he hf hg hh
      go_wp2_with fail
      rw [chf_eq ve vf vg he hf hg, majf_eq va vb vc ha hb hc]
      go_quiet ((go_at_call 175; exact still1 fun _ => right_any ve _ _ he (by decide)))
      go_wp2_with (go_at_call 175; refine (right_any va _ _ ha (by decide)).mono ?_; rintro e w' ⟨rfl, rfl⟩)
      go_roundw
      case rel =>
        rw [Sig1_eq ve he, Sig0_eq va ha]
        exact ⟨k + 1, by omega, by go_num, by rw [HS.out]; simp [stepS, tOne, tTwo], by rw [HS.out]; rfl, by rw [HS.out]; rfl, by rw [HS.out]; rfl, by rw [HS.out]; simp [stepS, tOne], by rw [HS.out]; rfl, by rw [HS.out]; rfl, by rw [HS.out]; rfl,
          G1, G2, G3, below_drewN GB.out _, FK⟩
      case measure => simp [RowKit.intOf]; omega
    · have hk64 : k = 64 := by omega
      subst hk64
      have hok := rnds_ok HSok.out l 64
      have HM : Hid (mixS s l = addS s (rnds s l 64)) := rfl
      generalize rnds s l 64 = v at *
      obtain ⟨va, vb, vc, vd, ve, vf, vg, vh⟩ := v
      obtain ⟨ha, hb, hc, hd, he, hf, hg, hh⟩ := hok
      simp only at ha hb hc hd he hf hg hh
      go_wp2
      go_loopw [109] (fun i wr => ∃ k : Nat, k ≤ 8 ∧ i = .int .i64 k ∧ Hid (HAt wr w.heap.size (partS s ⟨va, vb, vc, vd, ve, vf, vg, vh⟩ k)) ∧ Hid (HAt wr (w.heap.size + 1 + 1) ⟨0, 0, 0, 0, 0, 0, 0, 0⟩) ∧ Hid (Below w.heap.size w wr)) (fun i _ => 8 - (RowKit.intOf i).toNat)
      case atStart => exact ⟨0, Nat.zero_le _, rfl, by rw [partS_none]; exact G1, G3, GB⟩
      case round =>
        clear G1 G2 G3 GB FK
        obtain ⟨k, hk, rfl, G1, G3, GB⟩ := hrel
        by_cases hlt : k < 8
        · have hf := G1.out.free k
          have hc := G1.out.cells
          rcases (show k = 0 ∨ k = 1 ∨ k = 2 ∨ k = 3 ∨ k = 4 ∨ k = 5 ∨ k = 6 ∨ k = 7 by omega) with rfl | rfl | rfl | rfl | rfl | rfl | rfl | rfl
          · obtain ⟨c0, c1, c2, c3, c4, c5, c6, c7⟩ := hc
            clear c1 c2 c3 c4 c5 c6 c7
            have hck : wr.cell? ⟨w.heap.size, 0, none⟩ = some (.int .u32 (s.a : Int)) := by simpa [partS] using c0
            have hsk : s.a < 4294967296 := HSok.out.a
            clear hlt c0
            have hx0 := index8 wr #[Value.int IntKind.u32 (va : Int), Value.int IntKind.u32 (vb : Int), Value.int IntKind.u32 (vc : Int), Value.int IntKind.u32 (vd : Int), Value.int IntKind.u32 (ve : Int), Value.int IntKind.u32 (vf : Int), Value.int IntKind.u32 (vg : Int), Value.int IntKind.u32 (vh : Int)]
            go_wp2
            go_roundw
            case rel => exact ⟨1, by omega, by go_num, (heap_setCell_same wr w.heap.size 0 _ _ _ G1.out).trans (by simp [hrow, partS, uV]), (heap_setCell_other wr ⟨w.heap.size, _, none⟩ _ _ (by show w.heap.size + 1 + 1 ≠ w.heap.size; omega)).trans G3.out, GB.out.trans (belowUp _ _ _ _ _ (Nat.le_refl _))⟩
            case measure => simp [RowKit.intOf]
          · obtain ⟨c0, c1, c2, c3, c4, c5, c6, c7⟩ := hc
            clear c0 c2 c3 c4 c5 c6 c7
            have hck : wr.cell? ⟨w.heap.size, 1, none⟩ = some (.int .u32 (s.b : Int)) := by simpa [partS] using c1
            have hsk : s.b < 4294967296 := HSok.out.b
            clear hlt c1
            have hx0 := index8 wr #[Value.int IntKind.u32 (va : Int), Value.int IntKind.u32 (vb : Int), Value.int IntKind.u32 (vc : Int), Value.int IntKind.u32 (vd : Int), Value.int IntKind.u32 (ve : Int), Value.int IntKind.u32 (vf : Int), Value.int IntKind.u32 (vg : Int), Value.int IntKind.u32 (vh : Int)]
            go_wp2
            go_roundw
            case rel => exact ⟨2, by omega, by go_num, (heap_setCell_same wr w.heap.size 1 _ _ _ G1.out).trans (by simp [hrow, partS, uV]), (heap_setCell_other wr ⟨w.heap.size, _, none⟩ _ _ (by show w.heap.size + 1 + 1 ≠ w.heap.size; omega)).trans G3.out, GB.out.trans (belowUp _ _ _ _ _ (Nat.le_refl _))⟩
            case measure => simp [RowKit.intOf]
          · obtain ⟨c0, c1, c2, c3, c4, c5, c6, c7⟩ := hc
            clear c0 c1 c3 c4 c5 c6 c7
            have hck : wr.cell? ⟨w.heap.size, 2, none⟩ = some (.int .u32 (s.c : Int)) := by simpa [partS] using c2
            have hsk : s.c < 4294967296 := HSok.out.c
            clear hlt c2
            have hx0 := index8 wr #[Value.int IntKind.u32 (va : Int), Value.int IntKind.u32 (vb : Int), Value.int IntKind.u32 (vc : Int), Value.int IntKind.u32 (vd : Int), Value.int IntKind.u32 (ve : Int), Value.int IntKind.u32 (vf : Int), Value.int IntKind.u32 (vg : Int), Value.int IntKind.u32 (vh : Int)]
            go_wp2
            go_roundw
            case rel => exact ⟨3, by omega, by go_num, (heap_setCell_same wr w.heap.size 2 _ _ _ G1.out).trans (by simp [hrow, partS, uV]), (heap_setCell_other wr ⟨w.heap.size, _, none⟩ _ _ (by show w.heap.size + 1 + 1 ≠ w.heap.size; omega)).trans G3.out, GB.out.trans (belowUp _ _ _ _ _ (Nat.le_refl _))⟩
            case measure => simp [RowKit.intOf]
          · obtain ⟨c0, c1, c2, c3, c4, c5, c6, c7⟩ := hc
            clear c0 c1 c2 c4 c5 c6 c7
            have hck : wr.cell? ⟨w.heap.size, 3, none⟩ = some (.int .u32 (s.d : Int)) := by simpa [partS] using c3
            have hsk : s.d < 4294967296 := HSok.out.d
            clear hlt c3
            have hx0 := index8 wr #[Value.int IntKind.u32 (va : Int), Value.int IntKind.u32 (vb : Int), Value.int IntKind.u32 (vc : Int), Value.int IntKind.u32 (vd : Int), Value.int IntKind.u32 (ve : Int), Value.int IntKind.u32 (vf : Int), Value.int IntKind.u32 (vg : Int), Value.int IntKind.u32 (vh : Int)]
            go_wp2
            go_roundw
            case rel => exact ⟨4, by omega, by go_num, (heap_setCell_same wr w.heap.size 3 _ _ _ G1.out).trans (by simp [hrow, partS, uV]), (heap_setCell_other wr ⟨w.heap.size, _, none⟩ _ _ (by show w.heap.size + 1 + 1 ≠ w.heap.size; omega)).trans G3.out, GB.out.trans (belowUp _ _ _ _ _ (Nat.le_refl _))⟩
            case measure => simp [RowKit.intOf]
          · obtain ⟨c0, c1, c2, c3, c4, c5, c6, c7⟩ := hc
            clear c0 c1 c2 c3 c5 c6 c7
            have hck : wr.cell? ⟨w.heap.size, 4, none⟩ = some (.int .u32 (s.e : Int)) := by simpa [partS] using c4
            have hsk : s.e < 4294967296 := HSok.out.e
            clear hlt c4
            have hx0 := index8 wr #[Value.int IntKind.u32 (va : Int), Value.int IntKind.u32 (vb : Int), Value.int IntKind.u32 (vc : Int), Value.int IntKind.u32 (vd : Int), Value.int IntKind.u32 (ve : Int), Value.int IntKind.u32 (vf : Int), Value.int IntKind.u32 (vg : Int), Value.int IntKind.u32 (vh : Int)]
            go_wp2
            go_roundw
            case rel => exact ⟨5, by omega, by go_num, (heap_setCell_same wr w.heap.size 4 _ _ _ G1.out).trans (by simp [hrow, partS, uV]), (heap_setCell_other wr ⟨w.heap.size, _, none⟩ _ _ (by show w.heap.size + 1 + 1 ≠ w.heap.size; omega)).trans G3.out, GB.out.trans (belowUp _ _ _ _ _ (Nat.le_refl _))⟩
            case measure => simp [RowKit.intOf]
          · obtain ⟨c0, c1, c2, c3, c4, c5, c6, c7⟩ := hc
            clear c0 c1 c2 c3 c4 c6 c7
            have hck : wr.cell? ⟨w.heap.size, 5, none⟩ = some (.int .u32 (s.f : Int)) := by simpa [partS] using c5
            have hsk : s.f < 4294967296 := HSok.out.f
            clear hlt c5
            have hx0 := index8 wr #[Value.int IntKind.u32 (va : Int), Value.int IntKind.u32 (vb : Int), Value.int IntKind.u32 (vc : Int), Value.int IntKind.u32 (vd : Int), Value.int IntKind.u32 (ve : Int), Value.int IntKind.u32 (vf : Int), Value.int IntKind.u32 (vg : Int), Value.int IntKind.u32 (vh : Int)]
            go_wp2
            go_roundw
            case rel => exact ⟨6, by omega, by go_num, (heap_setCell_same wr w.heap.size 5 _ _ _ G1.out).trans (by simp [hrow, partS, uV]), (heap_setCell_other wr ⟨w.heap.size, _, none⟩ _ _ (by show w.heap.size + 1 + 1 ≠ w.heap.size; omega)).trans G3.out, GB.out.trans (belowUp _ _ _ _ _ (Nat.le_refl _))⟩
            case measure => simp [RowKit.intOf]
          · obtain ⟨c0, c1, c2, c3, c4, c5, c6, c7⟩ := hc
            clear c0 c1 c2 c3 c4 c5 c7
            have hck : wr.cell? ⟨w.heap.size, 6, none⟩ = some (.int .u32 (s.g : Int)) := by simpa [partS] using c6
            have hsk : s.g < 4294967296 := HSok.out.g
            clear hlt c6
            have hx0 := index8 wr #[Value.int IntKind.u32 (va : Int), Value.int IntKind.u32 (vb : Int), Value.int IntKind.u32 (vc : Int), Value.int IntKind.u32 (vd : Int), Value.int IntKind.u32 (ve : Int), Value.int IntKind.u32 (vf : Int), Value.int IntKind.u32 (vg : Int), Value.int IntKind.u32 (vh : Int)]
            go_wp2
            go_roundw
            case rel => exact ⟨7, by omega, by go_num, (heap_setCell_same wr w.heap.size 6 _ _ _ G1.out).trans (by simp [hrow, partS, uV]), (heap_setCell_other wr ⟨w.heap.size, _, none⟩ _ _ (by show w.heap.size + 1 + 1 ≠ w.heap.size; omega)).trans G3.out, GB.out.trans (belowUp _ _ _ _ _ (Nat.le_refl _))⟩
            case measure => simp [RowKit.intOf]
          · obtain ⟨c0, c1, c2, c3, c4, c5, c6, c7⟩ := hc
            clear c0 c1 c2 c3 c4 c5 c6
            have hck : wr.cell? ⟨w.heap.size, 7, none⟩ = some (.int .u32 (s.h : Int)) := by simpa [partS] using c7
            have hsk : s.h < 4294967296 := HSok.out.h
            clear hlt c7
            have hx0 := index8 wr #[Value.int IntKind.u32 (va : Int), Value.int IntKind.u32 (vb : Int), Value.int IntKind.u32 (vc : Int), Value.int IntKind.u32 (vd : Int), Value.int IntKind.u32 (ve : Int), Value.int IntKind.u32 (vf : Int), Value.int IntKind.u32 (vg : Int), Value.int IntKind.u32 (vh : Int)]
            go_wp2
            go_roundw
            case rel => exact ⟨8, by omega, by go_num, (heap_setCell_same wr w.heap.size 7 _ _ _ G1.out).trans (by simp [hrow, partS, uV]), (heap_setCell_other wr ⟨w.heap.size, _, none⟩ _ _ (by show w.heap.size + 1 + 1 ≠ w.heap.size; omega)).trans G3.out, GB.out.trans (belowUp _ _ _ _ _ (Nat.le_refl _))⟩
            case measure => simp [RowKit.intOf]
        · have hk8 : k = 8 := by omega
          subst hk8
          have G1' : Hid (wr.heap[w.heap.size]? = some (.cells (hrow (mixS s l)).toArray 182 (0, 0))) := by rw [HM.out, ← partS_all]; exact HAt.raw G1.out
          have hi8 : (Tryz.prog.info? 182).map (·.size) = some (hrow (mixS s l)).toArray.size := hrow_info _
          have hone : (hrow (mixS s l)).toArray.all (·.oneCell') = true := hrow_one _
          have hsz8 : (hrow ⟨0, 0, 0, 0, 0, 0, 0, 0⟩).toArray.size = (hrow (mixS s l)).toArray.size := by rw [hrow_size, hrow_size]
          go_wp2_with (first
            | (refine wpList_load_row rfl 182 (.tmp 2) rfl w.heap.size rfl _ _ _ _ G1'.out Tryz.underlying182 rfl hi8 ?_)
            | (refine wpList_store_row rfl 182 (.tmp 4) (.tmp 120) rfl (w.heap.size + 1 + 1) _ rfl rfl _ _ G3.out hi8 hsz8 hone ?_))
          refine bodyPost_ret (v := .agg (hrow (mixS s l)).toArray) (results_cell_row (p := 4) (ty := 182) rfl _ _ (w.heap.size + 1 + 1) 182 _ (0, 0) _ rfl (setRow_heap _ _ _ _ _ _ G3.out) Tryz.underlying182 rfl hi8) rfl ⟨rfl, GB.out.trans (belowRow _ _ _ _ (by omega))⟩
end Go.Proofs.YtphhnhldbajaoaaGreatDoor

namespace Go.Proofs.YtphhnhldbajaoaaGreatDoor
open Go.RowKit

set_option maxRecDepth 100000 in
theorem HAt.below {n : Nat} {w w' : World} {b : Nat} {s : St} (h : HAt w b s) (hb : Below n w w') (hn : b < n) : HAt w' b s := (hb.block b hn).trans h
set_option maxRecDepth 100000 in
theorem setAt {w : World} {b i : Nat} {t : TypeId} {cs cs' : Array Value} {u : Value} (h : w.heap[b]? = some (.cells cs t (0, 0))) (e : cs.setIfInBounds i u = cs') :
    (w.setCell ⟨b, i, none⟩ u).heap[b]? = some (.cells cs' t (0, 0)) := by rw [← e]; exact heap_setCell_same w b i cs t u h

set_option maxRecDepth 100000 in
/-- Eight words stored one behind the other. -/
theorem put8 {w : World} {b : Nat} {s : St} (h : HAt w b s) (v : St) : HAt ((((((((w.setCell ⟨b, 0, none⟩ (.int .u32 (v.a : Nat))).setCell ⟨b, 1, none⟩ (.int .u32 (v.b : Nat))).setCell ⟨b, 2, none⟩ (.int .u32 (v.c : Nat))).setCell ⟨b, 3, none⟩ (.int .u32 (v.d : Nat))).setCell ⟨b, 4, none⟩ (.int .u32 (v.e : Nat))).setCell ⟨b, 5, none⟩ (.int .u32 (v.f : Nat))).setCell ⟨b, 6, none⟩ (.int .u32 (v.g : Nat))).setCell ⟨b, 7, none⟩ (.int .u32 (v.h : Nat))) b v := by
  have h0 := setAt (i := 0) (u := uV v.a) (cs' := #[uV v.a, uV s.b, uV s.c, uV s.d, uV s.e, uV s.f, uV s.g, uV s.h]) h rfl
  have h1 := setAt (i := 1) (u := uV v.b) (cs' := #[uV v.a, uV v.b, uV s.c, uV s.d, uV s.e, uV s.f, uV s.g, uV s.h]) h0 rfl
  have h2 := setAt (i := 2) (u := uV v.c) (cs' := #[uV v.a, uV v.b, uV v.c, uV s.d, uV s.e, uV s.f, uV s.g, uV s.h]) h1 rfl
  have h3 := setAt (i := 3) (u := uV v.d) (cs' := #[uV v.a, uV v.b, uV v.c, uV v.d, uV s.e, uV s.f, uV s.g, uV s.h]) h2 rfl
  have h4 := setAt (i := 4) (u := uV v.e) (cs' := #[uV v.a, uV v.b, uV v.c, uV v.d, uV v.e, uV s.f, uV s.g, uV s.h]) h3 rfl
  have h5 := setAt (i := 5) (u := uV v.f) (cs' := #[uV v.a, uV v.b, uV v.c, uV v.d, uV v.e, uV v.f, uV s.g, uV s.h]) h4 rfl
  have h6 := setAt (i := 6) (u := uV v.g) (cs' := #[uV v.a, uV v.b, uV v.c, uV v.d, uV v.e, uV v.f, uV v.g, uV s.h]) h5 rfl
  have h7 := setAt (i := 7) (u := uV v.h) (cs' := #[uV v.a, uV v.b, uV v.c, uV v.d, uV v.e, uV v.f, uV v.g, uV v.h]) h6 rfl
  exact h7
set_option maxRecDepth 100000 in
theorem put8_other (w : World) (b : Nat) (v : St) (B : Nat) (hB : B ≤ b) : Below B w ((((((((w.setCell ⟨b, 0, none⟩ (.int .u32 (v.a : Nat))).setCell ⟨b, 1, none⟩ (.int .u32 (v.b : Nat))).setCell ⟨b, 2, none⟩ (.int .u32 (v.c : Nat))).setCell ⟨b, 3, none⟩ (.int .u32 (v.d : Nat))).setCell ⟨b, 4, none⟩ (.int .u32 (v.e : Nat))).setCell ⟨b, 5, none⟩ (.int .u32 (v.f : Nat))).setCell ⟨b, 6, none⟩ (.int .u32 (v.g : Nat))).setCell ⟨b, 7, none⟩ (.int .u32 (v.h : Nat))) :=
  (((((((((Below.refl B w).setCell (p := ⟨b, 0, none⟩) hB _).setCell (p := ⟨b, 1, none⟩) hB _).setCell (p := ⟨b, 2, none⟩) hB _).setCell (p := ⟨b, 3, none⟩) hB _).setCell (p := ⟨b, 4, none⟩) hB _).setCell (p := ⟨b, 5, none⟩) hB _).setCell (p := ⟨b, 6, none⟩) hB _).setCell (p := ⟨b, 7, none⟩) hB _)
set_option maxRecDepth 100000 in
theorem put8_far (w : World) (b : Nat) (v : St) (k : Nat) (hk : k ≠ b) : ((((((((w.setCell ⟨b, 0, none⟩ (.int .u32 (v.a : Nat))).setCell ⟨b, 1, none⟩ (.int .u32 (v.b : Nat))).setCell ⟨b, 2, none⟩ (.int .u32 (v.c : Nat))).setCell ⟨b, 3, none⟩ (.int .u32 (v.d : Nat))).setCell ⟨b, 4, none⟩ (.int .u32 (v.e : Nat))).setCell ⟨b, 5, none⟩ (.int .u32 (v.f : Nat))).setCell ⟨b, 6, none⟩ (.int .u32 (v.g : Nat))).setCell ⟨b, 7, none⟩ (.int .u32 (v.h : Nat))).heap[k]? = w.heap[k]? := by
  rw [heap_setCell_other _ _ _ _ hk, heap_setCell_other _ _ _ _ hk, heap_setCell_other _ _ _ _ hk, heap_setCell_other _ _ _ _ hk, heap_setCell_other _ _ _ _ hk, heap_setCell_other _ _ _ _ hk, heap_setCell_other _ _ _ _ hk, heap_setCell_other _ _ _ _ hk]

set_option maxRecDepth 100000 in
theorem mix_lit (s : St) (l : List Nat) (w : World) (hs : s.ok) (hl : l.length = 64) (hw : ∀ x ∈ l, x < 4294967296) (hK : Kt w) :
    Calls Tryz.prog 166 #[.agg #[.int .u32 (s.a : Nat), .int .u32 (s.b : Nat), .int .u32 (s.c : Nat), .int .u32 (s.d : Nat), .int .u32 (s.e : Nat), .int .u32 (s.f : Nat), .int .u32 (s.g : Nat), .int .u32 (s.h : Nat)], .agg (wrow l).toArray] w fun e w' => e = .returned (.agg #[.int .u32 ((mixS s l).a : Nat), .int .u32 ((mixS s l).b : Nat), .int .u32 ((mixS s l).c : Nat), .int .u32 ((mixS s l).d : Nat), .int .u32 ((mixS s l).e : Nat), .int .u32 ((mixS s l).f : Nat), .int .u32 ((mixS s l).g : Nat), .int .u32 ((mixS s l).h : Nat)]) ∧ Below w.heap.size w w' :=
  mix_any s l w hs hl hw hK

set_option maxRecDepth 100000 in
set_option maxHeartbeats 4000000 in
theorem absorb_any (h : St) (s : ByteArray) (w : World) (hh : h.ok) (hK : Kt w) :
    Calls Tryz.prog 150 #[.agg (hrow h).toArray, .string s] w fun e w' => e = .returned (.agg (hrow (absK h s (s.size / 64))).toArray) ∧ Below w.heap.size w w' := by
  have hKp := Lib.hid hK.pos
  have HK := Lib.hid hK
  have HH := Lib.hid hh
  clear hK hh
  go_enter Tryz.func150, Tryz.ntmps150
  go_wp2
  go_loopw [1] (fun v wr => ∃ k : Nat, 64 * k ≤ s.size ∧ v = .string (s.extract (64 * k) s.size) ∧ Hid (HAt wr w.heap.size (absK h s k)) ∧ Hid (HAt wr (w.heap.size + 1) ⟨0, 0, 0, 0, 0, 0, 0, 0⟩) ∧ Hid (Below w.heap.size w wr)) (fun v _ => match v with | .string t => t.size | _ => 0)
  case atStart =>
    exact ⟨0, Nat.zero_le _, by rw [Nat.mul_zero, rest_zero], (heap_alloc2_old w _ _), (heap_alloc2_new w _ _), ((Below.refl _ _).alloc (Nat.le_refl _) _).alloc (by simp) _⟩
  case round =>
    obtain ⟨k, hk, rfl, G1, G3, GB⟩ := hrel
    have hsz : (s.extract (64 * k) s.size).size = s.size - 64 * k := by rw [ByteArray.size_extract]; omega
    have HX := Lib.hid (extract_next s k)
    generalize hx : s.extract (64 * k) s.size = x at *
    have Hx := Lib.hid hx
    clear hx
    by_cases hlt : 64 * (k + 1) ≤ s.size
    · have h64 : 64 ≤ x.size := by omega
      have FK := Lib.hid (HK.out.below GB.out hKp.out)
      have hok := absK_ok s HH.out k
      have hBwr : Hid (w.heap.size < wr.heap.size) := World.block_lt_of_cell? wr _ G1.out.cells.1
      have hBwr1 : Hid (w.heap.size + 1 < wr.heap.size) := World.block_lt_of_cell? wr _ G3.out.cells.1
      have HF : Hid (∀ W1 : World, Below wr.heap.size wr W1 → HAt W1 w.heap.size (absK h s k) ∧ HAt W1 (w.heap.size + 1) ⟨0, 0, 0, 0, 0, 0, 0, 0⟩ ∧ Below w.heap.size w W1 ∧ Kt W1 ∧ wr.heap.size ≤ W1.heap.size) := fun W1 hb =>
        ⟨HAt.below G1.out hb hBwr.out, HAt.below G3.out hb hBwr1.out, GB.out.trans (hb.mono (by have := hBwr.out; omega)), FK.out.below hb (by have := hBwr.out; omega), hb.size⟩
      have hM : Hid (absK h s (k + 1) = mixS (absK h s k) (wk x 64)) := by rw [← Hx.out]; rfl
      generalize absK h s k = st at *
      obtain ⟨c0, c1, c2, c3, c4, c5, c6, c7⟩ := G1.out.cells
      go_wp2_with fail
      go_region_with (first
        | (go_at_call 167; refine (sched_any x _ h64).mono ?_; rintro e w1 ⟨rfl, hb⟩; obtain ⟨g1, g3, gb, gk, gs⟩ := HF.out w1 ⟨hb.os, hb.tape, hb.output, hb.size, hb.block⟩; obtain ⟨d0, d1, d2, d3, d4, d5, d6, d7⟩ := g1.cells; have G1' := Lib.hid g1; have GK' := Lib.hid gk; have GS := Lib.hid gs; have GB' := Lib.hid gb; have G3' := Lib.hid g3; clear hb g1 g3 gb gk gs)
        | (go_at_call 166; refine (mix_lit st _ _ hok (wk_length x 64) (wk_lt x 64) (by exact GK'.out)).mono ?_; rintro e w2 ⟨rfl, hb⟩; have H1 := Lib.hid (HAt.below G1'.out hb (Nat.lt_of_lt_of_le hBwr.out GS.out)); have H3 := Lib.hid (HAt.below G3'.out hb (Nat.lt_of_lt_of_le hBwr1.out GS.out)); have HB := Lib.hid (GB'.out.trans (hb.mono (by have := hBwr.out; have := GS.out; omega))); clear hb d0 d1 d2 d3 d4 d5 d6 d7; obtain ⟨e0, e1, e2, e3, e4, e5, e6, e7⟩ := H1.out.cells; have f0 := H1.out.free 0; have f1 := H1.out.free 1; have f2 := H1.out.free 2; have f3 := H1.out.free 3; have f4 := H1.out.free 4; have f5 := H1.out.free 5; have f6 := H1.out.free 6; have f7 := H1.out.free 7))
      all_goals
        go_wp2
        go_roundw
        case rel => exact ⟨k + 1, by omega, by rw [← HX.out, hsz], by rw [hM.out]; exact put8 H1.out _, (put8_far w2 w.heap.size _ _ (by omega)).trans H3.out, HB.out.trans (put8_other _ _ _ _ (Nat.le_refl _))⟩
        case measure =>
          show (x.extract 64 (s.size - 64 * k)).size < x.size
          rw [ByteArray.size_extract]
          omega
    · have hk' : s.size / 64 = k := by omega
      have hx64 : ¬ 64 ≤ x.size := by omega
      rw [← hk'] at G1
      have hi8 : (Tryz.prog.info? 182).map (·.size) = some (hrow (absK h s (s.size / 64))).toArray.size := hrow_info _
      have hone : (hrow (absK h s (s.size / 64))).toArray.all (·.oneCell') = true := hrow_one _
      have hsz8 : (hrow ⟨0, 0, 0, 0, 0, 0, 0, 0⟩).toArray.size = (hrow (absK h s (s.size / 64))).toArray.size := by rw [hrow_size, hrow_size]
      clear hk hlt hk'
      go_wp2_with (first
        | (refine wpList_load_row rfl 182 (.tmp 2) rfl w.heap.size rfl _ _ _ _ (HAt.raw G1.out) Tryz.underlying182 rfl hi8 ?_)
        | (refine wpList_store_row rfl 182 (.tmp 4) (.tmp 14) rfl (w.heap.size + 1) _ rfl rfl _ _ G3.out hi8 hsz8 hone ?_))
      refine bodyPost_ret (v := .agg (hrow (absK h s (s.size / 64))).toArray) (results_cell_row (p := 4) (ty := 182) rfl _ _ (w.heap.size + 1) 182 _ (0, 0) _ rfl (setRow_heap _ _ _ _ _ _ G3.out) Tryz.underlying182 rfl hi8) rfl ⟨rfl, GB.out.trans (belowRow _ _ _ _ (by omega))⟩
end Go.Proofs.YtphhnhldbajaoaaGreatDoor

namespace Go.Proofs.YtphhnhldbajaoaaGreatDoor
open Go.RowKit

set_option maxRecDepth 100000 in
theorem infoU8 : (Tryz.prog.info? 5).map (fun i => (i.zero, i.size, i.bytes)) = some (some (.int .u8 0), 1, 1) := by kernel_rfl

def byV (c : UInt8) : Value := .int .u8 (c.toNat : Int)

/-- The value v is a slice of the call's own that holds the bytes l. -/
def Buf (w : World) (base : Nat) (v : Value) (l : List UInt8) : Prop := w.ownsRow base 5 1 v l.length (l.map byV)

set_option maxRecDepth 100000 in
theorem strOfNums_bytes (l : List UInt8) : strOfNums (l.map fun c => (c.toNat : Int)) = ⟨l.toArray⟩ := by
  unfold strOfNums
  congr 1
  rw [List.map_map]
  have : (fun n : Int => UInt8.ofNat n.toNat) ∘ (fun c : UInt8 => (c.toNat : Int)) = id := by
    funext c; simp
  rw [this, List.map_id]

set_option maxRecDepth 100000 in
theorem getD_bytes (l : List UInt8) (i : Nat) (h : i < l.length) : (l.map byV)[i]? = some (.int .u8 ((l.map fun c => (c.toNat : Int)).getD i 0)) := by
  simp [byV, List.getD, List.getElem?_eq_getElem h]

set_option maxRecDepth 100000 in
/-- 'string(b)'. -/
theorem Buf.text {w : World} {base : Nat} {v : Value} {l : List UInt8} (h : Buf w base v l) :
    (convert 80 9 v).run Tryz.prog w = .ok (.string ⟨l.toArray⟩) w := by
  have h' := h
  rcases h.2 with ⟨rfl, h0⟩ | ⟨g, cap, cur, rfl, _⟩
  · have : l = [] := List.eq_nil_of_length_eq_zero h0
    subst this
    exact run_convert_bytes_nil w _ _ Tryz.underlying80 Tryz.underlying5 _ _ _ Tryz.underlying9
  · have := run_convert_bytes_arg (P := Tryz.prog) w _ _ Tryz.underlying80 Tryz.underlying5 g 0 l.length cap (l.map fun c => (c.toNat : Int)) (by simp) (fun i hi => by
      rw [Nat.zero_add, World.ownsRow.cellAt h i (by omega)]; exact getD_bytes l i hi) _ Tryz.underlying9
    rw [strOfNums_bytes] at this
    exact this

set_option maxRecDepth 100000 in
theorem Buf.own_block {w : World} {base : Nat} {v : Value} {l : List UInt8} (h : Buf w base v l) : ∀ k, v.ownBlock = some k → base ≤ k := by
  intro k hk
  rcases h.2 with ⟨rfl, _⟩ | ⟨g, cap, cur, rfl, hg, _⟩
  · cases hk
  · simp [Value.ownBlock] at hk; omega

set_option maxRecDepth 100000 in
/-- 'append(out, c ..)' on such a slice. -/
theorem wp_buf_push {ops : Array Oper} {rest : List Oper} {o : Oper} {a : Act} {Q : Exit → Act → World → Prop} (W : World) (hgd : o.guard = none) (s x : Operand)
    (ho : o.op = .call { callee := .builtin .append, args := #[s, x], argTypes := #[80, 80] })
    (base : Nat) (v : Value) (l : List UInt8) (hs : a.eval s = v) (hb : Buf W base v l)
    (ad : Addr) (m c : Nat) (cs : List UInt8) (hx : a.eval x = .slice (some ad) m c) (hm : cs.length = m) (hcell : ∀ j u, cs[j]? = some u → W.cell? (ad.add j) = some (byV u))
    (hbytes : l.length + m ≤ 140737488355328) (hbase : base ≤ W.heap.size)
    (h : ∀ v' w', Buf w' base v' (l ++ cs) → Below base W w' → wpList Tryz.prog ops Q rest (a.put o.dst v') w') : wpList Tryz.prog ops Q (o :: rest) a W := by
  obtain ⟨i0, hi, hz0, hz1, hz2⟩ := info_parts infoU8
  subst hm
  refine wpList_append_own W hgd s x 80 ho base 5 i0 (.int .u8 0) 1 1 Tryz.underlying80 hi hz0 hz1 hz2 rfl (by decide) v l.length _ hs hb ad cs.length c (cs.map byV) hx (by simp) ?_ ?_ (by unfold maxLen; omega) (by omega) hbase ?_
  · intro j u hu
    rw [List.getElem?_map] at hu
    obtain ⟨y, hy, rfl⟩ := Option.map_eq_some_iff.1 hu
    exact hcell j y hy
  · intro u hu
    obtain ⟨y, _, rfl⟩ := List.mem_map.1 hu
    rfl
  · intro v' w' h1 h2 _
    refine h v' w' ?_ ((Below.refl base W).grown h2 hbase hb.own_block)
    unfold Buf
    rw [List.map_append, List.length_append]
    exact h1

set_option maxRecDepth 100000 in
theorem Buf.alloc {w : World} {base : Nat} {v : Value} {l : List UInt8} (h : Buf w base v l) (o : Obj) : Buf (w.alloc o) base v l := World.ownsRow.alloc h o
set_option maxRecDepth 100000 in
/-- 'make([]byte, 0, n)'. -/
theorem wp_buf_make {ops : Array Oper} {rest : List Oper} {o : Oper} {a : Act} {Q : Exit → Act → World → Prop} (W : World) (hgd : o.guard = none) (l c : Operand)
    (ho : o.op = Op.makeSlice 80 l c) (base : Nat) (kl kc : IntKind) (C : Int) (n : Nat) (hl : a.eval l = .int kl 0) (hc : a.eval c = .int kc C) (hC : C = (n : Int))
    (hn : n ≤ 281474976710656) (hbase : base ≤ W.heap.size)
    (h : ∀ v' w', Buf w' base v' [] → Below base W w' → wpList Tryz.prog ops Q rest (a.put o.dst v') w') : wpList Tryz.prog ops Q (o :: rest) a W := by
  obtain ⟨i0, hi, hz0, hz1, hz2⟩ := info_parts infoU8
  refine wpList_make_own W hgd l c 80 ho base 5 i0 (.int .u8 0) 1 Tryz.underlying80 hi hz0 hz1 kl kc C n hl hc hC (by rw [hz2]; omega) (by unfold maxLen; omega) hbase ?_
  intro w' h1 h2
  refine h _ w' ?_ ((Below.refl base W).grown h2 hbase (fun k hk => by cases hk))
  rcases h1.2 with ⟨h', _⟩ | ⟨g, cap, cur, e, hg, hh, h3, h4, h5, h6⟩
  · simp at h'
  · exact ⟨rfl, .inr ⟨g, cap, cur, e, hg, hh, h3, h4, h5, h6⟩⟩

/-- A slice's length, for a loop's measure. -/
def lenOf : Value → Nat
  | .slice _ n _ => n
  | _ => 0
set_option maxRecDepth 100000 in
theorem Buf.len {w : World} {base : Nat} {v : Value} {l : List UInt8} (h : Buf w base v l) : lenOf v = l.length := by
  rcases h.2 with ⟨rfl, h0⟩ | ⟨g, cap, cur, rfl, _⟩
  · exact h0.symm
  · rfl
set_option maxRecDepth 100000 in
theorem Buf.shape {w : World} {base : Nat} {v : Value} {l : List UInt8} (h : Buf w base v l) : ∃ a cap, v = .slice a l.length cap := by
  rcases h.2 with ⟨rfl, h0⟩ | ⟨g, cap, cur, rfl, _⟩
  · exact ⟨none, 0, by rw [h0]⟩
  · exact ⟨_, cap, rfl⟩
end Go.Proofs.YtphhnhldbajaoaaGreatDoor

namespace Go.Proofs.YtphhnhldbajaoaaGreatDoor
open Go.RowKit

set_option maxRecDepth 100000 in
theorem pad_byte (n k : Nat) : Value.int .u8 ((n : Int) * 8 / 2 ^ (56 - 8 * k) % 256) = byV (UInt8.ofNat (8 * n / 2 ^ (56 - 8 * k))) := by
  unfold byV
  congr 1
  rw [Nat.mul_comm 8 n]
  simp

set_option maxRecDepth 100000 in
set_option maxHeartbeats 1000000 in
theorem padding_any (n : Nat) (w : World) (hn : n ≤ 140737488355328) :
    Calls Tryz.prog 151 #[.int .i64 n] w fun e w' => e = .returned (.string ⟨(padB n).toArray⟩) ∧ Below w.heap.size w w' := by
  go_enter Tryz.func151, Tryz.ntmps151
  go_wp2
  go_loopw [3] (fun v wr => ∃ j : Nat, j ≤ padZ n ∧ lenOf v = 1 + j ∧ Hid (Buf wr w.heap.size v (128 :: List.replicate j 0)) ∧ Hid (Below w.heap.size w wr)) (fun v _ => 66 - lenOf v)
  case atStart =>
    exact ⟨0, Nat.zero_le _, rfl, ⟨rfl, .inr ⟨w.heap.size, 1, #[.int .u8 128], rfl, Nat.le_refl _, heap_alloc_new w _, Nat.le_refl _, by decide, rfl, rfl⟩⟩, (Below.refl _ _).alloc (Nat.le_refl _) _⟩
  case round =>
    obtain ⟨j, hj, hlen, HB, HL⟩ := hrel
    obtain ⟨a, cap, rfl⟩ := HB.out.shape
    have hz := padZ_lt n
    have hd := hz
    have hll : (128 :: List.replicate j (0 : UInt8)).length = 1 + j := by simp; omega
    have hnext := Lib.hid (padRow_succ j)
    rw [hll] at hlen HB ⊢
    have hsz := HL.out.size
    by_cases hlt : j < padZ n
    · have ht := pad_more n j hlt
      generalize 128 :: List.replicate j (0 : UInt8) = row at *
      have hl1 : row.length ≤ 65 := by omega
      clear hll hlen
      go_wp2_with (at_builtin; refine wp_buf_push _ rfl _ _ rfl w.heap.size _ row rfl (HB.out.alloc _) ⟨wr.heap.size, 0, none⟩ 1 1 [0] rfl rfl ?c1 (by omega) (by simp; omega) ?_)
      case c1 =>
        intro i u hi
        match i, hi with
        | 0, hi => simp at hi; subst hi; simp [Addr.add, byV]
      intro v' w' hb' hl'
      rw [hnext.out] at hb'
      have HB' := Lib.hid hb'
      have HL' := Lib.hid (HL.out.trans (((Below.refl _ _).alloc (by omega) _).trans hl'))
      clear hb' hl'
      go_wp2
      go_roundw
      case rel => exact ⟨j + 1, by omega, by rw [HB'.out.len]; simp; omega, HB', HL'⟩
      case measure =>
        have := HB'.out.len
        simp at this
        show 66 - lenOf v' < 66 - (1 + j)
        omega
    · obtain rfl : j = padZ n := by omega
      have ht := pad_done n (padZ n) rfl
      have hrow : Hid (128 :: List.replicate (padZ n) (0 : UInt8) = 128 :: List.replicate (padZ n) 0) := rfl
      have hl1 : (128 :: List.replicate (padZ n) (0 : UInt8)).length ≤ 65 := by omega
      clear hll hlen hnext hj hd
      generalize hgr : 128 :: List.replicate (padZ n) (0 : UInt8) = row at *
      have Hgr := Lib.hid hgr
      clear hgr hrow
      go_wp2
      clear ht
      go_loopw [3, 19] (fun v i wr => ∃ k : Nat, k ≤ 8 ∧ i = .int .i64 k ∧ Hid (Buf wr w.heap.size v (row ++ be8 (8 * n) k)) ∧ Hid (Below w.heap.size w wr)) (fun _ i _ => 8 - (RowKit.intOf i).toNat)
      case atStart => exact ⟨0, Nat.zero_le _, rfl, by simpa [be8] using HB, HL⟩
      case round =>
        clear HB HL hsz
        obtain ⟨k, hk, rfl, HB, HL⟩ := hrel
        have hsz := HL.out.size
        have hb8 := be8_length (8 * n) k
        have hnext := Lib.hid (be8_succ (8 * n) k)
        by_cases hlt : k < 8
        · go_wp2_with (at_builtin; refine wp_buf_push _ rfl _ _ rfl w.heap.size _ (row ++ be8 (8 * n) k) rfl (HB.out.alloc _) ⟨wr.heap.size, 0, none⟩ 1 1 [UInt8.ofNat (8 * n / 2 ^ (56 - 8 * k))] rfl rfl ?c2 (by rw [List.length_append]; omega) (by simp; omega) ?_)
          case c2 =>
            intro i u hi
            match i, hi with
            | 0, hi =>
              simp at hi
              subst hi
              simp [Addr.add]
              exact pad_byte n k
          intro v' w' hb' hl'
          rw [← hnext.out] at hb'
          have HB' := Lib.hid hb'
          have HL' := Lib.hid (HL.out.trans (((Below.refl _ _).alloc (by omega) _).trans hl'))
          clear hb' hl'
          go_wp2
          go_roundw
          case rel => exact ⟨k + 1, by omega, by go_num, HB', HL'⟩
          case measure => simp [RowKit.intOf]; omega
        · have hk8 : k = 8 := by omega
          subst hk8
          have hc := HB.out.text
          have hfin : Hid ((⟨(row ++ be8 (8 * n) 8).toArray⟩ : ByteArray) = ⟨(padB n).toArray⟩) := by show _ = _; rw [← Hgr.out]; rfl
          go_wp2
          go_ret
          exact ⟨ret_str hfin.out, HL.out⟩
end Go.Proofs.YtphhnhldbajaoaaGreatDoor
