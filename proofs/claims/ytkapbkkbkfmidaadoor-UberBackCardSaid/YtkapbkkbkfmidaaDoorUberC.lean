/-
  Contracts of package uber: rootAt, Write.
-/
import Derived.Test.YtkapbkkbkfmidaaDoorUberB
import Derived.Test.YtkapbkkbkfmidaaDoorMg40
namespace Go.Proofs.YtkapbkkbkfmidaaDoor
open Go.RowKit Go.ChangeShapes Go.WideShapes Go.ChangeAt

theorem undrew' {n : Nat} {w w' : World} (h : Below n w.drew w') : Below n w w' := ⟨h.os, h.tape, h.output, h.size, h.block⟩
theorem writeD_len' (d : DevD) (l : Int × Int) (s : ByteArray) : (writeD d l s).waits.length ≤ d.waits.length + 1 := by
  unfold writeD
  split <;> simp
/-- The root at a sector, or none. -/
def rootU (d : DevD) (l : Int × Int) : UbD := if (decU (tellD d l)).2 = 0 ∧ (decU (tellD d l)).1.txg % 4 = l.2 then (decU (tellD d l)).1 else ubN
theorem decU_may (s : ByteArray) (_h : (decU s).2 = 0) : 0 ≤ (decU s).1.txg := by
  unfold decU
  split
  · exact Int.le_refl 0
  · split
    · exact Int.le_refl 0
    · split
      · exact Int.le_refl 0
      · show 0 ≤ (rawU _).txg
        unfold rawU
        simp

set_option maxRecDepth 100000 in
set_option maxHeartbeats 2000000 in
theorem uroot_any {B : Nat} {P : List Nat → World → Prop} (hP : Fixed P) {b : Nat} {d : DevD} {w : World} (h : One B P b d w) (hB : 0 < B) (hK : Kt w) (l : Int × Int) (hT : (tellD d l).size ≤ 2000) :
    Calls Tryd.prog 59 #[.pointer (some ⟨b, 0, none⟩), locV l] w fun e w' => e = .returned (ubV (rootU d l)) ∧ Below w.heap.size w w' := by
  have HZ := Lib.hid (Nat.le_trans hB h.1)
  have HK := Lib.hid hK
  have HT := Lib.hid hT
  have h1 := h.keep hP ((Below.refl w.heap.size w).alloc (Nat.le_refl _) (.cells #[.int .i64 l.1, .int .i64 l.2] 55 (0, 0)))
  have H2 := Lib.hid (h1.keep hP ((Below.refl _ _).alloc (Nat.le_refl _) (.cells #[.int .i64 0, .string ⟨#[]⟩] 30 (0, 0))))
  have HL := Lib.hid (((Below.refl w.heap.size w).alloc (Nat.le_refl _) (.cells #[.int .i64 l.1, .int .i64 l.2] 55 (0, 0))).alloc (by rw [size_alloc]; omega) (.cells #[.int .i64 0, .string ⟨#[]⟩] 30 (0, 0)))
  have BL := Lib.hid ((Box.new w 55 #[.int .i64 l.1, .int .i64 l.2]).alloc (.cells #[.int .i64 0, .string ⟨#[]⟩] 30 (0, 0)))
  have br := Box.new (w.alloc (.cells #[.int .i64 l.1, .int .i64 l.2] 55 (0, 0))) 30 #[.int .i64 0, .string ⟨#[]⟩]
  rw [size_alloc] at br
  have BR := Lib.hid br
  have HU : Hid (rootU d l = if (decU (tellD d l)).2 = 0 ∧ (decU (tellD d l)).1.txg % 4 = l.2 then (decU (tellD d l)).1 else ubN) := rfl
  obtain ⟨a, c⟩ := l
  unfold locV
  simp only at *
  have k0 : ((w.alloc (.cells #[.int .i64 a, .int .i64 c] 55 (0, 0))).alloc (.cells #[.int .i64 0, .string ⟨#[]⟩] 30 (0, 0))).cell? ⟨w.heap.size, 0, none⟩ = some (.int .i64 a) := BL.out.cell 0 _ rfl
  have k1 : ((w.alloc (.cells #[.int .i64 a, .int .i64 c] 55 (0, 0))).alloc (.cells #[.int .i64 0, .string ⟨#[]⟩] 30 (0, 0))).cell? ⟨w.heap.size, 1, none⟩ = some (.int .i64 c) := BL.out.cell 1 _ rfl
  clear h h1 hB hK hT br
  go_enter Tryd.func59, Tryd.ntmps59
  go_wp2_with fail
  generalize World.alloc (World.alloc _ _) _ = wx at *
  refine (one_readS hP H2.out (a, c)).mono ?_
  rintro e w1 ⟨rfl, ho, hb⟩
  have L1 := Lib.hid (HL.out.trans (hb.mono HL.out.size))
  have BL1 := Lib.hid (BL.out.keep hb BL.out.lt)
  have BR1 := Lib.hid (BR.out.keep hb BR.out.lt)
  clear ho hb k0 k1 H2 HL BL BR
  generalize hts : tellD d (a, c) = ts at *
  generalize chkD d (a, c) 0 = ce at *
  have HTS := Lib.hid hts
  clear hts
  go_wp2_with fail
  refine (decode_any ts _ (Nat.le_trans HT.out (by decide)) (HK.out.below L1.out HZ.out)).mono ?_
  rintro e w2 ⟨rfl, hb⟩
  have L2 := Lib.hid (L1.out.trans (hb.mono L1.out.size))
  have BL2 := Lib.hid (BL1.out.keep hb BL1.out.lt)
  have BR2 := Lib.hid (BR1.out.keep hb BR1.out.lt)
  have HMY : Hid ((decU ts).2 = 0 → 0 ≤ (decU ts).1.txg) := decU_may ts
  clear hb L1 BL1 BR1
  generalize decU ts = du at *
  obtain ⟨⟨ut, ul⟩, ec⟩ := du
  unfold ubV
  simp only at *
  have HBU : ∀ o, Hid (Box (w2.alloc o) (w.heap.size + 1) 30 #[.int .i64 0, .string ⟨#[]⟩]) := fun o => BR2.out.alloc o
  by_cases hec : ec = 0
  · subst hec
    have hut : 0 ≤ ut := HMY.out rfl
    obtain ⟨m, hm⟩ : ∃ m, m = ut % 4 := ⟨_, rfl⟩
    have HM := Lib.hid hm
    rw [← hm] at HU
    clear hm
    go_wp2_with fail
    generalize hwx : World.alloc _ _ = w3
    have hb3 : Below w2.heap.size w2 w3 := by rw [← hwx]; exact (Below.refl _ _).alloc (Nat.le_refl _) _
    have BU : Hid (Box w3 w2.heap.size 30 #[.int .i64 ut, .string ul]) := by show Box _ _ _ _; rw [← hwx]; exact Box.new _ _ _
    have L3 := Lib.hid (L2.out.trans (hb3.mono L2.out.size))
    have BL3 := Lib.hid (BL2.out.keep hb3 BL2.out.lt)
    have BR3 := Lib.hid (BR2.out.keep hb3 BR2.out.lt)
    clear hwx hb3 L2 BL2 BR2 HBU
    generalize w2.heap.size = U at *
    have c1 : w3.drew.cell? ⟨w.heap.size, 1, none⟩ = some (.int .i64 c) := BL3.out.cell 1 _ rfl
    have u0 : w3.drew.cell? ⟨U, 0, none⟩ = some (.int .i64 ut) := BU.out.cell 0 _ rfl
    have u1 : w3.drew.cell? ⟨U, 1, none⟩ = some (.string ul) := BU.out.cell 1 _ rfl
    have HWL : Hid (w.heap.size < w3.heap.size) := BL3.out.lt
    by_cases hp : m = c
    · have hq1 : (m != c) = false := by simp [hp]
      have HQ : Hid (rootU d (a, c) = ⟨ut, ul⟩) := by show _ = _; rw [HU.out, if_pos (by simp [hp])]
      clear hp
      go_region_with ((go_at_call 54; go_must (refine (place_any ⟨ut, ul⟩ _ (by exact hut)).mono ?_; rintro e w4 ⟨rfl, hb⟩; rw [show (⟨ut, ul⟩ : UbD).txg % 4 = m from HM.out.symm]; have c1 := (hb.cell (p := ⟨w.heap.size, 1, none⟩) HWL.out).trans c1; have L4 := Lib.hid (L3.out.trans ((undrew' hb).mono L3.out.size)); have BU4 := Lib.hid (BU.out.keep (undrew' hb) BU.out.lt); have BR4 := Lib.hid (BR3.out.keep (undrew' hb) BR3.out.lt); clear hb)))
      all_goals
        clear c1 u0 u1
        have u0 : w4.cell? ⟨U, 0, none⟩ = some (.int .i64 ut) := BU4.out.cell 0 _ rfl
        have u1 : w4.cell? ⟨U, 1, none⟩ = some (.string ul) := BU4.out.cell 1 _ rfl
        have f0 := BR4.out.free 0
        have f1 := BR4.out.free 1
        have k0 : w4.cell? ⟨w.heap.size + 1, 0, none⟩ = some (.int .i64 0) := BR4.out.cell 0 _ rfl
        have k1 : w4.cell? ⟨w.heap.size + 1, 1, none⟩ = some (.string ⟨#[]⟩) := BR4.out.cell 1 _ rfl
        have HR : Hid (Box ((w4.setCell ⟨w.heap.size + 1, 0, none⟩ (.int .i64 ut)).setCell ⟨w.heap.size + 1, 1, none⟩ (.string ul)) (w.heap.size + 1) 30 #[(.int .i64 ut), (.string ul)]) := (BR4.out.set 0 _).set 1 _
        have HRB : Hid (Below w.heap.size w ((w4.setCell ⟨w.heap.size + 1, 0, none⟩ (.int .i64 ut)).setCell ⟨w.heap.size + 1, 1, none⟩ (.string ul))) := (L4.out.setCell (p := ⟨w.heap.size + 1, 0, none⟩) (by simp) _).setCell (p := ⟨w.heap.size + 1, 1, none⟩) (by simp) _
        go_wp2
        refine bodyPost_ret (results_cell_row rfl _ _ (w.heap.size + 1) 30 _ (0, 0) _ rfl HR.out Tryd.underlying30 rfl sizeUb) rfl ?_
        exact ⟨by rw [HQ.out]; rfl, HRB.out⟩
    · have hq1 : (m != c) = true := by simpa using hp
      have HQ : Hid (rootU d (a, c) = ubN) := by show _ = _; rw [HU.out, if_neg (by simp [hp])]
      clear hp
      go_region_with ((go_at_call 54; go_must (refine (place_any ⟨ut, ul⟩ _ (by exact hut)).mono ?_; rintro e w4 ⟨rfl, hb⟩; rw [show (⟨ut, ul⟩ : UbD).txg % 4 = m from HM.out.symm]; have c1 := (hb.cell (p := ⟨w.heap.size, 1, none⟩) HWL.out).trans c1; have L4 := Lib.hid (L3.out.trans ((undrew' hb).mono L3.out.size)); have BR4 := Lib.hid (BR3.out.keep (undrew' hb) BR3.out.lt); clear hb)))
      all_goals
        clear c1 u0 u1
        go_wp2_with fail
        refine (none_any _).mono ?_
        rintro e w5 ⟨rfl, hb⟩
        have L5 := Lib.hid (L4.out.trans (hb.mono L4.out.size))
        have BR5 := Lib.hid (BR4.out.keep hb BR4.out.lt)
        clear hb
        rw [show ubV ubN = .agg #[.int .i64 (-1), .string ⟨#[]⟩] from rfl]
        have f0 := BR5.out.free 0
        have f1 := BR5.out.free 1
        have k0 : w5.cell? ⟨w.heap.size + 1, 0, none⟩ = some (.int .i64 0) := BR5.out.cell 0 _ rfl
        have k1 : w5.cell? ⟨w.heap.size + 1, 1, none⟩ = some (.string ⟨#[]⟩) := BR5.out.cell 1 _ rfl
        have HR : Hid (Box ((w5.setCell ⟨w.heap.size + 1, 0, none⟩ (.int .i64 (-1))).setCell ⟨w.heap.size + 1, 1, none⟩ (.string ⟨#[]⟩)) (w.heap.size + 1) 30 #[(.int .i64 (-1)), (.string ⟨#[]⟩)]) := (BR5.out.set 0 _).set 1 _
        have HRB : Hid (Below w.heap.size w ((w5.setCell ⟨w.heap.size + 1, 0, none⟩ (.int .i64 (-1))).setCell ⟨w.heap.size + 1, 1, none⟩ (.string ⟨#[]⟩))) := (L5.out.setCell (p := ⟨w.heap.size + 1, 0, none⟩) (by simp) _).setCell (p := ⟨w.heap.size + 1, 1, none⟩) (by simp) _
        go_wp2
        refine bodyPost_ret (results_cell_row rfl _ _ (w.heap.size + 1) 30 _ (0, 0) _ rfl HR.out Tryd.underlying30 rfl sizeUb) rfl ?_
        exact ⟨by rw [HQ.out]; rfl, HRB.out⟩
  · have hq : (ec != 0) = true := by simpa using hec
    have HQ : Hid (rootU d (a, c) = ubN) := by show _ = _; rw [HU.out, if_neg (fun h => hec h.1)]
    clear hec
    go_wp2_with fail
    generalize hwx : World.alloc _ _ = w3
    have hb3 : Below w2.heap.size w2 w3 := by rw [← hwx]; exact (Below.refl _ _).alloc (Nat.le_refl _) _
    have L3 := Lib.hid (L2.out.trans (hb3.mono L2.out.size))
    have BR3 := Lib.hid (BR2.out.keep hb3 BR2.out.lt)
    clear hwx hb3 L2 BL2 BR2 HBU
    go_quiet (fail)
    have L4 : Hid (Below w.heap.size w (w3.drewN nq)) := ⟨L3.out.os, L3.out.tape, L3.out.output, L3.out.size, L3.out.block⟩
    have BR4 : Hid (Box (w3.drewN nq) (w.heap.size + 1) 30 #[.int .i64 0, .string ⟨#[]⟩]) := BR3.out
    generalize w3.drewN nq = w4 at *
    go_wp2_with fail
    refine (none_any _).mono ?_
    rintro e w5 ⟨rfl, hb⟩
    have L5 := Lib.hid (L4.out.trans (hb.mono L4.out.size))
    have BR5 := Lib.hid (BR4.out.keep hb BR4.out.lt)
    clear hb
    rw [show ubV ubN = .agg #[.int .i64 (-1), .string ⟨#[]⟩] from rfl]
    have f0 := BR5.out.free 0
    have f1 := BR5.out.free 1
    have k0 : w5.cell? ⟨w.heap.size + 1, 0, none⟩ = some (.int .i64 0) := BR5.out.cell 0 _ rfl
    have k1 : w5.cell? ⟨w.heap.size + 1, 1, none⟩ = some (.string ⟨#[]⟩) := BR5.out.cell 1 _ rfl
    have HR : Hid (Box ((w5.setCell ⟨w.heap.size + 1, 0, none⟩ (.int .i64 (-1))).setCell ⟨w.heap.size + 1, 1, none⟩ (.string ⟨#[]⟩)) (w.heap.size + 1) 30 #[(.int .i64 (-1)), (.string ⟨#[]⟩)]) := (BR5.out.set 0 _).set 1 _
    have HRB : Hid (Below w.heap.size w ((w5.setCell ⟨w.heap.size + 1, 0, none⟩ (.int .i64 (-1))).setCell ⟨w.heap.size + 1, 1, none⟩ (.string ⟨#[]⟩))) := (L5.out.setCell (p := ⟨w.heap.size + 1, 0, none⟩) (by simp) _).setCell (p := ⟨w.heap.size + 1, 1, none⟩) (by simp) _
    go_wp2
    refine bodyPost_ret (results_cell_row rfl _ _ (w.heap.size + 1) 30 _ (0, 0) _ rfl HR.out Tryd.underlying30 rfl sizeUb) rfl ?_
    exact ⟨by rw [HQ.out]; rfl, HRB.out⟩
end Go.Proofs.YtkapbkkbkfmidaaDoor
