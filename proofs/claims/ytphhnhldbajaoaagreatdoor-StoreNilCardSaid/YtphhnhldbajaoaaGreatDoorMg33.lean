/-
  Texts put together: SeO, SeQ, DevMath, SeT, ClogQ, SeU, SeV, SeW, SeX, SpaceFun, SpaceRow.
-/
import Derived.Test.YtphhnhldbajaoaaGreatDoorSeN
import Derived.Test.YtphhnhldbajaoaaGreatDoorMg10
import Derived.Test.YtphhnhldbajaoaaGreatDoorClogJ
import Derived.Test.YtphhnhldbajaoaaGreatDoorMg12
import Derived.Deep.RegionHeld3
import Derived.Deep.QuietTactic
import Derived.BigQuiet
import Derived.Lib.AppendZeros
import Derived.Deep.Onto
namespace Go.Proofs.YtphhnhldbajaoaaGreatDoor
open Go Go.RowKit Go.ChangeShapes Go.WideShapes Go.ChangeAt

theorem One.addSc {B : Nat} {P : List Nat → World → Prop} {b s m : Nat} {d : DevD} {x : SecD} {w w' : World} (hP : Fixed P) (h : One B P b d w) (hb : Below w.heap.size w w') (hx : SecAt w' s b m x) (hs : w.heap.size ≤ s) (hm : w.heap.size ≤ m) : One B (Both P (ScF s b x)) b d w' := by
  have h2 := h.keep hP hb
  obtain ⟨hz, F, G, h1, hg, h5, h6⟩ := h
  have hc : Chg [] w w' := Chg.of hb (Nat.le_refl _)
  have hF := (fixed_dev b d).lt _ _ h1
  have hG := hP.lt _ _ hg
  refine ⟨Nat.le_trans hz hb.size, F, G ++ [s, m], (fixed_dev b d).keep _ _ _ _ h1 hc (fun _ _ h => by cases h), ⟨G, [s, m], rfl, hP.keep _ _ _ _ hg hc (fun _ _ h => by cases h), ⟨m, rfl, hx⟩, fun k hk hm2 => ?_⟩, fun k hk => ⟨(h5 k hk).1, fun hm2 => ?_⟩, fun k hk => ?_⟩
  · have := hG k hk
    simp only [List.mem_cons, List.not_mem_nil, or_false] at hm2
    omega
  · rcases List.mem_append.1 hm2 with h3 | h3
    · exact (h5 k hk).2 h3
    · have := hF k hk
      simp only [List.mem_cons, List.not_mem_nil, or_false] at h3
      omega
  · rcases List.mem_append.1 hk with h3 | h3
    · exact h6 k h3
    · simp only [List.mem_cons, List.not_mem_nil, or_false] at h3
      omega
def newX (f n : Nat) : SecD := ⟨f, n, [], 0, 0⟩

section
variable {B : Nat} {P : List Nat → World → Prop} (hP : Fixed P) {b : Nat} {d : DevD} {w : World} (h : One B P b d w)
include hP h

set_option maxRecDepth 100000 in
set_option maxHeartbeats 2000000 in
theorem open_ok (f n : Nat) (h2n : 2 ≤ n) (hfn : f + n ≤ devSize d 1) (hds : devSize d 1 ≤ 512) (hK : Kt w) (hB : 0 < B) (hT : ∀ l, (tellD d l).size ≤ 1000000) :
    Calls Tryz.prog 69 #[.pointer (some ⟨b, 0, none⟩), .int .i64 f, .int .i64 n] w fun e w' => ∃ s, e = .returned (.pointer (some ⟨s, 0, none⟩)) ∧ One B (Both P (ScF s b (recX d (newX f n)))) b d w' ∧ Below B w w' := by
  have HO := Lib.hid h
  have HP := Lib.hid hP
  have HK := Lib.hid hK
  have HBP := Lib.hid hB
  have HT := Lib.hid hT
  have HN : Hid (2 ≤ n ∧ n ≤ 512 ∧ f ≤ 512) := ⟨h2n, by omega, by omega⟩
  have HSZ := Lib.hid (one_size h 1)
  obtain ⟨z, hz⟩ : ∃ z, z = devSize d 1 := ⟨_, rfl⟩
  rw [← hz] at HSZ hfn hds
  have d0 : ¬ (f : Int) < 0 := by omega
  have d1 : ¬ (n : Int) < 2 := by omega
  have hw : wrap64 ((z : Int) - (n : Int)) = (z : Int) - n := IntWalk.wrap64_in _ (by omega)
  have hi : IntKind.i64.wrap ((z : Int) - (n : Int)) = (z : Int) - n := IntWalk.i64_in _ ⟨by omega, by omega⟩
  have d2 : ¬ ((z : Int) - (n : Int)) < (f : Int) := by omega
  have hmm := @run_makeMap Tryz.prog
  clear hz h hP h2n hfn hds hK hB hT
  go_enter Tryz.func69, Tryz.ntmps69
  go_wp2_with fail
  refine HSZ.out.mono ?_
  rintro e w' ⟨rfl, rfl⟩
  go_wp2_with fail
  have hb0 : Below w.heap.size w ((w.alloc (.map #[] 0)).alloc (.cells (secC b w.heap.size (newX f n)) 158)) := ((Below.refl _ w).alloc (Nat.le_refl _) _).alloc (by rw [size_alloc]; omega) _
  have hbx := Box.new (w.alloc (.map #[] 0)) 158 (secC b w.heap.size (newX f n))
  rw [size_alloc] at hbx
  have hm0 : EnAt ((w.alloc (.map #[] 0)).alloc (.cells (secC b w.heap.size (newX f n)) 158)) w.heap.size [] := by
    have h1 : EnAt (w.alloc (.map #[] 0)) w.heap.size [] := ⟨.map [], World.ownsMap_made w _ _ _, EnIs.nil⟩
    exact h1.keep ((Below.refl _ _).alloc (Nat.le_refl _) _)
  have hs1 : SecAt ((w.alloc (.map #[] 0)).alloc (.cells (secC b w.heap.size (newX f n)) 158)) (w.heap.size + 1) b w.heap.size (newX f n) := ⟨hbx, hm0, by omega⟩
  have ho1 := HO.out.addSc HP.out hb0 hs1 (by omega) (Nat.le_refl _)
  have hb1 := hb0.mono HO.out.1
  have HRC := Lib.hid (recall_any HP.out ho1 HN.out.2.2 HN.out.2.1 HN.out.1 (HK.out.below hb1 HBP.out) HBP.out HT.out (Nat.zero_le _))
  have HB1 := Lib.hid hb1
  clear hb0 hbx hm0 hs1 ho1 hb1
  refine HRC.out.mono ?_
  rintro e w2 ⟨rfl, ho2, hb2⟩
  have HO2 := Lib.hid ho2
  have HB2 := Lib.hid (HB1.out.trans hb2)
  clear ho2 hb2 HRC HB1
  go_wp2
  go_ret
  exact ⟨_, rfl, HO2.out, HB2.out⟩

end

end Go.Proofs.YtphhnhldbajaoaaGreatDoor

namespace Go.Proofs.YtphhnhldbajaoaaGreatDoor
open Go Go.RowKit Go.Shelf Go.ChangeShapes Go.WideShapes Go.ChangeAt

attribute [local go_sem] Oper.semAt_some

set_option maxRecDepth 100000 in
set_option maxHeartbeats 2000000 in
theorem entryof_nil_in (key : ByteArray) (w : World) :
    CallsIn Fence.wide 6 Tryz.prog 123 #[.pointer none, .string key] w fun e w' => e = .returned (.tuple #[cgV noE, .bool false]) ∧ Below w.heap.size w w' := by
  have B0 := Box.new w 90 #[.pointer none]
  have B1 := Box.new (w.alloc (.cells #[.pointer none] 90)) 9 #[.string key]
  have B2 := Box.new ((w.alloc (.cells #[.pointer none] 90)).alloc (.cells #[.string key] 9)) 170 #[.string ⟨#[]⟩, .string ⟨#[]⟩, .int .i64 0, .int .i64 0]
  have B3 := Box.new (((w.alloc (.cells #[.pointer none] 90)).alloc (.cells #[.string key] 9)).alloc (.cells #[.string ⟨#[]⟩, .string ⟨#[]⟩, .int .i64 0, .int .i64 0] 170)) 4 #[.bool false]
  simp only [size_alloc] at B1 B2 B3
  have hb0 : Below w.heap.size w ((((w.alloc (.cells #[.pointer none] 90)).alloc (.cells #[.string key] 9)).alloc (.cells #[.string ⟨#[]⟩, .string ⟨#[]⟩, .int .i64 0, .int .i64 0] 170)).alloc (.cells #[.bool false] 4)) := ((((Below.refl _ w).alloc (Nat.le_refl _) _).alloc (by rw [size_alloc]; omega) _).alloc (by simp only [size_alloc]; omega) _).alloc (by simp only [size_alloc]; omega) _
  have HB0 := Lib.hid hb0
  have HA3 := Lib.hid B3
  have HA2 := Lib.hid (B2.alloc (.cells #[.bool false] 4))
  have HA1 := Lib.hid ((B1.alloc (.cells #[.string ⟨#[]⟩, .string ⟨#[]⟩, .int .i64 0, .int .i64 0] 170)).alloc (.cells #[.bool false] 4))
  have HA0 := Lib.hid (((B0.alloc (.cells #[.string key] 9)).alloc (.cells #[.string ⟨#[]⟩, .string ⟨#[]⟩, .int .i64 0, .int .i64 0] 170)).alloc (.cells #[.bool false] 4))
  clear B0 B1 B2 B3 hb0
  refine callsIn_of_wp_marks Tryz.func123 rfl trivial ?_ rfl
  simp only [Tryz.ntmps123, List.size_toArray, List.length_cons, List.length_nil, Nat.reduceAdd, Nat.reduceSub, Array.replicate_succ, Array.replicate_zero, List.push_toArray, List.append_toArray, List.nil_append, List.cons_append]
  gi_wp2_with fail
  generalize hW1 : (((w.alloc (.cells #[.pointer none] 90)).alloc (.cells #[.string key] 9)).alloc (.cells #[.string ⟨#[]⟩, .string ⟨#[]⟩, .int .i64 0, .int .i64 0] 170)).alloc (.cells #[.bool false] 4) = W1 at *
  have hz1 : W1.heap.size = w.heap.size + 4 := by rw [← hW1]; simp only [size_alloc]
  clear hW1
  obtain ⟨g, hg⟩ : ∃ g, g = w.heap.size := ⟨_, rfl⟩
  rw [← hg] at HB0 HA0 HA1 HA2 HA3 hz1 ⊢
  have HG := Lib.hid hg
  have HZ1 := Lib.hid hz1
  have hb1 := (HB0.out.drew)
  have a0 := HA0.out.cell 0 _ rfl
  clear hg hz1
  simp only [Nat.add_assoc, Nat.reduceAdd] at HA2 HA3 ⊢
  clear hb1
  refine wpIn_wide.2 ?_
  refine wp_region_tree (fun W => W.cell? ⟨g, 0, none⟩ = some (.pointer none)) 3 (.quiet 0 (.quiet 1 (.make 2 .nil))) (by kernel_rfl) (by kernel_rfl) a0 ?_
  simp only [List.drop_succ_cons, List.drop_zero]
  iterate 2 (apply wpTr_step rfl; (intro W hS K hK; go_simp; exact hK _ rfl))
  refine wpTr_make rfl (fun K' hK => ?_)
  go_simp
  refine (room_nil _).mono ?_
  rintro e W2 ⟨rfl, hb2⟩
  have hbb : Below (g + 4) W1 W2 := ((Below.refl _ W1).drew).trans (hb2.mono (Nat.le_of_eq HZ1.out.symm))
  have A0 := Lib.hid (HA0.out.keep hbb (by omega))
  have A1 := Lib.hid (HA1.out.keep hbb (by omega))
  have A2 := Lib.hid (HA2.out.keep hbb (by omega))
  have A3 := Lib.hid (HA3.out.keep hbb (by omega))
  have HB2 := Lib.hid (HB0.out.trans (hbb.mono (Nat.le_add_right g 4)))
  have HZ2 : Hid (g + 4 ≤ W2.heap.size) := by have := hbb.size; rw [HZ1.out] at this; exact this
  refine hK _ _ _ (fun _ h => h) (A0.out.cell 0 _ rfl) ?_
  clear hK K' hb2 hbb HB0 HA0 HA1 HA2 HA3 a0
  refine wpTr_nil ?_
  go_wp2_with fail
  refine (places_any _ _ _ _).mono ?_
  rintro e X ⟨rfl, hb, bs, b4, b5⟩
  obtain ⟨q, hq⟩ : ∃ q, q = W2.heap.size := ⟨_, rfl⟩
  rw [← hq] at hb bs b4 b5 HZ2 ⊢
  have HQ := Lib.hid hq
  clear hq
  have R0 := Lib.hid (A0.out.keep hb (by have := HZ2.out; omega))
  have R1 := Lib.hid (A1.out.keep hb (by have := HZ2.out; omega))
  have R2 := Lib.hid (A2.out.keep hb (by have := HZ2.out; omega))
  have R3 := Lib.hid (A3.out.keep hb (by have := HZ2.out; omega))
  have HBX := Lib.hid (HB2.out.trans (hb.mono (by have := HZ2.out; omega)))
  have HBS := Lib.hid bs
  have HB4 := Lib.hid b4
  have HB5 := Lib.hid b5
  clear hb bs b4 b5 A0 A1 A2 A3 HB2
  obtain ⟨z, hz⟩ : ∃ z, z = X.heap.size := ⟨_, rfl⟩
  have HZ : Hid (z = X.heap.size ∧ q + 3 ≤ z) := ⟨hz, by rw [hz]; exact HB5.out.lt⟩
  have HL0 : Hid (SameLow g (q + 3) X X) := ⟨by rw [← hz]; exact HZ.out.2, fun _ _ _ => rfl⟩
  clear hz
  go_wp2_with fail
  gi_wp2_with fail
  refine range_by (gf := 162) (lb := #[.pointer (some ⟨q + 1, 0, none⟩), .pointer (some ⟨q + 2, 0, none⟩), .pointer (some ⟨q, 0, none⟩)]) (by decide) rfl (enters_of Tryz.func162 (by kernel_rfl) rfl)
    0 (min 0 0) (fun _ => #[.int .i64 0]) (fun _ => rfl) (fun W => Below g w W ∧ SameLow g (q + 3) X W)
    (fun l J Jx W hgd hbl hyy h0 => ?iter) (fun _ W => Below g w W ∧ SameLow g (q + 3) X W ∧ True) (fun _ => False) (fun k W h => ⟨h.1, h.2.1⟩) ?jb ?jp (fun _ _ h _ => h.elim) ⟨HBX.out, HL0.out, trivial⟩ ?body ?fin (fun _ h _ _ => h.elim)
  case iter =>
    refine places_iter 5 l q (q + 1) (q + 2) (by decide) none 0 0 0 (by decide) (by decide) (by decide) (fun _ => 0) _ ?_ ?_ ?_ J Jx W hgd hbl hyy h0
    · rintro W ⟨hb, hl⟩
      have := HZ2.out
      exact ⟨hl.box HBS.out (by omega) (by omega), hl.box HB4.out (by omega) (by omega), hl.box HB5.out (by omega) (by omega)⟩
    · rintro W ⟨hb, hl⟩
      exact room_nil W
    · rintro W k _ h1 h2
      omega
  case jb =>
    rintro k W W' ⟨hb, hl, hk⟩ hbb
    exact ⟨hb.trans (hbb.mono (by have := hl.1; have := HZ2.out; omega)), hl.keep hbb, hk⟩
  case jp =>
    rintro k W o ⟨hb, hl, hk⟩ hs
    have := HZ.out
    have := HZ2.out
    exact ⟨below_put hb (by rw [HG.out]; exact Nat.le_refl _) _ _ (by omega), hl.put _ _ (by omega), hk⟩
  case body =>
    rintro k W h1 h2
    omega
  case fin =>
    rintro W ⟨hb, hl, hk⟩ hs hd
    have B2 := Lib.hid (hl.box R2.out (by have := HZ2.out; omega) (by omega))
    have B3 := Lib.hid (hl.box R3.out (by have := HZ2.out; omega) (by omega))
    have HB := Lib.hid hb
    have HL := Lib.hid hl
    rw [← HZ.out.1] at hd ⊢
    have HD := Lib.hid hd
    clear hb hl hk hs hd
    have p0 := B2.out.cell 0 _ rfl
    have p1 := B2.out.cell 1 _ rfl
    have p2 := B2.out.cell 2 _ rfl
    have p3 := B2.out.cell 3 _ rfl
    have f0 := B2.out.free 0
    have f1 := B2.out.free 1
    have f2 := B2.out.free 2
    have f3 := B2.out.free 3
    have q0 := B3.out.cell 0 _ rfl
    have q1 := B3.out.free 0
    gi_wp2
    obtain ⟨r2, r3, rc⟩ := five_set B2.out B3.out (by omega) (.string ⟨#[]⟩) (.string ⟨#[]⟩) (.int .i64 0) (.int .i64 0) (.bool false)
    have hzz := HZ.out
    have hz2 := HZ2.out
    have hll := HL.out.1
    generalize (((((W.setCell ⟨g + 2, 0, none⟩ (.string ⟨#[]⟩)).setCell ⟨g + 2, 1, none⟩ (.string ⟨#[]⟩)).setCell ⟨g + 2, 2, none⟩ (.int .i64 0)).setCell ⟨g + 2, 3, none⟩ (.int .i64 0)).setCell ⟨g + 3, 0, none⟩ (.bool false)) = W5 at *
    have hdd := (rc.block z (lt_of_block HD.out) (by simp; omega)).trans HD.out
    refine ⟨by simp, .inl ⟨_, _, rfl, run_takeDeferred hdd, ?_⟩⟩
    refine ⟨_, results_bc rfl _ _ (g + 2) ⟨g + 3, 0, none⟩ 170 _ (0, 0) _ (.bool false) rfl rfl (r2.of (World.putObj_heap_other (by omega))) Tryz.underlying170 rfl sizeEnt (Tryz.isAgg4 _) ((r3.of (World.putObj_heap_other (by omega))).cell 0 _ rfl), ?_⟩
    refine ⟨rfl, ?_⟩
    rw [← HG.out]
    exact below_put (HB.out.trans (rc.below (by omega) (by intro j hj; simp at hj; omega))) (by rw [HG.out]; exact Nat.le_refl _) _ _ (by omega)
set_option maxRecDepth 100000 in
theorem find_nil (key : ByteArray) (w : World) : Calls Tryz.prog 114 #[.pointer none, .string key] w fun e w' => e = .returned (.tuple #[.string ⟨#[]⟩, .bool false]) ∧ Below w.heap.size w w' := by
  go_enter Tryz.func114, Tryz.ntmps114
  go_wp2_with fail
  refine (callsIn_wide.1 (entryof_nil_in key _)).mono ?_
  rintro e w1 ⟨rfl, hb⟩
  have HB := Lib.hid (hb.trans (((Below.refl w1.heap.size w1).alloc (Nat.le_refl _) (.cells #[.string ⟨#[]⟩, .string ⟨#[]⟩, .int .i64 0, .int .i64 0] 170)).mono hb.size))
  unfold noE
  clear hb
  go_wp2
  go_ret2
  exact ⟨rfl, HB.out⟩

set_option maxRecDepth 100000 in
theorem feed_nil (key load : ByteArray) (w : World) : Calls Tryz.prog 88 #[.pointer none, .string key, .string load] w fun e w' => e = .returned (.bool false) ∧ Below w.heap.size w w' := by
  go_enter Tryz.func88, Tryz.ntmps88
  go_wp2_with fail
  refine (room_nil _).mono ?_
  rintro e w1 ⟨rfl, hb⟩
  have HB := Lib.hid hb
  clear hb
  go_wp2
  go_ret
  exact ⟨rfl, HB.out⟩

end Go.Proofs.YtphhnhldbajaoaaGreatDoor

namespace Go.Proofs.YtphhnhldbajaoaaGreatDoor
open Go.RowKit

theorem size_writeD (d : DevD) (l : Int × Int) (s : ByteArray) (dev : Int) : devSize (writeD d l s) dev = devSize d dev := by
  unfold writeD
  split
  · exact size_setTell d l s dev
  · rfl
theorem size_endD (d : DevD) (l : List WrD) (dev : Int) : devSize (endD d l) dev = devSize d dev := by
  rw [← size_foldHas l dev d]
  rfl
end Go.Proofs.YtphhnhldbajaoaaGreatDoor

namespace Go.Proofs.YtphhnhldbajaoaaGreatDoor
open Go Go.RowKit

end Go.Proofs.YtphhnhldbajaoaaGreatDoor

namespace Go.Proofs.YtphhnhldbajaoaaGreatDoor
open Go.RowKit

end Go.Proofs.YtphhnhldbajaoaaGreatDoor

namespace Go.Proofs.YtphhnhldbajaoaaGreatDoor
open Go Go.RowKit

end Go.Proofs.YtphhnhldbajaoaaGreatDoor

namespace Go.Proofs.YtphhnhldbajaoaaGreatDoor
open Go Go.RowKit

end Go.Proofs.YtphhnhldbajaoaaGreatDoor

namespace Go.Proofs.YtphhnhldbajaoaaGreatDoor
open Go Go.RowKit

theorem decC_none : decC ⟨#[]⟩ = ((0, []), 2) := if_pos (by decide)
theorem recT_none {d : DevD} {x : SecD} : ∀ i, (∀ g, g < i → (readX d x (7 * g)).1 = false) → recT d x i = ([], x)
  | 0, _ => rfl
  | i + 1, h => by
    rw [recT_succ, recS_no (h i (Nat.lt_succ_self i)), recT_none i (fun g hg => h g (by omega))]
theorem merge_none : mergeL [] = [] := by
  rw [mergeL_eq]
  unfold keysD newDt
  simp
theorem rec_new {d : DevD} {f n : Nat} (h : ∀ l, tellD d l = ⟨#[]⟩) : recX d (newX f n) = newX f n := by
  unfold recX
  rw [recT_none]
  · rw [merge_none]
    rfl
  · intro g _
    rw [readX_err (q := ((0, []), 2)) (by rw [h]; exact decC_none) (by decide)]
end Go.Proofs.YtphhnhldbajaoaaGreatDoor

namespace Go.Proofs.YtphhnhldbajaoaaGreatDoor
open Go Go.RowKit

structure Tiny (d : DevD) : Prop where
  h0 : ∀ s ∈ d.s0.has, s.size ≤ 1024
  t0 : ∀ s ∈ d.s0.tells, s.size ≤ 1024
  h1 : ∀ s ∈ d.s1.has, s.size ≤ 1024
  t1 : ∀ s ∈ d.s1.tells, s.size ≤ 1024
  w : ∀ x ∈ d.waits, x.2.size ≤ 1024
theorem getD_tiny {l : List ByteArray} (h : ∀ s ∈ l, s.size ≤ 1024) (k : Nat) : (l.getD k ⟨#[]⟩).size ≤ 1024 := by
  rw [List.getD]
  cases e : l[k]? with
  | none => show (0 : Nat) ≤ 1024; omega
  | some v => exact h v (List.mem_of_getElem? e)
theorem Tiny.tell {d : DevD} (h : Tiny d) (l : Int × Int) : (tellD d l).size ≤ 1024 := by
  unfold tellD
  split
  · unfold sideOf
    split
    · exact getD_tiny h.t0 _
    · exact getD_tiny h.t1 _
  · show (0 : Nat) ≤ 1024
    omega
theorem set_tiny {l : List ByteArray} (h : ∀ s ∈ l, s.size ≤ 1024) (k : Nat) {t : ByteArray} (ht : t.size ≤ 1024) : ∀ s ∈ l.set k t, s.size ≤ 1024 := fun s hs => by
  rcases List.mem_or_eq_of_mem_set hs with h1 | h1
  · exact h s h1
  · rw [h1]; exact ht
theorem Tiny.setTell {d : DevD} (h : Tiny d) (l : Int × Int) {t : ByteArray} (ht : t.size ≤ 1024) : Tiny (setTell d l t) := by
  unfold Go.Proofs.YtphhnhldbajaoaaGreatDoor.setTell
  split
  · exact ⟨h.h0, set_tiny h.t0 _ ht, h.h1, h.t1, h.w⟩
  · exact ⟨h.h0, h.t0, h.h1, set_tiny h.t1 _ ht, h.w⟩
theorem Tiny.setHas {d : DevD} (h : Tiny d) (l : Int × Int) {t : ByteArray} (ht : t.size ≤ 1024) : Tiny (setHas d l t) := by
  unfold Go.Proofs.YtphhnhldbajaoaaGreatDoor.setHas
  split
  · exact ⟨set_tiny h.h0 _ ht, h.t0, h.h1, h.t1, h.w⟩
  · exact ⟨h.h0, h.t0, set_tiny h.h1 _ ht, h.t1, h.w⟩
theorem Tiny.waits {d : DevD} (h : Tiny d) {ws : List WrD} (hw : ∀ x ∈ ws, x.2.size ≤ 1024) : Tiny { d with waits := ws } := ⟨h.h0, h.t0, h.h1, h.t1, hw⟩
theorem Tiny.write {d : DevD} (h : Tiny d) (l : Int × Int) (t : ByteArray) : Tiny (writeD d l t) := by
  unfold writeD
  split
  · next hc =>
    have ht := (chkD_ok hc).2.2.2.1
    refine (h.setTell l ht).waits (fun x hx => ?_)
    rcases List.mem_append.1 hx with h1 | h1
    · exact h.w x h1
    · rw [List.mem_singleton.1 h1]; exact ht
  · exact h
theorem Tiny.fold : ∀ (ws : List WrD) {d : DevD}, Tiny d → (∀ x ∈ ws, x.2.size ≤ 1024) → Tiny (foldHas d ws)
  | [], _, h, _ => h
  | x :: r, _, h, hw => Tiny.fold r (h.setHas x.1 (hw x List.mem_cons_self)) (fun y hy => hw y (List.mem_cons_of_mem _ hy))
theorem Tiny.endT {d : DevD} (h : Tiny d) (k : Nat) : Tiny (endT d k) := by
  refine ⟨?_, ?_, ?_, ?_, h.w⟩
  · unfold Go.Proofs.YtphhnhldbajaoaaGreatDoor.endT; simp only; split
    · exact h.h0
    · exact h.h0
  · unfold Go.Proofs.YtphhnhldbajaoaaGreatDoor.endT; simp only; split
    · exact h.h0
    · exact h.t0
  · unfold Go.Proofs.YtphhnhldbajaoaaGreatDoor.endT; simp only; split
    · exact h.h1
    · exact h.h1
  · unfold Go.Proofs.YtphhnhldbajaoaaGreatDoor.endT; simp only; split
    · exact h.h1
    · exact h.t1
theorem Tiny.ends {d : DevD} (h : Tiny d) {ws : List WrD} (hw : ∀ x ∈ ws, x.2.size ≤ 1024) : Tiny (endD d ws) :=
  ((Tiny.fold ws h hw).waits (fun x hx => by cases hx)).endT 2
theorem Tiny.flush {d : DevD} (h : Tiny d) : Tiny (flushD d) := h.ends h.w
theorem Tiny.feed {d : DevD} (h : Tiny d) (x : SecD) (key load : ByteArray) : Tiny (putD' d x key load) := ((((h.write _ _).flush).write _ _).flush).write _ _
theorem Tiny.new (m n : Nat) : Tiny (newD m n) := by
  have h : ∀ k, ∀ s ∈ (newS k).has, s.size ≤ 1024 := fun k s hs => by
    unfold newS at hs
    rw [List.eq_of_mem_replicate hs]
    show (0 : Nat) ≤ 1024
    omega
  have h2 : ∀ k, ∀ s ∈ (newS k).tells, s.size ≤ 1024 := fun k s hs => by
    unfold newS at hs
    rw [List.eq_of_mem_replicate hs]
    show (0 : Nat) ≤ 1024
    omega
  exact ⟨h m, h2 m, h n, h2 n, fun x hx => by cases hx⟩

end Go.Proofs.YtphhnhldbajaoaaGreatDoor

namespace Go.Proofs.YtphhnhldbajaoaaGreatDoor
open Go.RowKit Go.ChangeShapes Go.WideShapes Go.ChangeAt

theorem take1_any (x : Int × Int) (cb : Nat) (n : Int) (w : World) (hc : w.cell? ⟨cb, 0, none⟩ = some (.int .i64 n)) :
    Calls Tryz.prog 100 #[.agg #[.int .i64 x.1, .int .i64 x.2], .pointer (some ⟨cb, 0, none⟩)] w fun e w' => e = .returned (.bool (longB n x)) ∧ Below w.heap.size w w' := by
  obtain ⟨xa, xn⟩ := x
  have B := Box.new w 139 #[.int .i64 xa, .int .i64 xn]
  have ha := (Below.refl w.heap.size w).alloc (Nat.le_refl _) (.cells #[.int .i64 xa, .int .i64 xn] 139 (0, 0))
  have k0 := B.cell 0 _ rfl
  have k1 := B.cell 1 _ rfl
  have kc : (w.alloc (.cells #[.int .i64 xa, .int .i64 xn] 139 (0, 0))).cell? ⟨cb, 0, none⟩ = some (.int .i64 n) := (ha.cell (p := ⟨cb, 0, none⟩) (lt_of_cell hc)).trans hc
  have HL := Lib.hid ha
  clear ha B
  go_enter Tryz.func100, Tryz.ntmps100
  go_wp2
  go_ret
  exact ⟨by unfold longB; rfl, HL.out⟩

abbrev S3 (w : World) (cb : Nat) (xa xn n : Int) (w' : World) : Prop := w'.cell? ⟨w.heap.size, 0, none⟩ = some (.int .i64 xa) ∧ w'.cell? ⟨w.heap.size, 1, none⟩ = some (.int .i64 xn) ∧ w'.cell? ⟨cb, 0, none⟩ = some (.int .i64 n)
set_option maxRecDepth 100000 in
set_option maxHeartbeats 1000000 in
theorem index_take (a : Option Addr) (cap : Nat) (l : List (Int × Int)) (cb : Nat) (n : Int) (w : World) (h : SlP w a l) (hl : l.length ≤ 1000) (hc : w.cell? ⟨cb, 0, none⟩ = some (.int .i64 n)) :
    Calls Tryz.prog 99 #[.slice a l.length cap, .func (.func 100) #[] #[.pointer (some ⟨cb, 0, none⟩)]] w fun e w' =>
      e = .returned (.int .i64 (sidxP (longB n) l)) ∧ Below w.heap.size w w' := by
  have H := Lib.hid h
  have HC := Lib.hid hc
  clear h hc
  go_enter Tryz.func99, Tryz.ntmps99
  go_wp2
  go_loopw [5, 8] (fun _ i wr => ∃ k : Nat, k ≤ l.length ∧ i = .int .i64 k ∧ Hid (∀ x ∈ l.take k, longB n x = false) ∧ Hid (Below w.heap.size w wr)) (fun _ i _ => l.length - (intOf i).toNat)
  case atStart => exact ⟨0, Nat.zero_le _, rfl, Lib.hid (fun x hx => by simp at hx), Below.refl _ _⟩
  case round =>
    obtain ⟨k, hk, rfl, HN, HL⟩ := hrel
    by_cases hlt : k < l.length
    · obtain ⟨b, off, rfl, hb, hc0, hc1⟩ := (H.out.keep HL.out).get k hlt
      have HS := Lib.hid (fun e => sstep_no HN.out hlt e)
      have HI := Lib.hid (fun e => sidx_at HN.out hlt e)
      have HCW := Lib.hid ((HL.out.cell (p := ⟨cb, 0, none⟩) (lt_of_cell HC.out)).trans HC.out)
      generalize l[k] = x at *
      cases hx : longB n x
      · have Hx := Lib.hid hx
        go_wp2_with fail
        refine (take1_any x cb n _ HCW.out).mono ?_
        rintro e w1 ⟨rfl, hb1⟩
        rw [hx]
        have HB := Lib.hid (HL.out.trans (hb1.mono HL.out.size))
        have HY := Lib.hid (HS.out Hx.out)
        clear hx hb1 hc0 hc1 hb
        go_wp2
        go_roundw
        case rel => exact ⟨k + 1, by omega, by go_num, HY, HB⟩
        case measure => simp [intOf]; omega
      · have Hx := Lib.hid hx
        go_wp2_with fail
        refine (take1_any x cb n _ HCW.out).mono ?_
        rintro e w1 ⟨rfl, hb1⟩
        rw [hx]
        have HB := Lib.hid (HL.out.trans (hb1.mono HL.out.size))
        have HY := Lib.hid (HI.out Hx.out)
        clear hx hb1 hc0 hc1 hb
        go_wp2
        go_ret
        exact ⟨ret_int HY.out.symm, HB.out⟩
    · obtain rfl : k = l.length := by omega
      have HF := Lib.hid (sidx_no (P := longB n) (l := l) (by have := HN.out; rwa [List.take_length] at this))
      go_wp2
      go_ret
      exact ⟨ret_int HF.out.symm, HL.out⟩

end Go.Proofs.YtphhnhldbajaoaaGreatDoor

namespace Go.Proofs.YtphhnhldbajaoaaGreatDoor
open Go.RowKit Go.ChangeShapes Go.WideShapes Go.ChangeAt

set_option maxRecDepth 100000 in
/-- 'append([]S(nil), make([]S, n)...)'. -/
theorem wp_prs_zeros {t tn e : TypeId} (ht : Tryz.prog.underlying t = some (.slice e)) (htn : Tryz.prog.underlying tn = some (.int .i64)) (he : Two e) {ops : Array Oper} {rest : List Oper} {o : Oper} {a : Act} {Q : Exit → Act → World → Prop} (W : World) (hgd : o.guard = none) (s x : Operand)
    (ho : o.op = .call { callee := .builtin .append, args := #[s, x], argTypes := #[t, tn] })
    (hs : a.eval s = .slice none 0 0) (n : Nat) (hx : a.eval x = .int .i64 n) (h0 : 0 < n) (hn : n ≤ 100000)
    (h : ∀ g c w', n ≤ c → c ≤ maxLen → PrsS e w' W.heap.size (.slice (some ⟨g, 0, none⟩) 0 c) [] → Below W.heap.size W w' → wpList Tryz.prog ops Q rest (a.put o.dst (.slice (some ⟨g, 0, none⟩) n c)) w') : wpList Tryz.prog ops Q (o :: rest) a W := by
  obtain ⟨i0, hi, hz0, hz1, hz2⟩ := info_parts he
  have hr := Go.Lib.run_append_nil_zeros W t tn o.type e i0 (.agg #[.int .i64 0, .int .i64 0]) .i64 .i64 ht htn hi hz0 n h0 (by rw [hz1]; decide) (by omega) (by rw [hz2]; omega)
  have hge := grownCap_ge W n 0 e
  have hcm := grownCap_le_maxLen W n 0 e (by unfold maxLen; omega)
  refine wpList_plain hgd fun K hK => ?_
  unfold Oper.wp execOp
  simp only [ho, resolve, invoke, builtin, Sem.run_bind, Sem.run_pure, Result.andThen_ok, List.map_toArray, List.map_cons, List.map_nil, hs, hx, hr]
  refine hK _ _ (h W.heap.size (grownCap W n 0 e) _ hge hcm ⟨by simp, .inr ⟨W.heap.size, grownCap W n 0 e, _, rfl, Nat.le_refl _, heap_alloc_new W.drew _, Nat.zero_le _, hcm, ?_, by simp⟩⟩ ((Below.refl _ _).drew.alloc (Nat.le_refl _) _))
  simp only [Array.size_append, size_zeroCells]
  rw [show (Value.agg #[.int .i64 0, .int .i64 0]).cells.size = 2 from rfl, ← Nat.add_mul]
  congr 1
  omega

set_option maxRecDepth 100000 in
/-- 'append(s[:k:k], x...)', x not empty. -/
theorem wp_prs_grow {t e : TypeId} (ht : Tryz.prog.underlying t = some (.slice e)) (he : Two e) {ops : Array Oper} {rest : List Oper} {o : Oper} {a : Act} {Q : Exit → Act → World → Prop} (W : World) (hgd : o.guard = none) (s x : Operand)
    (ho : o.op = .call { callee := .builtin .append, args := #[s, x], argTypes := #[t, t] })
    (b : Addr) (l : List (Int × Int)) (hs : a.eval s = .slice (some b) l.length l.length) (hold : ∀ j u, (l.flatMap PrVS)[j]? = some u → W.cell? (b.add j) = some u)
    (ad : Addr) (c : Nat) (ps : List (Int × Int)) (hx : a.eval x = .slice (some ad) ps.length c) (hcell : ∀ j u, (ps.flatMap PrVS)[j]? = some u → W.cell? (ad.add j) = some u)
    (hpos : 0 < ps.length) (hbytes : l.length + ps.length ≤ 100000)
    (h : ∀ v' w', PrsS e w' W.heap.size v' (l ++ ps) → Below W.heap.size W w' → wpList Tryz.prog ops Q rest (a.put o.dst v') w') : wpList Tryz.prog ops Q (o :: rest) a W := by
  obtain ⟨i0, hi, hz0, hz1, hz2⟩ := info_parts he
  have hl := flat_len PrVS 2 (fun _ => rfl) l
  have hp := flat_len PrVS 2 (fun _ => rfl) ps
  have hr := run_append_grow (P := Tryz.prog) (w := W) t o.type e i0 (.agg #[.int .i64 0, .int .i64 0]) ht hi hz0 b l.length l.length (l.flatMap PrVS) (by rw [hz1]; exact hl) hold ad ps.length c (ps.flatMap PrVS) (by rw [hz1]; exact hp) hcell (by omega) (by omega) (growslice_fits (by omega) (by rw [hz2]; omega))
  have hge := grownCap_ge W (l.length + ps.length) l.length e
  have hcm := grownCap_le_maxLen W (l.length + ps.length) l.length e (by unfold maxLen; omega)
  refine wpList_plain hgd fun K hK => ?_
  unfold Oper.wp execOp
  simp only [ho, resolve, invoke, builtin, Sem.run_bind, Sem.run_pure, Result.andThen_ok, List.map_toArray, List.map_cons, List.map_nil, hs, hx, hr]
  refine hK _ _ (h _ _ ⟨?_, .inr ⟨W.heap.size, grownCap W (l.length + ps.length) l.length e, _, by rw [List.length_append], Nat.le_refl _, heap_alloc_new W.drew _, by rw [List.length_append]; exact hge, hcm, ?_, ?_⟩⟩ ((Below.refl _ _).drew.alloc (Nat.le_refl _) _))
  · rw [List.flatMap_append, List.length_append, hl, hp, List.length_append, Nat.add_mul]
  · simp only [Array.size_append, size_zeroCells, List.size_toArray, hl, hp]
    rw [show (Value.agg #[.int .i64 0, .int .i64 0]).cells.size = 2 from rfl, ← Nat.add_mul, ← Nat.add_mul]
    congr 1
    omega
  · simp only [Array.toList_append, List.append_assoc]
    rw [List.flatMap_append, ← List.append_assoc]
    have e2 : (l ++ ps).length * 2 = (l.flatMap PrVS ++ ps.flatMap PrVS).length := by rw [List.length_append, List.length_append, hl, hp, Nat.add_mul]
    rw [e2]
    exact List.take_left
end Go.Proofs.YtphhnhldbajaoaaGreatDoor
