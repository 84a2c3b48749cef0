/-
  Texts put together: SeO, SeQ, DevMath, SeT, ClogQ, SeU, SeV, SeW, SeX, ArcA.
-/
import Derived.Test.YtphhnhldbajaoaaGreatDoorSeN
import Derived.Test.YtphhnhldbajaoaaGreatDoorMg3
import Derived.Test.YtphhnhldbajaoaaGreatDoorClogJ
import Derived.Test.YtphhnhldbajaoaaGreatDoorMg20
namespace Go.Proofs.YtphhnhldbajaoaaGreatDoor
open Go Go.RowKit Go.ChangeShapes Go.WideShapes Go.ChangeAt

theorem One.addSc {B : Nat} {P : List Nat → World → Prop} {b s m : Nat} {d : DevD} {x : SecD} {w w' : World} (hP : Fixed P) (h : One B P b d w) (hb : Below w.heap.size w w') (hx : SecAt w' s b m x) (hs : w.heap.size ≤ s) (hm : w.heap.size ≤ m) : One B (Both P (ScF s b x)) b d w' := by
  have h2 := h.keep hP hb
  obtain ⟨hz, F, G, h1, hg, h5, h6⟩ := h
  have hc : Chg [] w w' := Chg.of hb (Nat.le_refl _)
  have hF := (fixed_dev b d).lt _ _ h1
  have hG := hP.lt _ _ hg
  refine ⟨Nat.le_trans hz hb.size, F, G ++ [s, m], (fixed_dev b d).keep _ _ _ _ h1 hc (fun _ _ h => by cases h), ⟨G, [s, m], rfl, hP.keep _ _ _ _ hg hc (fun _ _ h => by cases h), ⟨m, rfl, hx⟩, fun k hk hm2 => ?_⟩, fun k hk => ⟨(h5 k hk).1, fun hm2 => ?_⟩, fun k hk => ?_⟩
  · have := hG k hk
    simp only [List.mem_cons, List.not_mem_nil, or_false] at hm2
    omega
  · rcases List.mem_append.1 hm2 with h3 | h3
    · exact (h5 k hk).2 h3
    · have := hF k hk
      simp only [List.mem_cons, List.not_mem_nil, or_false] at h3
      omega
  · rcases List.mem_append.1 hk with h3 | h3
    · exact h6 k h3
    · simp only [List.mem_cons, List.not_mem_nil, or_false] at h3
      omega
def newX (f n : Nat) : SecD := ⟨f, n, [], 0, 0⟩

section
variable {B : Nat} {P : List Nat → World → Prop} (hP : Fixed P) {b : Nat} {d : DevD} {w : World} (h : One B P b d w)
include hP h

set_option maxRecDepth 100000 in
set_option maxHeartbeats 2000000 in
theorem open_ok (f n : Nat) (h2n : 2 ≤ n) (hfn : f + n ≤ devSize d 1) (hds : devSize d 1 ≤ 512) (hK : Kt w) (hB : 0 < B) (hT : ∀ l, (tellD d l).size ≤ 1000000) :
    Calls Tryz.prog 69 #[.pointer (some ⟨b, 0, none⟩), .int .i64 f, .int .i64 n] w fun e w' => ∃ s, e = .returned (.pointer (some ⟨s, 0, none⟩)) ∧ One B (Both P (ScF s b (recX d (newX f n)))) b d w' ∧ Below B w w' := by
  have HO := Lib.hid h
  have HP := Lib.hid hP
  have HK := Lib.hid hK
  have HBP := Lib.hid hB
  have HT := Lib.hid hT
  have HN : Hid (2 ≤ n ∧ n ≤ 512 ∧ f ≤ 512) := ⟨h2n, by omega, by omega⟩
  have HSZ := Lib.hid (one_size h 1)
  obtain ⟨z, hz⟩ : ∃ z, z = devSize d 1 := ⟨_, rfl⟩
  rw [← hz] at HSZ hfn hds
  have d0 : ¬ (f : Int) < 0 := by omega
  have d1 : ¬ (n : Int) < 2 := by omega
  have hw : wrap64 ((z : Int) - (n : Int)) = (z : Int) - n := IntWalk.wrap64_in _ (by omega)
  have hi : IntKind.i64.wrap ((z : Int) - (n : Int)) = (z : Int) - n := IntWalk.i64_in _ ⟨by omega, by omega⟩
  have d2 : ¬ ((z : Int) - (n : Int)) < (f : Int) := by omega
  have hmm := @run_makeMap Tryz.prog
  clear hz h hP h2n hfn hds hK hB hT
  go_enter Tryz.func69, Tryz.ntmps69
  go_wp2_with fail
  refine HSZ.out.mono ?_
  rintro e w' ⟨rfl, rfl⟩
  go_wp2_with fail
  have hb0 : Below w.heap.size w ((w.alloc (.map #[] 0)).alloc (.cells (secC b w.heap.size (newX f n)) 158)) := ((Below.refl _ w).alloc (Nat.le_refl _) _).alloc (by rw [size_alloc]; omega) _
  have hbx := Box.new (w.alloc (.map #[] 0)) 158 (secC b w.heap.size (newX f n))
  rw [size_alloc] at hbx
  have hm0 : EnAt ((w.alloc (.map #[] 0)).alloc (.cells (secC b w.heap.size (newX f n)) 158)) w.heap.size [] := by
    have h1 : EnAt (w.alloc (.map #[] 0)) w.heap.size [] := ⟨.map [], World.ownsMap_made w _ _ _, EnIs.nil⟩
    exact h1.keep ((Below.refl _ _).alloc (Nat.le_refl _) _)
  have hs1 : SecAt ((w.alloc (.map #[] 0)).alloc (.cells (secC b w.heap.size (newX f n)) 158)) (w.heap.size + 1) b w.heap.size (newX f n) := ⟨hbx, hm0, by omega⟩
  have ho1 := HO.out.addSc HP.out hb0 hs1 (by omega) (Nat.le_refl _)
  have hb1 := hb0.mono HO.out.1
  have HRC := Lib.hid (recall_any HP.out ho1 HN.out.2.2 HN.out.2.1 HN.out.1 (HK.out.below hb1 HBP.out) HBP.out HT.out (Nat.zero_le _))
  have HB1 := Lib.hid hb1
  clear hb0 hbx hm0 hs1 ho1 hb1
  refine HRC.out.mono ?_
  rintro e w2 ⟨rfl, ho2, hb2⟩
  have HO2 := Lib.hid ho2
  have HB2 := Lib.hid (HB1.out.trans hb2)
  clear ho2 hb2 HRC HB1
  go_wp2
  go_ret
  exact ⟨_, rfl, HO2.out, HB2.out⟩

end

end Go.Proofs.YtphhnhldbajaoaaGreatDoor

namespace Go.Proofs.YtphhnhldbajaoaaGreatDoor
open Go Go.RowKit Go.Shelf Go.ChangeShapes Go.WideShapes Go.ChangeAt

attribute [local go_sem] Oper.semAt_some

set_option maxRecDepth 100000 in
set_option maxHeartbeats 2000000 in
theorem entryof_nil_in (key : ByteArray) (w : World) :
    CallsIn Fence.wide 6 Tryz.prog 123 #[.pointer none, .string key] w fun e w' => e = .returned (.tuple #[cgV noE, .bool false]) ∧ Below w.heap.size w w' := by
  have B0 := Box.new w 90 #[.pointer none]
  have B1 := Box.new (w.alloc (.cells #[.pointer none] 90)) 9 #[.string key]
  have B2 := Box.new ((w.alloc (.cells #[.pointer none] 90)).alloc (.cells #[.string key] 9)) 170 #[.string ⟨#[]⟩, .string ⟨#[]⟩, .int .i64 0, .int .i64 0]
  have B3 := Box.new (((w.alloc (.cells #[.pointer none] 90)).alloc (.cells #[.string key] 9)).alloc (.cells #[.string ⟨#[]⟩, .string ⟨#[]⟩, .int .i64 0, .int .i64 0] 170)) 4 #[.bool false]
  simp only [size_alloc] at B1 B2 B3
  have hb0 : Below w.heap.size w ((((w.alloc (.cells #[.pointer none] 90)).alloc (.cells #[.string key] 9)).alloc (.cells #[.string ⟨#[]⟩, .string ⟨#[]⟩, .int .i64 0, .int .i64 0] 170)).alloc (.cells #[.bool false] 4)) := ((((Below.refl _ w).alloc (Nat.le_refl _) _).alloc (by rw [size_alloc]; omega) _).alloc (by simp only [size_alloc]; omega) _).alloc (by simp only [size_alloc]; omega) _
  have HB0 := Lib.hid hb0
  have HA3 := Lib.hid B3
  have HA2 := Lib.hid (B2.alloc (.cells #[.bool false] 4))
  have HA1 := Lib.hid ((B1.alloc (.cells #[.string ⟨#[]⟩, .string ⟨#[]⟩, .int .i64 0, .int .i64 0] 170)).alloc (.cells #[.bool false] 4))
  have HA0 := Lib.hid (((B0.alloc (.cells #[.string key] 9)).alloc (.cells #[.string ⟨#[]⟩, .string ⟨#[]⟩, .int .i64 0, .int .i64 0] 170)).alloc (.cells #[.bool false] 4))
  clear B0 B1 B2 B3 hb0
  refine callsIn_of_wp_marks Tryz.func123 rfl trivial ?_ rfl
  simp only [Tryz.ntmps123, List.size_toArray, List.length_cons, List.length_nil, Nat.reduceAdd, Nat.reduceSub, Array.replicate_succ, Array.replicate_zero, List.push_toArray, List.append_toArray, List.nil_append, List.cons_append]
  gi_wp2_with fail
  generalize hW1 : (((w.alloc (.cells #[.pointer none] 90)).alloc (.cells #[.string key] 9)).alloc (.cells #[.string ⟨#[]⟩, .string ⟨#[]⟩, .int .i64 0, .int .i64 0] 170)).alloc (.cells #[.bool false] 4) = W1 at *
  have hz1 : W1.heap.size = w.heap.size + 4 := by rw [← hW1]; simp only [size_alloc]
  clear hW1
  obtain ⟨g, hg⟩ : ∃ g, g = w.heap.size := ⟨_, rfl⟩
  rw [← hg] at HB0 HA0 HA1 HA2 HA3 hz1 ⊢
  have HG := Lib.hid hg
  have HZ1 := Lib.hid hz1
  have hb1 := (HB0.out.drew)
  have a0 := HA0.out.cell 0 _ rfl
  clear hg hz1
  simp only [Nat.add_assoc, Nat.reduceAdd] at HA2 HA3 ⊢
  clear hb1
  refine wpIn_wide.2 ?_
  refine wp_region_tree (fun W => W.cell? ⟨g, 0, none⟩ = some (.pointer none)) 3 (.quiet 0 (.quiet 1 (.make 2 .nil))) (by kernel_rfl) (by kernel_rfl) a0 ?_
  simp only [List.drop_succ_cons, List.drop_zero]
  iterate 2 (apply wpTr_step rfl; (intro W hS K hK; go_simp; exact hK _ rfl))
  refine wpTr_make rfl (fun K' hK => ?_)
  go_simp
  refine (room_nil _).mono ?_
  rintro e W2 ⟨rfl, hb2⟩
  have hbb : Below (g + 4) W1 W2 := ((Below.refl _ W1).drew).trans (hb2.mono (Nat.le_of_eq HZ1.out.symm))
  have A0 := Lib.hid (HA0.out.keep hbb (by omega))
  have A1 := Lib.hid (HA1.out.keep hbb (by omega))
  have A2 := Lib.hid (HA2.out.keep hbb (by omega))
  have A3 := Lib.hid (HA3.out.keep hbb (by omega))
  have HB2 := Lib.hid (HB0.out.trans (hbb.mono (Nat.le_add_right g 4)))
  have HZ2 : Hid (g + 4 ≤ W2.heap.size) := by have := hbb.size; rw [HZ1.out] at this; exact this
  refine hK _ _ _ (fun _ h => h) (A0.out.cell 0 _ rfl) ?_
  clear hK K' hb2 hbb HB0 HA0 HA1 HA2 HA3 a0
  refine wpTr_nil ?_
  go_wp2_with fail
  refine (places_any _ _ _ _).mono ?_
  rintro e X ⟨rfl, hb, bs, b4, b5⟩
  obtain ⟨q, hq⟩ : ∃ q, q = W2.heap.size := ⟨_, rfl⟩
  rw [← hq] at hb bs b4 b5 HZ2 ⊢
  have HQ := Lib.hid hq
  clear hq
  have R0 := Lib.hid (A0.out.keep hb (by have := HZ2.out; omega))
  have R1 := Lib.hid (A1.out.keep hb (by have := HZ2.out; omega))
  have R2 := Lib.hid (A2.out.keep hb (by have := HZ2.out; omega))
  have R3 := Lib.hid (A3.out.keep hb (by have := HZ2.out; omega))
  have HBX := Lib.hid (HB2.out.trans (hb.mono (by have := HZ2.out; omega)))
  have HBS := Lib.hid bs
  have HB4 := Lib.hid b4
  have HB5 := Lib.hid b5
  clear hb bs b4 b5 A0 A1 A2 A3 HB2
  obtain ⟨z, hz⟩ : ∃ z, z = X.heap.size := ⟨_, rfl⟩
  have HZ : Hid (z = X.heap.size ∧ q + 3 ≤ z) := ⟨hz, by rw [hz]; exact HB5.out.lt⟩
  have HL0 : Hid (SameLow g (q + 3) X X) := ⟨by rw [← hz]; exact HZ.out.2, fun _ _ _ => rfl⟩
  clear hz
  go_wp2_with fail
  gi_wp2_with fail
  refine range_by (gf := 162) (lb := #[.pointer (some ⟨q + 1, 0, none⟩), .pointer (some ⟨q + 2, 0, none⟩), .pointer (some ⟨q, 0, none⟩)]) (by decide) rfl (enters_of Tryz.func162 (by kernel_rfl) rfl)
    0 (min 0 0) (fun _ => #[.int .i64 0]) (fun _ => rfl) (fun W => Below g w W ∧ SameLow g (q + 3) X W)
    (fun l J Jx W hgd hbl hyy h0 => ?iter) (fun _ W => Below g w W ∧ SameLow g (q + 3) X W ∧ True) (fun _ => False) (fun k W h => ⟨h.1, h.2.1⟩) ?jb ?jp (fun _ _ h _ => h.elim) ⟨HBX.out, HL0.out, trivial⟩ ?body ?fin (fun _ h _ _ => h.elim)
  case iter =>
    refine places_iter 5 l q (q + 1) (q + 2) (by decide) none 0 0 0 (by decide) (by decide) (by decide) (fun _ => 0) _ ?_ ?_ ?_ J Jx W hgd hbl hyy h0
    · rintro W ⟨hb, hl⟩
      have := HZ2.out
      exact ⟨hl.box HBS.out (by omega) (by omega), hl.box HB4.out (by omega) (by omega), hl.box HB5.out (by omega) (by omega)⟩
    · rintro W ⟨hb, hl⟩
      exact room_nil W
    · rintro W k _ h1 h2
      omega
  case jb =>
    rintro k W W' ⟨hb, hl, hk⟩ hbb
    exact ⟨hb.trans (hbb.mono (by have := hl.1; have := HZ2.out; omega)), hl.keep hbb, hk⟩
  case jp =>
    rintro k W o ⟨hb, hl, hk⟩ hs
    have := HZ.out
    have := HZ2.out
    exact ⟨below_put hb (by rw [HG.out]; exact Nat.le_refl _) _ _ (by omega), hl.put _ _ (by omega), hk⟩
  case body =>
    rintro k W h1 h2
    omega
  case fin =>
    rintro W ⟨hb, hl, hk⟩ hs hd
    have B2 := Lib.hid (hl.box R2.out (by have := HZ2.out; omega) (by omega))
    have B3 := Lib.hid (hl.box R3.out (by have := HZ2.out; omega) (by omega))
    have HB := Lib.hid hb
    have HL := Lib.hid hl
    rw [← HZ.out.1] at hd ⊢
    have HD := Lib.hid hd
    clear hb hl hk hs hd
    have p0 := B2.out.cell 0 _ rfl
    have p1 := B2.out.cell 1 _ rfl
    have p2 := B2.out.cell 2 _ rfl
    have p3 := B2.out.cell 3 _ rfl
    have f0 := B2.out.free 0
    have f1 := B2.out.free 1
    have f2 := B2.out.free 2
    have f3 := B2.out.free 3
    have q0 := B3.out.cell 0 _ rfl
    have q1 := B3.out.free 0
    gi_wp2
    obtain ⟨r2, r3, rc⟩ := five_set B2.out B3.out (by omega) (.string ⟨#[]⟩) (.string ⟨#[]⟩) (.int .i64 0) (.int .i64 0) (.bool false)
    have hzz := HZ.out
    have hz2 := HZ2.out
    have hll := HL.out.1
    generalize (((((W.setCell ⟨g + 2, 0, none⟩ (.string ⟨#[]⟩)).setCell ⟨g + 2, 1, none⟩ (.string ⟨#[]⟩)).setCell ⟨g + 2, 2, none⟩ (.int .i64 0)).setCell ⟨g + 2, 3, none⟩ (.int .i64 0)).setCell ⟨g + 3, 0, none⟩ (.bool false)) = W5 at *
    have hdd := (rc.block z (lt_of_block HD.out) (by simp; omega)).trans HD.out
    refine ⟨by simp, .inl ⟨_, _, rfl, run_takeDeferred hdd, ?_⟩⟩
    refine ⟨_, results_bc rfl _ _ (g + 2) ⟨g + 3, 0, none⟩ 170 _ (0, 0) _ (.bool false) rfl rfl (r2.of (World.putObj_heap_other (by omega))) Tryz.underlying170 rfl sizeEnt (Tryz.isAgg4 _) ((r3.of (World.putObj_heap_other (by omega))).cell 0 _ rfl), ?_⟩
    refine ⟨rfl, ?_⟩
    rw [← HG.out]
    exact below_put (HB.out.trans (rc.below (by omega) (by intro j hj; simp at hj; omega))) (by rw [HG.out]; exact Nat.le_refl _) _ _ (by omega)
set_option maxRecDepth 100000 in
theorem find_nil (key : ByteArray) (w : World) : Calls Tryz.prog 114 #[.pointer none, .string key] w fun e w' => e = .returned (.tuple #[.string ⟨#[]⟩, .bool false]) ∧ Below w.heap.size w w' := by
  go_enter Tryz.func114, Tryz.ntmps114
  go_wp2_with fail
  refine (callsIn_wide.1 (entryof_nil_in key _)).mono ?_
  rintro e w1 ⟨rfl, hb⟩
  have HB := Lib.hid (hb.trans (((Below.refl w1.heap.size w1).alloc (Nat.le_refl _) (.cells #[.string ⟨#[]⟩, .string ⟨#[]⟩, .int .i64 0, .int .i64 0] 170)).mono hb.size))
  unfold noE
  clear hb
  go_wp2
  go_ret2
  exact ⟨rfl, HB.out⟩

set_option maxRecDepth 100000 in
theorem feed_nil (key load : ByteArray) (w : World) : Calls Tryz.prog 88 #[.pointer none, .string key, .string load] w fun e w' => e = .returned (.bool false) ∧ Below w.heap.size w w' := by
  go_enter Tryz.func88, Tryz.ntmps88
  go_wp2_with fail
  refine (room_nil _).mono ?_
  rintro e w1 ⟨rfl, hb⟩
  have HB := Lib.hid hb
  clear hb
  go_wp2
  go_ret
  exact ⟨rfl, HB.out⟩

end Go.Proofs.YtphhnhldbajaoaaGreatDoor

namespace Go.Proofs.YtphhnhldbajaoaaGreatDoor
open Go.RowKit

theorem size_writeD (d : DevD) (l : Int × Int) (s : ByteArray) (dev : Int) : devSize (writeD d l s) dev = devSize d dev := by
  unfold writeD
  split
  · exact size_setTell d l s dev
  · rfl
theorem size_endD (d : DevD) (l : List WrD) (dev : Int) : devSize (endD d l) dev = devSize d dev := by
  rw [← size_foldHas l dev d]
  rfl
end Go.Proofs.YtphhnhldbajaoaaGreatDoor

namespace Go.Proofs.YtphhnhldbajaoaaGreatDoor
open Go Go.RowKit

end Go.Proofs.YtphhnhldbajaoaaGreatDoor

namespace Go.Proofs.YtphhnhldbajaoaaGreatDoor
open Go.RowKit

end Go.Proofs.YtphhnhldbajaoaaGreatDoor

namespace Go.Proofs.YtphhnhldbajaoaaGreatDoor
open Go Go.RowKit

end Go.Proofs.YtphhnhldbajaoaaGreatDoor

namespace Go.Proofs.YtphhnhldbajaoaaGreatDoor
open Go Go.RowKit

end Go.Proofs.YtphhnhldbajaoaaGreatDoor

namespace Go.Proofs.YtphhnhldbajaoaaGreatDoor
open Go Go.RowKit

theorem decC_none : decC ⟨#[]⟩ = ((0, []), 2) := if_pos (by decide)
theorem recT_none {d : DevD} {x : SecD} : ∀ i, (∀ g, g < i → (readX d x (7 * g)).1 = false) → recT d x i = ([], x)
  | 0, _ => rfl
  | i + 1, h => by
    rw [recT_succ, recS_no (h i (Nat.lt_succ_self i)), recT_none i (fun g hg => h g (by omega))]
theorem merge_none : mergeL [] = [] := by
  rw [mergeL_eq]
  unfold keysD newDt
  simp
theorem rec_new {d : DevD} {f n : Nat} (h : ∀ l, tellD d l = ⟨#[]⟩) : recX d (newX f n) = newX f n := by
  unfold recX
  rw [recT_none]
  · rw [merge_none]
    rfl
  · intro g _
    rw [readX_err (q := ((0, []), 2)) (by rw [h]; exact decC_none) (by decide)]
end Go.Proofs.YtphhnhldbajaoaaGreatDoor

namespace Go.Proofs.YtphhnhldbajaoaaGreatDoor
open Go Go.RowKit

structure Tiny (d : DevD) : Prop where
  h0 : ∀ s ∈ d.s0.has, s.size ≤ 1024
  t0 : ∀ s ∈ d.s0.tells, s.size ≤ 1024
  h1 : ∀ s ∈ d.s1.has, s.size ≤ 1024
  t1 : ∀ s ∈ d.s1.tells, s.size ≤ 1024
  w : ∀ x ∈ d.waits, x.2.size ≤ 1024
theorem getD_tiny {l : List ByteArray} (h : ∀ s ∈ l, s.size ≤ 1024) (k : Nat) : (l.getD k ⟨#[]⟩).size ≤ 1024 := by
  rw [List.getD]
  cases e : l[k]? with
  | none => show (0 : Nat) ≤ 1024; omega
  | some v => exact h v (List.mem_of_getElem? e)
theorem Tiny.tell {d : DevD} (h : Tiny d) (l : Int × Int) : (tellD d l).size ≤ 1024 := by
  unfold tellD
  split
  · unfold sideOf
    split
    · exact getD_tiny h.t0 _
    · exact getD_tiny h.t1 _
  · show (0 : Nat) ≤ 1024
    omega
theorem set_tiny {l : List ByteArray} (h : ∀ s ∈ l, s.size ≤ 1024) (k : Nat) {t : ByteArray} (ht : t.size ≤ 1024) : ∀ s ∈ l.set k t, s.size ≤ 1024 := fun s hs => by
  rcases List.mem_or_eq_of_mem_set hs with h1 | h1
  · exact h s h1
  · rw [h1]; exact ht
theorem Tiny.setTell {d : DevD} (h : Tiny d) (l : Int × Int) {t : ByteArray} (ht : t.size ≤ 1024) : Tiny (setTell d l t) := by
  unfold Go.Proofs.YtphhnhldbajaoaaGreatDoor.setTell
  split
  · exact ⟨h.h0, set_tiny h.t0 _ ht, h.h1, h.t1, h.w⟩
  · exact ⟨h.h0, h.t0, h.h1, set_tiny h.t1 _ ht, h.w⟩
theorem Tiny.setHas {d : DevD} (h : Tiny d) (l : Int × Int) {t : ByteArray} (ht : t.size ≤ 1024) : Tiny (setHas d l t) := by
  unfold Go.Proofs.YtphhnhldbajaoaaGreatDoor.setHas
  split
  · exact ⟨set_tiny h.h0 _ ht, h.t0, h.h1, h.t1, h.w⟩
  · exact ⟨h.h0, h.t0, set_tiny h.h1 _ ht, h.t1, h.w⟩
theorem Tiny.waits {d : DevD} (h : Tiny d) {ws : List WrD} (hw : ∀ x ∈ ws, x.2.size ≤ 1024) : Tiny { d with waits := ws } := ⟨h.h0, h.t0, h.h1, h.t1, hw⟩
theorem Tiny.write {d : DevD} (h : Tiny d) (l : Int × Int) (t : ByteArray) : Tiny (writeD d l t) := by
  unfold writeD
  split
  · next hc =>
    have ht := (chkD_ok hc).2.2.2.1
    refine (h.setTell l ht).waits (fun x hx => ?_)
    rcases List.mem_append.1 hx with h1 | h1
    · exact h.w x h1
    · rw [List.mem_singleton.1 h1]; exact ht
  · exact h
theorem Tiny.fold : ∀ (ws : List WrD) {d : DevD}, Tiny d → (∀ x ∈ ws, x.2.size ≤ 1024) → Tiny (foldHas d ws)
  | [], _, h, _ => h
  | x :: r, _, h, hw => Tiny.fold r (h.setHas x.1 (hw x List.mem_cons_self)) (fun y hy => hw y (List.mem_cons_of_mem _ hy))
theorem Tiny.endT {d : DevD} (h : Tiny d) (k : Nat) : Tiny (endT d k) := by
  refine ⟨?_, ?_, ?_, ?_, h.w⟩
  · unfold Go.Proofs.YtphhnhldbajaoaaGreatDoor.endT; simp only; split
    · exact h.h0
    · exact h.h0
  · unfold Go.Proofs.YtphhnhldbajaoaaGreatDoor.endT; simp only; split
    · exact h.h0
    · exact h.t0
  · unfold Go.Proofs.YtphhnhldbajaoaaGreatDoor.endT; simp only; split
    · exact h.h1
    · exact h.h1
  · unfold Go.Proofs.YtphhnhldbajaoaaGreatDoor.endT; simp only; split
    · exact h.h1
    · exact h.t1
theorem Tiny.ends {d : DevD} (h : Tiny d) {ws : List WrD} (hw : ∀ x ∈ ws, x.2.size ≤ 1024) : Tiny (endD d ws) :=
  ((Tiny.fold ws h hw).waits (fun x hx => by cases hx)).endT 2
theorem Tiny.flush {d : DevD} (h : Tiny d) : Tiny (flushD d) := h.ends h.w
theorem Tiny.feed {d : DevD} (h : Tiny d) (x : SecD) (key load : ByteArray) : Tiny (putD' d x key load) := ((((h.write _ _).flush).write _ _).flush).write _ _
theorem Tiny.new (m n : Nat) : Tiny (newD m n) := by
  have h : ∀ k, ∀ s ∈ (newS k).has, s.size ≤ 1024 := fun k s hs => by
    unfold newS at hs
    rw [List.eq_of_mem_replicate hs]
    show (0 : Nat) ≤ 1024
    omega
  have h2 : ∀ k, ∀ s ∈ (newS k).tells, s.size ≤ 1024 := fun k s hs => by
    unfold newS at hs
    rw [List.eq_of_mem_replicate hs]
    show (0 : Nat) ≤ 1024
    omega
  exact ⟨h m, h2 m, h n, h2 n, fun x hx => by cases hx⟩

end Go.Proofs.YtphhnhldbajaoaaGreatDoor

namespace Go.Proofs.YtphhnhldbajaoaaGreatDoor
open Go.RowKit Go.ChangeShapes Go.WideShapes Go.ChangeAt

abbrev empA : ByteArray := ⟨#[]⟩
/-- The lists: 2 is T1, 3 is T2, 4 is B1, 5 is B2 (a list's cell in the cache's block). -/
structure ArcD where
  c : Int
  t : Int
  l : Nat → List ByteArray
def updA {α : Type} (f : Nat → α) (i : Nat) (x : α) : Nat → α := fun j => if j = i then x else f j
theorem updA_same {α : Type} (f : Nat → α) (i : Nat) (x : α) : updA f i x i = x := if_pos rfl
theorem updA_ne {α : Type} (f : Nat → α) {i j : Nat} (x : α) (h : j ≠ i) : updA f i x j = f j := if_neg h
def ArcD.put (d : ArcD) (i : Nat) (x : List ByteArray) : ArcD := { d with l := updA d.l i x }
def ArcD.len (d : ArcD) : Nat := (d.l 2).length + (d.l 3).length + (d.l 4).length + (d.l 5).length
def InA (i : Nat) : Prop := 2 ≤ i ∧ i < 6
theorem InA.cases {i : Nat} (h : InA i) : i = 2 ∨ i = 3 ∨ i = 4 ∨ i = 5 := by obtain ⟨h1, h2⟩ := h; omega
theorem ArcD.le_len (d : ArcD) {i : Nat} (h : InA i) : (d.l i).length ≤ d.len := by
  unfold ArcD.len
  rcases h.cases with rfl | rfl | rfl | rfl <;> omega
theorem ArcD.len_put (d : ArcD) {i : Nat} (h : InA i) (x : List ByteArray) : (d.put i x).len + (d.l i).length = d.len + x.length := by
  unfold ArcD.len ArcD.put
  rcases h.cases with rfl | rfl | rfl | rfl <;> simp [updA] <;> omega

def dropK : List ByteArray → ByteArray → List ByteArray
  | [], _ => []
  | x :: r, k => if x = k then r else x :: dropK r k
theorem drop_idx (k : ByteArray) : ∀ l : List ByteArray, hasK l k = true → l.findIdx (fun x => decide (x = k)) < l.length ∧ dropK l k = l.eraseIdx (l.findIdx (fun x => decide (x = k)))
  | [], h => by simp [hasK] at h
  | x :: r, h => by
    rw [List.findIdx_cons]
    by_cases e : x = k
    · simp [e, dropK]
    · have h' : hasK r k = true := by
        unfold hasK at h ⊢
        rw [List.any_cons, decide_eq_false e, Bool.false_or] at h
        exact h
      have ih := drop_idx k r h'
      simp [e, dropK, ih.2]
      exact hasK_iff.1 h'
theorem drop_no (k : ByteArray) : ∀ l : List ByteArray, hasK l k = false → dropK l k = l
  | [], _ => rfl
  | x :: r, h => by
    unfold hasK at h
    rw [List.any_cons, Bool.or_eq_false_iff] at h
    have e : ¬ x = k := of_decide_eq_false h.1
    rw [dropK, if_neg e, drop_no k r h.2]
theorem drop_len (k : ByteArray) (l : List ByteArray) : (dropK l k).length ≤ l.length := by
  cases h : hasK l k
  · rw [drop_no k l h]; exact Nat.le_refl _
  · obtain ⟨h1, h2⟩ := drop_idx k l h
    rw [h2, List.length_eraseIdx, if_pos h1]; omega

def takeA (d : ArcD) (i : Nat) (k : ByteArray) : ArcD := d.put i (dropK (d.l i) k)
def addA (d : ArcD) (i : Nat) (k : ByteArray) : ArcD := d.put i (d.l i ++ [k])
def hasA (d : ArcD) (i : Nat) (k : ByteArray) : Bool := hasK (d.l i) k
def oldA (d : ArcD) (i : Nat) : ArcD × ByteArray := match d.l i with
  | [] => (d, empA)
  | x :: r => (d.put i r, x)
def moveA (d : ArcD) (i j : Nat) : ArcD × ByteArray := if (oldA d i).2 = empA then oldA d i else (addA (oldA d i).1 j (oldA d i).2, (oldA d i).2)
def stepA (d : ArcD) (i j : Nat) : Int := max 1 (((d.l j).length / (d.l i).length : Nat) : Int)
def room1 (d : ArcD) (even : Bool) : Bool := decide (0 < (d.l 2).length) && (decide (d.t < ((d.l 2).length : Int)) || (even && decide (((d.l 2).length : Int) = d.t)) || decide ((d.l 3).length = 0))
def roomA (d : ArcD) (even : Bool) : ArcD × ByteArray := if room1 d even = true then moveA d 2 4 else moveA d 3 5
def onceA (d : ArcD) : Int := ((d.l 2).length : Int) + ((d.l 4).length : Int)
def allA (d : ArcD) : Int := onceA d + ((d.l 3).length : Int) + ((d.l 5).length : Int)
def newA (d : ArcD) : ArcD × ByteArray :=
  if onceA d = d.c then (if ((d.l 2).length : Int) = d.c then oldA d 2 else roomA (oldA d 4).1 false)
  else if d.c ≤ allA d then roomA (if allA d = 2 * d.c then (oldA d 5).1 else d) false
  else (d, empA)
def againA (d : ArcD) (k : ByteArray) (i : Nat) (even : Bool) : ArcD × ByteArray := (addA (takeA (roomA d even).1 i k) 3 k, (roomA d even).2)
def keepA (d : ArcD) (k : ByteArray) : ArcD × ByteArray :=
  if hasA d 4 k = true then againA { d with t := min d.c (d.t + stepA d 4 5) } k 4 false
  else if hasA d 5 k = true then againA { d with t := max 0 (d.t - stepA d 5 4) } k 5 true
  else (addA (newA d).1 2 k, (newA d).2)
def askA (d : ArcD) (k : ByteArray) : ArcD × Bool × ByteArray :=
  if k = empA then (d, false, empA)
  else if hasA d 2 k = true then (addA (takeA d 2 k) 3 k, true, empA)
  else if hasA d 3 k = true then (addA (takeA d 3 k) 3 k, true, empA)
  else ((keepA d k).1, false, (keepA d k).2)
def someA (d : ArcD) (i j : Nat) (k : ByteArray) : ArcD × Bool :=
  if hasA d i k = true then (takeA d i k, true) else if hasA d j k = true then (takeA d j k, true) else (d, false)
def cellsA (c t : Int) (v : Nat → Value) : Array Value := #[.int .i64 c, .int .i64 t, v 2, v 3, v 4, v 5]
theorem cellsA_at (c t : Int) (v : Nat → Value) {i : Nat} (h : InA i) : (cellsA c t v)[i]? = some (v i) := by rcases h.cases with rfl | rfl | rfl | rfl <;> rfl
theorem cellsA_set (c t : Int) (v : Nat → Value) {i : Nat} (h : InA i) (x : Value) : (cellsA c t v).setIfInBounds i x = cellsA c t (updA v i x) := by rcases h.cases with rfl | rfl | rfl | rfl <;> rfl
/-- Block b is the cache d; its lists' values are v. -/
structure ArcAt (w : World) (b : Nat) (v : Nat → Value) (d : ArcD) : Prop where
  box : Box w b 155 (cellsA d.c d.t v)
  row : ∀ i, InA i → Ks w 0 (v i) (d.l i)
  ne : ∀ i, InA i → (v i).ownBlock ≠ some b
  dj : ∀ i j k, InA i → InA j → i ≠ j → (v i).ownBlock = some k → (v j).ownBlock ≠ some k
def fpA (b : Nat) (v : Nat → Value) : List Nat := b :: ((v 2).ownBlock.toList ++ (v 3).ownBlock.toList ++ (v 4).ownBlock.toList ++ (v 5).ownBlock.toList)
theorem mem_fpA {b : Nat} {v : Nat → Value} {k : Nat} : k ∈ fpA b v ↔ k = b ∨ ∃ i, InA i ∧ (v i).ownBlock = some k := by
  unfold fpA
  simp only [List.mem_cons, List.mem_append, Option.mem_toList]
  constructor
  · rintro (h | (((h | h) | h) | h))
    · exact .inl h
    · exact .inr ⟨2, ⟨by omega, by omega⟩, h⟩
    · exact .inr ⟨3, ⟨by omega, by omega⟩, h⟩
    · exact .inr ⟨4, ⟨by omega, by omega⟩, h⟩
    · exact .inr ⟨5, ⟨by omega, by omega⟩, h⟩
  · rintro (h | ⟨i, hi, h⟩)
    · exact .inl h
    · rcases hi.cases with rfl | rfl | rfl | rfl
      · exact .inr (.inl (.inl (.inl h)))
      · exact .inr (.inl (.inl (.inr h)))
      · exact .inr (.inl (.inr h))
      · exact .inr (.inr h)
def ArcF (b : Nat) (d : ArcD) (F : List Nat) (w : World) : Prop := ∃ v, ArcAt w b v d ∧ F = fpA b v
theorem ArcAt.chg {S : List Nat} {w w' : World} {b : Nat} {v : Nat → Value} {d : ArcD} (h : ArcAt w b v d) (hc : Chg S w w') (hn : ∀ k ∈ fpA b v, k ∉ S) : ArcAt w' b v d :=
  ⟨h.box.of (hc.block b h.box.lt (hn _ (mem_fpA.2 (.inl rfl)))), fun i hi => (h.row i hi).chg hc (fun _ hk => hn _ (mem_fpA.2 (.inr ⟨i, hi, hk⟩))), h.ne, h.dj⟩
theorem ArcAt.keep {w w' : World} {b : Nat} {v : Nat → Value} {d : ArcD} (h : ArcAt w b v d) (hb : Below w.heap.size w w') : ArcAt w' b v d := h.chg (Chg.of (S := []) hb (Nat.le_refl _)) (fun _ _ hm => by cases hm)
theorem fixed_arc (b : Nat) (d : ArcD) : Fixed (ArcF b d) := by
  refine ⟨?_, ?_⟩
  · rintro G S w1 w2 ⟨v, h, rfl⟩ hc hn
    exact ⟨v, h.chg hc hn, rfl⟩
  · rintro G w ⟨v, h, rfl⟩ k hk
    rcases mem_fpA.1 hk with rfl | ⟨i, hi, hk⟩
    · exact h.box.lt
    · exact (h.row i hi).lt k hk
/-- List i is made anew. -/
theorem ArcAt.put {w w1 : World} {b : Nat} {v : Nat → Value} {d : ArcD} (h : ArcAt w b v d) {i : Nat} (hi : InA i) {S : List Nat} (hc : Chg S w w1) (hS : ∀ k ∈ S, (v i).ownBlock = some k) {x : Value} {l : List ByteArray} (hk : Ks w1 0 x l)
    (hx : x.ownBlock = (v i).ownBlock ∨ ∀ k, x.ownBlock = some k → w.heap.size ≤ k) : Tod (ArcF b (d.put i l)) (fpA b v) w (w1.setCell ⟨b, i, none⟩ x) := by
  have hbS : b ∉ S := fun hm => h.ne i hi (hS _ hm)
  have hbox1 : Box w1 b 155 (cellsA d.c d.t v) := h.box.of (hc.block b h.box.lt hbS)
  have hlt : ∀ j, InA j → ∀ k, (v j).ownBlock = some k → k < w.heap.size := fun j hj k hk => (h.row j hj).lt k hk
  have hxb : x.ownBlock ≠ some b := fun e => by
    rcases hx with h1 | h1
    · exact h.ne i hi (by rw [← h1]; exact e)
    · have := h1 _ e; have := h.box.lt; omega
  have hxj : ∀ j k, InA j → j ≠ i → (v j).ownBlock = some k → x.ownBlock ≠ some k := fun j k hj hji hk e => by
    rcases hx with h1 | h1
    · exact h.dj j i k hj hi hji hk (by rw [← h1]; exact e)
    · have := h1 _ e; have := hlt j hj k hk; omega
  have hset : Chg [b] w1 (w1.setCell ⟨b, i, none⟩ x) := Chg.only (Only.set b i w1 x)
  refine ⟨fpA b (updA v i x), ⟨updA v i x, ⟨?_, ?_, ?_, ?_⟩, rfl⟩, ?_, ?_⟩
  · have := hbox1.set i x
    rw [cellsA_set _ _ _ hi] at this
    exact this
  · intro j hj
    by_cases e : j = i
    · subst e
      show Ks _ 0 (updA v j x j) ((updA d.l j l) j)
      rw [updA_same, updA_same]
      exact hk.chg hset (fun k hk hm => hxb (by rw [List.mem_singleton] at hm; rw [hk, hm]))
    · show Ks _ 0 (updA v i x j) ((updA d.l i l) j)
      rw [updA_ne _ _ e, updA_ne _ _ e]
      exact ((h.row j hj).chg hc (fun k hk hm => h.dj j i k hj hi e hk (hS _ hm))).chg hset (fun k hk hm => h.ne j hj (by rw [List.mem_singleton] at hm; rw [hk, hm]))
  · intro j hj
    by_cases e : j = i
    · subst e; rw [updA_same]; exact hxb
    · rw [updA_ne _ _ e]; exact h.ne j hj
  · intro j m k hj hm hjm hk hmk
    by_cases e : j = i
    · subst e
      rw [updA_same] at hk
      rw [updA_ne _ _ (Ne.symm hjm)] at hmk
      exact hxj m k hm (Ne.symm hjm) hmk hk
    · rw [updA_ne _ _ e] at hk
      by_cases e2 : m = i
      · subst e2
        rw [updA_same] at hmk
        exact hxj j k hj e hk hmk
      · rw [updA_ne _ _ e2] at hmk
        exact h.dj j m k hj hm hjm hk hmk
  · refine (hc.mono (fun k hk => mem_fpA.2 (.inr ⟨i, hi, hS k hk⟩))).then hset (fun k hk => .inl ?_)
    rw [List.mem_singleton] at hk
    exact mem_fpA.2 (.inl hk)
  · intro k hk
    rcases mem_fpA.1 hk with rfl | ⟨j, hj, hk⟩
    · exact .inl (mem_fpA.2 (.inl rfl))
    · by_cases e : j = i
      · subst e
        rw [updA_same] at hk
        rcases hx with h1 | h1
        · exact .inl (mem_fpA.2 (.inr ⟨j, hj, by rw [← h1]; exact hk⟩))
        · exact .inr (h1 k hk)
      · rw [updA_ne _ _ e] at hk
        exact .inl (mem_fpA.2 (.inr ⟨j, hj, hk⟩))
theorem ArcAt.target {w : World} {b : Nat} {v : Nat → Value} {d : ArcD} (h : ArcAt w b v d) (t : Int) : ArcAt (w.setCell ⟨b, 1, none⟩ (.int .i64 t)) b v { d with t := t } := by
  have hset : Chg [b] w (w.setCell ⟨b, 1, none⟩ (.int .i64 t)) := Chg.only (Only.set b 1 w _)
  exact ⟨h.box.set 1 _, fun i hi => (h.row i hi).chg hset (fun k hk hm => h.ne i hi (by rw [List.mem_singleton] at hm; rw [hk, hm])), h.ne, h.dj⟩
end Go.Proofs.YtphhnhldbajaoaaGreatDoor
