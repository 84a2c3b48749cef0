/-
  Texts put together: SeQ, SeLive, SecondNilWalk, Door.
-/
import Derived.Test.YtopinlnjdgedeaaDoorMg35
import Derived.Test.YtopinlnjdgedeaaDoorMg38
import Derived.Test.YtopinlnjdgedeaaDoorMg0
import Derived.Test.YtopinlnjdgedeaaDoorRows
import Derived.Test.YtopinlnjdgedeaaDoorMix
import Derived.Lib.LaidTab
import Derived.LaidMore
import Derived.Stop.Joined
namespace Go.Proofs.YtopinlnjdgedeaaDoor
open Go Go.RowKit Go.Shelf Go.ChangeShapes Go.WideShapes Go.ChangeAt

attribute [local go_sem] Oper.semAt_some

set_option maxRecDepth 100000 in
set_option maxHeartbeats 2000000 in
theorem entryof_nil_in (key : ByteArray) (w : World) :
    CallsIn Fence.wide 6 Tryd.prog 25 #[.pointer none, .string key] w fun e w' => e = .returned (.tuple #[cgV noE, .bool false]) ∧ Below w.heap.size w w' := by
  have B0 := Box.new w 27 #[.pointer none]
  have B1 := Box.new (w.alloc (.cells #[.pointer none] 27)) 9 #[.string key]
  have B2 := Box.new ((w.alloc (.cells #[.pointer none] 27)).alloc (.cells #[.string key] 9)) 64 #[.string ⟨#[]⟩, .string ⟨#[]⟩, .int .i64 0, .int .i64 0]
  have B3 := Box.new (((w.alloc (.cells #[.pointer none] 27)).alloc (.cells #[.string key] 9)).alloc (.cells #[.string ⟨#[]⟩, .string ⟨#[]⟩, .int .i64 0, .int .i64 0] 64)) 4 #[.bool false]
  simp only [size_alloc] at B1 B2 B3
  have hb0 : Below w.heap.size w ((((w.alloc (.cells #[.pointer none] 27)).alloc (.cells #[.string key] 9)).alloc (.cells #[.string ⟨#[]⟩, .string ⟨#[]⟩, .int .i64 0, .int .i64 0] 64)).alloc (.cells #[.bool false] 4)) := ((((Below.refl _ w).alloc (Nat.le_refl _) _).alloc (by rw [size_alloc]; omega) _).alloc (by simp only [size_alloc]; omega) _).alloc (by simp only [size_alloc]; omega) _
  have HB0 := Lib.hid hb0
  have HA3 := Lib.hid B3
  have HA2 := Lib.hid (B2.alloc (.cells #[.bool false] 4))
  have HA1 := Lib.hid ((B1.alloc (.cells #[.string ⟨#[]⟩, .string ⟨#[]⟩, .int .i64 0, .int .i64 0] 64)).alloc (.cells #[.bool false] 4))
  have HA0 := Lib.hid (((B0.alloc (.cells #[.string key] 9)).alloc (.cells #[.string ⟨#[]⟩, .string ⟨#[]⟩, .int .i64 0, .int .i64 0] 64)).alloc (.cells #[.bool false] 4))
  clear B0 B1 B2 B3 hb0
  refine callsIn_of_wp_marks Tryd.func25 rfl trivial ?_ rfl
  simp only [Tryd.ntmps25, List.size_toArray, List.length_cons, List.length_nil, Nat.reduceAdd, Nat.reduceSub, Array.replicate_succ, Array.replicate_zero, List.push_toArray, List.append_toArray, List.nil_append, List.cons_append]
  gi_wp2_with fail
  generalize hW1 : (((w.alloc (.cells #[.pointer none] 27)).alloc (.cells #[.string key] 9)).alloc (.cells #[.string ⟨#[]⟩, .string ⟨#[]⟩, .int .i64 0, .int .i64 0] 64)).alloc (.cells #[.bool false] 4) = W1 at *
  have hz1 : W1.heap.size = w.heap.size + 4 := by rw [← hW1]; simp only [size_alloc]
  clear hW1
  obtain ⟨g, hg⟩ : ∃ g, g = w.heap.size := ⟨_, rfl⟩
  rw [← hg] at HB0 HA0 HA1 HA2 HA3 hz1 ⊢
  have HG := Lib.hid hg
  have HZ1 := Lib.hid hz1
  have hb1 := (HB0.out.drew)
  have a0 := HA0.out.cell 0 _ rfl
  clear hg hz1
  simp only [Nat.add_assoc, Nat.reduceAdd] at HA2 HA3 ⊢
  clear hb1
  refine wpIn_wide.2 ?_
  refine wp_region_tree (fun W => W.cell? ⟨g, 0, none⟩ = some (.pointer none)) 3 (.quiet 0 (.quiet 1 (.make 2 .nil))) (by kernel_rfl) (by kernel_rfl) a0 ?_
  simp only [List.drop_succ_cons, List.drop_zero]
  iterate 2 (apply wpTr_step rfl; (intro W hS K hK; go_simp; exact hK _ rfl))
  refine wpTr_make rfl (fun K' hK => ?_)
  go_simp
  refine (room_nil _).mono ?_
  rintro e W2 ⟨rfl, hb2⟩
  have hbb : Below (g + 4) W1 W2 := ((Below.refl _ W1).drew).trans (hb2.mono (Nat.le_of_eq HZ1.out.symm))
  have A0 := Lib.hid (HA0.out.keep hbb (by omega))
  have A1 := Lib.hid (HA1.out.keep hbb (by omega))
  have A2 := Lib.hid (HA2.out.keep hbb (by omega))
  have A3 := Lib.hid (HA3.out.keep hbb (by omega))
  have HB2 := Lib.hid (HB0.out.trans (hbb.mono (Nat.le_add_right g 4)))
  have HZ2 : Hid (g + 4 ≤ W2.heap.size) := by have := hbb.size; rw [HZ1.out] at this; exact this
  refine hK _ _ _ (fun _ h => h) (A0.out.cell 0 _ rfl) ?_
  clear hK K' hb2 hbb HB0 HA0 HA1 HA2 HA3 a0
  refine wpTr_nil ?_
  go_wp2_with fail
  refine (places_any _ _ _ _).mono ?_
  rintro e X ⟨rfl, hb, bs, b4, b5⟩
  obtain ⟨q, hq⟩ : ∃ q, q = W2.heap.size := ⟨_, rfl⟩
  rw [← hq] at hb bs b4 b5 HZ2 ⊢
  have HQ := Lib.hid hq
  clear hq
  have R0 := Lib.hid (A0.out.keep hb (by have := HZ2.out; omega))
  have R1 := Lib.hid (A1.out.keep hb (by have := HZ2.out; omega))
  have R2 := Lib.hid (A2.out.keep hb (by have := HZ2.out; omega))
  have R3 := Lib.hid (A3.out.keep hb (by have := HZ2.out; omega))
  have HBX := Lib.hid (HB2.out.trans (hb.mono (by have := HZ2.out; omega)))
  have HBS := Lib.hid bs
  have HB4 := Lib.hid b4
  have HB5 := Lib.hid b5
  clear hb bs b4 b5 A0 A1 A2 A3 HB2
  obtain ⟨z, hz⟩ : ∃ z, z = X.heap.size := ⟨_, rfl⟩
  have HZ : Hid (z = X.heap.size ∧ q + 3 ≤ z) := ⟨hz, by rw [hz]; exact HB5.out.lt⟩
  have HL0 : Hid (SameLow g (q + 3) X X) := ⟨by rw [← hz]; exact HZ.out.2, fun _ _ _ => rfl⟩
  clear hz
  go_wp2_with fail
  gi_wp2_with fail
  refine range_by (gf := 53) (lb := #[.pointer (some ⟨q + 1, 0, none⟩), .pointer (some ⟨q + 2, 0, none⟩), .pointer (some ⟨q, 0, none⟩)]) (by decide) rfl (enters_of Tryd.func53 (by kernel_rfl) rfl)
    0 (min 0 0) (fun _ => #[.int .i64 0]) (fun _ => rfl) (fun W => Below g w W ∧ SameLow g (q + 3) X W)
    (fun l J Jx W hgd hbl hyy h0 => ?iter) (fun _ W => Below g w W ∧ SameLow g (q + 3) X W ∧ True) (fun _ => False) (fun k W h => ⟨h.1, h.2.1⟩) ?jb ?jp (fun _ _ h _ => h.elim) ⟨HBX.out, HL0.out, trivial⟩ ?body ?fin (fun _ h _ _ => h.elim)
  case iter =>
    refine places_iter 5 l q (q + 1) (q + 2) (by decide) none 0 0 0 (by decide) (by decide) (by decide) (fun _ => 0) _ ?_ ?_ ?_ J Jx W hgd hbl hyy h0
    · rintro W ⟨hb, hl⟩
      have := HZ2.out
      exact ⟨hl.box HBS.out (by omega) (by omega), hl.box HB4.out (by omega) (by omega), hl.box HB5.out (by omega) (by omega)⟩
    · rintro W ⟨hb, hl⟩
      exact room_nil W
    · rintro W k _ h1 h2
      omega
  case jb =>
    rintro k W W' ⟨hb, hl, hk⟩ hbb
    exact ⟨hb.trans (hbb.mono (by have := hl.1; have := HZ2.out; omega)), hl.keep hbb, hk⟩
  case jp =>
    rintro k W o ⟨hb, hl, hk⟩ hs
    have := HZ.out
    have := HZ2.out
    exact ⟨below_put hb (by rw [HG.out]; exact Nat.le_refl _) _ _ (by omega), hl.put _ _ (by omega), hk⟩
  case body =>
    rintro k W h1 h2
    omega
  case fin =>
    rintro W ⟨hb, hl, hk⟩ hs hd
    have B2 := Lib.hid (hl.box R2.out (by have := HZ2.out; omega) (by omega))
    have B3 := Lib.hid (hl.box R3.out (by have := HZ2.out; omega) (by omega))
    have HB := Lib.hid hb
    have HL := Lib.hid hl
    rw [← HZ.out.1] at hd ⊢
    have HD := Lib.hid hd
    clear hb hl hk hs hd
    have p0 := B2.out.cell 0 _ rfl
    have p1 := B2.out.cell 1 _ rfl
    have p2 := B2.out.cell 2 _ rfl
    have p3 := B2.out.cell 3 _ rfl
    have f0 := B2.out.free 0
    have f1 := B2.out.free 1
    have f2 := B2.out.free 2
    have f3 := B2.out.free 3
    have q0 := B3.out.cell 0 _ rfl
    have q1 := B3.out.free 0
    gi_wp2
    obtain ⟨r2, r3, rc⟩ := five_set B2.out B3.out (by omega) (.string ⟨#[]⟩) (.string ⟨#[]⟩) (.int .i64 0) (.int .i64 0) (.bool false)
    have hzz := HZ.out
    have hz2 := HZ2.out
    have hll := HL.out.1
    generalize (((((W.setCell ⟨g + 2, 0, none⟩ (.string ⟨#[]⟩)).setCell ⟨g + 2, 1, none⟩ (.string ⟨#[]⟩)).setCell ⟨g + 2, 2, none⟩ (.int .i64 0)).setCell ⟨g + 2, 3, none⟩ (.int .i64 0)).setCell ⟨g + 3, 0, none⟩ (.bool false)) = W5 at *
    have hdd := (rc.block z (lt_of_block HD.out) (by simp; omega)).trans HD.out
    refine ⟨by simp, .inl ⟨_, _, rfl, run_takeDeferred hdd, ?_⟩⟩
    refine ⟨_, results_bc rfl _ _ (g + 2) ⟨g + 3, 0, none⟩ 64 _ (0, 0) _ (.bool false) rfl rfl (r2.of (World.putObj_heap_other (by omega))) Tryd.underlying64 rfl sizeEnt (Tryd.isAgg4 _) ((r3.of (World.putObj_heap_other (by omega))).cell 0 _ rfl), ?_⟩
    refine ⟨rfl, ?_⟩
    rw [← HG.out]
    exact below_put (HB.out.trans (rc.below (by omega) (by intro j hj; simp at hj; omega))) (by rw [HG.out]; exact Nat.le_refl _) _ _ (by omega)
set_option maxRecDepth 100000 in
set_option maxHeartbeats 2000000 in
theorem among_nil_in (w : World) :
    CallsIn Fence.wide 6 Tryd.prog 33 #[.pointer none, .int .i64 0, .int .i64 0] w fun e w' => ∃ v, e = .returned v ∧ Cgs 64 w' w.heap.size v [] ∧ Below w.heap.size w w' := by
  have B0 := Box.new w 27 #[.pointer none]
  have B1 := Box.new (w.alloc (.cells #[.pointer none] 27)) 38 #[.slice none 0 0]
  simp only [size_alloc] at B1
  have hb0 : Below w.heap.size w ((w.alloc (.cells #[.pointer none] 27)).alloc (.cells #[.slice none 0 0] 38)) := ((Below.refl _ w).alloc (Nat.le_refl _) _).alloc (by rw [size_alloc]; omega) _
  have HB0 := Lib.hid hb0
  have HA1 := Lib.hid B1
  have HA0 := Lib.hid (B0.alloc (.cells #[.slice none 0 0] 38))
  have a0 := HA0.out.cell 0 _ rfl
  clear B0 B1 hb0
  refine callsIn_of_wp_marks Tryd.func33 rfl trivial ?_ rfl
  simp only [Tryd.ntmps33, List.size_toArray, List.length_cons, List.length_nil, Nat.reduceAdd, Nat.reduceSub, Array.replicate_succ, Array.replicate_zero, List.push_toArray, List.append_toArray, List.nil_append, List.cons_append]
  gi_wp2_with fail
  refine ⟨trivial, ?_⟩
  generalize hW1 : (w.alloc (.cells #[.pointer none] 27)).alloc (.cells #[.slice none 0 0] 38) = W1 at *
  have hz1 : W1.heap.size = w.heap.size + 2 := by rw [← hW1]; simp only [size_alloc]
  clear hW1
  refine (callsIn_wide.2 (places_any _ _ _ _)).mono ?_
  rintro e X ⟨rfl, hb, bs, b4, b5⟩
  rw [hz1] at hb bs b4 b5 ⊢
  obtain ⟨g, hg⟩ : ∃ g, g = w.heap.size := ⟨_, rfl⟩
  rw [← hg] at HB0 HA0 HA1 hz1 hb bs b4 b5 ⊢
  have HG := Lib.hid hg
  have R0 := Lib.hid (HA0.out.keep hb (by omega))
  have R1 := Lib.hid (HA1.out.keep hb (by omega))
  have HBX := Lib.hid (HB0.out.trans (hb.mono (by omega)))
  have HBS := Lib.hid bs
  have HB4 := Lib.hid b4
  have HB5 := Lib.hid b5
  clear hb bs b4 b5 HB0 HA0 HA1 a0 hz1 hg
  simp only [Nat.add_assoc, Nat.reduceAdd] at *
  obtain ⟨z, hz⟩ : ∃ z, z = X.heap.size := ⟨_, rfl⟩
  have HZ : Hid (z = X.heap.size ∧ g + 5 ≤ z) := ⟨hz, by rw [hz]; exact HB5.out.lt⟩
  have HL0 : Hid (SameBut g (g + 5) (g + 1) X X) := ⟨by rw [← hz]; exact HZ.out.2, fun _ _ _ _ => rfl⟩
  clear hz
  gi_wp2_with fail
  refine range_by (gf := 53) (lb := #[.pointer (some ⟨g + 3, 0, none⟩), .pointer (some ⟨g + 4, 0, none⟩), .pointer (some ⟨g + 2, 0, none⟩)]) (by decide) rfl (enters_of Tryd.func53 (by kernel_rfl) rfl)
    0 (min 0 0) (fun _ => #[.int .i64 0]) (fun _ => rfl) (fun W => Below g w W ∧ SameBut g (g + 5) (g + 1) X W)
    (fun l J Jx W hgd hbl hyy h0 => ?iter) (fun _ W => Below g w W ∧ SameBut g (g + 5) (g + 1) X W ∧ Box W (g + 1) 38 #[.slice none 0 0]) (fun _ => False) (fun k W h => ⟨h.1, h.2.1⟩) ?jb ?jp (fun _ _ h _ => h.elim) ⟨HBX.out, HL0.out, R1.out⟩ ?body ?fin (fun _ h _ _ => h.elim)
  case iter =>
    refine places_iter 5 l (g + 2) (g + 3) (g + 4) (by decide) none 0 0 0 (by decide) (by decide) (by decide) (fun _ => 0) _ ?_ ?_ ?_ J Jx W hgd hbl hyy h0
    · rintro W ⟨hb, hl⟩
      exact ⟨hl.box HBS.out (by omega) (by omega) (by omega), hl.box HB4.out (by omega) (by omega) (by omega), hl.box HB5.out (by omega) (by omega) (by omega)⟩
    · rintro W ⟨hb, hl⟩
      exact room_nil W
    · rintro W k _ h1 h2
      omega
  case jb =>
    rintro k W W' ⟨hb, hl, hv⟩ hbb
    exact ⟨hb.trans (hbb.mono (by have := hl.1; omega)), hl.keep hbb, hv.keep hbb hv.lt⟩
  case jp =>
    rintro k W o ⟨hb, hl, hv⟩ hs
    have := HZ.out
    exact ⟨below_put hb (by rw [HG.out]; exact Nat.le_refl _) _ _ (by omega), hl.put _ _ (by omega), hv.of (World.putObj_heap_other (by omega))⟩
  case body =>
    rintro k W h1 h2
    omega
  case fin =>
    rintro W ⟨hb, hl, hv⟩ hs hd
    have HB := Lib.hid hb
    rw [← HZ.out.1] at hd ⊢
    have HD := Lib.hid hd
    have v0 := hv.cell 0 _ rfl
    clear hb hl hs hd hv
    gi_wp2
    have hzz := HZ.out
    refine ⟨by simp, .inl ⟨_, _, rfl, run_takeDeferred HD.out, ?_⟩⟩
    refine ⟨_, results_tmp rfl _ _ _, ?_⟩
    refine ⟨_, rfl, Cgs.nil _ _ _, ?_⟩
    rw [← HG.out]
    exact below_put HB.out (by rw [HG.out]; exact Nat.le_refl _) _ _ (by omega)


set_option maxRecDepth 100000 in
theorem find_nil (key : ByteArray) (w : World) : Calls Tryd.prog 13 #[.pointer none, .string key] w fun e w' => e = .returned (.tuple #[.string ⟨#[]⟩, .bool false]) ∧ Below w.heap.size w w' := by
  go_enter Tryd.func13, Tryd.ntmps13
  go_wp2_with fail
  refine (callsIn_wide.1 (entryof_nil_in key _)).mono ?_
  rintro e w1 ⟨rfl, hb⟩
  have HB := Lib.hid (hb.trans (((Below.refl w1.heap.size w1).alloc (Nat.le_refl _) (.cells #[.string ⟨#[]⟩, .string ⟨#[]⟩, .int .i64 0, .int .i64 0] 64)).mono hb.size))
  unfold noE
  clear hb
  go_wp2
  go_ret2
  exact ⟨rfl, HB.out⟩

set_option maxRecDepth 100000 in
theorem feed_nil (key load : ByteArray) (w : World) : Calls Tryd.prog 11 #[.pointer none, .string key, .string load] w fun e w' => e = .returned (.bool false) ∧ Below w.heap.size w w' := by
  go_enter Tryd.func11, Tryd.ntmps11
  go_wp2_with fail
  refine (room_nil _).mono ?_
  rintro e w1 ⟨rfl, hb⟩
  have HB := Lib.hid hb
  clear hb
  go_wp2
  go_ret
  exact ⟨rfl, HB.out⟩

set_option maxRecDepth 100000 in
theorem entries_nil (w : World) : Calls Tryd.prog 15 #[.pointer none] w fun e w' => ∃ v, e = .returned v ∧ Cgs 64 w' w.heap.size v [] ∧ Below w.heap.size w w' := by
  go_enter Tryd.func15, Tryd.ntmps15
  go_wp2_with fail
  refine (room_nil _).mono ?_
  rintro e w1 ⟨rfl, hb⟩
  have HB := Lib.hid hb
  clear hb
  go_wp2_with fail
  refine (callsIn_wide.1 (among_nil_in _)).mono ?_
  rintro e w2 ⟨v, rfl, hc, hb⟩
  have HC := Lib.hid (hc.base (b' := w.heap.size) HB.out.size)
  have HB2 := Lib.hid (HB.out.trans (hb.mono HB.out.size))
  clear hc hb
  go_wp2
  go_ret
  exact ⟨_, rfl, HC.out, HB2.out⟩
end Go.Proofs.YtopinlnjdgedeaaDoor

namespace Go.Proofs.YtopinlnjdgedeaaDoor
open Go Go.RowKit Go.ChangeShapes Go.WideShapes Go.ChangeAt

theorem pos_of {F : FedL} {f n N c : Nat} {d : DevD} {x : SecD} (h : FdS F f n N c d x) : ∀ k y, findS x.e k = some y → y.pos = k ∧ 0 ≤ k ∧ k < 1000 := h.pos
theorem big_of {d : DevD} (h : Tiny d) : ∀ l, (tellD d l).size ≤ 140737488355328 := fun l => Nat.le_trans (h.tell l) (by decide)
theorem mil_of {d : DevD} (h : Tiny d) : ∀ l, (tellD d l).size ≤ 1000000 := fun l => Nat.le_trans (h.tell l) (by decide)
theorem cgs_len {e : TypeId} {w : World} {b : Nat} {v : Value} {l : List CgE} (h : Cgs e w b v l) : ∃ a cap, v = .slice a l.length cap := by
  obtain ⟨a, cap, e, _⟩ := h.view
  exact ⟨a, cap, e⟩

set_option maxRecDepth 100000 in
set_option maxHeartbeats 4000000 in
theorem live14 (w : World) (hK : Kt w) : Calls Tryd.prog 8 #[] w fun e w' => e = .returned (.bool true) ∧ Below w.heap.size w w' := by
  have HK := Lib.hid hK
  have HBP := Lib.hid hK.pos
  obtain ⟨B, hB⟩ : ∃ B, B = w.heap.size := ⟨_, rfl⟩
  have HB := Lib.hid hB
  have HBP2 : Hid (0 < B) := by show 0 < B; rw [hB]; exact HBP.out
  have HNEW := Lib.hid (one_new B fixed_no 4 20 w (Nat.le_of_eq hB) ⟨[], rfl, fun k hk => by cases hk⟩ (by decide) (by decide))
  have HF1 := Lib.hid (fun (s b : Nat) (x : SecD) => fixed_both fixed_no (fixed_sc s b x))
  clear hK hB
  go_enter Tryd.func8, Tryd.ntmps8
  go_wp2_with fail
  refine HNEW.out.mono ?_
  rintro e w1 ⟨b, rfl, ho, hb⟩
  have HO := Lib.hid (show One B NoP b LD0 w1 from ho)
  have HBL := Lib.hid hb
  clear ho hb HNEW
  have HOP := Lib.hid (open_ok fixed_no HO.out 4 10 (by decide) (by decide) (by decide) (HK.out.below HBL.out HBP2.out) HBP2.out (mil_of (Tiny.new 4 20)))
  go_wp2_with fail
  refine HOP.out.mono ?_
  rintro e w2 ⟨s, rfl, ho, hb⟩
  have HO2 : Hid (One B (Both NoP (ScF s b LX0)) b LD0 w2) := by
    have h1 := ho
    rw [show recX LD0 (newX 4 10) = LX0 from lv_rec] at h1
    exact h1
  have HBL2 := Lib.hid (HBL.out.trans hb)
  clear ho hb HOP HO HBL
  have HFE := Lib.hid (feed_any fixed_no HO2.out (show (4 : Nat) ≤ 512 by decide) (show (10 : Nat) ≤ 512 by decide) (show 2 ≤ 10 by decide) (HK.out.below HBL2.out HBP2.out) HBP2.out (show (0 : Nat) ≤ 512 by decide) (show (0 : Nat) ≤ 80000 by decide) (show (0 : Nat) ≤ 10000 by decide) kB helloB)
  rw [lv_feed.1] at HFE
  go_wp2_with fail
  refine HFE.out.mono ?_
  rintro e w3 ⟨rfl, ho, hb⟩
  have HO3 := Lib.hid ho
  have HBL3 := Lib.hid (HBL2.out.trans hb)
  clear ho hb HFE HO2 HBL2
  have hw1 : LD1.waits.length ≤ 80000 := Nat.le_trans lv_st.few (by decide)
  have hh1 : LX1.hand ≤ 512 := by rw [lv_st.hand]; exact Nat.le_trans (Nat.le_of_lt (Nat.mod_lt _ (by decide))) (by decide)
  have he1 : LX1.e.length ≤ 10000 := Nat.le_trans lv_st.len (by decide)
  have hf1 : LX1.f ≤ 512 := by rw [lv_st.hf]; decide
  have hn1 : LX1.n ≤ 512 := by rw [lv_st.hn]; decide
  have hn2 : 2 ≤ LX1.n := by rw [lv_st.hn]; decide
  have HC1 := Lib.hid (And.intro hw1 (And.intro hh1 (And.intro he1 (And.intro hf1 (And.intro hn1 hn2)))))
  have HFE := Lib.hid (feed_any fixed_no HO3.out hf1 hn1 hn2 (HK.out.below HBL3.out HBP2.out) HBP2.out hh1 hw1 he1 kB otherB)
  rw [lv_other] at HFE
  clear hw1 hh1 he1 hf1 hn1 hn2
  go_wp2_with fail
  refine HFE.out.mono ?_
  rintro e w4 ⟨rfl, ho, hb⟩
  have HO4 := Lib.hid ho
  have HBL4 := Lib.hid (HBL3.out.trans hb)
  clear ho hb HFE HO3 HBL3
  have HFI := Lib.hid (find_any fixed_no HO4.out HC1.out.2.2.2.1 HC1.out.2.2.2.2.1 kB (HK.out.below HBL4.out HBP2.out) HBP2.out (big_of lv_tiny1) lv_st.pos)
  rw [lv_find1] at HFI
  go_wp2_with fail
  refine HFI.out.mono ?_
  rintro e w5 ⟨rfl, ho, hb⟩
  have HO5 := Lib.hid ho
  have HBL5 := Lib.hid (HBL4.out.trans hb)
  clear ho hb HFI HO4 HBL4
  have HFI := Lib.hid (find_any fixed_no HO5.out HC1.out.2.2.2.1 HC1.out.2.2.2.2.1 lB (HK.out.below HBL5.out HBP2.out) HBP2.out (big_of lv_tiny1) lv_st.pos)
  rw [lv_findl] at HFI
  go_wp2_with fail
  refine HFI.out.mono ?_
  rintro e w6 ⟨rfl, ho, hb⟩
  have HO6 := Lib.hid ho
  have HBL6 := Lib.hid (HBL5.out.trans hb)
  clear ho hb HFI HO5 HBL5
  have HFL := Lib.hid (one_flush (HF1.out s b LX1) HO6.out (Nat.le_trans lv_st.few (by decide)))
  go_wp2_with fail
  refine HFL.out.mono ?_
  rintro e w7 ⟨rfl, ho, hb⟩
  have HO7 : Hid (One B (Both NoP (ScF s b LX1)) b LD2 w7) := ho
  have HBL7 := Lib.hid (HBL6.out.trans hb)
  clear ho hb HFL HO6 HBL6
  have HOP := Lib.hid (open_ok (HF1.out s b LX1) HO7.out 4 10 (by decide) (by rw [lv_dv2.size]; decide) (by rw [lv_dv2.size]; decide) (HK.out.below HBL7.out HBP2.out) HBP2.out (mil_of lv_tiny2))
  go_wp2_with fail
  refine HOP.out.mono ?_
  rintro e w8 ⟨k, rfl, ho, hb⟩
  have HO8 : Hid (One B (Both (Both NoP (ScF s b LX1)) (ScF k b LXK)) b LD2 w8) := ho
  have HBL8 := Lib.hid (HBL7.out.trans hb)
  clear ho hb HOP HO7 HBL7
  have HFI := Lib.hid (find_any (HF1.out s b LX1) HO8.out (show LXK.f ≤ 512 from by rw [show LXK.f = 4 from (lk_f _ _).1]; decide) (show LXK.n ≤ 512 from by rw [show LXK.n = 10 from (lk_f _ _).2]; decide) kB (HK.out.below HBL8.out HBP2.out) HBP2.out (big_of lv_tiny2) lv_posk)
  rw [lv_findk] at HFI
  go_wp2_with fail
  refine HFI.out.mono ?_
  rintro e w9 ⟨rfl, ho, hb⟩
  have HO9 := Lib.hid ho
  have HBL9 := Lib.hid (HBL8.out.trans hb)
  clear ho hb HFI HO8 HBL8
  have HSP := Lib.hid (one_spoil (fixed_both (HF1.out s b LX1) (fixed_sc k b LXK)) HO9.out (1, 5) badB (by rw [show LD2.waits = [] from rfl]; decide))
  unfold locV at HSP
  go_wp2_with fail
  refine HSP.out.mono ?_
  rintro e w10 ⟨rfl, ho, hb⟩
  have HO10 : Hid (One B (Both (Both NoP (ScF s b LX1)) (ScF k b LXK)) b LD3 w10) := ho
  have HBL10 := Lib.hid (HBL9.out.trans hb)
  clear ho hb HSP HO9 HBL9
  have HFI := Lib.hid (find_any (HF1.out s b LX1) HO10.out (show LXK.f ≤ 512 from by rw [show LXK.f = 4 from (lk_f _ _).1]; decide) (show LXK.n ≤ 512 from by rw [show LXK.n = 10 from (lk_f _ _).2]; decide) kB (HK.out.below HBL10.out HBP2.out) HBP2.out (big_of lv_tiny3) lv_posk)
  rw [lv_findq] at HFI
  go_wp2_with fail
  refine HFI.out.mono ?_
  rintro e w11 ⟨rfl, ho, hb⟩
  have HO11 : Hid (One B (Both (Both NoP (ScF s b LX1)) (ScF k b LXQ)) b LD3 w11) := ho
  have HBL11 := Lib.hid (HBL10.out.trans hb)
  clear ho hb HFI HO10 HBL10
  have c1 : (helloB.toList == [104, 101, 108, 108, 111]) = true := by rw [ByteArray.toList_eq]; rfl
  have HRO : Hid (Calls Tryd.prog 14 #[.pointer (some ⟨s, 0, none⟩)] w11 fun e w' => e = .returned (.int .i64 8) ∧ Below w11.heap.size w11 w') := by
    obtain ⟨m, hs, _⟩ := HO11.out.swapSc.secE (fixed_both fixed_no (fixed_sc k b LXQ))
    have := room_any s b m LX1 w11 hs.box HC1.out.2.2.2.2.1
    rw [lv_st.hn, lv_room] at this
    exact this
  go_wp2_with fail
  refine HRO.out.mono ?_
  rintro e w12 ⟨rfl, hb⟩
  have HO12 := Lib.hid (HO11.out.keep (fixed_both (HF1.out s b LX1) (fixed_sc k b LXQ)) hb)
  have HBL12 := Lib.hid (HBL11.out.trans (hb.mono HO11.out.1))
  clear hb HRO HO11 HBL11
  have HEN := Lib.hid (entries_any (fixed_both fixed_no (fixed_sc k b LXQ)) HO12.out.swapSc HC1.out.2.2.2.1 HC1.out.2.2.2.2.1)
  go_wp2_with fail
  refine HEN.out.mono ?_
  rintro e w13 ⟨v, rfl, hc, hb⟩
  obtain ⟨va, vc, rfl⟩ := cgs_len hc
  rw [lv_len1]
  have HO13 := Lib.hid (HO12.out.keep (fixed_both (HF1.out s b LX1) (fixed_sc k b LXQ)) hb)
  have HBL13 := Lib.hid (HBL12.out.trans (hb.mono HO12.out.1))
  clear hb hc HEN HO12 HBL12
  have HEN := Lib.hid (entries_any (HF1.out s b LX1) HO13.out (show LXQ.f ≤ 512 from by rw [show LXQ.f = 4 from (lk_f _ _).1]; decide) (show LXQ.n ≤ 512 from by rw [show LXQ.n = 10 from (lk_f _ _).2]; decide))
  go_wp2_with fail
  refine HEN.out.mono ?_
  rintro e w14 ⟨v, rfl, hc, hb⟩
  obtain ⟨ka, kc, rfl⟩ := cgs_len hc
  rw [lv_len0]
  have HO14 := Lib.hid (HO13.out.keep (fixed_both (HF1.out s b LX1) (fixed_sc k b LXQ)) hb)
  have HBL14 := Lib.hid (HBL13.out.trans (hb.mono HO13.out.1))
  clear hb hc HEN HO13 HBL13
  have hz3 : devSize LD3 1 = 20 := by rw [(lv_size3 1).1]; exact lv_dv2.size
  have HOF := Lib.hid (open_far HO14.out 4 17 (by decide) (by rw [hz3]; decide) (by decide) (by decide) (by rw [hz3]; decide))
  clear hz3
  go_wp2_with fail
  refine HOF.out.mono ?_
  rintro e w15 ⟨rfl, rfl⟩
  go_wp2_with fail
  refine (open_none _).mono ?_
  rintro e w15 ⟨rfl, rfl⟩
  have hw3 : LD3.waits.length ≤ 80000 := by
    have e3 : LD3.waits = [] := by
      unfold LD3 spoilD
      rw [if_pos lv_chk3]
      exact (rfl : keepL (fun x : WrD => (fun y : Int × Int => y.1 == ((1, 5) : Int × Int).1 && y.2 == ((1, 5) : Int × Int).2) x.1) [] = [])
    rw [e3]
    decide
  have HFE := Lib.hid (feed_any (fixed_both fixed_no (fixed_sc k b LXQ)) HO14.out.swapSc HC1.out.2.2.2.1 HC1.out.2.2.2.2.1 HC1.out.2.2.2.2.2 (HK.out.below HBL14.out HBP2.out) HBP2.out HC1.out.2.1 hw3 HC1.out.2.2.1 ⟨#[]⟩ ⟨#[120]⟩)
  rw [feedX_no (d := LD3) (x := LX1) (key := ⟨#[]⟩) (load := ⟨#[120]⟩) (.inl (by decide))] at HFE
  clear hw3
  go_wp2_with fail
  refine HFE.out.mono ?_
  rintro e w16 ⟨rfl, ho, hb⟩
  have HBL16 := Lib.hid (HBL14.out.trans hb)
  clear ho hb
  go_wp2
  go_ret
  exact ⟨rfl, by rw [← HB.out]; exact HBL16.out⟩
end Go.Proofs.YtopinlnjdgedeaaDoor

namespace Go.Proofs.YtopinlnjdgedeaaDoor.secondNil
open Go.RowKit

set_option maxRecDepth 100000 in
theorem walk (w : World) (hK : Kt w) (a0 : ByteArray) (_w0 : a0.size ≤ 140737488351232) :
    Calls Tryd.prog 4 #[.string a0] w fun e w' => e = .returned (.bool true) ∧ Below w.heap.size w w' := by
  have HK := Lib.hid hK
  have HBP := Lib.hid hK.pos
  clear hK
  go_enter Tryd.func4, Tryd.ntmps4
  go_wp2_with fail
  refine (find_nil a0 _).mono ?_
  rintro e w1 ⟨rfl, hb⟩
  have HB1 := Lib.hid hb
  clear hb
  go_wp2_with fail
  refine (feed_nil a0 a0 _).mono ?_
  rintro e w2 ⟨rfl, hb⟩
  have HB2 := Lib.hid (HB1.out.trans (hb.mono HB1.out.size))
  clear hb HB1
  go_wp2_with fail
  refine (entries_nil _).mono ?_
  rintro e w3 ⟨v, rfl, hc, hb⟩
  obtain ⟨va, vc, rfl⟩ := cgs_len hc
  have HB3 := Lib.hid (HB2.out.trans (hb.mono HB2.out.size))
  clear hb hc HB2
  go_wp2_with fail
  refine (room_nil _).mono ?_
  rintro e w4 ⟨rfl, hb⟩
  have HB4 := Lib.hid (HB3.out.trans (hb.mono HB3.out.size))
  clear hb HB3
  go_wp2_with fail
  refine (live14 _ (HK.out.below HB4.out HBP.out)).mono ?_
  rintro e w5 ⟨rfl, hb⟩
  have HB5 := Lib.hid (HB4.out.trans (hb.mono HB4.out.size))
  clear hb HB4
  go_wp2
  go_ret
  exact ⟨rfl, HB5.out⟩
end Go.Proofs.YtopinlnjdgedeaaDoor.secondNil

namespace Go.Proofs.YtopinlnjdgedeaaDoor
open Go.ChangeShapes Go.WideShapes Go.ChangeAt Go.RowKit

theorem gRoots : Tryd.prog.globalNamed (Rows.secondNilRow.named.headD "") = some 0 := by kernel_rfl
theorem gRootsType : (Tryd.prog.globals[0]?).map (·.type) = some 127 := by kernel_rfl
theorem cells32 : Tryd.prog.cellsOf 88 = 1 := by kernel_rfl
theorem cells64 : Tryd.prog.cellsOf 127 = 64 := by kernel_rfl

def kInts : List Int := kTab.map Int.ofNat

theorem door_met (os : Os) (args : Array Value) : laidMetH Tryd.prog Rows.secondNilRow.laid ((World.doorLaid Tryd.prog 400 os).forCall (fun _ _ => 0) ⟨#[], args, []⟩).memory :=
  laidMetH_of_parts3 (fuel := 8) (laidMet_of_run' 8 (by kernel_rfl) (by kernel_rfl)) (by kernel_rfl) (by kernel_rfl)

theorem laid_tab : Rows.secondNilRow.laid = [(Rows.secondNilRow.named.headD "", Lib.tabData .u32 kInts)] := rfl

theorem kt_of_laid {W : World} (h : laidMetH Tryd.prog Rows.secondNilRow.laid W) : Kt W := by
  rw [MakeChecks.laidMetH_plain _ _ _ (by kernel_rfl), laid_tab] at h
  have hT := Lib.tabIs_of_head gRoots gRootsType Tryd.underlying127 Tryd.underlying88 cells32 cells64 h
  intro t ht
  have hl : t < kTab.length := by show t < 64; exact ht
  have hc := hT.cell gRoots t (by simpa [kInts] using hl)
  rw [hc]
  congr 2
  simp [kInts, List.getD, List.getElem?_eq_getElem hl]
end Go.Proofs.YtopinlnjdgedeaaDoor
