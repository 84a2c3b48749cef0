/-
  Package second: a cache that is none.
-/
import Derived.Test.YtopinlnjdgedeaaDoorMg37
namespace Go.Proofs.YtopinlnjdgedeaaDoor
open Go Go.RowKit Go.Shelf Go.ChangeShapes Go.WideShapes Go.ChangeAt

attribute [local go_sem] Oper.semAt_some

set_option maxRecDepth 100000 in
set_option maxHeartbeats 2000000 in
theorem entryof_nil_in (key : ByteArray) (w : World) :
    CallsIn Fence.wide 6 Tryd.prog 25 #[.pointer none, .string key] w fun e w' => e = .returned (.tuple #[cgV noE, .bool false]) ∧ Below w.heap.size w w' := by
  have B0 := Box.new w 27 #[.pointer none]
  have B1 := Box.new (w.alloc (.cells #[.pointer none] 27)) 9 #[.string key]
  have B2 := Box.new ((w.alloc (.cells #[.pointer none] 27)).alloc (.cells #[.string key] 9)) 64 #[.string ⟨#[]⟩, .string ⟨#[]⟩, .int .i64 0, .int .i64 0]
  have B3 := Box.new (((w.alloc (.cells #[.pointer none] 27)).alloc (.cells #[.string key] 9)).alloc (.cells #[.string ⟨#[]⟩, .string ⟨#[]⟩, .int .i64 0, .int .i64 0] 64)) 4 #[.bool false]
  simp only [size_alloc] at B1 B2 B3
  have hb0 : Below w.heap.size w ((((w.alloc (.cells #[.pointer none] 27)).alloc (.cells #[.string key] 9)).alloc (.cells #[.string ⟨#[]⟩, .string ⟨#[]⟩, .int .i64 0, .int .i64 0] 64)).alloc (.cells #[.bool false] 4)) := ((((Below.refl _ w).alloc (Nat.le_refl _) _).alloc (by rw [size_alloc]; omega) _).alloc (by simp only [size_alloc]; omega) _).alloc (by simp only [size_alloc]; omega) _
  have HB0 := Lib.hid hb0
  have HA3 := Lib.hid B3
  have HA2 := Lib.hid (B2.alloc (.cells #[.bool false] 4))
  have HA1 := Lib.hid ((B1.alloc (.cells #[.string ⟨#[]⟩, .string ⟨#[]⟩, .int .i64 0, .int .i64 0] 64)).alloc (.cells #[.bool false] 4))
  have HA0 := Lib.hid (((B0.alloc (.cells #[.string key] 9)).alloc (.cells #[.string ⟨#[]⟩, .string ⟨#[]⟩, .int .i64 0, .int .i64 0] 64)).alloc (.cells #[.bool false] 4))
  clear B0 B1 B2 B3 hb0
  refine callsIn_of_wp_marks Tryd.func25 rfl trivial ?_ rfl
  simp only [Tryd.ntmps25, List.size_toArray, List.length_cons, List.length_nil, Nat.reduceAdd, Nat.reduceSub, Array.replicate_succ, Array.replicate_zero, List.push_toArray, List.append_toArray, List.nil_append, List.cons_append]
  gi_wp2_with fail
  generalize hW1 : (((w.alloc (.cells #[.pointer none] 27)).alloc (.cells #[.string key] 9)).alloc (.cells #[.string ⟨#[]⟩, .string ⟨#[]⟩, .int .i64 0, .int .i64 0] 64)).alloc (.cells #[.bool false] 4) = W1 at *
  have hz1 : W1.heap.size = w.heap.size + 4 := by rw [← hW1]; simp only [size_alloc]
  clear hW1
  obtain ⟨g, hg⟩ : ∃ g, g = w.heap.size := ⟨_, rfl⟩
  rw [← hg] at HB0 HA0 HA1 HA2 HA3 hz1 ⊢
  have HG := Lib.hid hg
  have HZ1 := Lib.hid hz1
  have hb1 := (HB0.out.drew)
  have a0 := HA0.out.cell 0 _ rfl
  clear hg hz1
  simp only [Nat.add_assoc, Nat.reduceAdd] at HA2 HA3 ⊢
  clear hb1
  refine wpIn_wide.2 ?_
  refine wp_region_tree (fun W => W.cell? ⟨g, 0, none⟩ = some (.pointer none)) 3 (.quiet 0 (.quiet 1 (.make 2 .nil))) (by kernel_rfl) (by kernel_rfl) a0 ?_
  simp only [List.drop_succ_cons, List.drop_zero]
  iterate 2 (apply wpTr_step rfl; (intro W hS K hK; go_simp; exact hK _ rfl))
  refine wpTr_make rfl (fun K' hK => ?_)
  go_simp
  refine (room_nil _).mono ?_
  rintro e W2 ⟨rfl, hb2⟩
  have hbb : Below (g + 4) W1 W2 := ((Below.refl _ W1).drew).trans (hb2.mono (Nat.le_of_eq HZ1.out.symm))
  have A0 := Lib.hid (HA0.out.keep hbb (by omega))
  have A1 := Lib.hid (HA1.out.keep hbb (by omega))
  have A2 := Lib.hid (HA2.out.keep hbb (by omega))
  have A3 := Lib.hid (HA3.out.keep hbb (by omega))
  have HB2 := Lib.hid (HB0.out.trans (hbb.mono (Nat.le_add_right g 4)))
  have HZ2 : Hid (g + 4 ≤ W2.heap.size) := by have := hbb.size; rw [HZ1.out] at this; exact this
  refine hK _ _ _ (fun _ h => h) (A0.out.cell 0 _ rfl) ?_
  clear hK K' hb2 hbb HB0 HA0 HA1 HA2 HA3 a0
  refine wpTr_nil ?_
  go_wp2_with fail
  refine (places_any _ _ _ _).mono ?_
  rintro e X ⟨rfl, hb, bs, b4, b5⟩
  obtain ⟨q, hq⟩ : ∃ q, q = W2.heap.size := ⟨_, rfl⟩
  rw [← hq] at hb bs b4 b5 HZ2 ⊢
  have HQ := Lib.hid hq
  clear hq
  have R0 := Lib.hid (A0.out.keep hb (by have := HZ2.out; omega))
  have R1 := Lib.hid (A1.out.keep hb (by have := HZ2.out; omega))
  have R2 := Lib.hid (A2.out.keep hb (by have := HZ2.out; omega))
  have R3 := Lib.hid (A3.out.keep hb (by have := HZ2.out; omega))
  have HBX := Lib.hid (HB2.out.trans (hb.mono (by have := HZ2.out; omega)))
  have HBS := Lib.hid bs
  have HB4 := Lib.hid b4
  have HB5 := Lib.hid b5
  clear hb bs b4 b5 A0 A1 A2 A3 HB2
  obtain ⟨z, hz⟩ : ∃ z, z = X.heap.size := ⟨_, rfl⟩
  have HZ : Hid (z = X.heap.size ∧ q + 3 ≤ z) := ⟨hz, by rw [hz]; exact HB5.out.lt⟩
  have HL0 : Hid (SameLow g (q + 3) X X) := ⟨by rw [← hz]; exact HZ.out.2, fun _ _ _ => rfl⟩
  clear hz
  go_wp2_with fail
  gi_wp2_with fail
  refine range_by (gf := 53) (lb := #[.pointer (some ⟨q + 1, 0, none⟩), .pointer (some ⟨q + 2, 0, none⟩), .pointer (some ⟨q, 0, none⟩)]) (by decide) rfl (enters_of Tryd.func53 (by kernel_rfl) rfl)
    0 (min 0 0) (fun _ => #[.int .i64 0]) (fun _ => rfl) (fun W => Below g w W ∧ SameLow g (q + 3) X W)
    (fun l J Jx W hgd hbl hyy h0 => ?iter) (fun _ W => Below g w W ∧ SameLow g (q + 3) X W ∧ True) (fun _ => False) (fun k W h => ⟨h.1, h.2.1⟩) ?jb ?jp (fun _ _ h _ => h.elim) ⟨HBX.out, HL0.out, trivial⟩ ?body ?fin (fun _ h _ _ => h.elim)
  case iter =>
    refine places_iter 5 l q (q + 1) (q + 2) (by decide) none 0 0 0 (by decide) (by decide) (by decide) (fun _ => 0) _ ?_ ?_ ?_ J Jx W hgd hbl hyy h0
    · rintro W ⟨hb, hl⟩
      have := HZ2.out
      exact ⟨hl.box HBS.out (by omega) (by omega), hl.box HB4.out (by omega) (by omega), hl.box HB5.out (by omega) (by omega)⟩
    · rintro W ⟨hb, hl⟩
      exact room_nil W
    · rintro W k _ h1 h2
      omega
  case jb =>
    rintro k W W' ⟨hb, hl, hk⟩ hbb
    exact ⟨hb.trans (hbb.mono (by have := hl.1; have := HZ2.out; omega)), hl.keep hbb, hk⟩
  case jp =>
    rintro k W o ⟨hb, hl, hk⟩ hs
    have := HZ.out
    have := HZ2.out
    exact ⟨below_put hb (by rw [HG.out]; exact Nat.le_refl _) _ _ (by omega), hl.put _ _ (by omega), hk⟩
  case body =>
    rintro k W h1 h2
    omega
  case fin =>
    rintro W ⟨hb, hl, hk⟩ hs hd
    have B2 := Lib.hid (hl.box R2.out (by have := HZ2.out; omega) (by omega))
    have B3 := Lib.hid (hl.box R3.out (by have := HZ2.out; omega) (by omega))
    have HB := Lib.hid hb
    have HL := Lib.hid hl
    rw [← HZ.out.1] at hd ⊢
    have HD := Lib.hid hd
    clear hb hl hk hs hd
    have p0 := B2.out.cell 0 _ rfl
    have p1 := B2.out.cell 1 _ rfl
    have p2 := B2.out.cell 2 _ rfl
    have p3 := B2.out.cell 3 _ rfl
    have f0 := B2.out.free 0
    have f1 := B2.out.free 1
    have f2 := B2.out.free 2
    have f3 := B2.out.free 3
    have q0 := B3.out.cell 0 _ rfl
    have q1 := B3.out.free 0
    gi_wp2
    obtain ⟨r2, r3, rc⟩ := five_set B2.out B3.out (by omega) (.string ⟨#[]⟩) (.string ⟨#[]⟩) (.int .i64 0) (.int .i64 0) (.bool false)
    have hzz := HZ.out
    have hz2 := HZ2.out
    have hll := HL.out.1
    generalize (((((W.setCell ⟨g + 2, 0, none⟩ (.string ⟨#[]⟩)).setCell ⟨g + 2, 1, none⟩ (.string ⟨#[]⟩)).setCell ⟨g + 2, 2, none⟩ (.int .i64 0)).setCell ⟨g + 2, 3, none⟩ (.int .i64 0)).setCell ⟨g + 3, 0, none⟩ (.bool false)) = W5 at *
    have hdd := (rc.block z (lt_of_block HD.out) (by simp; omega)).trans HD.out
    refine ⟨by simp, .inl ⟨_, _, rfl, run_takeDeferred hdd, ?_⟩⟩
    refine ⟨_, results_bc rfl _ _ (g + 2) ⟨g + 3, 0, none⟩ 64 _ (0, 0) _ (.bool false) rfl rfl (r2.of (World.putObj_heap_other (by omega))) Tryd.underlying64 rfl sizeEnt (Tryd.isAgg4 _) ((r3.of (World.putObj_heap_other (by omega))).cell 0 _ rfl), ?_⟩
    refine ⟨rfl, ?_⟩
    rw [← HG.out]
    exact below_put (HB.out.trans (rc.below (by omega) (by intro j hj; simp at hj; omega))) (by rw [HG.out]; exact Nat.le_refl _) _ _ (by omega)
set_option maxRecDepth 100000 in
set_option maxHeartbeats 2000000 in
theorem among_nil_in (w : World) :
    CallsIn Fence.wide 6 Tryd.prog 33 #[.pointer none, .int .i64 0, .int .i64 0] w fun e w' => ∃ v, e = .returned v ∧ Cgs 64 w' w.heap.size v [] ∧ Below w.heap.size w w' := by
  have B0 := Box.new w 27 #[.pointer none]
  have B1 := Box.new (w.alloc (.cells #[.pointer none] 27)) 38 #[.slice none 0 0]
  simp only [size_alloc] at B1
  have hb0 : Below w.heap.size w ((w.alloc (.cells #[.pointer none] 27)).alloc (.cells #[.slice none 0 0] 38)) := ((Below.refl _ w).alloc (Nat.le_refl _) _).alloc (by rw [size_alloc]; omega) _
  have HB0 := Lib.hid hb0
  have HA1 := Lib.hid B1
  have HA0 := Lib.hid (B0.alloc (.cells #[.slice none 0 0] 38))
  have a0 := HA0.out.cell 0 _ rfl
  clear B0 B1 hb0
  refine callsIn_of_wp_marks Tryd.func33 rfl trivial ?_ rfl
  simp only [Tryd.ntmps33, List.size_toArray, List.length_cons, List.length_nil, Nat.reduceAdd, Nat.reduceSub, Array.replicate_succ, Array.replicate_zero, List.push_toArray, List.append_toArray, List.nil_append, List.cons_append]
  gi_wp2_with fail
  refine ⟨trivial, ?_⟩
  generalize hW1 : (w.alloc (.cells #[.pointer none] 27)).alloc (.cells #[.slice none 0 0] 38) = W1 at *
  have hz1 : W1.heap.size = w.heap.size + 2 := by rw [← hW1]; simp only [size_alloc]
  clear hW1
  refine (callsIn_wide.2 (places_any _ _ _ _)).mono ?_
  rintro e X ⟨rfl, hb, bs, b4, b5⟩
  rw [hz1] at hb bs b4 b5 ⊢
  obtain ⟨g, hg⟩ : ∃ g, g = w.heap.size := ⟨_, rfl⟩
  rw [← hg] at HB0 HA0 HA1 hz1 hb bs b4 b5 ⊢
  have HG := Lib.hid hg
  have R0 := Lib.hid (HA0.out.keep hb (by omega))
  have R1 := Lib.hid (HA1.out.keep hb (by omega))
  have HBX := Lib.hid (HB0.out.trans (hb.mono (by omega)))
  have HBS := Lib.hid bs
  have HB4 := Lib.hid b4
  have HB5 := Lib.hid b5
  clear hb bs b4 b5 HB0 HA0 HA1 a0 hz1 hg
  simp only [Nat.add_assoc, Nat.reduceAdd] at *
  obtain ⟨z, hz⟩ : ∃ z, z = X.heap.size := ⟨_, rfl⟩
  have HZ : Hid (z = X.heap.size ∧ g + 5 ≤ z) := ⟨hz, by rw [hz]; exact HB5.out.lt⟩
  have HL0 : Hid (SameBut g (g + 5) (g + 1) X X) := ⟨by rw [← hz]; exact HZ.out.2, fun _ _ _ _ => rfl⟩
  clear hz
  gi_wp2_with fail
  refine range_by (gf := 53) (lb := #[.pointer (some ⟨g + 3, 0, none⟩), .pointer (some ⟨g + 4, 0, none⟩), .pointer (some ⟨g + 2, 0, none⟩)]) (by decide) rfl (enters_of Tryd.func53 (by kernel_rfl) rfl)
    0 (min 0 0) (fun _ => #[.int .i64 0]) (fun _ => rfl) (fun W => Below g w W ∧ SameBut g (g + 5) (g + 1) X W)
    (fun l J Jx W hgd hbl hyy h0 => ?iter) (fun _ W => Below g w W ∧ SameBut g (g + 5) (g + 1) X W ∧ Box W (g + 1) 38 #[.slice none 0 0]) (fun _ => False) (fun k W h => ⟨h.1, h.2.1⟩) ?jb ?jp (fun _ _ h _ => h.elim) ⟨HBX.out, HL0.out, R1.out⟩ ?body ?fin (fun _ h _ _ => h.elim)
  case iter =>
    refine places_iter 5 l (g + 2) (g + 3) (g + 4) (by decide) none 0 0 0 (by decide) (by decide) (by decide) (fun _ => 0) _ ?_ ?_ ?_ J Jx W hgd hbl hyy h0
    · rintro W ⟨hb, hl⟩
      exact ⟨hl.box HBS.out (by omega) (by omega) (by omega), hl.box HB4.out (by omega) (by omega) (by omega), hl.box HB5.out (by omega) (by omega) (by omega)⟩
    · rintro W ⟨hb, hl⟩
      exact room_nil W
    · rintro W k _ h1 h2
      omega
  case jb =>
    rintro k W W' ⟨hb, hl, hv⟩ hbb
    exact ⟨hb.trans (hbb.mono (by have := hl.1; omega)), hl.keep hbb, hv.keep hbb hv.lt⟩
  case jp =>
    rintro k W o ⟨hb, hl, hv⟩ hs
    have := HZ.out
    exact ⟨below_put hb (by rw [HG.out]; exact Nat.le_refl _) _ _ (by omega), hl.put _ _ (by omega), hv.of (World.putObj_heap_other (by omega))⟩
  case body =>
    rintro k W h1 h2
    omega
  case fin =>
    rintro W ⟨hb, hl, hv⟩ hs hd
    have HB := Lib.hid hb
    rw [← HZ.out.1] at hd ⊢
    have HD := Lib.hid hd
    have v0 := hv.cell 0 _ rfl
    clear hb hl hs hd hv
    gi_wp2
    have hzz := HZ.out
    refine ⟨by simp, .inl ⟨_, _, rfl, run_takeDeferred HD.out, ?_⟩⟩
    refine ⟨_, results_tmp rfl _ _ _, ?_⟩
    refine ⟨_, rfl, Cgs.nil _ _ _, ?_⟩
    rw [← HG.out]
    exact below_put HB.out (by rw [HG.out]; exact Nat.le_refl _) _ _ (by omega)


set_option maxRecDepth 100000 in
theorem find_nil (key : ByteArray) (w : World) : Calls Tryd.prog 13 #[.pointer none, .string key] w fun e w' => e = .returned (.tuple #[.string ⟨#[]⟩, .bool false]) ∧ Below w.heap.size w w' := by
  go_enter Tryd.func13, Tryd.ntmps13
  go_wp2_with fail
  refine (callsIn_wide.1 (entryof_nil_in key _)).mono ?_
  rintro e w1 ⟨rfl, hb⟩
  have HB := Lib.hid (hb.trans (((Below.refl w1.heap.size w1).alloc (Nat.le_refl _) (.cells #[.string ⟨#[]⟩, .string ⟨#[]⟩, .int .i64 0, .int .i64 0] 64)).mono hb.size))
  unfold noE
  clear hb
  go_wp2
  go_ret2
  exact ⟨rfl, HB.out⟩

set_option maxRecDepth 100000 in
theorem feed_nil (key load : ByteArray) (w : World) : Calls Tryd.prog 11 #[.pointer none, .string key, .string load] w fun e w' => e = .returned (.bool false) ∧ Below w.heap.size w w' := by
  go_enter Tryd.func11, Tryd.ntmps11
  go_wp2_with fail
  refine (room_nil _).mono ?_
  rintro e w1 ⟨rfl, hb⟩
  have HB := Lib.hid hb
  clear hb
  go_wp2
  go_ret
  exact ⟨rfl, HB.out⟩

set_option maxRecDepth 100000 in
theorem entries_nil (w : World) : Calls Tryd.prog 15 #[.pointer none] w fun e w' => ∃ v, e = .returned v ∧ Cgs 64 w' w.heap.size v [] ∧ Below w.heap.size w w' := by
  go_enter Tryd.func15, Tryd.ntmps15
  go_wp2_with fail
  refine (room_nil _).mono ?_
  rintro e w1 ⟨rfl, hb⟩
  have HB := Lib.hid hb
  clear hb
  go_wp2_with fail
  refine (callsIn_wide.1 (among_nil_in _)).mono ?_
  rintro e w2 ⟨v, rfl, hc, hb⟩
  have HC := Lib.hid (hc.base (b' := w.heap.size) HB.out.size)
  have HB2 := Lib.hid (HB.out.trans (hb.mono HB.out.size))
  clear hc hb
  go_wp2
  go_ret
  exact ⟨_, rfl, HC.out, HB2.out⟩
end Go.Proofs.YtopinlnjdgedeaaDoor
