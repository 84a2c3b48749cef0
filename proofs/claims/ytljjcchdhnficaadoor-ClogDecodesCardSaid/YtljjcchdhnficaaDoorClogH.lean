/-
  Contracts of package clog's statements: own.
-/
import Derived.Test.YtljjcchdhnficaaDoorMg29
import Derived.Laws.ResultCell
namespace Go.Proofs.YtljjcchdhnficaaDoor
open Go.RowKit Go.ChangeShapes Go.WideShapes Go.ChangeAt

theorem sizeCB : (Tryd.prog.info? 32).map (·.size) = some 2 := by kernel_rfl
/-- The loop of own: the block as given, the answer's place, the block that is filled. -/
structure OwJ (w : World) (seq : Int) (a : Option Addr) (n cap : Nat) (v : Value) (p : List CgE) (W : World) : Prop where
  b0 : Box W w.heap.size 24 #[.int .i64 seq, .slice a n cap]
  b1 : Box W (w.heap.size + 1) 32 #[.int .i64 0, .slice none 0 0]
  b2 : Box W (w.heap.size + 1 + 1) 32 #[.int .i64 seq, v]
  pr : Cgs 54 W (w.heap.size + 1 + 1 + 1) v p
  bl : Below w.heap.size w W
theorem OwJ.keep {w : World} {seq : Int} {a : Option Addr} {n cap : Nat} {v : Value} {p : List CgE} {W W' : World} (h : OwJ w seq a n cap v p W) (hb : Below W.heap.size W W') : OwJ w seq a n cap v p W' :=
  ⟨h.b0.keep hb h.b0.lt, h.b1.keep hb h.b1.lt, h.b2.keep hb h.b2.lt, h.pr.keep hb, h.bl.trans (hb.mono h.bl.size)⟩
theorem OwJ.new (w : World) (seq : Int) (a : Option Addr) (n cap : Nat) : OwJ w seq a n cap (.slice none 0 0) [] (((w.alloc (.cells #[.int .i64 seq, .slice a n cap] 24)).alloc (.cells #[.int .i64 0, .slice none 0 0] 32)).alloc (.cells #[.int .i64 seq, .slice none 0 0] 32)) := by
  have x0 := Box.new w 24 #[.int .i64 seq, .slice a n cap]
  have y0 : Below w.heap.size w _ := (Below.refl w.heap.size w).alloc (Nat.le_refl _) (.cells #[.int .i64 seq, .slice a n cap] 24)
  have e0 := size_alloc w (.cells #[.int .i64 seq, .slice a n cap] 24)
  generalize World.alloc w _ = w1 at *
  have x1 := Box.new w1 32 #[.int .i64 0, .slice none 0 0]
  have e1 := size_alloc w1 (.cells #[.int .i64 0, .slice none 0 0] 32)
  have x0' := x0.keep ((Below.refl w1.heap.size w1).alloc (Nat.le_refl _) (.cells #[.int .i64 0, .slice none 0 0] 32)) x0.lt
  have y1 := y0.alloc y0.size (.cells #[.int .i64 0, .slice none 0 0] 32)
  generalize World.alloc w1 _ = w2 at *
  have x2 := Box.new w2 32 #[.int .i64 seq, .slice none 0 0]
  have hz := (Below.refl w2.heap.size w2).alloc (Nat.le_refl _) (.cells #[.int .i64 seq, .slice none 0 0] 32)
  have x0'' := x0'.keep hz x0'.lt
  have x1' := x1.keep hz x1.lt
  have y2 := y1.alloc y1.size (.cells #[.int .i64 seq, .slice none 0 0] 32)
  rw [e0] at x1' e1
  rw [e1] at x2
  exact ⟨x0'', x1', x2, Cgs.nil _ _ _, y2⟩
theorem OwJ.grow {w : World} {seq : Int} {a : Option Addr} {n cap : Nat} {v v' : Value} {p p' : List CgE} {W W' : World} (h : OwJ w seq a n cap v p W) (hg : W.grownBy W' v.ownBlock) (hp : Cgs 54 W' (w.heap.size + 1 + 1 + 1) v' p') :
    Box W' (w.heap.size + 1 + 1) 32 #[.int .i64 seq, v] ∧ OwJ w seq a n cap v' p' (W'.setCell ⟨w.heap.size + 1 + 1, 1, none⟩ v') := by
  have hown := h.pr.own_blk
  have q0 : Box W' w.heap.size 24 #[.int .i64 seq, .slice a n cap] := h.b0.of (hg.block _ h.b0.lt (fun e => by have := (hown _ e.symm).1; omega))
  have q1 : Box W' (w.heap.size + 1) 32 #[.int .i64 0, .slice none 0 0] := h.b1.of (hg.block _ h.b1.lt (fun e => by have := (hown _ e.symm).1; omega))
  have q2 : Box W' (w.heap.size + 1 + 1) 32 #[.int .i64 seq, v] := h.b2.of (hg.block _ h.b2.lt (fun e => by have := (hown _ e.symm).1; omega))
  have q3 : Below w.heap.size w W' := h.bl.grown hg h.bl.size (fun k hk => by have := (hown k hk).1; omega)
  refine ⟨q2, q0.of (heap_setCell_other _ ⟨w.heap.size + 1 + 1, 1, none⟩ _ _ (by show w.heap.size ≠ w.heap.size + 1 + 1; omega)), q1.of (heap_setCell_other _ ⟨w.heap.size + 1 + 1, 1, none⟩ _ _ (by show w.heap.size + 1 ≠ w.heap.size + 1 + 1; omega)), q2.set 1 v', ownsRow_of hp fun k hk _ => heap_setCell_other _ ⟨w.heap.size + 1 + 1, 1, none⟩ _ _ (by have := (hp.own_blk k hk).1; show k ≠ w.heap.size + 1 + 1; omega), q3.setCell (p := ⟨w.heap.size + 1 + 1, 1, none⟩) (by show w.heap.size ≤ w.heap.size + 1 + 1; omega) _⟩

set_option maxRecDepth 100000 in
set_option maxHeartbeats 2000000 in
theorem cown_any (seq : Int) (a : Option Addr) (cap : Nat) (l : List CgE) (w : World) (h : SlC w a l) (hl : l.length ≤ 1000) :
    Calls Tryd.prog 11 #[.agg #[.int .i64 seq, .slice a l.length cap]] w fun e w' => ∃ v, e = .returned (.agg #[.int .i64 seq, v]) ∧ Cgs 54 w' w.heap.size v l ∧ Below w.heap.size w w' := by
  have H := Lib.hid h
  have HN := Lib.hid (OwJ.new w seq a l.length cap)
  have BX := Lib.hid (Box.new w 24 #[.int .i64 seq, .slice a l.length cap])
  clear h
  go_enter Tryd.func11, Tryd.ntmps11
  have k0 := (BX.out.keep ((Below.refl _ _).alloc (Nat.le_refl _) (.cells #[.int .i64 0, .slice none 0 0] 32)) BX.out.lt).cell 0 _ rfl
  go_wp2
  clear k0 BX
  generalize World.alloc (World.alloc (World.alloc w _) _) _ = w0 at *
  obtain ⟨g, hg⟩ : ∃ g, g = w.heap.size := ⟨_, rfl⟩
  have HG := Lib.hid hg
  rw [← hg]
  clear hg
  go_loopw [4] (fun i wr => ∃ (k : Nat) (v : Value), k ≤ l.length ∧ i = .int .i64 k ∧ Hid (OwJ w seq a l.length cap v (l.take k) wr)) (fun i _ => l.length - (RowKit.intOf i).toNat)
  case atStart => exact ⟨0, _, Nat.zero_le _, rfl, HN⟩
  case round =>
    clear HN
    obtain ⟨k, v, hk, rfl, HJ⟩ := hrel
    by_cases hlt : k < l.length
    · obtain ⟨b, off, rfl, hb, e0, e1, e2, e3⟩ := (H.out.keep HJ.out.bl).get k hlt
      have HT := Lib.hid (snoc_takeC l k hlt)
      have hlk : (l.take k).length ≤ 1000 := by rw [List.length_take]; omega
      have HLK := Lib.hid hlk
      have HLT := Lib.hid hlt
      have hk0 : (0 : Int) ≤ (k : Int) := by omega
      have hkl : (k : Int) < (l.length : Int) := by omega
      generalize l.take k = p at *
      generalize l[k] = x at *
      have ha := ((Below.refl wr.heap.size wr).drew).alloc (Nat.le_refl _) (.cells #[.string x.key, .string x.sum, .int .i64 x.len, .int .i64 x.pos] 54)
      have BX : Hid (Box (wr.drew.alloc (.cells #[.string x.key, .string x.sum, .int .i64 x.len, .int .i64 x.pos] 54)) wr.heap.size 54 #[.string x.key, .string x.sum, .int .i64 x.len, .int .i64 x.pos]) := Box.new wr.drew _ _
      have HJ2 := Lib.hid (HJ.out.keep ha)
      have k0 := HJ.out.b0.cell 1 _ rfl
      have k2 := HJ.out.b2.cell 1 _ rfl
      have n0 := HJ2.out.b0.cell 1 _ rfl
      have n2 := HJ2.out.b2.cell 1 _ rfl
      rw [← HG.out] at k0 k2 n0 n2
      have HE := Lib.hid (And.intro n0 (And.intro n2 (And.intro ((ha.cell (p := ⟨b, off + k * 4, none⟩) hb).trans e0) (And.intro ((ha.cell (p := ⟨b, off + k * 4 + 1, none⟩) hb).trans e1) (And.intro ((ha.cell (p := ⟨b, off + k * 4 + 2, none⟩) hb).trans e2) ((ha.cell (p := ⟨b, off + k * 4 + 3, none⟩) hb).trans e3))))))
      clear ha hb hlk hlt n0 n2 HJ
      go_wp2_with fail
      refine wp_region_sched (fun W => W.cell? ⟨g, 1, none⟩ = some (.slice (some ⟨b, off, none⟩) l.length cap) ∧ W.cell? ⟨g + 1 + 1, 1, none⟩ = some v ∧ W.cell? ⟨b, off + k * 4, none⟩ = some (.string x.key) ∧ W.cell? ⟨b, off + k * 4 + 1, none⟩ = some (.string x.sum) ∧ W.cell? ⟨b, off + k * 4 + 2, none⟩ = some (.int .i64 x.len) ∧ W.cell? ⟨b, off + k * 4 + 3, none⟩ = some (.int .i64 x.pos)) 28 [(0, false), (1, false), (2, false), (3, false), (4, false), (5, false), (6, false), (7, false), (8, false), (9, false), (10, false), (11, false), (12, false), (13, false), (14, false), (15, false), (16, false), (17, false), (18, false), (19, false), (20, false), (21, false), (22, false), (23, false), (24, false), (25, false), (26, false), (27, true)] (by kernel_rfl) (by kernel_rfl) ⟨k0, k2, e0, e1, e2, e3⟩ ?_
      simp only [List.drop_succ_cons, List.drop_zero]
      clear k0 k2 e0 e1 e2 e3
      iterate 27 (apply wpSch_step rfl; (intro W hS K hK; obtain ⟨z0, z2, r1, r2, r3, r4⟩ := hS; go_simp; exact hK _ rfl))
      refine wpSch_make rfl (fun K' hK => ?_)
      go_simp
      refine hK _ _ _ (fun _ h => h) HE.out ?_
      clear hK K'
      refine wpSch_nil ?_
      go_wp2_with (with_reducible refine wp_cgs_push Tryd.underlying30 four_C _ rfl (.tmp 16) (.tmp 42) rfl (w.heap.size + 1 + 1 + 1) _ p rfl ?a1 wr.heap.size 1 x ?a2 ?a3 ?a4 ?a5 ?a6)
      case a1 => exact HJ2.out.pr
      try (case a2 => rfl)
      case a3 => intro j u hj; exact BX.out.cell j u (by simpa [cgL] using hj)
      case a4 => have := HLK.out; omega
      case a5 => have := HJ2.out.b2.lt; exact this
      intro v' w5 hp hgr _
      obtain ⟨p', hpE⟩ : ∃ p', p' = p ++ [x] := ⟨_, rfl⟩
      rw [← hpE] at hp HT
      clear hpE
      obtain ⟨hb2, hj5⟩ := HJ2.out.grow hgr hp
      obtain ⟨va, vc, rfl, _⟩ := hp.view
      have d1 := hb2.cell 1 _ rfl
      have f1 := hb2.free 1
      rw [← HG.out] at d1 f1 hj5
      have HJ5 := Lib.hid hj5
      clear hp hgr hb2 hj5 HJ2 BX HE
      go_wp2
      go_roundw
      case rel => exact ⟨k + 1, _, HLT.out, by go_num, by show OwJ _ _ _ _ _ _ _ _; rw [HT.out]; exact HJ5.out⟩
      case measure => have := HLT.out; simp [RowKit.intOf]; omega
    · obtain rfl : k = l.length := by omega
      rw [List.take_length] at HJ
      obtain ⟨va, vc, rfl, _⟩ := HJ.out.pr.view
      have k0 := HJ.out.b0.cell 1 _ rfl
      have c0 := HJ.out.b2.cell 0 _ rfl
      have c1 := HJ.out.b2.cell 1 _ rfl
      have d0 := HJ.out.b1.cell 0 _ rfl
      have d1 := HJ.out.b1.cell 1 _ rfl
      have f0 := HJ.out.b1.free 0
      have f1 := HJ.out.b1.free 1
      have HB1 : Hid (Box ((wr.setCell ⟨w.heap.size + 1, 0, none⟩ (.int .i64 seq)).setCell ⟨w.heap.size + 1, 1, none⟩ (.slice va l.length vc)) (w.heap.size + 1) 32 #[.int .i64 seq, .slice va l.length vc]) := (HJ.out.b1.set 0 _).set 1 _
      have HPR : Hid (Cgs 54 ((wr.setCell ⟨w.heap.size + 1, 0, none⟩ (.int .i64 seq)).setCell ⟨w.heap.size + 1, 1, none⟩ (.slice va l.length vc)) w.heap.size (.slice va l.length vc) l) :=
        Cgs.base (ownsRow_of HJ.out.pr fun k hk _ => (heap_setCell_other _ ⟨w.heap.size + 1, 1, none⟩ _ _ (by have := (HJ.out.pr.own_blk k hk).1; show k ≠ w.heap.size + 1; omega)).trans (heap_setCell_other _ ⟨w.heap.size + 1, 0, none⟩ _ _ (by have := (HJ.out.pr.own_blk k hk).1; show k ≠ w.heap.size + 1; omega))) (by omega)
      have HBL := Lib.hid ((HJ.out.bl.setCell (p := ⟨w.heap.size + 1, 0, none⟩) (Nat.le_succ _) (.int .i64 seq)).setCell (p := ⟨w.heap.size + 1, 1, none⟩) (Nat.le_succ _) (.slice va l.length vc))
      rw [← HG.out] at k0 c0 c1 d0 d1 f0 f1 HB1
      clear HJ
      go_wp2
      refine bodyPost_ret (results_cell_row rfl _ _ (g + 1) 32 _ (0, 0) _ rfl HB1.out Tryd.underlying32 rfl sizeCB) rfl ?_
      refine ⟨_, rfl, ?_, ?_⟩
      · have := HPR.out
        rw [← HG.out] at this ⊢
        exact this
      · have := HBL.out
        rw [← HG.out] at this ⊢
        exact this
end Go.Proofs.YtljjcchdhnficaaDoor
