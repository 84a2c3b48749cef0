/-
  Contracts of package space's statements: the reference's Give, its walk.
-/
import Derived.Test.YtmndeohhanbjkaaSpaceRV
namespace Go.Proofs.Ytmndeohhanbjkaa
open Go.RowKit Go.ChangeShapes Go.WideShapes Go.ChangeAt

set_option maxRecDepth 100000 in
set_option maxHeartbeats 4000000 in
theorem rgive_any (a : Option Addr) (cap : Nat) (l : List (Int × Int)) (r : Int × Int) (w : World) (h : SlP w a l) (hl : l.length ≤ 999) (hw : WfP l) (hwr : WfP [r]) :
    Calls Try.prog 23 #[.slice a l.length cap, .agg #[.int .i64 r.1, .int .i64 r.2]] w (GvRes 39 w.heap.size w (giveL l r)) := by
  rw [← rgive_eq]
  obtain ⟨gr, hgr⟩ : ∃ gr, rgiveL l r = gr := ⟨_, rfl⟩
  rw [hgr]
  have HGR := Lib.hid hgr
  have hx := (Below.refl w.heap.size w).alloc (Nat.le_refl _) (.cells #[.int .i64 r.1, .int .i64 r.2] 39)
  have BX := Lib.hid (Box.new w 39 #[.int .i64 r.1, .int .i64 r.2])
  have HX := Lib.hid hx
  have H := Lib.hid h
  have HW := Lib.hid hw
  have HWR := Lib.hid hwr
  clear hgr hx h hw hwr
  cases hm : mayL l
  · have HN := Lib.hid (show gr = ([], false) by rw [← HGR.out]; unfold rgiveL; rw [if_neg (by rw [hm]; simp)])
    go_enter Try.func23, Try.ntmps23
    go_wp2_with fail
    generalize World.alloc w _ = wx at *
    refine (rmay_any a cap l _ (H.out.keep HX.out) (Nat.le_trans hl (by omega)) HW.out).mono ?_
    rintro e w1 ⟨rfl, hb⟩
    rw [hm]
    have HB := Lib.hid (HX.out.trans (hb.mono HX.out.size))
    clear hb hm
    go_wp2
    go_ret2
    exact GvRes.no HN.out HB.out
  · have HM := Lib.hid hm
    go_enter Try.func23, Try.ntmps23
    go_wp2_with fail
    generalize World.alloc w _ = wx at *
    refine (rmay_any a cap l _ (H.out.keep HX.out) (Nat.le_trans hl (by omega)) HW.out).mono ?_
    rintro e w1 ⟨rfl, hb⟩
    rw [hm]
    have HB1 := Lib.hid (HX.out.trans (hb.mono HX.out.size))
    have BX1 := Lib.hid (BX.out.keep hb BX.out.lt)
    clear hb hm HX BX
    have k0 := BX1.out.cell 0 _ rfl
    have k1 := BX1.out.cell 1 _ rfl
    have hy := (Below.refl w1.heap.size w1).alloc (Nat.le_refl _) (.cells #[.int .i64 r.1, .int .i64 r.2] 39)
    have BY := Lib.hid (Box.new w1 39 #[.int .i64 r.1, .int .i64 r.2])
    have S1 : Hid (SlP (w1.alloc (.cells #[.int .i64 r.1, .int .i64 r.2] 39)) (some ⟨w1.heap.size, 0, none⟩) [r]) := fun _ => ⟨w1.heap.size, 0, rfl, BY.out.lt, fun i x hi => by
      match i, hi with
      | 0, hi => simp at hi; subst hi; exact ⟨BY.out.cell 0 _ rfl, BY.out.cell 1 _ rfl⟩⟩
    have HB2 := Lib.hid (HB1.out.trans (hy.mono HB1.out.size))
    have BX2 := Lib.hid (BX1.out.keep hy BX1.out.lt)
    clear hy HB1 BX1 BY
    go_wp2_with fail
    clear k0 k1
    generalize World.alloc w1 _ = w2 at *
    refine (rmay_any (some ⟨w1.heap.size, 0, none⟩) 1 [r] _ S1.out (by simp) HWR.out).mono ?_
    rintro e w3 ⟨rfl, hb⟩
    have HB3 := Lib.hid (HB2.out.trans (hb.mono HB2.out.size))
    have BX3 := Lib.hid (BX2.out.keep hb BX2.out.lt)
    clear hb S1 HB2 BX2
    cases hmr : mayL [r]
    · have HN := Lib.hid (show gr = ([], false) by rw [← HGR.out]; unfold rgiveL; rw [if_neg (by rw [hmr]; simp)])
      clear hmr
      go_wp2
      go_ret2
      exact GvRes.no HN.out HB3.out
    · have HMR := Lib.hid hmr
      have HR0 := Lib.hid (may_mem (m := 0) (by omega) hmr r (List.mem_singleton.2 rfl)).1
      have HI0 : Hid (RgI [] r [] 0 r) := ⟨by omega, rfl, (fun y hy => by cases hy), HR0.out, rfl, (fun y hy => by cases hy), (fun y hy => by cases hy), ⟨by omega, by omega⟩, fun p h1 h2 => .inl ⟨h1, h2⟩⟩
      clear hmr
      obtain ⟨g, hg⟩ : ∃ g, g = w.heap.size := ⟨_, rfl⟩
      have HG := Lib.hid hg
      rw [← hg] at HB3 BX3 ⊢
      clear hg
      go_wp2
      go_loopw [6, 7, 8, 9] (fun sa sb i _ wr => ∃ (k : Nat) (va vb : Value) (A B : List (Int × Int)) (q : Int × Int) (m : Int), k ≤ l.length ∧ i = .int .i64 k ∧ va = sa ∧ vb = sb ∧ A.length + B.length ≤ k ∧ Hid (RvJ w g va vb A q B wr) ∧ Hid (rgS [] r [] l = rgS A q B (l.drop k)) ∧ Hid (RgI A q B m r) ∧ Hid (mayF m (l.drop k) = true)) (fun _ _ i _ _ => l.length - (intOf i).toNat)
      case atStart => exact ⟨0, _, _, [], [], r, 0, Nat.zero_le _, rfl, rfl, rfl, Nat.le_refl _, ⟨Prs.nil _ _ _, Prs.nil _ _ _, (fun i h => by cases h), (fun _ => rfl), BX3.out, HB3.out⟩, rfl, HI0.out, HM.out⟩
      case round =>
        clear HB3 BX3
        obtain ⟨k, va, vb, A, B, q, m, hk, rfl, rfl, rfl, hAB, HJ, HS, HI, HMM⟩ := hrel
        by_cases hlt : k < l.length
        · obtain ⟨b, off, rfl, hb, e0, e1⟩ := H.out.get k hlt
          have HCW : Hid (∀ W, Below g w W → W.cell? ⟨b, off + k * 2, none⟩ = some (.int .i64 (l[k]).1) ∧ W.cell? ⟨b, off + k * 2 + 1, none⟩ = some (.int .i64 (l[k]).2)) := fun W hW => by
            rw [HG.out] at hW
            exact ⟨(hW.cell (p := ⟨b, off + k * 2, none⟩) hb).trans e0, (hW.cell (p := ⟨b, off + k * 2 + 1, none⟩) hb).trans e1⟩
          clear e0 e1 hb
          have hst : l.drop k = l[k] :: l.drop (k + 1) := List.drop_eq_getElem_cons hlt
          rw [hst] at HS HMM
          have hmm := HMM.out
          have HLT := Lib.hid hlt
          have hk0 : (0 : Int) ≤ (k : Int) := by omega
          have hkl : (k : Int) < (l.length : Int) := by omega
          have hkk : (k : Int) ≤ 1000 := by omega
          have HAB := Lib.hid hAB
          clear hst HMM
          generalize l[k] = x at *
          obtain ⟨xa, xn⟩ := x
          obtain ⟨qa, qn⟩ := q
          rw [mayF, Bool.and_eq_true, decide_eq_true_eq] at hmm
          simp only at hmm
          obtain ⟨⟨y0, y1, y2⟩, hmt⟩ := hmm
          have HMT := Lib.hid hmt
          have HNX : Hid (∀ ah' bh' q', rgS A (qa, qn) B ((xa, xn) :: l.drop (k + 1)) = rgS ah' q' bh' (l.drop (k + 1)) → RgI ah' q' bh' (xa + xn + 1) r → (rgS [] r [] l = rgS ah' q' bh' (l.drop (k + 1))) ∧ RgI ah' q' bh' (xa + xn + 1) r ∧ mayF (xa + xn + 1) (l.drop (k + 1)) = true) := fun _ _ _ h1 h2 => ⟨HS.out.trans h1, h2, hmt⟩
          have hm0 := HI.out.m0
          have ha3 := HI.out.a3
          unfold MayR at ha3
          simp only at ha3
          obtain ⟨z0, z1, z2⟩ := ha3
          have g1 : IntKind.i64.wrap (xa + xn) = xa + xn := IntWalk.i64_in _ ⟨by omega, by omega⟩
          have g2 : IntKind.i64.wrap (qa + qn) = qa + qn := IntWalk.i64_in _ ⟨by omega, by omega⟩
          have g3 : IntKind.i64.wrap (xn + qn) = xn + qn := IntWalk.i64_in _ ⟨by omega, by omega⟩
          have g4 : IntKind.i64.wrap (qn + xn) = qn + xn := IntWalk.i64_in _ ⟨by omega, by omega⟩
          have HIS := Lib.hid (@rg_step A B (qa, qn) r (xa, xn) m HI.out y0 y1 y2)
          obtain ⟨hc0, hc1⟩ := HCW.out _ HJ.out.bl
          have q0 := HJ.out.bx.cell 0 _ rfl
          have q1 := HJ.out.bx.cell 1 _ rfl
          simp only at hc0 hc1 q0 q1
          clear hmt hAB
          go_wp2_with fail
          refine wp_region_sched (fun W => W.cell? ⟨b, off + k * 2, none⟩ = some (.int .i64 xa) ∧ W.cell? ⟨b, off + k * 2 + 1, none⟩ = some (.int .i64 xn)) 10 [(0, false), (1, false), (2, false), (3, false), (4, false), (5, false), (6, false), (7, false), (8, false), (9, false)] (by kernel_rfl) (by kernel_rfl) ⟨hc0, hc1⟩ ?_
          simp only [List.drop_succ_cons, List.drop_zero]
          iterate 10 (apply wpSch_step rfl; (intro W hS K hK; obtain ⟨p1, p2⟩ := hS; go_simp; exact hK _ rfl))
          refine wpSch_nil ?_
          have HJ1 := Lib.hid (HJ.out.keep (Below.refl wr.heap.size wr).drew)
          clear hc0 hc1 q0 q1 HJ
          obtain ⟨hc0, hc1⟩ := HCW.out _ HJ1.out.bl
          have q0 := HJ1.out.bx.cell 0 _ rfl
          have q1 := HJ1.out.bx.cell 1 _ rfl
          simp only at hc0 hc1 q0 q1
          generalize wr.drew = w4 at *
          by_cases c1 : xa + xn < qa
          · have d1 : decide (xa + xn < qa) = true := decide_eq_true c1
            obtain ⟨hB, hI2⟩ := HIS.out.1 c1
            subst hB
            have HN2 := Lib.hid (HNX.out _ _ _ (rgS_1 c1) hI2)
            clear c1 hI2
            have HJA := Lib.hid (HJ1.out.keep ((Below.refl w4.heap.size w4).alloc (Nat.le_refl _) (.cells #[.int .i64 xa, .int .i64 xn] 39)))
            have BY := Lib.hid (Box.new w4 39 #[.int .i64 xa, .int .i64 xn])
            go_wp2_with (with_reducible refine wp_prs_appK Try.underlying22 two_R _ rfl (.tmp 40) (.tmp 45) rfl (g + 1) _ (A) rfl ?a1 ⟨w4.heap.size, 0, none⟩ 1 [(xa, xn)] ?a2 ?a3 ?a4 ?a5 ?a6)
            case a1 => exact HJA.out.pa
            try (case a2 => rfl)
            case a3 => intro j u hj; first | exact (by simpa [PrV] using hj) | (rw [add_plain, Nat.zero_add]; exact BY.out.cell j u (by simpa [PrV] using hj))
            case a4 => have := HAB.out; simp; omega
            case a5 => have := HJ1.out.bx.lt; (first | omega | (rw [size_alloc]; omega))
            intro v' w5 hp hgr hob
            have HJ5 := Lib.hid (HJA.out.ahead hp hgr (by rw [size_alloc]; exact hob))
            clear hp hgr hob HJA BY hc0 hc1 q0 q1
            go_wp2
            go_roundw
            case rel => exact ⟨k + 1, v', vb, A ++ [(xa, xn)], [], (qa, qn), xa + xn + 1, HLT.out, by go_num, rfl, rfl, by have := HAB.out; simp at this ⊢; omega, HJ5, HN2.out.1, HN2.out.2.1, HN2.out.2.2⟩
            case measure => have := HLT.out; simp [intOf]; omega
          · have d1 : decide (xa + xn < qa) = false := decide_eq_false c1
            by_cases c2 : xa + xn = qa
            · have d2 : ((xa + xn) == qa) = true := by simp [c2]
              have HN2 := Lib.hid (HNX.out _ _ _ (rgS_2 c1 c2) (HIS.out.2.1 c2))
              clear c1
              have C2 := Lib.hid c2
              clear c2
              go_wp2_with fail
              refine wp_region_sched (fun W => W.cell? ⟨b, off + k * 2, none⟩ = some (.int .i64 xa) ∧ W.cell? ⟨b, off + k * 2 + 1, none⟩ = some (.int .i64 xn) ∧ W.cell? ⟨g, 1, none⟩ = some (.int .i64 qn)) 13 [(0, false), (1, false), (2, false), (3, false), (4, false), (5, false), (6, false), (7, false), (8, false), (9, false), (10, false), (11, false), (12, false)] (by kernel_rfl) (by kernel_rfl) ⟨hc0, hc1, q1⟩ ?_
              simp only [List.drop_succ_cons, List.drop_zero]
              iterate 13 (apply wpSch_step rfl; (intro W hS K hK; obtain ⟨p0, p1, p2⟩ := hS; go_simp; exact hK _ rfl))
              refine wpSch_nil ?_
              clear hc0 hc1
              have f0 := HJ1.out.bx.free 0
              have f1 := HJ1.out.bx.free 1
              have hbx : Box ((w4.setCell ⟨g, 0, none⟩ (.int .i64 xa)).setCell ⟨g, 1, none⟩ (.int .i64 (xn + qn))) g 39 #[.int .i64 xa, .int .i64 (xn + qn)] := (HJ1.out.bx.set 0 _).set 1 _
              have HJ4 := Lib.hid (HJ1.out.turn (q' := (xa, xn + qn)) hbx (fun j hj => (heap_setCell_other _ ⟨g, 1, none⟩ j _ hj).trans (heap_setCell_other _ ⟨g, 0, none⟩ j _ hj)) ((HJ1.out.bl.setCell (p := ⟨g, 0, none⟩) (Nat.le_refl _) _).setCell (p := ⟨g, 1, none⟩) (Nat.le_refl _) _))
              have HJ5 := Lib.hid (HJ4.out.keep (Below.refl _ _).drew)
              clear hbx HJ4
              go_wp2_with fail
              go_roundw
              case rel => exact ⟨k + 1, va, vb, A, B, (xa, xn + qn), xa + xn + 1, HLT.out, by go_num, rfl, rfl, by have := HAB.out; simp at this ⊢; omega, HJ5, HN2.out.1, HN2.out.2.1, HN2.out.2.2⟩
              case measure => have := HLT.out; simp [intOf]; omega
            · have d2 : ((xa + xn) == qa) = false := by simpa using c2
              by_cases c3 : xa = qa + qn
              · have d3 : (xa == qa + qn) = true := by simpa using c3
                obtain ⟨hB, hI2⟩ := HIS.out.2.2.1 c3
                subst hB
                have HN2 := Lib.hid (HNX.out _ _ _ (rgS_3 c1 c2 c3) hI2)
                clear c1 c2 hI2
                have C3 := Lib.hid c3
                clear c3
                go_wp2_with fail
                refine wp_region_sched (fun W => W.cell? ⟨b, off + k * 2, none⟩ = some (.int .i64 xa) ∧ W.cell? ⟨g, 0, none⟩ = some (.int .i64 qa) ∧ W.cell? ⟨g, 1, none⟩ = some (.int .i64 qn)) 10 [(0, false), (1, false), (2, false), (3, false), (4, false), (5, false), (6, false), (7, false), (8, false), (9, false)] (by kernel_rfl) (by kernel_rfl) ⟨hc0, q0, q1⟩ ?_
                simp only [List.drop_succ_cons, List.drop_zero]
                iterate 10 (apply wpSch_step rfl; (intro W hS K hK; obtain ⟨p0, p1, p2⟩ := hS; go_simp; exact hK _ rfl))
                refine wpSch_nil ?_
                have HJ2 := Lib.hid (HJ1.out.keep (Below.refl w4.heap.size w4).drew)
                clear hc0 hc1 q0 q1
                obtain ⟨hc0, hc1⟩ := HCW.out _ HJ2.out.bl
                have q0 := HJ2.out.bx.cell 0 _ rfl
                have q1 := HJ2.out.bx.cell 1 _ rfl
                simp only at hc0 hc1 q0 q1
                go_wp2_with fail
                refine wp_region_sched (fun W => W.cell? ⟨b, off + k * 2 + 1, none⟩ = some (.int .i64 xn) ∧ W.cell? ⟨g, 1, none⟩ = some (.int .i64 qn)) 7 [(0, false), (1, false), (2, false), (3, false), (4, false), (5, false), (6, false)] (by kernel_rfl) (by kernel_rfl) ⟨hc1, q1⟩ ?_
                simp only [List.drop_succ_cons, List.drop_zero]
                iterate 7 (apply wpSch_step rfl; (intro W hS K hK; obtain ⟨p0, p1⟩ := hS; go_simp; exact hK _ rfl))
                refine wpSch_nil ?_
                have HJ3 := Lib.hid (HJ2.out.keep (Below.refl w4.drew.heap.size w4.drew).drew)
                clear hc0 hc1 q0 q1
                have q0 := HJ3.out.bx.cell 0 _ rfl
                have q1 := HJ3.out.bx.cell 1 _ rfl
                have f1 := HJ3.out.bx.free 1
                have hbx : Box (w4.drew.drew.setCell ⟨g, 1, none⟩ (.int .i64 (qn + xn))) g 39 #[.int .i64 qa, .int .i64 (qn + xn)] := HJ3.out.bx.set 1 _
                have HJ5 := Lib.hid (HJ3.out.turn (q' := (qa, qn + xn)) hbx (fun j hj => heap_setCell_other _ ⟨g, 1, none⟩ j _ hj) (HJ3.out.bl.setCell (p := ⟨g, 1, none⟩) (Nat.le_refl _) _))
                clear hbx
                go_wp2
                go_roundw
                case rel => exact ⟨k + 1, va, vb, A, [], (qa, qn + xn), xa + xn + 1, HLT.out, by go_num, rfl, rfl, by have := HAB.out; simp at this ⊢; omega, HJ5, HN2.out.1, HN2.out.2.1, HN2.out.2.2⟩
                case measure => have := HLT.out; simp [intOf]; omega
              · have d3 : (xa == qa + qn) = false := by simpa using c3
                by_cases c4 : qa + qn < xa
                · have d4 : decide (qa + qn < xa) = true := decide_eq_true c4
                  have HN2 := Lib.hid (HNX.out _ _ _ (rgS_4 c1 c2 c3 c4) (HIS.out.2.2.2 c4))
                  clear c1 c2 c3 c4
                  go_wp2_with fail
                  refine wp_region_sched (fun W => W.cell? ⟨b, off + k * 2, none⟩ = some (.int .i64 xa) ∧ W.cell? ⟨g, 0, none⟩ = some (.int .i64 qa) ∧ W.cell? ⟨g, 1, none⟩ = some (.int .i64 qn)) 10 [(0, false), (1, false), (2, false), (3, false), (4, false), (5, false), (6, false), (7, false), (8, false), (9, false)] (by kernel_rfl) (by kernel_rfl) ⟨hc0, q0, q1⟩ ?_
                  simp only [List.drop_succ_cons, List.drop_zero]
                  iterate 10 (apply wpSch_step rfl; (intro W hS K hK; obtain ⟨p0, p1, p2⟩ := hS; go_simp; exact hK _ rfl))
                  refine wpSch_nil ?_
                  have HJ2 := Lib.hid (HJ1.out.keep (Below.refl w4.heap.size w4).drew)
                  clear hc0 hc1 q0 q1
                  obtain ⟨hc0, hc1⟩ := HCW.out _ HJ2.out.bl
                  have q0 := HJ2.out.bx.cell 0 _ rfl
                  have q1 := HJ2.out.bx.cell 1 _ rfl
                  simp only at hc0 hc1 q0 q1
                  go_wp2_with fail
                  refine wp_region_sched (fun W => W.cell? ⟨b, off + k * 2, none⟩ = some (.int .i64 xa) ∧ W.cell? ⟨g, 0, none⟩ = some (.int .i64 qa) ∧ W.cell? ⟨g, 1, none⟩ = some (.int .i64 qn)) 10 [(0, false), (1, false), (2, false), (3, false), (4, false), (5, false), (6, false), (7, false), (8, false), (9, false)] (by kernel_rfl) (by kernel_rfl) ⟨hc0, q0, q1⟩ ?_
                  simp only [List.drop_succ_cons, List.drop_zero]
                  iterate 10 (apply wpSch_step rfl; (intro W hS K hK; obtain ⟨p0, p1, p2⟩ := hS; go_simp; exact hK _ rfl))
                  refine wpSch_nil ?_
                  have HJ3 := Lib.hid (HJ2.out.keep (Below.refl w4.drew.heap.size w4.drew).drew)
                  clear hc0 hc1 q0 q1 HJ1 HJ2
                  generalize w4.drew.drew = w4 at *
                  obtain ⟨hc0, hc1⟩ := HCW.out _ HJ3.out.bl
                  have q0 := HJ3.out.bx.cell 0 _ rfl
                  have q1 := HJ3.out.bx.cell 1 _ rfl
                  simp only at hc0 hc1 q0 q1
                  have HJA := Lib.hid (HJ3.out.keep ((Below.refl w4.heap.size w4).alloc (Nat.le_refl _) (.cells #[.int .i64 xa, .int .i64 xn] 39)))
                  have BY := Lib.hid (Box.new w4 39 #[.int .i64 xa, .int .i64 xn])
                  go_wp2_with (with_reducible refine wp_prs_appK Try.underlying22 two_R _ rfl (.tmp 96) (.tmp 101) rfl (g + 1) _ (B) rfl ?b1 ⟨w4.heap.size, 0, none⟩ 1 [(xa, xn)] ?b2 ?b3 ?b4 ?b5 ?b6)
                  case b1 => exact HJA.out.pb
                  try (case b2 => rfl)
                  case b3 => intro j u hj; rw [add_plain, Nat.zero_add]; exact BY.out.cell j u (by simpa [PrV] using hj)
                  case b4 => have := HAB.out; simp; omega
                  case b5 => have := HJA.out.bx.lt; omega
                  intro v' w5 hp hgr hob
                  have HJ5 := Lib.hid (HJA.out.behind hp hgr (by rw [size_alloc]; exact hob) (by simp))
                  clear hp hgr hob HJA BY hc0 hc1 q0 q1
                  go_wp2
                  go_roundw
                  case rel => exact ⟨k + 1, va, v', A, B ++ [(xa, xn)], (qa, qn), xa + xn + 1, HLT.out, by go_num, rfl, rfl, by have := HAB.out; simp at this ⊢; omega, HJ5, HN2.out.1, HN2.out.2.1, HN2.out.2.2⟩
                  case measure => have := HLT.out; simp [intOf]; omega
                · have d4 : decide (qa + qn < xa) = false := decide_eq_false c4
                  have HQ := Lib.hid (show gr = ([], false) by rw [← HGR.out]; unfold rgiveL; rw [if_pos ⟨HM.out, HMR.out⟩, HS.out, rgS_5 c1 c2 c3 c4])
                  clear c1 c2 c3 c4
                  go_wp2_with fail
                  refine wp_region_sched (fun W => W.cell? ⟨b, off + k * 2, none⟩ = some (.int .i64 xa) ∧ W.cell? ⟨g, 0, none⟩ = some (.int .i64 qa) ∧ W.cell? ⟨g, 1, none⟩ = some (.int .i64 qn)) 10 [(0, false), (1, false), (2, false), (3, false), (4, false), (5, false), (6, false), (7, false), (8, false), (9, false)] (by kernel_rfl) (by kernel_rfl) ⟨hc0, q0, q1⟩ ?_
                  simp only [List.drop_succ_cons, List.drop_zero]
                  iterate 10 (apply wpSch_step rfl; (intro W hS K hK; obtain ⟨p0, p1, p2⟩ := hS; go_simp; exact hK _ rfl))
                  refine wpSch_nil ?_
                  have HJ2 := Lib.hid (HJ1.out.keep (Below.refl w4.heap.size w4).drew)
                  clear hc0 hc1 q0 q1
                  obtain ⟨hc0, hc1⟩ := HCW.out _ HJ2.out.bl
                  have q0 := HJ2.out.bx.cell 0 _ rfl
                  have q1 := HJ2.out.bx.cell 1 _ rfl
                  simp only at hc0 hc1 q0 q1
                  go_wp2_with fail
                  refine wp_region_sched (fun W => W.cell? ⟨b, off + k * 2, none⟩ = some (.int .i64 xa) ∧ W.cell? ⟨g, 0, none⟩ = some (.int .i64 qa) ∧ W.cell? ⟨g, 1, none⟩ = some (.int .i64 qn)) 10 [(0, false), (1, false), (2, false), (3, false), (4, false), (5, false), (6, false), (7, false), (8, false), (9, false)] (by kernel_rfl) (by kernel_rfl) ⟨hc0, q0, q1⟩ ?_
                  simp only [List.drop_succ_cons, List.drop_zero]
                  iterate 10 (apply wpSch_step rfl; (intro W hS K hK; obtain ⟨p0, p1, p2⟩ := hS; go_simp; exact hK _ rfl))
                  refine wpSch_nil ?_
                  have HJ3 := Lib.hid (HJ2.out.keep (Below.refl w4.drew.heap.size w4.drew).drew)
                  clear hc0 hc1 q0 q1
                  go_wp2
                  go_ret2
                  exact GvRes.no HQ.out (by rw [← HG.out]; exact HJ3.out.bl)
        · obtain rfl : k = l.length := by omega
          rw [List.drop_length] at HS
          have hmay := HI.out.may
          have HQ := Lib.hid (show gr = (A ++ [q] ++ B, true) by rw [← HGR.out]; unfold rgiveL; rw [if_pos ⟨HM.out, HMR.out⟩, HS.out]; show (if mayL (A ++ [q] ++ B) = true then (A ++ [q] ++ B, true) else ([], false)) = _; rw [if_pos hmay])
          have HMAY := Lib.hid hmay
          have HAB := Lib.hid hAB
          obtain ⟨qa, qn⟩ := q
          have q0 := HJ.out.bx.cell 0 _ rfl
          have q1 := HJ.out.bx.cell 1 _ rfl
          simp only at q0 q1
          clear hmay hAB
          have hz := HJ.out.bx.lt
          have HJA := Lib.hid (HJ.out.keep ((Below.refl wr.heap.size wr).alloc (Nat.le_refl _) (.cells #[.int .i64 qa, .int .i64 qn] 39)))
          have BY := Lib.hid (Box.new wr 39 #[.int .i64 qa, .int .i64 qn])
          go_wp2_with (with_reducible refine wp_prs_appK Try.underlying22 two_R _ rfl (.tmp 103) (.tmp 105) rfl (g + 1) _ A rfl ?e1 ⟨wr.heap.size, 0, none⟩ 1 [(qa, qn)] ?e2 ?e3 ?e4 ?e5 ?e6)
          case e1 => exact HJA.out.pa
          try (case e2 => rfl)
          case e3 => intro j u hj; rw [add_plain, Nat.zero_add]; exact BY.out.cell j u (by simpa [PrV] using hj)
          case e4 => have := HAB.out; simp; omega
          case e5 => have := HJA.out.bx.lt; omega
          intro v' w5 hp hgr hob
          have HJ5 := Lib.hid (HJA.out.ahead hp hgr (by rw [size_alloc]; exact hob))
          clear hp hgr hob HJA BY q0 q1 HJ hz
          obtain ⟨ba, bc, hvb, _, _, hsb⟩ := HJ5.out.pb.slP
          subst hvb
          have HSB := Lib.hid hsb
          clear hsb
          go_wp2_with (with_reducible refine wp_prs_moreL Try.underlying22 two_R _ rfl (.tmp 107) (.tmp 108) rfl (g + 1) _ (A ++ [(qa, qn)]) rfl ?h1 _ _ _ B rfl ?h2 ?h3 ?h4 ?h5 ?h6)
          case h1 => exact HJ5.out.pa
          try (case h2 => rfl)
          case h3 => exact HSB.out
          case h4 => have := HAB.out; simp; omega
          case h5 => have := HJ5.out.bx.lt; omega
          intro v2 w6 hp hgr
          have hll : (A ++ [(qa, qn)] ++ B).length ≤ 1000 := by have := HAB.out; simp; omega
          obtain ⟨lf, hlf⟩ : ∃ lf, lf = A ++ [(qa, qn)] ++ B := ⟨_, rfl⟩
          have hlc : A ++ (qa, qn) :: B = lf := by rw [hlf]; simp
          rw [← hlf] at HQ HMAY hll
          rw [hlc] at hp
          have HLL := Lib.hid hll
          clear hlf hll hlc
          have HP6 := Lib.hid hp
          have hz := HJ5.out.bx.lt
          have HB6 : Hid (Below g w w6) := (HJ5.out.bl.grown hgr (Nat.le_of_lt hz) (fun j hj => by have := (HJ5.out.pa.own_blk j hj).1; omega))
          clear hp hgr HSB hz
          obtain ⟨ra, rc, hv2, _, _, hs2⟩ := HP6.out.slP
          subst hv2
          have HS2 := Lib.hid hs2
          clear hs2
          go_wp2_with fail
          refine (rmay_any ra rc lf w6 HS2.out HLL.out (wf_may HMAY.out)).mono ?_
          rintro e w7 ⟨rfl, hb⟩
          rw [HMAY.out]
          have HB7 := Lib.hid (HB6.out.trans (hb.mono (by rw [HG.out]; exact HB6.out.size)))
          have HP7 := Lib.hid ((HP6.out.keep hb).base (b' := g) (Nat.le_succ g))
          clear hb
          go_wp2
          go_ret2
          exact GvRes.mk HQ.out (by rw [← HG.out]; exact HP7.out) (by rw [← HG.out]; exact HB7.out)
end Go.Proofs.Ytmndeohhanbjkaa
