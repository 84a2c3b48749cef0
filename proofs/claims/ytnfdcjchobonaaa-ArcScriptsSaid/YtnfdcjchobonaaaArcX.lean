/-
  The cache and the reference's cache, side by side: same.
-/
import Derived.Test.YtnfdcjchobonaaaArcR
import Derived.Test.YtnfdcjchobonaaaArcLive
import Derived.Test.YtnfdcjchobonaaaArcD
import Derived.Deep.RegionHeld3
namespace Go.Proofs.Ytnfdcjchobonaaa
open Go.RowKit Go.ChangeShapes Go.WideShapes Go.ChangeAt

abbrev R6 (b : Nat) (s2 s3 s4 s5 : Value) (t : Int) (w : World) : Prop := w.cell? ⟨b, 0, none⟩ = some s2 ∧ w.cell? ⟨b, 1, none⟩ = some s3 ∧ w.cell? ⟨b, 2, none⟩ = some s4 ∧ w.cell? ⟨b, 3, none⟩ = some s5 ∧ w.cell? ⟨b, 4, none⟩ = some (.int .i64 t)
theorem R6.below {b : Nat} {s2 s3 s4 s5 : Value} {t : Int} {u u' : World} (h : R6 b s2 s3 s4 s5 t u) (hb : Below u.heap.size u u') : R6 b s2 s3 s4 s5 t u' := by
  obtain ⟨h0, h1, h2, h3, h4⟩ := h
  exact ⟨(hb.cell (lt_of_cell h0)).trans h0, (hb.cell (lt_of_cell h1)).trans h1, (hb.cell (lt_of_cell h2)).trans h2, (hb.cell (lt_of_cell h3)).trans h3, (hb.cell (lt_of_cell h4)).trans h4⟩
/-- Eight rows as they are held against each other. -/
structure S8K (w : World) (d : ArcD) (x y : Nat → Option Addr) : Prop where
  x : ∀ i, InA i → Sl w Value.string (x i) (d.l i)
  y : ∀ i, InA i → Sl w Value.string (y i) (d.l i)
theorem S8K.keep {w w' : World} {d : ArcD} {x y : Nat → Option Addr} (h : S8K w d x y) (hb : Below w.heap.size w w') : S8K w' d x y := ⟨fun i hi => (h.x i hi).keep hb, fun i hi => (h.y i hi).keep hb⟩

set_option maxRecDepth 100000 in
set_option maxHeartbeats 8000000 in
theorem same_any (ba bb : Nat) (va vb : Nat → Value) (d : ArcD) (w : World) (ha : ArcAt w ba va d) (hbr : RefAt w bb vb d) (hlen : d.len ≤ 9000) (hok : OkA d) :
    Calls Try.prog 16 #[.pointer (some ⟨ba, 0, none⟩), .pointer (some ⟨bb, 0, none⟩)] w fun e w' => e = .returned (.bool true) ∧ Below w.heap.size w w' := by
  have HLI := Lib.hid (lists_any ba va d w ha (by omega) hok)
  have HAA := Lib.hid ha
  have HBR := Lib.hid hbr
  have L2 := d.le_len in2
  have L3 := d.le_len in3
  have L4 := d.le_len in4
  have L5 := d.le_len in5
  have HTG : Hid (∀ u, Below w.heap.size w u → Calls Try.prog 20 #[.pointer (some ⟨ba, 0, none⟩)] u fun e w' => e = .returned (.int .i64 d.t) ∧ u = w') := fun u hu => target_any ba va d u (ha.keep hu) hok
  clear ha hbr hok
  go_enter Try.func16, Try.ntmps16
  go_wp2_with fail
  refine HLI.out.mono ?_
  rintro e w1 ⟨x2, x3, x4, x5, rfl, hr, hb⟩
  obtain ⟨p2, q2, rfl, s2⟩ := hr.k2.view
  obtain ⟨p3, q3, rfl, s3⟩ := hr.k3.view
  obtain ⟨p4, q4, rfl, s4⟩ := hr.k4.view
  obtain ⟨p5, q5, rfl, s5⟩ := hr.k5.view
  obtain ⟨y, c, hc⟩ := (HBR.out.keep hb).cells
  have HS : Hid (R6 bb (.slice (y 2) (d.l 2).length (c 2)) (.slice (y 3) (d.l 3).length (c 3)) (.slice (y 4) (d.l 4).length (c 4)) (.slice (y 5) (d.l 5).length (c 5)) d.t w1.drew) := ⟨hc.c2, hc.c3, hc.c4, hc.c5, hc.t⟩
  have H2 : Hid (Sl w1.drew Value.string p2 (d.l 2) ∧ Sl w1.drew Value.string (y 2) (d.l 2)) := ⟨s2, hc.s 2 in2⟩
  have H3 : Hid (Sl w1.drew Value.string p3 (d.l 3) ∧ Sl w1.drew Value.string (y 3) (d.l 3)) := ⟨s3, hc.s 3 in3⟩
  have H4 : Hid (Sl w1.drew Value.string p4 (d.l 4) ∧ Sl w1.drew Value.string (y 4) (d.l 4)) := ⟨s4, hc.s 4 in4⟩
  have H5 : Hid (Sl w1.drew Value.string p5 (d.l 5) ∧ Sl w1.drew Value.string (y 5) (d.l 5)) := ⟨s5, hc.s 5 in5⟩
  have HB : Hid (Below w.heap.size w w1.drew) := hb.drew
  have HSM : Hid (∀ (a b : Option Addr) (ca cb : Nat) (l : List ByteArray) (u : World), Sl u Value.string a l → Sl u Value.string b l → l.length ≤ d.len → Calls Try.prog 22 #[.slice a l.length ca, .slice b l.length cb] u fun e w' => e = .returned (.bool true) ∧ Below u.heap.size u w') := by
    intro a b ca cb l u h1 h2 h3
    have := same_keys a b ca cb l l u h1 h2 (by omega)
    rw [decide_eq_true (rfl : l = l)] at this
    exact this
  clear hr hb hc s2 s3 s4 s5 HLI HAA HBR
  have N2 := Lib.hid L2
  have N3 := Lib.hid L3
  have N4 := Lib.hid L4
  have N5 := Lib.hid L5
  clear L2 L3 L4 L5
  go_wp2_with fail
  go_region_held3 (fun W => W.cell? ⟨bb, 0, none⟩ = some (.slice (y 2) (d.l 2).length (c 2)) ∧ W.cell? ⟨bb, 1, none⟩ = some (.slice (y 3) (d.l 3).length (c 3)) ∧ W.cell? ⟨bb, 2, none⟩ = some (.slice (y 4) (d.l 4).length (c 4)) ∧ W.cell? ⟨bb, 3, none⟩ = some (.slice (y 5) (d.l 5).length (c 5)) ∧ W.cell? ⟨bb, 4, none⟩ = some (.int .i64 d.t)) (with_reducible exact HS.out)
    (first
      | (go_at_call_of 22 (Value.slice p2 (d.l 2).length q2); refine (HSM.out p2 (y 2) q2 (c 2) (d.l 2) _ H2.out.1 H2.out.2 N2.out).mono ?_; rintro e u2 ⟨rfl, hb⟩; have HS := Lib.hid (HS.out.below hb); have H2 := Lib.hid (And.intro (H2.out.1.keep hb) (H2.out.2.keep hb)); have H3 := Lib.hid (And.intro (H3.out.1.keep hb) (H3.out.2.keep hb)); have H4 := Lib.hid (And.intro (H4.out.1.keep hb) (H4.out.2.keep hb)); have H5 := Lib.hid (And.intro (H5.out.1.keep hb) (H5.out.2.keep hb)); have HB := Lib.hid (HB.out.trans (hb.mono HB.out.size)); clear hb; dsimp only)
      | (go_at_call_of 22 (Value.slice p3 (d.l 3).length q3); refine (HSM.out p3 (y 3) q3 (c 3) (d.l 3) _ H3.out.1 H3.out.2 N3.out).mono ?_; rintro e u3 ⟨rfl, hb⟩; have HS := Lib.hid (HS.out.below hb); have H2 := Lib.hid (And.intro (H2.out.1.keep hb) (H2.out.2.keep hb)); have H3 := Lib.hid (And.intro (H3.out.1.keep hb) (H3.out.2.keep hb)); have H4 := Lib.hid (And.intro (H4.out.1.keep hb) (H4.out.2.keep hb)); have H5 := Lib.hid (And.intro (H5.out.1.keep hb) (H5.out.2.keep hb)); have HB := Lib.hid (HB.out.trans (hb.mono HB.out.size)); clear hb; dsimp only)
      | (go_at_call_of 22 (Value.slice p4 (d.l 4).length q4); refine (HSM.out p4 (y 4) q4 (c 4) (d.l 4) _ H4.out.1 H4.out.2 N4.out).mono ?_; rintro e u4 ⟨rfl, hb⟩; have HS := Lib.hid (HS.out.below hb); have H2 := Lib.hid (And.intro (H2.out.1.keep hb) (H2.out.2.keep hb)); have H3 := Lib.hid (And.intro (H3.out.1.keep hb) (H3.out.2.keep hb)); have H4 := Lib.hid (And.intro (H4.out.1.keep hb) (H4.out.2.keep hb)); have H5 := Lib.hid (And.intro (H5.out.1.keep hb) (H5.out.2.keep hb)); have HB := Lib.hid (HB.out.trans (hb.mono HB.out.size)); clear hb; dsimp only)
      | (go_at_call_of 22 (Value.slice p5 (d.l 5).length q5); refine (HSM.out p5 (y 5) q5 (c 5) (d.l 5) _ H5.out.1 H5.out.2 N5.out).mono ?_; rintro e u5 ⟨rfl, hb⟩; have HS := Lib.hid (HS.out.below hb); have H2 := Lib.hid (And.intro (H2.out.1.keep hb) (H2.out.2.keep hb)); have H3 := Lib.hid (And.intro (H3.out.1.keep hb) (H3.out.2.keep hb)); have H4 := Lib.hid (And.intro (H4.out.1.keep hb) (H4.out.2.keep hb)); have H5 := Lib.hid (And.intro (H5.out.1.keep hb) (H5.out.2.keep hb)); have HB := Lib.hid (HB.out.trans (hb.mono HB.out.size)); clear hb; dsimp only)
      | (go_at_call 20; refine (HTG.out _ HB.out).mono ?_; rintro e u6 ⟨rfl, rfl⟩; dsimp only))
  all_goals
    go_wp2
    go_ret
    exact ⟨rfl, HB.out⟩
end Go.Proofs.Ytnfdcjchobonaaa
