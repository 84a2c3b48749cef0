/-
  Contract: Lists.
-/
import Derived.Test.YtnfdcjchobonaaaArcH
import Derived.Deep.RegionHeld3
namespace Go.Proofs.Ytnfdcjchobonaaa
open Go.RowKit Go.ChangeShapes Go.WideShapes Go.ChangeAt

theorem ArcAt.cell {w : World} {b : Nat} {v : Nat → Value} {d : ArcD} (h : ArcAt w b v d) {i : Nat} (hi : InA i) : w.cell? ⟨b, i, none⟩ = some (v i) := h.box.cell i _ (cellsA_at _ _ v hi)
abbrev S4 (b : Nat) (v2 v3 v4 v5 : Value) (w : World) : Prop := w.cell? ⟨b, 2, none⟩ = some v2 ∧ w.cell? ⟨b, 3, none⟩ = some v3 ∧ w.cell? ⟨b, 4, none⟩ = some v4 ∧ w.cell? ⟨b, 5, none⟩ = some v5
theorem S4.below {b : Nat} {v2 v3 v4 v5 : Value} {u u' : World} (h : S4 b v2 v3 v4 v5 u) (hb : Below u.heap.size u u') : S4 b v2 v3 v4 v5 u' := by
  obtain ⟨h0, h1, h2, h3⟩ := h
  exact ⟨(hb.cell (lt_of_cell h0)).trans h0, (hb.cell (lt_of_cell h1)).trans h1, (hb.cell (lt_of_cell h2)).trans h2, (hb.cell (lt_of_cell h3)).trans h3⟩
/-- Four rows, each in a block of its own, from n on. -/
structure Rows4 (n : Nat) (w : World) (x2 x3 x4 x5 : Value) (d : ArcD) : Prop where
  k2 : Ks w n x2 (d.l 2)
  k3 : Ks w n x3 (d.l 3)
  k4 : Ks w n x4 (d.l 4)
  k5 : Ks w n x5 (d.l 5)

set_option maxRecDepth 100000 in
set_option maxHeartbeats 8000000 in
theorem lists_any (b : Nat) (v : Nat → Value) (d : ArcD) (w : World) (h : ArcAt w b v d) (hlen : d.len ≤ 10000) (hok : OkA d) :
    Calls Try.prog 19 #[.pointer (some ⟨b, 0, none⟩)] w fun e w' => ∃ x2 x3 x4 x5, e = .returned (.tuple #[x2, x3, x4, x5]) ∧ Rows4 w.heap.size w' x2 x3 x4 x5 d ∧ Below w.heap.size w w' := by
  have HD := Lib.hid (made_any b v d w h hok.1)
  obtain ⟨v2, e2⟩ : ∃ x, x = v 2 := ⟨_, rfl⟩
  obtain ⟨v3, e3⟩ : ∃ x, x = v 3 := ⟨_, rfl⟩
  obtain ⟨v4, e4⟩ : ∃ x, x = v 4 := ⟨_, rfl⟩
  obtain ⟨v5, e5⟩ : ∃ x, x = v 5 := ⟨_, rfl⟩
  have HS : Hid (S4 b v2 v3 v4 v5 w.drew) := by rw [e2, e3, e4, e5]; exact ⟨h.cell in2, h.cell in3, h.cell in4, h.cell in5⟩
  have HR : Hid (Ks w.drew 0 v2 (d.l 2) ∧ Ks w.drew 0 v3 (d.l 3) ∧ Ks w.drew 0 v4 (d.l 4) ∧ Ks w.drew 0 v5 (d.l 5)) := by rw [e2, e3, e4, e5]; exact ⟨h.row 2 in2, h.row 3 in3, h.row 4 in4, h.row 5 in5⟩
  have L2 := d.le_len in2
  have L3 := d.le_len in3
  have L4 := d.le_len in4
  have L5 := d.le_len in5
  have HB : Hid (Below w.heap.size w w.drew) := (Below.refl _ _).drew
  have CL : Hid (∀ (x : Value) (l : List ByteArray) (u : World), Ks u 0 x l → l.length ≤ d.len → Below w.heap.size w u → Calls Try.prog 33 #[x] u fun e w' => ∃ y, e = .returned y ∧ Ks w' w.heap.size y l ∧ Below u.heap.size u w') := by
    intro x l u hk hl hb
    refine (clone_keys x 0 l u hk (by omega)).mono ?_
    rintro e w' ⟨y, rfl, h1, h2⟩
    exact ⟨y, rfl, h1.low hb.size, h2⟩
  clear h hlen hok e2 e3 e4 e5
  go_enter Try.func19, Try.ntmps19
  go_wp2_with fail
  refine HD.out.mono ?_
  rintro e w1 ⟨rfl, rfl⟩
  go_wp2_with fail
  go_region_held3 (fun W => W.cell? ⟨b, 2, none⟩ = some v2 ∧ W.cell? ⟨b, 3, none⟩ = some v3 ∧ W.cell? ⟨b, 4, none⟩ = some v4 ∧ W.cell? ⟨b, 5, none⟩ = some v5) (with_reducible exact HS.out)
    (first
      | (go_at_call_of 33 v2; refine (CL.out v2 (d.l 2) _ HR.out.1 L2 HB.out).mono ?_; rintro e u2 ⟨x2, rfl, hk, hb⟩; have K2 := Lib.hid hk; (try have K3 := Lib.hid (K3.out.keep hb)); (try have K4 := Lib.hid (K4.out.keep hb)); (try have K5 := Lib.hid (K5.out.keep hb)); have HS := Lib.hid (HS.out.below hb); have HR := Lib.hid (show _ ∧ _ ∧ _ ∧ _ from ⟨HR.out.1.keep hb, HR.out.2.1.keep hb, HR.out.2.2.1.keep hb, HR.out.2.2.2.keep hb⟩); have HB := Lib.hid (HB.out.trans (hb.mono HB.out.size)); clear hb hk; dsimp only)
      | (go_at_call_of 33 v3; refine (CL.out v3 (d.l 3) _ HR.out.2.1 L3 HB.out).mono ?_; rintro e u3 ⟨x3, rfl, hk, hb⟩; have K3 := Lib.hid hk; (try have K2 := Lib.hid (K2.out.keep hb)); (try have K4 := Lib.hid (K4.out.keep hb)); (try have K5 := Lib.hid (K5.out.keep hb)); have HS := Lib.hid (HS.out.below hb); have HR := Lib.hid (show _ ∧ _ ∧ _ ∧ _ from ⟨HR.out.1.keep hb, HR.out.2.1.keep hb, HR.out.2.2.1.keep hb, HR.out.2.2.2.keep hb⟩); have HB := Lib.hid (HB.out.trans (hb.mono HB.out.size)); clear hb hk; dsimp only)
      | (go_at_call_of 33 v4; refine (CL.out v4 (d.l 4) _ HR.out.2.2.1 L4 HB.out).mono ?_; rintro e u4 ⟨x4, rfl, hk, hb⟩; have K4 := Lib.hid hk; (try have K2 := Lib.hid (K2.out.keep hb)); (try have K3 := Lib.hid (K3.out.keep hb)); (try have K5 := Lib.hid (K5.out.keep hb)); have HS := Lib.hid (HS.out.below hb); have HR := Lib.hid (show _ ∧ _ ∧ _ ∧ _ from ⟨HR.out.1.keep hb, HR.out.2.1.keep hb, HR.out.2.2.1.keep hb, HR.out.2.2.2.keep hb⟩); have HB := Lib.hid (HB.out.trans (hb.mono HB.out.size)); clear hb hk; dsimp only)
      | (go_at_call_of 33 v5; refine (CL.out v5 (d.l 5) _ HR.out.2.2.2 L5 HB.out).mono ?_; rintro e u5 ⟨x5, rfl, hk, hb⟩; have K5 := Lib.hid hk; (try have K2 := Lib.hid (K2.out.keep hb)); (try have K3 := Lib.hid (K3.out.keep hb)); (try have K4 := Lib.hid (K4.out.keep hb)); have HS := Lib.hid (HS.out.below hb); have HR := Lib.hid (show _ ∧ _ ∧ _ ∧ _ from ⟨HR.out.1.keep hb, HR.out.2.1.keep hb, HR.out.2.2.1.keep hb, HR.out.2.2.2.keep hb⟩); have HB := Lib.hid (HB.out.trans (hb.mono HB.out.size)); clear hb hk; dsimp only))
  all_goals
    go_wp2
    refine bodyPost_ret (results_tmp4 rfl _ _ _) rfl ?_
    exact ⟨_, _, _, _, rfl, ⟨K2.out, K3.out, K4.out, K5.out⟩, HB.out⟩
end Go.Proofs.Ytnfdcjchobonaaa
