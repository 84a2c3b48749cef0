/-
  Contracts of package dev: Copy.
-/
import Derived.Test.YtflobdhhjfpcdaaDevClone
import Derived.Deep.RegionWith
import Derived.Deep.DeepMust
namespace Go.Proofs.Ytflobdhhjfpcdaa
open Go.RowKit Go.ChangeShapes Go.WideShapes Go.ChangeAt

theorem copy_nil (w : World) : Calls Try.prog 16 #[.pointer none] w fun e w' => e = .returned (.pointer none) ∧ w = w' := by
  go_enter Try.func16, Try.ntmps16
  go_wp2
  go_ret
  exact ⟨rfl, rfl⟩

theorem undrew {n : Nat} {w w' : World} (h : Below n w.drew w') : Below n w w' := ⟨h.os, h.tape, h.output, h.size, h.block⟩
def slV (g n c : Nat) : Value := .slice (some ⟨g, 0, none⟩) n c
/-- Within Copy's loop: the copy's box, what of it is made anew. -/
structure CI0 (d : DevD) (B cb : Nat) (v : Value) (x0 x1 x3 x4 : Value) (w : World) : Prop where
  box : Box w cb 60 #[x0, x1, .bool d.s0.lost, x3, x4, .bool d.s1.lost, v]
  row : Wrs w v d.waits
  own : ∀ k, v.ownBlock = some k → B ≤ k ∧ k < cb
  lo : B ≤ cb
structure CI1 (d : DevD) (cb h c t e : Nat) (w : World) : Prop where
  sh : Strs w h c d.s0.has
  st : Strs w t e d.s0.tells
  l1 : cb < h
  l2 : h < t
structure CI2 (d : DevD) (t0 h c t e : Nat) (w : World) : Prop where
  sh : Strs w h c d.s1.has
  st : Strs w t e d.s1.tells
  l1 : t0 < h
  l2 : h < t
theorem CI0.keep {d : DevD} {B cb : Nat} {v x0 x1 x3 x4 : Value} {w w' : World} (h : CI0 d B cb v x0 x1 x3 x4 w) (hb : Below w.heap.size w w') : CI0 d B cb v x0 x1 x3 x4 w' :=
  ⟨h.box.keep hb h.box.lt, h.row.below hb (Nat.le_refl _), h.own, h.lo⟩
theorem CI1.keep {d : DevD} {cb h c t e : Nat} {w w' : World} (k : CI1 d cb h c t e w) (hb : Below w.heap.size w w') : CI1 d cb h c t e w' :=
  ⟨k.sh.chg (Chg.of (S := []) hb (Nat.le_refl _)) (fun h => by cases h), k.st.chg (Chg.of (S := []) hb (Nat.le_refl _)) (fun h => by cases h), k.l1, k.l2⟩
theorem CI1.set {d : DevD} {cb h c t e : Nat} {w : World} (k : CI1 d cb h c t e w) (j : Nat) (v : Value) : CI1 d cb h c t e (w.setCell ⟨cb, j, none⟩ v) :=
  ⟨k.sh.chg (chg_set w cb j v) (by have := k.l1; simp; omega), k.st.chg (chg_set w cb j v) (by have := k.l1; have := k.l2; simp; omega), k.l1, k.l2⟩
def CI (d : DevD) (B cb : Nat) (v : Value) (k : Nat) (w : World) : Prop :=
  if k = 0 then ∃ x0 x1 x3 x4, CI0 d B cb v x0 x1 x3 x4 w
  else if k = 1 then ∃ h c t e x3 x4, CI0 d B cb v (slV h d.s0.has.length c) (slV t d.s0.tells.length e) x3 x4 w ∧ CI1 d cb h c t e w
  else ∃ h c t e h' c' t' e', CI0 d B cb v (slV h d.s0.has.length c) (slV t d.s0.tells.length e) (slV h' d.s1.has.length c') (slV t' d.s1.tells.length e') w ∧ CI1 d cb h c t e w ∧ CI2 d t h' c' t' e' w

set_option maxRecDepth 100000 in
set_option maxHeartbeats 2000000 in
theorem copy_any (p : DevP) (d : DevD) (w : World) (h : DevAt w p d) (hlen : d.waits.length ≤ 100000) : Calls Try.prog 16 #[.pointer (some ⟨p.b, 0, none⟩)] w fun e w' =>
    ∃ p', e = .returned (.pointer (some ⟨p'.b, 0, none⟩)) ∧ DevAt w' p' d ∧ (∀ k ∈ p'.fp, w.heap.size ≤ k) ∧ Below w.heap.size w w' := by
  have c0 : w.cell? ⟨p.b, 0, none⟩ = some (.slice (some ⟨p.h0, 0, none⟩) d.s0.has.length p.ch0) := h.box.cell 0 _ rfl
  have c1 : w.cell? ⟨p.b, 1, none⟩ = some (.slice (some ⟨p.t0, 0, none⟩) d.s0.tells.length p.ct0) := h.box.cell 1 _ rfl
  have c2 : w.cell? ⟨p.b, 2, none⟩ = some (.bool d.s0.lost) := h.box.cell 2 _ rfl
  have c3 : w.cell? ⟨p.b, 3, none⟩ = some (.slice (some ⟨p.h1, 0, none⟩) d.s1.has.length p.ch1) := h.box.cell 3 _ rfl
  have c4 : w.cell? ⟨p.b, 4, none⟩ = some (.slice (some ⟨p.t1, 0, none⟩) d.s1.tells.length p.ct1) := h.box.cell 4 _ rfl
  have c5 : w.cell? ⟨p.b, 5, none⟩ = some (.bool d.s1.lost) := h.box.cell 5 _ rfl
  have c6 : w.cell? ⟨p.b, 6, none⟩ = some p.wv := h.box.cell 6 _ rfl
  have H := Lib.hid h
  have HL := Lib.hid hlen
  have HB := Lib.hid h.box.lt
  clear h hlen
  go_enter Try.func16, Try.ntmps16
  go_wp2_with fail
  go_region_with ((go_at_call 31; refine (clone_wrs p.wv d.waits _ (by exact H.out.wt) HL.out).mono ?_; rintro e w1 ⟨v', rfl, hw, hn, hb⟩; obtain ⟨av, cv, rfl, _⟩ := Wrs.form hw; have d0 : w1.cell? ⟨p.b, 0, none⟩ = some (.slice (some ⟨p.h0, 0, none⟩) d.s0.has.length p.ch0) := (hb.cell (p := ⟨p.b, 0, none⟩) HB.out).trans c0; have d1 : w1.cell? ⟨p.b, 1, none⟩ = some (.slice (some ⟨p.t0, 0, none⟩) d.s0.tells.length p.ct0) := (hb.cell (p := ⟨p.b, 1, none⟩) HB.out).trans c1; have d2 : w1.cell? ⟨p.b, 2, none⟩ = some (.bool d.s0.lost) := (hb.cell (p := ⟨p.b, 2, none⟩) HB.out).trans c2; have d3 : w1.cell? ⟨p.b, 3, none⟩ = some (.slice (some ⟨p.h1, 0, none⟩) d.s1.has.length p.ch1) := (hb.cell (p := ⟨p.b, 3, none⟩) HB.out).trans c3; have d4 : w1.cell? ⟨p.b, 4, none⟩ = some (.slice (some ⟨p.t1, 0, none⟩) d.s1.tells.length p.ct1) := (hb.cell (p := ⟨p.b, 4, none⟩) HB.out).trans c4; have d5 : w1.cell? ⟨p.b, 5, none⟩ = some (.bool d.s1.lost) := (hb.cell (p := ⟨p.b, 5, none⟩) HB.out).trans c5; have HW := Lib.hid hw; have HN := Lib.hid hn; have HB1 := Lib.hid hb; clear hw hn hb))
  all_goals
    go_wp2_with fail
    have I0 : Hid (CI d w.heap.size w1.heap.size (.slice av d.waits.length cv) 0 (w1.alloc (.cells #[.slice (some ⟨p.h0, 0, none⟩) d.s0.has.length p.ch0, .slice (some ⟨p.t0, 0, none⟩) d.s0.tells.length p.ct0, .bool d.s0.lost, .slice (some ⟨p.h1, 0, none⟩) d.s1.has.length p.ch1, .slice (some ⟨p.t1, 0, none⟩) d.s1.tells.length p.ct1, .bool d.s1.lost, .slice av d.waits.length cv] 60))) :=
      ⟨_, _, _, _, Box.new _ _ _, HW.out.below ((Below.refl _ _).alloc (Nat.le_refl _) _) (Nat.le_refl _), fun k hk => ⟨HN.out k hk, HW.out.lt k hk⟩, HB1.out.size⟩
    have BL : Hid (Below w.heap.size w (w1.alloc (.cells #[.slice (some ⟨p.h0, 0, none⟩) d.s0.has.length p.ch0, .slice (some ⟨p.t0, 0, none⟩) d.s0.tells.length p.ct0, .bool d.s0.lost, .slice (some ⟨p.h1, 0, none⟩) d.s1.has.length p.ch1, .slice (some ⟨p.t1, 0, none⟩) d.s1.tells.length p.ct1, .bool d.s1.lost, .slice av d.waits.length cv] 60))) :=
      (show Below w.heap.size w w1 from ⟨HB1.out.os, HB1.out.tape, HB1.out.output, HB1.out.size, HB1.out.block⟩).trans ((Below.refl _ _).alloc HB1.out.size _)
    have HCB : Hid (w.heap.size ≤ w1.heap.size) := HB1.out.size
    have HO : Hid (∀ k, (Value.slice av d.waits.length cv).ownBlock = some k → w.heap.size ≤ k ∧ k < w1.heap.size) := fun k hk => ⟨HN.out k hk, HW.out.lt k hk⟩
    clear HW HN HB1 d0 d1 d2 d3 d4 d5
    generalize hcb : w1.heap.size = cb at *
    clear hcb
    generalize World.alloc _ _ = wa at *
    go_loopw [18] (fun i wr => ∃ k : Nat, k ≤ 2 ∧ i = .int .i64 k ∧ Hid (CI d w.heap.size cb (.slice av d.waits.length cv) k wr) ∧ Hid (Below w.heap.size w wr)) (fun i _ => 2 - (intOf i).toNat)
    case atStart => exact ⟨0, by omega, rfl, I0, BL⟩
    case round =>
      clear I0 BL
      obtain ⟨k, hk, rfl, HI, HBL⟩ := hrel
      have hk3 : k = 0 ∨ k = 1 ∨ k = 2 := by omega
      rcases hk3 with rfl | rfl | rfl
      · obtain ⟨x0, x1, x3, x4, I⟩ := HI.out
        have I := Lib.hid I
        have HLT := Lib.hid I.out.box.lt
        have q0 : wr.cell? ⟨p.b, 0, none⟩ = some (.slice (some ⟨p.h0, 0, none⟩) d.s0.has.length p.ch0) := (HBL.out.cell (p := ⟨p.b, 0, none⟩) HB.out).trans c0
        have hpos : 0 < d.s0.has.length := by have := H.out.n0; omega
        have hle : d.s0.has.length ≤ 100000 := by have := H.out.n0; omega
        have hpos2 : 0 < d.s0.tells.length := by have := H.out.n0; have := H.out.l0; omega
        have hle2 : d.s0.tells.length ≤ 100000 := by have := H.out.n0; have := H.out.l0; omega
        have HP := Lib.hid (And.intro hpos (And.intro hle (And.intro hpos2 hle2)))
        clear hpos hle hpos2 hle2
        go_wp2_with fail
        go_region_with ((go_at_call 32; go_must (refine (clone_strs p.h0 p.ch0 d.s0.has _ (by exact H.out.h0.chg (S := []) (Chg.of HBL.out.drew (Nat.le_refl _)) (fun h => by cases h)) HP.out.1 HP.out.2.1).mono ?_; rintro e w5 ⟨g5, e5, rfl, hs, hn, hb⟩; have I2 := Lib.hid (I.out.keep (w' := w5) (undrew hb)); have r0 : w5.cell? ⟨cb, 0, none⟩ = some x0 := I2.out.box.cell 0 _ rfl; have r1 : w5.frozen? ⟨cb, 0, none⟩ = false := I2.out.box.free 0; have HS := Lib.hid hs; have HN : Hid (wr.heap.size ≤ g5) := hn; have BL5 : Hid (Below w.heap.size w w5) := HBL.out.trans (show Below w.heap.size wr w5 from ⟨hb.os, hb.tape, hb.output, hb.size, fun k hk => hb.block k (Nat.lt_of_lt_of_le hk HBL.out.size)⟩); clear hs hn hb)))
        have HLT2 : Hid (cb < wr.heap.size) := HLT.out
        have I3 : Hid (CI0 d w.heap.size cb (.slice av d.waits.length cv) (slV g5 d.s0.has.length e5) x1 x3 x4 (w5.setCell ⟨cb, 0, none⟩ (slV g5 d.s0.has.length e5))) := ⟨by have := I2.out.box.set 0 (slV g5 d.s0.has.length e5); simpa using this, I2.out.row.chg (chg_set w5 cb 0 _) (fun k hk => by have := (I2.out.own k hk).2; simp; omega), I2.out.own, I2.out.lo⟩
        have S3 : Hid (Strs (w5.setCell ⟨cb, 0, none⟩ (slV g5 d.s0.has.length e5)) g5 e5 d.s0.has) := HS.out.chg (chg_set w5 cb 0 _) (by have := HN.out; have := HLT.out; simp; omega)
        have BL3 : Hid (Below w.heap.size w (w5.setCell ⟨cb, 0, none⟩ (slV g5 d.s0.has.length e5))) := BL5.out.setCell (p := ⟨cb, 0, none⟩) HCB.out _
        have G5 : Hid (cb < g5) := by have := HN.out; have := HLT.out; show cb < g5; omega
        clear r0 r1 q0 I I2 HS BL5 HLT HLT2 HN
        go_wp2_with fail
        rw [show (w5.setCell ⟨cb, 0, none⟩ (.slice (some ⟨g5, 0, none⟩) d.s0.has.length e5)) = w5.setCell ⟨cb, 0, none⟩ (slV g5 d.s0.has.length e5) from rfl]
        generalize World.setCell _ _ _ = w6 at *
        have q0 : w6.cell? ⟨p.b, 1, none⟩ = some (.slice (some ⟨p.t0, 0, none⟩) d.s0.tells.length p.ct0) := (BL3.out.cell (p := ⟨p.b, 1, none⟩) HB.out).trans c1
        go_region_with ((go_at_call 32; go_must (refine (clone_strs p.t0 p.ct0 d.s0.tells _ (by exact H.out.t0.chg (S := []) (Chg.of BL3.out.drew (Nat.le_refl _)) (fun h => by cases h)) HP.out.2.2.1 HP.out.2.2.2).mono ?_; rintro e w7 ⟨g7, e7, rfl, hs, hn, hb⟩; have I4 := Lib.hid (I3.out.keep (w' := w7) (undrew hb)); have S4 := Lib.hid (S3.out.chg (S := []) (w' := w7) (Chg.of (undrew hb) (Nat.le_refl _)) (fun h => by cases h)); have r0 : w7.cell? ⟨cb, 1, none⟩ = some x1 := I4.out.box.cell 1 _ rfl; have r1 : w7.frozen? ⟨cb, 1, none⟩ = false := I4.out.box.free 1; have HS := Lib.hid hs; have HN : Hid (w6.heap.size ≤ g7) := hn; have BL7 : Hid (Below w.heap.size w w7) := BL3.out.trans (show Below w.heap.size w6 w7 from ⟨hb.os, hb.tape, hb.output, hb.size, fun k hk => hb.block k (Nat.lt_of_lt_of_le hk BL3.out.size)⟩); clear hs hn hb)))
        have GL : Hid (g5 < g7) := by have h1 := S3.out.lt; have h2 := HN.out; show g5 < g7; omega
        have I5 : Hid (CI0 d w.heap.size cb (.slice av d.waits.length cv) (slV g5 d.s0.has.length e5) (slV g7 d.s0.tells.length e7) x3 x4 (w7.setCell ⟨cb, 1, none⟩ (slV g7 d.s0.tells.length e7))) := ⟨by have := I4.out.box.set 1 (slV g7 d.s0.tells.length e7); simpa using this, I4.out.row.chg (chg_set w7 cb 1 _) (fun k hk => by have := (I4.out.own k hk).2; simp; omega), I4.out.own, I4.out.lo⟩
        have S5 : Hid (Strs (w7.setCell ⟨cb, 1, none⟩ (slV g7 d.s0.tells.length e7)) g5 e5 d.s0.has) := S4.out.chg (chg_set w7 cb 1 _) (by have := G5.out; simp; omega)
        have T5 : Hid (Strs (w7.setCell ⟨cb, 1, none⟩ (slV g7 d.s0.tells.length e7)) g7 e7 d.s0.tells) := HS.out.chg (chg_set w7 cb 1 _) (by have := G5.out; have := GL.out; simp; omega)
        have BL8 : Hid (Below w.heap.size w (w7.setCell ⟨cb, 1, none⟩ (slV g7 d.s0.tells.length e7))) := BL7.out.setCell (p := ⟨cb, 1, none⟩) HCB.out _
        have FI : Hid (CI d w.heap.size cb (.slice av d.waits.length cv) 1 (w7.setCell ⟨cb, 1, none⟩ (slV g7 d.s0.tells.length e7))) := ⟨_, _, _, _, _, _, I5.out, S5.out, T5.out, G5.out, GL.out⟩
        clear r0 r1 q0 I3 I4 I5 S3 S4 S5 T5 BL3 BL7 HN HS GL G5
        go_wp2
        go_roundw
        case rel => exact ⟨1, by omega, rfl, FI, BL8⟩
        case measure => simp [intOf]
      · obtain ⟨g0, b0, u0, e0, x3, x4, I, J⟩ := HI.out
        have J := Lib.hid J
        have I := Lib.hid I
        have HLT := Lib.hid I.out.box.lt
        have q0 : wr.cell? ⟨p.b, 3, none⟩ = some (.slice (some ⟨p.h1, 0, none⟩) d.s1.has.length p.ch1) := (HBL.out.cell (p := ⟨p.b, 3, none⟩) HB.out).trans c3
        have hpos : 0 < d.s1.has.length := by have := H.out.n1; omega
        have hle : d.s1.has.length ≤ 100000 := by have := H.out.n1; omega
        have hpos2 : 0 < d.s1.tells.length := by have := H.out.n1; have := H.out.l1; omega
        have hle2 : d.s1.tells.length ≤ 100000 := by have := H.out.n1; have := H.out.l1; omega
        have HP := Lib.hid (And.intro hpos (And.intro hle (And.intro hpos2 hle2)))
        clear hpos hle hpos2 hle2
        go_wp2_with fail
        go_region_with ((go_at_call 32; go_must (refine (clone_strs p.h1 p.ch1 d.s1.has _ (by exact H.out.h1.chg (S := []) (Chg.of HBL.out.drew (Nat.le_refl _)) (fun h => by cases h)) HP.out.1 HP.out.2.1).mono ?_; rintro e w5 ⟨g5, e5, rfl, hs, hn, hb⟩; have I2 := Lib.hid (I.out.keep (w' := w5) (undrew hb)); have J2 := Lib.hid (J.out.keep (w' := w5) (undrew hb)); have r0 : w5.cell? ⟨cb, 3, none⟩ = some x3 := I2.out.box.cell 3 _ rfl; have r1 : w5.frozen? ⟨cb, 3, none⟩ = false := I2.out.box.free 3; have HS := Lib.hid hs; have HN : Hid (wr.heap.size ≤ g5) := hn; have BL5 : Hid (Below w.heap.size w w5) := HBL.out.trans (show Below w.heap.size wr w5 from ⟨hb.os, hb.tape, hb.output, hb.size, fun k hk => hb.block k (Nat.lt_of_lt_of_le hk HBL.out.size)⟩); clear hs hn hb)))
        have HLT2 : Hid (cb < wr.heap.size) := HLT.out
        have I3 : Hid (CI0 d w.heap.size cb (.slice av d.waits.length cv) (slV g0 d.s0.has.length b0) (slV u0 d.s0.tells.length e0) (slV g5 d.s1.has.length e5) x4 (w5.setCell ⟨cb, 3, none⟩ (slV g5 d.s1.has.length e5))) := ⟨by have := I2.out.box.set 3 (slV g5 d.s1.has.length e5); simpa using this, I2.out.row.chg (chg_set w5 cb 3 _) (fun k hk => by have := (I2.out.own k hk).2; simp; omega), I2.out.own, I2.out.lo⟩
        have S3 : Hid (Strs (w5.setCell ⟨cb, 3, none⟩ (slV g5 d.s1.has.length e5)) g5 e5 d.s1.has) := HS.out.chg (chg_set w5 cb 3 _) (by have := HN.out; have := HLT.out; simp; omega)
        have BL3 : Hid (Below w.heap.size w (w5.setCell ⟨cb, 3, none⟩ (slV g5 d.s1.has.length e5))) := BL5.out.setCell (p := ⟨cb, 3, none⟩) HCB.out _
        have J3 : Hid (CI1 d cb g0 b0 u0 e0 (w5.setCell ⟨cb, 3, none⟩ (slV g5 d.s1.has.length e5))) := J2.out.set 3 _
        have JL : Hid (u0 < g5) := by have h1 := J.out.st.lt; have h2 := HN.out; show u0 < g5; omega
        clear J J2
        have G5 : Hid (cb < g5) := by have := HN.out; have := HLT.out; show cb < g5; omega
        clear r0 r1 q0 I I2 HS BL5 HLT HLT2 HN
        go_wp2_with fail
        rw [show (w5.setCell ⟨cb, 3, none⟩ (.slice (some ⟨g5, 0, none⟩) d.s1.has.length e5)) = w5.setCell ⟨cb, 3, none⟩ (slV g5 d.s1.has.length e5) from rfl]
        generalize World.setCell _ _ _ = w6 at *
        have q0 : w6.cell? ⟨p.b, 4, none⟩ = some (.slice (some ⟨p.t1, 0, none⟩) d.s1.tells.length p.ct1) := (BL3.out.cell (p := ⟨p.b, 4, none⟩) HB.out).trans c4
        go_region_with ((go_at_call 32; go_must (refine (clone_strs p.t1 p.ct1 d.s1.tells _ (by exact H.out.t1.chg (S := []) (Chg.of BL3.out.drew (Nat.le_refl _)) (fun h => by cases h)) HP.out.2.2.1 HP.out.2.2.2).mono ?_; rintro e w7 ⟨g7, e7, rfl, hs, hn, hb⟩; have I4 := Lib.hid (I3.out.keep (w' := w7) (undrew hb)); have S4 := Lib.hid (S3.out.chg (S := []) (w' := w7) (Chg.of (undrew hb) (Nat.le_refl _)) (fun h => by cases h)); have J4 := Lib.hid (J3.out.keep (w' := w7) (undrew hb)); have r0 : w7.cell? ⟨cb, 4, none⟩ = some x4 := I4.out.box.cell 4 _ rfl; have r1 : w7.frozen? ⟨cb, 4, none⟩ = false := I4.out.box.free 4; have HS := Lib.hid hs; have HN : Hid (w6.heap.size ≤ g7) := hn; have BL7 : Hid (Below w.heap.size w w7) := BL3.out.trans (show Below w.heap.size w6 w7 from ⟨hb.os, hb.tape, hb.output, hb.size, fun k hk => hb.block k (Nat.lt_of_lt_of_le hk BL3.out.size)⟩); clear hs hn hb)))
        have GL : Hid (g5 < g7) := by have h1 := S3.out.lt; have h2 := HN.out; show g5 < g7; omega
        have I5 : Hid (CI0 d w.heap.size cb (.slice av d.waits.length cv) (slV g0 d.s0.has.length b0) (slV u0 d.s0.tells.length e0) (slV g5 d.s1.has.length e5) (slV g7 d.s1.tells.length e7) (w7.setCell ⟨cb, 4, none⟩ (slV g7 d.s1.tells.length e7))) := ⟨by have := I4.out.box.set 4 (slV g7 d.s1.tells.length e7); simpa using this, I4.out.row.chg (chg_set w7 cb 4 _) (fun k hk => by have := (I4.out.own k hk).2; simp; omega), I4.out.own, I4.out.lo⟩
        have S5 : Hid (Strs (w7.setCell ⟨cb, 4, none⟩ (slV g7 d.s1.tells.length e7)) g5 e5 d.s1.has) := S4.out.chg (chg_set w7 cb 4 _) (by have := G5.out; simp; omega)
        have T5 : Hid (Strs (w7.setCell ⟨cb, 4, none⟩ (slV g7 d.s1.tells.length e7)) g7 e7 d.s1.tells) := HS.out.chg (chg_set w7 cb 4 _) (by have := G5.out; have := GL.out; simp; omega)
        have BL8 : Hid (Below w.heap.size w (w7.setCell ⟨cb, 4, none⟩ (slV g7 d.s1.tells.length e7))) := BL7.out.setCell (p := ⟨cb, 4, none⟩) HCB.out _
        have FI : Hid (CI d w.heap.size cb (.slice av d.waits.length cv) 2 (w7.setCell ⟨cb, 4, none⟩ (slV g7 d.s1.tells.length e7))) := ⟨_, _, _, _, _, _, _, _, I5.out, J4.out.set 4 _, S5.out, T5.out, JL.out, GL.out⟩
        clear r0 r1 q0 I3 I4 I5 S3 S4 S5 T5 BL3 BL7 HN HS GL G5 J3 J4
        go_wp2
        go_roundw
        case rel => exact ⟨2, by omega, rfl, FI, BL8⟩
        case measure => simp [intOf]
      · obtain ⟨h, c, t, e, h', c', t', e', I, J, K⟩ := HI.out
        have hh := HO.out
        have HIJ := Lib.hid (And.intro I (And.intro J K))
        clear I J K
        go_wp2
        go_ret
        obtain ⟨I, J, K⟩ := HIJ.out
        have hcb := HCB.out
        have j1 := J.l1
        have j2 := J.l2
        have j3 := K.l1
        have j4 := K.l2
        refine ⟨⟨cb, h, t, h', t', c, e, c', e', .slice av d.waits.length cv⟩, rfl, ⟨I.box, J.sh, J.st, K.sh, K.st, I.row, ?_, H.out.l0, H.out.l1, H.out.n0, H.out.n1, H.out.wok⟩, ?_, HBL.out⟩
        · simp only [DevP.fp, List.cons_append, List.nil_append, List.nodup_cons, List.mem_cons, not_or, Option.mem_toList]
          refine ⟨⟨by omega, by omega, by omega, by omega, fun q => by have := (hh _ q).2; omega⟩, ⟨by omega, by omega, by omega, fun q => by have := (hh _ q).2; omega⟩, ⟨by omega, by omega, fun q => by have := (hh _ q).2; omega⟩, ⟨by omega, fun q => by have := (hh _ q).2; omega⟩, fun q => by have := (hh _ q).2; omega, ?_⟩
          cases (Value.slice av d.waits.length cv).ownBlock <;> simp
        · intro k hk
          simp only [DevP.fp, List.mem_append, List.mem_cons, List.not_mem_nil, or_false, Option.mem_toList] at hk
          rcases hk with (rfl | rfl | rfl | rfl | rfl) | hk
          · omega
          · omega
          · omega
          · omega
          · omega
          · exact (hh k hk).1
end Go.Proofs.Ytflobdhhjfpcdaa
