/-
  The walk of SpaceTakes.
-/
import Derived.Test.YtmndeohhanbjkaaSpaceLive
import Derived.Test.YtmndeohhanbjkaaFrame
import Derived.Test.YtmndeohhanbjkaaOpenSpace
import Derived.Test.YtmndeohhanbjkaaSpaceMath
import Derived.Test.YtmndeohhanbjkaaSpaceRW
namespace Go.Proofs.Ytmndeohhanbjkaa.spaceTakes
open Go.RowKit

section
variable {H : Type} {enc : TypeId × Value → H} {w : World}
set_option maxRecDepth 100000 in
/-- A row of runs that is handed over is not longer than its room. -/
theorem open_cap {a : Option Addr} {n cap : Nat} {d : DataW H} {ps : List MemPlace} (h : DataW.Trod enc Try.prog w 0 (fun _ => true) true 22 (.slice a n cap) d ps) : n ≤ cap ∧ cap ≤ maxLen := by
  obtain ⟨fuel, hf⟩ := h
  rcases Go.Deep.open_slice Try.underlying22 hf with ⟨e, _⟩ | ⟨a, len, c, m, k, D, Pl, e, _, hl, hm, _⟩
  · simp [Value.cells] at e
    obtain ⟨_, rfl, rfl⟩ := e
    exact ⟨Nat.le_refl _, Nat.zero_le _⟩
  · simp [Value.cells] at e
    obtain ⟨_, rfl, rfl⟩ := e
    exact ⟨hl, hm⟩
end
theorem take_len (l : List (Int × Int)) (n : Int) (h : l.length ≤ 100) : (takeL l n).2.1.length ≤ 1000 := by
  unfold takeL
  split
  · split
    · simp only [List.length_append, List.length_take, List.length_drop]
      split <;> simp <;> omega
    · simp
  · simp
theorem give_len (l : List (Int × Int)) (r : Int × Int) (h : l.length ≤ 100) : (giveL l r).1.length ≤ 1000 := by
  unfold giveL
  split
  · split
    · simp only [List.length_append, List.length_take, List.length_drop, List.length_cons, List.length_nil]
      omega
    · simp
  · simp

set_option maxRecDepth 100000 in
set_option maxHeartbeats 2000000 in
theorem walk (w : World) (x0 : Option Addr) (c0 : Nat) (l0 : List (Int × Int)) (s0 : SlP w x0 l0) (hc0 : l0.length ≤ c0 ∧ c0 ≤ maxLen) (m0 : l0.length ≤ maxLen) (f0 : WfP l0) (n : Int) (_w1 : (Lit.int .i64 n).wf = true) (y2 : Int × Int) (f2 : WfP [y2]) :
    Calls Try.prog 4 #[.slice x0 l0.length c0, .int .i64 n, .agg #[.int .i64 y2.1, .int .i64 y2.2]] w fun e w' => e = .returned (.bool true) ∧ Below w.heap.size w w' := by
  obtain ⟨ra, rn⟩ := y2
  have S0 := Lib.hid s0
  have HW := Lib.hid f0
  have HWR := Lib.hid f2
  have HC := Lib.hid hc0
  have HX := Lib.hid ((Below.refl w.heap.size w).alloc (Nat.le_refl _) (.cells #[.int .i64 ra, .int .i64 rn] 39))
  have BX := Lib.hid (Box.new w 39 #[.int .i64 ra, .int .i64 rn])
  unfold maxLen at m0
  clear s0 f0 _w1 f2 hc0
  by_cases hA : 100 < l0.length
  · go_enter Try.func4, Try.ntmps4
    go_wp2_with fail
    generalize World.alloc w _ = wx at *
    refine (live_any _).mono ?_
    rintro e wl ⟨rfl, hb⟩
    have HLL := Lib.hid (HX.out.trans (hb.mono HX.out.size))
    clear hb
    go_wp2
    go_ret
    exact ⟨rfl, HLL.out⟩
  · have HTL := Lib.hid (take_len l0 n (by omega))
    have HGL := Lib.hid (give_len l0 (ra, rn) (by omega))
    obtain ⟨⟨t1, tl, tb⟩, htk⟩ : ∃ q, takeL l0 n = q := ⟨_, rfl⟩
    obtain ⟨⟨gl, gb⟩, hgv⟩ : ∃ q, giveL l0 (ra, rn) = q := ⟨_, rfl⟩
    have htl := HTL.out
    have hgl := HGL.out
    rw [htk] at htl
    rw [hgv] at hgl
    have HTK := Lib.hid htk
    have HGV := Lib.hid hgv
    have HTL := Lib.hid htl
    have HGL := Lib.hid hgl
    clear htk hgv htl hgl
    go_enter Try.func4, Try.ntmps4
    go_wp2_with fail
    generalize World.alloc w _ = wx at *
    refine (own_any x0 c0 l0 _ (S0.out.keep HX.out) (by omega)).mono ?_
    rintro e v1 ⟨lv, rfl, hp, hb⟩
    have P1 := Lib.hid hp
    have L1 := Lib.hid (HX.out.trans (hb.mono HX.out.size))
    have B1 := Lib.hid (BX.out.keep hb BX.out.lt)
    clear hp hb HX BX
    go_wp2_with fail
    refine (take_any _ l0 n _ _ P1.out (by omega) HW.out).mono ?_
    rintro e v2 ⟨tv, rfl, hp, hb⟩
    rw [HTK.out] at hp ⊢
    have L2 := Lib.hid (L1.out.trans (hb.mono L1.out.size))
    have B2 := Lib.hid (B1.out.keep hb B1.out.lt)
    have T2 := Lib.hid hp
    clear hp hb L1 P1 B1
    go_wp2_with fail
    refine (rtake_any x0 c0 l0 n _ (S0.out.keep L2.out) (by omega) HC.out.1 HC.out.2 HW.out).mono ?_
    rintro e v3 ⟨uv, rfl, hp, hb⟩
    rw [HTK.out] at hp ⊢
    have L3 := Lib.hid (L2.out.trans (hb.mono L2.out.size))
    have B3 := Lib.hid (B2.out.keep hb B2.out.lt)
    have T3 := Lib.hid ((T2.out.keep hb).keep (Below.refl _ _).drew)
    have U3 := Lib.hid (Prs.keep hp (Below.refl _ _).drew)
    have k0 := B3.out.cell 0 _ rfl
    have k1 := B3.out.cell 1 _ rfl
    clear hp hb L2 B2 T2
    go_wp2_with fail
    refine wp_region_sched (fun W => W.cell? ⟨w.heap.size, 0, none⟩ = some (.int .i64 ra) ∧ W.cell? ⟨w.heap.size, 1, none⟩ = some (.int .i64 rn)) 12 [(0, false), (2, false), (3, false), (4, false), (5, false), (6, false), (1, true), (7, true), (8, false), (9, false), (10, false), (11, false)] (by kernel_rfl) (by kernel_rfl) ⟨k0, k1⟩ ?_
    simp only [List.drop_succ_cons, List.drop_zero]
    iterate 6 (apply wpSch_step rfl; (intro W hS K hK; obtain ⟨p0, p1⟩ := hS; go_simp; exact hK _ rfl))
    refine wpSch_make rfl (fun K' hK => ?_)
    go_simp
    refine (own_any x0 c0 l0 _ (S0.out.keep L3.out.drew) (by omega)).mono ?_
    rintro e v4 ⟨lw, rfl, hp, hb⟩
    have P4 := Lib.hid hp
    have L4 := Lib.hid (L3.out.drew.trans (hb.mono L3.out.size))
    have T4 := Lib.hid (T3.out.keep hb)
    have U4 := Lib.hid (U3.out.keep hb)
    have B4 := Lib.hid ((B3.out.keep (Below.refl _ _).drew B3.out.lt).keep hb B3.out.lt)
    refine hK _ _ _ (fun _ h => h) ⟨B4.out.cell 0 _ rfl, B4.out.cell 1 _ rfl⟩ ?_
    clear hK K' hb hp k0 k1 L3 T3 U3 B3
    refine wpSch_make rfl (fun K' hK => ?_)
    go_simp
    refine (give_any lw l0 (ra, rn) _ _ P4.out (by omega) HW.out HWR.out).mono ?_
    rintro e v5 ⟨gv, rfl, hp, hb⟩
    rw [HGV.out] at hp ⊢
    have G5 := Lib.hid hp
    have L5 := Lib.hid (L4.out.trans (hb.mono L4.out.size))
    have T5 := Lib.hid (T4.out.keep hb)
    have U5 := Lib.hid (U4.out.keep hb)
    have B5 := Lib.hid (B4.out.keep hb B4.out.lt)
    refine hK _ _ _ (fun _ h => h) ⟨B5.out.cell 0 _ rfl, B5.out.cell 1 _ rfl⟩ ?_
    clear hK K' hb hp L4 T4 U4 B4 P4
    iterate 4 (apply wpSch_step rfl; (intro W hS K hK; obtain ⟨p0, p1⟩ := hS; go_simp; exact hK _ rfl))
    refine wpSch_nil ?_
    have k0 := B5.out.cell 0 _ rfl
    have k1 := B5.out.cell 1 _ rfl
    go_wp2_with fail
    refine (rgive_any x0 c0 l0 (ra, rn) _ (S0.out.keep L5.out) (by omega) HW.out HWR.out).mono ?_
    rintro e v6 ⟨hv, rfl, hp, hb⟩
    rw [HGV.out] at hp ⊢
    have H6 := Lib.hid hp
    have L6 := Lib.hid (L5.out.trans (hb.mono L5.out.size))
    have T6 := Lib.hid (T5.out.keep hb)
    have U6 := Lib.hid (U5.out.keep hb)
    have G6 := Lib.hid (G5.out.keep hb)
    clear hb hp L5 T5 U5 B5 G5 k0 k1 S0
    obtain ⟨ta, tc, et, hst⟩ := T6.out.slP'
    subst et
    have ST := Lib.hid hst
    clear hst T6
    try simp only at ST HTL HGL
    go_wp2_with fail
    refine (told_any ta tc tl _ ST.out HTL.out).mono ?_
    rintro e v7 ⟨kv, rfl, hp, hb⟩
    have K7 := Lib.hid hp
    have L7 := Lib.hid (L6.out.trans (hb.mono L6.out.size))
    have U7 := Lib.hid (U6.out.keep hb)
    have G7 := Lib.hid (G6.out.keep hb)
    have H7 := Lib.hid (H6.out.keep hb)
    clear hb hp L6 U6 G6 H6 ST
    obtain ⟨ka, kc, ek, hsk⟩ := K7.out.slP'
    obtain ⟨ua, uc, eu, hsu⟩ := U7.out.slP'
    subst ek eu
    have SK := Lib.hid hsk
    have SU := Lib.hid hsu
    clear hsk hsu K7 U7
    try simp only at SU
    go_wp2_with fail
    refine (same_any ka ua kc uc tl tl _ HTL.out HTL.out SK.out SU.out).mono ?_
    rintro e v8 ⟨rfl, hb⟩
    rw [show decide (tl = tl) = true by simp]
    have L8 := Lib.hid (L7.out.trans (hb.mono L7.out.size))
    have G8 := Lib.hid (G7.out.keep hb)
    have H8 := Lib.hid (H7.out.keep hb)
    clear hb L7 G7 H7 SK SU
    obtain ⟨ga, gc, eg, hsg⟩ := G8.out.slP'
    subst eg
    have SG := Lib.hid hsg
    clear hsg G8
    try simp only at SG
    go_wp2_with fail
    refine (told_any ga gc gl _ SG.out HGL.out).mono ?_
    rintro e v9 ⟨kv, rfl, hp, hb⟩
    have K9 := Lib.hid hp
    have L9 := Lib.hid (L8.out.trans (hb.mono L8.out.size))
    have H9 := Lib.hid (H8.out.keep hb)
    clear hb hp L8 H8 SG
    obtain ⟨ma, mc, em, hsm⟩ := K9.out.slP'
    obtain ⟨ha, hc, eh, hsh⟩ := H9.out.slP'
    subst em eh
    have SM := Lib.hid hsm
    have SH := Lib.hid hsh
    clear hsm hsh K9 H9
    try simp only at SH
    go_wp2_with fail
    refine (same_any ma ha mc hc gl gl _ HGL.out HGL.out SM.out SH.out).mono ?_
    rintro e v10 ⟨rfl, hb⟩
    rw [show decide (gl = gl) = true by simp]
    have L10 := Lib.hid (L9.out.trans (hb.mono L9.out.size))
    clear hb L9 SM SH
    go_wp2_with fail
    refine (live_any _).mono ?_
    rintro e wl ⟨rfl, hb⟩
    have HLL := Lib.hid (L10.out.trans (hb.mono L10.out.size))
    clear hb
    go_wp2
    go_ret
    exact ⟨rfl, HLL.out⟩
end Go.Proofs.Ytmndeohhanbjkaa.spaceTakes
