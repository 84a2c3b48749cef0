/-
  The reference's root: Decode, in words of its own (rdecU).
-/
import Derived.Test.YtkapbkkbkfmidaaDoorUberRE
import Derived.Test.YtkapbkkbkfmidaaDoorUberB
import Derived.Test.YtkapbkkbkfmidaaDoorMg26
namespace Go.Proofs.YtkapbkkbkfmidaaDoor
open Go.RowKit

theorem rtext_pos (b : Nat) (s : ByteArray) (k n : Nat) (h1 : 1 ≤ n) (h7 : n ≤ 7) (w : World) (h : RrPos w b s k) :
    Calls Tryd.prog 49 #[.pointer (some ⟨b, 0, none⟩), .int .i64 n] w fun e w' => e = .returned (.string (valB s (k + n) (valN s k n))) ∧ RrPos w' b s (k + n + valN s k n) ∧ Only b w w' := by
  have H := Lib.hid h
  clear h
  go_enter Tryd.func49, Tryd.ntmps49
  go_wp2_with fail
  refine (rnumber_pos b s k n h1 h7 _ H.out).mono ?_
  rintro e w1 ⟨rfl, hr, hb⟩
  have Hr := Lib.hid hr
  have Hb := Lib.hid hb
  clear hr hb
  go_wp2_with fail
  refine (rbytes_pos b s _ _ _ Hr.out).mono ?_
  rintro e w2 ⟨rfl, hr, hb⟩
  have Hr2 := Lib.hid hr
  have Hb2 := Lib.hid (Hb.out.trans hb)
  clear hr hb
  go_wp2
  go_ret
  exact ⟨rfl, Hr2.out, Hb2.out⟩

theorem rr_of {w w' : World} {b : Nat} {s : ByteArray} {k : Nat} (h : RrPos w b s k) (e : w'.heap[b]? = w.heap[b]?) : RrPos w' b s k := by
  obtain ⟨r, hr, hs⟩ := h
  exact ⟨r, e.trans hr, hs⟩
theorem rr_lt {w : World} {b : Nat} {s : ByteArray} {k : Nat} (h : RrPos w b s k) : b < w.heap.size := by
  obtain ⟨r, hr, _⟩ := h
  exact lt_of_block hr
theorem rr_new (s : ByteArray) (w : World) : RrPos (w.alloc (.cells #[.string s, .int .i64 0] 82 (0, 0))) w.heap.size s 0 :=
  ⟨s, by unfold posE; rw [if_pos (Nat.zero_le _)]; exact (MapKept.heap_alloc w _).1, fun _ => (ByteArray.extract_zero_size).symm⟩
theorem sizeRUb : (Tryd.prog.info? 26).map (·.size) = some 2 := by kernel_rfl

def rbodyOf (s : ByteArray) : ByteArray := s.extract 2 (s.size - 32)
def rrawU (b : ByteArray) : UbD := ⟨valN b 0 6, valB b 8 (valN b 6 2)⟩
/-- The reference's Decode's answer. -/
def rdecU (s : ByteArray) : UbD × Int :=
  if s.size < 42 then (ub0, 2) else if sha (bodyOf s) ≠ sumOf' s then (ub0, 4) else
  if posEnd (rbodyOf s) (8 + valN (rbodyOf s) 6 2) ≠ 0 ∨ (encU (rrawU (rbodyOf s))).2 ≠ 0 ∨ (encU (rrawU (rbodyOf s))).1 ≠ s then (ub0, 3) else (rrawU (rbodyOf s), 0)

set_option maxRecDepth 100000 in
theorem rdecode_cut (s : ByteArray) (w : World) (hs : s.size < 42) : Calls Tryd.prog 19 #[.string s] w fun e w' => e = .returned (.tuple #[ubV ub0, .int .i64 2]) ∧ Below w.heap.size w w' := by
  have h1 : (s.size : Int) < 42 := by omega
  clear hs
  have hb : Box (w.alloc (.cells #[.int .i64 0, .string ⟨#[]⟩] 26 (0, 0))) w.heap.size 26 #[.int .i64 0, .string ⟨#[]⟩] := Box.new w _ _
  have HBX := Lib.hid hb
  clear hb
  go_enter Tryd.func19, Tryd.ntmps19
  go_wp2
  refine bodyPost_ret (results_cell_row_tmp2 rfl _ _ w.heap.size 26 _ (0, 0) _ rfl HBX.out Tryd.underlying26 rfl sizeRUb) rfl ?_
  exact ⟨rfl, (Below.refl _ _).alloc (Nat.le_refl _) _⟩

set_option maxRecDepth 100000 in
set_option maxHeartbeats 2000000 in
theorem rdecode_long (s : ByteArray) (w : World) (hs : ¬ s.size < 42) (hs2 : s.size ≤ 900000) : Calls Tryd.prog 19 #[.string s] w fun e w' => e = .returned (.tuple #[ubV (rdecU s).1, .int .i64 (rdecU s).2]) ∧ Below w.heap.size w w' := by
  have h1 : ¬ (s.size : Int) < 42 := by omega
  have h2 : (42 : Int) ≤ s.size := by omega
  have HD : Hid (rdecU s = if sha (bodyOf s) ≠ sumOf' s then (ub0, 4) else
      if posEnd (rbodyOf s) (8 + valN (rbodyOf s) 6 2) ≠ 0 ∨ (encU (rrawU (rbodyOf s))).2 ≠ 0 ∨ (encU (rrawU (rbodyOf s))).1 ≠ s then (ub0, 3) else (rrawU (rbodyOf s), 0)) := if_neg hs
  have hw1 : IntKind.i64.wrap ((s.size : Int) - 32) = (s.size : Int) - 32 := i64_small _ (by omega) (by omega)
  have hw2 : 0 ≤ (s.size : Int) - 32 := by omega
  have hw3 : (s.size : Int) - 32 ≤ s.size := by omega
  have hw4 : ((s.size : Int) - 32).toNat = s.size - 32 := by omega
  have hw5 : 2 ≤ (s.size : Int) - 32 := by omega
  have hw6 : (32 : Int) ≤ s.size := by omega
  have hw7 : (34 : Int) ≤ s.size := by omega
  have hb0 : (bodyOf s).size ≤ 900000 := by unfold bodyOf; rw [ByteArray.size_extract]; omega
  have HBB : Hid (bodyOf s = s.extract 0 (s.size - 32)) := rfl
  have HRB0 : Hid (rbodyOf s = s.extract 2 (s.size - 32)) := rfl
  have HSS : Hid (sumOf' s = s.extract (s.size - 32) s.size) := rfl
  have HB0 := Lib.hid hb0
  have hrb0 : (rbodyOf s).size ≤ 900000 := by unfold rbodyOf; rw [ByteArray.size_extract]; omega
  have HRBZ := Lib.hid hrb0
  have hbx : Box (w.alloc (.cells #[.int .i64 0, .string ⟨#[]⟩] 26 (0, 0))) w.heap.size 26 #[.int .i64 0, .string ⟨#[]⟩] := Box.new w _ _
  have HBX := Lib.hid hbx
  have HX : Hid (Below w.heap.size w (w.alloc (.cells #[.int .i64 0, .string ⟨#[]⟩] 26 (0, 0)))) := (Below.refl _ _).alloc (Nat.le_refl _) _
  clear hs hs2 hbx hb0 hrb0
  go_enter Tryd.func19, Tryd.ntmps19
  go_wp2_with fail
  generalize World.alloc _ _ = wx at *
  refine wp_region_sched (fun _ => True) 7 [(0, false), (1, false), (2, false), (4, false), (5, false), (6, false), (3, true)] (by kernel_rfl) (by kernel_rfl) trivial ?_
  simp only [List.drop_succ_cons, List.drop_zero]
  iterate 6 (apply wpSch_step rfl; (intro W hS K hK; clear hS; go_simp; exact hK _ rfl))
  refine wpSch_make rfl (fun K' hK => ?_)
  go_simp
  rw [← HBB.out]
  refine (rof_any (bodyOf s) _ HB0.out).mono ?_
  rintro e w2 ⟨rfl, hb⟩
  have HX1 : Hid (Below w.heap.size w wx.drew) := HX.out.drew
  have HBX1 : Hid (Box wx.drew w.heap.size 26 #[.int .i64 0, .string ⟨#[]⟩]) := HBX.out
  have H2 := Lib.hid (HX1.out.trans (hb.mono HX1.out.size))
  have B2 := Lib.hid (HBX1.out.keep hb HBX1.out.lt)
  refine hK _ _ (fun _ => True) (fun _ h => h) trivial ?_
  clear hK K' hb HX HBX HX1 HBX1
  rw [← HSS.out]
  refine wpSch_nil ?_
  generalize hsh : sha (bodyOf s) = sh at *
  generalize hdg : sumOf' s = dg at *
  have HY := Lib.hid (And.intro hsh hdg)
  clear hsh hdg
  by_cases hc : sh = dg
  · have HD2 : Hid (rdecU s = if posEnd (rbodyOf s) (8 + valN (rbodyOf s) 6 2) ≠ 0 ∨ (encU (rrawU (rbodyOf s))).2 ≠ 0 ∨ (encU (rrawU (rbodyOf s))).1 ≠ s then (ub0, 3) else (rrawU (rbodyOf s), 0)) := by
      have := HD.out
      rw [if_neg (fun h => h hc)] at this
      exact this
    subst hc
    clear HD
    have hN : RrPos ((w2.alloc (.cells #[.string (rbodyOf s), .int .i64 0] 82 (0, 0))).alloc (.cells #[.int .i64 0, .string ⟨#[]⟩] 26 (0, 0))) w2.heap.size (rbodyOf s) 0 ∧
        Box ((w2.alloc (.cells #[.string (rbodyOf s), .int .i64 0] 82 (0, 0))).alloc (.cells #[.int .i64 0, .string ⟨#[]⟩] 26 (0, 0))) (w2.heap.size + 1) 26 #[.int .i64 0, .string ⟨#[]⟩] ∧
        Box ((w2.alloc (.cells #[.string (rbodyOf s), .int .i64 0] 82 (0, 0))).alloc (.cells #[.int .i64 0, .string ⟨#[]⟩] 26 (0, 0))) w.heap.size 26 #[.int .i64 0, .string ⟨#[]⟩] ∧
        Below w.heap.size w ((w2.alloc (.cells #[.string (rbodyOf s), .int .i64 0] 82 (0, 0))).alloc (.cells #[.int .i64 0, .string ⟨#[]⟩] 26 (0, 0))) := by
      have hn1 := rr_new (rbodyOf s) w2
      have hb1 : Below w2.heap.size w2 (w2.alloc (.cells #[.string (rbodyOf s), .int .i64 0] 82 (0, 0))) := (Below.refl _ _).alloc (Nat.le_refl _) _
      have hb2 := (Below.refl _ (w2.alloc (.cells #[.string (rbodyOf s), .int .i64 0] 82 (0, 0)))).alloc (Nat.le_refl _) (.cells #[.int .i64 0, .string ⟨#[]⟩] 26 (0, 0))
      have hx := Box.new (w2.alloc (.cells #[.string (rbodyOf s), .int .i64 0] 82 (0, 0))) 26 #[.int .i64 0, .string ⟨#[]⟩]
      rw [size_alloc] at hx
      have hd := B2.out.keep hb1 B2.out.lt
      exact ⟨rr_of hn1 (hb2.block _ (rr_lt hn1)), hx, hd.keep hb2 hd.lt, (H2.out.trans (hb1.mono H2.out.size)).trans (hb2.mono (Nat.le_trans H2.out.size hb1.size))⟩
    have LT : Hid (w.heap.size < w2.heap.size) := B2.out.lt
    have HN := Lib.hid hN
    clear hN H2 B2
    go_wp2_with fail
    rw [← HRB0.out]
    generalize hwz : World.alloc (World.alloc _ _) _ = wz at *
    obtain ⟨hr, hu, hd, hbl⟩ := HN.out
    have R3 := Lib.hid hr
    have U3 := Lib.hid hu
    have D3 := Lib.hid hd
    have H3 := Lib.hid hbl
    clear hr hu hd hbl HN hwz
    generalize hR : w2.heap.size = R at *
    clear hR
    generalize hbo : rbodyOf s = bo at *
    have HBO := Lib.hid hbo
    clear hbo HRB0
    refine (rnumber_pos R bo 0 6 (by decide) (by decide) _ R3.out).mono ?_
    rintro e w3 ⟨rfl, hr, hb⟩
    have R4 := Lib.hid hr
    have U4 := Lib.hid (hb.box (by omega) U3.out)
    have D4 := Lib.hid (hb.box (Nat.ne_of_lt LT.out) D3.out)
    have H4 := Lib.hid (H3.out.trans (hb.below' (Nat.le_of_lt LT.out) H3.out.size))
    clear hr hb R3 U3 D3 H3
    have u0 : w3.cell? ⟨R + 1, 0, none⟩ = some (.int .i64 0) := U4.out.cell 0 _ rfl
    have v0 := U4.out.free 0
    generalize hrt : valN bo 0 6 = rt at *
    have HRT := Lib.hid hrt
    clear hrt
    go_wp2_with fail
    clear u0 v0
    have ho := Only.set (R + 1) 0 w3 (.int .i64 rt)
    have R5 := Lib.hid (rr_of R4.out (ho.block R (rr_lt R4.out) (fun e => by injection e with e; omega)))
    have U5 : Hid (Box _ (R + 1) 26 #[.int .i64 rt, .string ⟨#[]⟩]) := U4.out.set 0 (.int .i64 rt)
    have D5 := Lib.hid (ho.box (by have := LT.out; omega) D4.out)
    have H5 := Lib.hid (H4.out.trans (ho.below' (by have := LT.out; omega) H4.out.size))
    clear ho R4 U4 D4 H4
    generalize World.setCell _ _ _ = w4 at *
    refine (rtext_pos R bo 6 2 (by decide) (by decide) _ R5.out).mono ?_
    rintro e w5 ⟨rfl, hr, hb⟩
    have R6 : Hid (RrPos w5 R bo (8 + valN bo 6 2)) := hr
    have U6 := Lib.hid (hb.box (by omega) U5.out)
    have D6 := Lib.hid (hb.box (Nat.ne_of_lt LT.out) D5.out)
    have H6 := Lib.hid (H5.out.trans (hb.below' (Nat.le_of_lt LT.out) H5.out.size))
    clear hr hb R5 U5 D5 H5
    have u1 : w5.cell? ⟨R + 1, 1, none⟩ = some (.string ⟨#[]⟩) := U6.out.cell 1 _ rfl
    have v1 := U6.out.free 1
    rw [show valB bo (6 + 2) (valN bo 6 2) = valB bo 8 (valN bo 6 2) from rfl]
    generalize hrl : valB bo 8 (valN bo 6 2) = rl at *
    have HRL := Lib.hid hrl
    clear hrl
    have ho := Only.set (R + 1) 1 w5 (.string rl)
    have R7 := Lib.hid (rr_of R6.out (ho.block R (rr_lt R6.out) (fun e => by injection e with e; omega)))
    have hU7 : Box _ (R + 1) 26 #[.int .i64 rt, .string rl] := U6.out.set 1 (.string rl)
    have D7 := Lib.hid (ho.box (by have := LT.out; omega) D6.out)
    have H7 := Lib.hid (H6.out.trans (ho.below' (by have := LT.out; omega) H6.out.size))
    have u0' : (w5.setCell ⟨R + 1, 1, none⟩ (.string rl)).cell? ⟨R + 1, 0, none⟩ = some (.int .i64 rt) := hU7.cell 0 _ rfl
    have u1' : (w5.setCell ⟨R + 1, 1, none⟩ (.string rl)).cell? ⟨R + 1, 1, none⟩ = some (.string rl) := hU7.cell 1 _ rfl
    have U7 := Lib.hid hU7
    clear ho R6 U6 D6 H6 hU7
    go_wp2_with fail
    clear u0' u1' u1 v1
    generalize World.setCell _ _ _ = w6 at *
    refine (rencode_any ⟨rt, rl⟩ _ ?_).mono ?_
    · have : rl.size ≤ 900000 := by
        rw [← HRL.out]; unfold valB; split
        · rw [ByteArray.size_extract]; have := HRBZ.out; omega
        · exact Nat.zero_le _
      show rl.size ≤ _
      omega
    rintro e w7 ⟨rfl, hb⟩
    have R8 := Lib.hid (rr_of R7.out (hb.block R (rr_lt R7.out)))
    have U8 := Lib.hid (U7.out.keep hb U7.out.lt)
    have D8 := Lib.hid (D7.out.keep hb D7.out.lt)
    have H8 := Lib.hid (H7.out.trans (hb.mono H7.out.size))
    clear hb R7 U7 D7 H7
    have HRW : Hid (rrawU bo = ⟨rt, rl⟩) := by show rrawU bo = _; unfold rrawU; rw [HRT.out, HRL.out]
    have HD3 := HD2.out
    rw [HRW.out] at HD3
    have HD4 := Lib.hid HD3
    clear HD3 HD2
    generalize hen : encU ⟨rt, rl⟩ = en at *
    have HEN := Lib.hid hen
    clear hen
    obtain ⟨t, ec⟩ := en
    simp only at HD4
    by_cases hp : posEnd bo (8 + valN bo 6 2) = 0
    · by_cases he : ec = 0
      · by_cases ht : t = s
        · have HQ : Hid (rdecU s = (⟨rt, rl⟩, 0)) := by
            have := HD4.out
            rw [if_neg (by intro h; rcases h with h | h | h; exact h hp; exact h he; exact h ht)] at this
            exact this
          have HPP := Lib.hid hp
          clear HD4 hp
          subst he
          subst ht
          go_wp2_with fail
          refine (rend_pos R bo (8 + valN bo 6 2) _ R8.out).mono ?_
          rintro e w8 ⟨rfl, rfl⟩
          rw [HPP.out]
          have u0 : w7.cell? ⟨R + 1, 0, none⟩ = some (.int .i64 rt) := U8.out.cell 0 _ rfl
          have u1 : w7.cell? ⟨R + 1, 1, none⟩ = some (.string rl) := U8.out.cell 1 _ rfl
          have f0 := D8.out.free 0
          have f1 := D8.out.free 1
          have k0 : w7.cell? ⟨w.heap.size, 0, none⟩ = some (.int .i64 0) := D8.out.cell 0 _ rfl
          have k1 : w7.cell? ⟨w.heap.size, 1, none⟩ = some (.string ⟨#[]⟩) := D8.out.cell 1 _ rfl
          have HR : Hid (Box ((w7.setCell ⟨w.heap.size, 0, none⟩ (.int .i64 rt)).setCell ⟨w.heap.size, 1, none⟩ (.string rl)) w.heap.size 26 #[.int .i64 rt, .string rl]) := (D8.out.set 0 _).set 1 _
          have HRB : Hid (Below w.heap.size w ((w7.setCell ⟨w.heap.size, 0, none⟩ (.int .i64 rt)).setCell ⟨w.heap.size, 1, none⟩ (.string rl))) := (H8.out.setCell (p := ⟨w.heap.size, 0, none⟩) (Nat.le_refl _) _).setCell (p := ⟨w.heap.size, 1, none⟩) (Nat.le_refl _) _
          go_wp2
          refine bodyPost_ret (results_cell_row_tmp2 rfl _ _ w.heap.size 26 _ (0, 0) _ rfl HR.out Tryd.underlying26 rfl sizeRUb) rfl ?_
          exact ⟨by rw [HQ.out]; rfl, HRB.out⟩
        · have HQ : Hid (rdecU s = (ub0, 3)) := by
            have := HD4.out
            rw [if_pos (.inr (.inr ht))] at this
            exact this
          have HPP := Lib.hid hp
          have hnf : (t.toList == s.toList) = false := str_neq ht
          clear HD4 hp ht
          subst he
          go_wp2_with fail
          refine (rend_pos R bo (8 + valN bo 6 2) _ R8.out).mono ?_
          rintro e w8 ⟨rfl, rfl⟩
          rw [HPP.out]
          have f0 := D8.out.free 0
          have f1 := D8.out.free 1
          have k0 : w7.cell? ⟨w.heap.size, 0, none⟩ = some (.int .i64 0) := D8.out.cell 0 _ rfl
          have k1 : w7.cell? ⟨w.heap.size, 1, none⟩ = some (.string ⟨#[]⟩) := D8.out.cell 1 _ rfl
          have HR : Hid (Box ((w7.setCell ⟨w.heap.size, 0, none⟩ (.int .i64 0)).setCell ⟨w.heap.size, 1, none⟩ (.string ⟨#[]⟩)) w.heap.size 26 #[.int .i64 0, .string ⟨#[]⟩]) := (D8.out.set 0 _).set 1 _
          have HRB : Hid (Below w.heap.size w ((w7.setCell ⟨w.heap.size, 0, none⟩ (.int .i64 0)).setCell ⟨w.heap.size, 1, none⟩ (.string ⟨#[]⟩))) := (H8.out.setCell (p := ⟨w.heap.size, 0, none⟩) (Nat.le_refl _) _).setCell (p := ⟨w.heap.size, 1, none⟩) (Nat.le_refl _) _
          go_wp2
          refine bodyPost_ret (results_cell_row_tmp2 rfl _ _ w.heap.size 26 _ (0, 0) _ rfl HR.out Tryd.underlying26 rfl sizeRUb) rfl ?_
          exact ⟨by rw [HQ.out]; rfl, HRB.out⟩
      · have HQ : Hid (rdecU s = (ub0, 3)) := by
          have := HD4.out
          rw [if_pos (.inr (.inl he))] at this
          exact this
        have HPP := Lib.hid hp
        have hnf : (ec != 0) = true := by simpa using he
        clear HD4 hp he
        go_wp2_with fail
        refine (rend_pos R bo (8 + valN bo 6 2) _ R8.out).mono ?_
        rintro e w8 ⟨rfl, rfl⟩
        rw [HPP.out]
        have f0 := D8.out.free 0
        have f1 := D8.out.free 1
        have k0 : w7.cell? ⟨w.heap.size, 0, none⟩ = some (.int .i64 0) := D8.out.cell 0 _ rfl
        have k1 : w7.cell? ⟨w.heap.size, 1, none⟩ = some (.string ⟨#[]⟩) := D8.out.cell 1 _ rfl
        have HR : Hid (Box ((w7.setCell ⟨w.heap.size, 0, none⟩ (.int .i64 0)).setCell ⟨w.heap.size, 1, none⟩ (.string ⟨#[]⟩)) w.heap.size 26 #[.int .i64 0, .string ⟨#[]⟩]) := (D8.out.set 0 _).set 1 _
        have HRB : Hid (Below w.heap.size w ((w7.setCell ⟨w.heap.size, 0, none⟩ (.int .i64 0)).setCell ⟨w.heap.size, 1, none⟩ (.string ⟨#[]⟩))) := (H8.out.setCell (p := ⟨w.heap.size, 0, none⟩) (Nat.le_refl _) _).setCell (p := ⟨w.heap.size, 1, none⟩) (Nat.le_refl _) _
        go_wp2
        refine bodyPost_ret (results_cell_row_tmp2 rfl _ _ w.heap.size 26 _ (0, 0) _ rfl HR.out Tryd.underlying26 rfl sizeRUb) rfl ?_
        exact ⟨by rw [HQ.out]; rfl, HRB.out⟩
    · have HQ : Hid (rdecU s = (ub0, 3)) := by
        have := HD4.out
        rw [if_pos (.inl hp)] at this
        exact this
      have hnf : (posEnd bo (8 + valN bo 6 2) != 0) = true := by simpa using hp
      clear HD4 hp
      go_wp2_with fail
      refine (rend_pos R bo (8 + valN bo 6 2) _ R8.out).mono ?_
      rintro e w8 ⟨rfl, rfl⟩
      generalize posEnd bo (8 + valN bo 6 2) = pe at *
      have f0 := D8.out.free 0
      have f1 := D8.out.free 1
      have k0 : w7.cell? ⟨w.heap.size, 0, none⟩ = some (.int .i64 0) := D8.out.cell 0 _ rfl
      have k1 : w7.cell? ⟨w.heap.size, 1, none⟩ = some (.string ⟨#[]⟩) := D8.out.cell 1 _ rfl
      have HR : Hid (Box ((w7.setCell ⟨w.heap.size, 0, none⟩ (.int .i64 0)).setCell ⟨w.heap.size, 1, none⟩ (.string ⟨#[]⟩)) w.heap.size 26 #[.int .i64 0, .string ⟨#[]⟩]) := (D8.out.set 0 _).set 1 _
      have HRB : Hid (Below w.heap.size w ((w7.setCell ⟨w.heap.size, 0, none⟩ (.int .i64 0)).setCell ⟨w.heap.size, 1, none⟩ (.string ⟨#[]⟩))) := (H8.out.setCell (p := ⟨w.heap.size, 0, none⟩) (Nat.le_refl _) _).setCell (p := ⟨w.heap.size, 1, none⟩) (Nat.le_refl _) _
      go_wp2
      refine bodyPost_ret (results_cell_row_tmp2 rfl _ _ w.heap.size 26 _ (0, 0) _ rfl HR.out Tryd.underlying26 rfl sizeRUb) rfl ?_
      exact ⟨by rw [HQ.out]; rfl, HRB.out⟩
  · have hnf : (sh.toList == dg.toList) = false := str_neq hc
    have HD2 : Hid (rdecU s = (ub0, 4)) := by
      have := HD.out
      rw [if_pos (by simpa using hc)] at this
      exact this
    have f0 := B2.out.free 0
    have f1 := B2.out.free 1
    have k0 : w2.cell? ⟨w.heap.size, 0, none⟩ = some (.int .i64 0) := B2.out.cell 0 _ rfl
    have k1 : w2.cell? ⟨w.heap.size, 1, none⟩ = some (.string ⟨#[]⟩) := B2.out.cell 1 _ rfl
    have HR : Hid (Box ((w2.setCell ⟨w.heap.size, 0, none⟩ (.int .i64 0)).setCell ⟨w.heap.size, 1, none⟩ (.string ⟨#[]⟩)) w.heap.size 26 #[.int .i64 0, .string ⟨#[]⟩]) := (B2.out.set 0 _).set 1 _
    have HRB : Hid (Below w.heap.size w ((w2.setCell ⟨w.heap.size, 0, none⟩ (.int .i64 0)).setCell ⟨w.heap.size, 1, none⟩ (.string ⟨#[]⟩))) := (H2.out.setCell (p := ⟨w.heap.size, 0, none⟩) (Nat.le_refl _) _).setCell (p := ⟨w.heap.size, 1, none⟩) (Nat.le_refl _) _
    clear hc HD
    go_wp2
    refine bodyPost_ret (results_cell_row_tmp2 rfl _ _ w.heap.size 26 _ (0, 0) _ rfl HR.out Tryd.underlying26 rfl sizeRUb) rfl ?_
    exact ⟨by rw [HD2.out]; rfl, HRB.out⟩

theorem rdecode_any (s : ByteArray) (w : World) (hs2 : s.size ≤ 900000) : Calls Tryd.prog 19 #[.string s] w fun e w' => e = .returned (.tuple #[ubV (rdecU s).1, .int .i64 (rdecU s).2]) ∧ Below w.heap.size w w' := by
  by_cases h : s.size < 42
  · rw [show rdecU s = (ub0, 2) from if_pos h]
    exact rdecode_cut s w h
  · exact rdecode_long s w h hs2
end Go.Proofs.YtkapbkkbkfmidaaDoor
