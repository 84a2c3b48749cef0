/-
  Contracts of package uber: Decode.
-/
import Derived.Test.YtkapbkkbkfmidaaDoorUberA
namespace Go.Proofs.YtkapbkkbkfmidaaDoor
open Go.RowKit

theorem text_pos (b : Nat) (s : ByteArray) (k : Nat) (w : World) (h : RdPos w b s k) :
    Calls Tryd.prog 46 #[.pointer (some ⟨b, 0, none⟩), .int .i64 2] w fun e w' => e = .returned (.string (valB s (k + 2) (valN s k 2))) ∧ RdPos w' b s (k + 2 + valN s k 2) ∧ Below b w w' := by
  have hp := pos_num s k 2 (by decide) (by decide)
  have hq := pos_bytes s (k + 2) (valN s k 2)
  refine (text_any b _ _ 2 w h).mono fun e w' ⟨a, c, d⟩ => ⟨?_, ?_, d⟩
  · rw [a]
    unfold textR
    rw [show ((2 : Int)) = ((2 : Nat) : Int) from rfl, hp.1, hp.2.1, hq.1]
  · unfold textS textE at c
    rw [show ((2 : Int)) = ((2 : Nat) : Int) from rfl, hp.1, hp.2.1, hp.2.2, hq.2.1, hq.2.2] at c
    exact c

theorem results_cell_row_tmp2 {P : Program} {fn : Func} {p u : Tmp} {ty : TypeId} (h : fn.results = #[.cell p ty, .tmp u]) (tmps : Array Value) (w : World) (g : Nat) (t : TypeId) (cs : Array Value) (fr : Nat × Nat) (d : TypeDesc)
    (hp : tmps.getD p undef = .pointer (some ⟨g, 0, none⟩)) (hg : w.heap[g]? = some (.cells cs t fr))
    (hu : P.underlying ty = some d) (hd : (match d with | .struct _ | .array _ _ => true | _ => false) = true) (hi : (P.info? ty).map (·.size) = some cs.size) :
    (results fn tmps).run P w = .ok (.tuple #[.agg cs, tmps.getD u undef]) w := by
  rw [results_cell_tmp h, hp]
  simp [asAddr, run_loadVar_row w g t ty cs fr d hg hu hd hi]
theorem mark_list : markB.toList = [80, 70] := by rw [ByteArray.toList_eq]; rfl
theorem str_neq {s t : ByteArray} (h : ¬ s = t) : (s.toList == t.toList) = false := by
  rw [beq_eq_false_iff_ne]
  intro e
  apply h
  rw [ByteArray.toList_eq, ByteArray.toList_eq] at e
  exact ByteArray.ext (Array.toList_inj.1 e)
theorem bytes_ne_eq (a b : ByteArray) : (a.toList != b.toList) = decide (a ≠ b) := by
  by_cases h : a = b
  · subst h; simp
  · have : ¬ a.toList = b.toList := fun e => h (by
      rw [ByteArray.toList_eq, ByteArray.toList_eq] at e
      exact ByteArray.ext (Array.toList_inj.1 e))
    simp [h, this]

set_option maxRecDepth 100000 in
theorem decode_cut (s : ByteArray) (w : World) (hs : s.size < 42) : Calls Tryd.prog 18 #[.string s] w fun e w' => e = .returned (.tuple #[ubV ub0, .int .i64 2]) ∧ Below w.heap.size w w' := by
  have h1 : (s.size : Int) < 42 := by omega
  clear hs
  have hb : Box (w.alloc (.cells #[.int .i64 0, .string ⟨#[]⟩] 30 (0, 0))) w.heap.size 30 #[.int .i64 0, .string ⟨#[]⟩] := Box.new w _ _
  have HBX := Lib.hid hb
  clear hb
  go_enter Tryd.func18, Tryd.ntmps18
  go_wp2
  refine bodyPost_ret (results_cell_row_tmp2 rfl _ _ w.heap.size 30 _ (0, 0) _ rfl HBX.out Tryd.underlying30 rfl sizeUb) rfl ?_
  exact ⟨rfl, (Below.refl _ _).alloc (Nat.le_refl _) _⟩

set_option maxRecDepth 100000 in
set_option maxHeartbeats 2000000 in
theorem decode_long (s : ByteArray) (w : World) (hs : ¬ s.size < 42) (hs2 : s.size ≤ 140737488351232) (hK : Kt w) : Calls Tryd.prog 18 #[.string s] w fun e w' => e = .returned (.tuple #[ubV (decU s).1, .int .i64 (decU s).2]) ∧ Below w.heap.size w w' := by
  have HK := Lib.hid hK
  have HP := Lib.hid hK.pos
  have h1 : ¬ (s.size : Int) < 42 := by omega
  have h2 : (42 : Int) ≤ s.size := by omega
  have HD : Hid (decU s = if sha (bodyOf s) ≠ sumOf' s then (ub0, 4) else
      if valB (bodyOf s) 0 2 ≠ markB ∨ posEnd (bodyOf s) (10 + valN (bodyOf s) 8 2) ≠ 0 ∨ ¬ mayU (rawU (bodyOf s)) then (ub0, 3) else (rawU (bodyOf s), 0)) := if_neg hs
  have hw1 : IntKind.i64.wrap ((s.size : Int) - 32) = (s.size : Int) - 32 := i64_small _ (by omega) (by omega)
  have hw2 : 0 ≤ (s.size : Int) - 32 := by omega
  have hw3 : (s.size : Int) - 32 ≤ s.size := by omega
  have hw4 : ((s.size : Int) - 32).toNat = s.size - 32 := by omega
  have hb0 : (bodyOf s).size ≤ 140737488355328 := by unfold bodyOf; rw [ByteArray.size_extract]; omega
  have HBB : Hid (bodyOf s = s.extract 0 (s.size - 32)) := rfl
  have HSS : Hid (sumOf' s = s.extract (s.size - 32) s.size) := rfl
  have HB0 := Lib.hid hb0
  have hbx : Box (w.alloc (.cells #[.int .i64 0, .string ⟨#[]⟩] 30 (0, 0))) w.heap.size 30 #[.int .i64 0, .string ⟨#[]⟩] := Box.new w _ _
  have HBX := Lib.hid hbx
  have HX : Hid (Below w.heap.size w (w.alloc (.cells #[.int .i64 0, .string ⟨#[]⟩] 30 (0, 0)))) := (Below.refl _ _).alloc (Nat.le_refl _) _
  clear hK hs hs2 hbx hb0
  go_enter Tryd.func18, Tryd.ntmps18
  go_wp2_with fail
  generalize World.alloc _ _ = wx at *
  go_quiet (fail)
  clear hw1 hw2 hw3 hw4
  have HX1 := Lib.hid (show Below w.heap.size w (wx.drewN nq) from ⟨HX.out.os, HX.out.tape, HX.out.output, HX.out.size, HX.out.block⟩)
  have HBX1 : Hid (Box (wx.drewN nq) w.heap.size 30 #[.int .i64 0, .string ⟨#[]⟩]) := HBX.out
  clear HX HBX
  generalize wx.drewN nq = w1 at *
  rw [← HBB.out, ← HSS.out]
  go_wp2_with fail
  refine (of_any (bodyOf s) _ HB0.out (HK.out.below HX1.out HP.out)).mono ?_
  rintro e w2 ⟨rfl, hb⟩
  have H2 := Lib.hid (HX1.out.trans (hb.mono HX1.out.size))
  have B2 := Lib.hid (HBX1.out.keep hb HBX1.out.lt)
  clear hb HX1 HBX1
  generalize hsh : sha (bodyOf s) = sh at *
  generalize hdg : sumOf' s = dg at *
  generalize hbo : bodyOf s = bo at *
  have HY := Lib.hid (And.intro hsh (And.intro hdg hbo))
  clear hsh hdg hbo
  by_cases hc : sh = dg
  · have HD2 : Hid (decU s = if valB bo 0 2 ≠ markB ∨ posEnd bo (10 + valN bo 8 2) ≠ 0 ∨ ¬ mayU (rawU bo) then (ub0, 3) else (rawU bo, 0)) := by
      have := HD.out
      rw [if_neg (fun h => h hc)] at this
      exact this
    subst hc
    clear HD
    go_wp2_with fail
    refine (read_pos bo _).mono ?_
    rintro e w3 ⟨rfl, hr, hb⟩
    have H3 := Lib.hid (H2.out.trans (hb.mono H2.out.size))
    have B3 := Lib.hid (B2.out.keep hb B2.out.lt)
    have R3 := Lib.hid hr
    have LT : Hid (w.heap.size < w2.heap.size) := B2.out.lt
    clear hb hr H2 B2
    go_wp2_with fail
    generalize w2.heap.size = R at *
    refine (bytes_pos R bo 0 2 _ R3.out).mono ?_
    rintro e w4 ⟨rfl, hr, hb⟩
    have H4 := Lib.hid (H3.out.trans (hb.below' (Nat.le_of_lt LT.out) H3.out.size))
    have B4 := Lib.hid (hb.box (Nat.ne_of_lt LT.out) B3.out)
    have R4 := Lib.hid hr
    clear hb hr H3 B3 R3
    go_wp2_with fail
    refine (number_pos R bo 2 6 (by decide) (by decide) _ R4.out).mono ?_
    rintro e w5 ⟨rfl, hr, hb⟩
    have H5 := Lib.hid (H4.out.trans (hb.below' (Nat.le_of_lt LT.out) H4.out.size))
    have B5 := Lib.hid (hb.box (Nat.ne_of_lt LT.out) B4.out)
    have R5 := Lib.hid hr
    clear hb hr H4 B4 R4
    go_wp2_with fail
    refine (text_pos R bo 8 _ R5.out).mono ?_
    rintro e w6 ⟨rfl, hr, hb⟩
    have H6 := Lib.hid (H5.out.trans (hb.mono (Nat.le_of_lt LT.out)))
    have B6 := Lib.hid (B5.out.keep hb LT.out)
    have R6 : Hid (RdPos w6 R bo (10 + valN bo 8 2)) := hr
    have HRW : Hid (rawU bo = ⟨valN bo 2 6, valB bo 10 (valN bo 8 2)⟩) := rfl
    rw [show valB bo (8 + 2) (valN bo 8 2) = valB bo 10 (valN bo 8 2) from rfl]
    clear hb hr H5 B5 R5
    generalize hrt : valN bo 2 6 = rt at *
    generalize hrl : valB bo 10 (valN bo 8 2) = rl at *
    generalize hfr : valB bo 0 2 = fr at *
    have HZ := Lib.hid (And.intro hrt (And.intro hrl hfr))
    clear hrt hrl hfr
    by_cases hm : fr = markB
    · by_cases he : posEnd bo (10 + valN bo 8 2) = 0
      · have HE := Lib.hid he
        have HM := Lib.hid hm
        subst hm
        have em : markB.toList = [80, 70] := mark_list
        clear he
        go_wp2_with fail
        generalize hwx : World.alloc _ _ = w7
        have hb7 : Below w6.heap.size w6 w7 := by rw [← hwx]; exact (Below.refl _ _).alloc (Nat.le_refl _) _
        have BU : Hid (Box w7 w6.heap.size 30 #[.int .i64 rt, .string rl]) := by show Box _ _ _ _; rw [← hwx]; exact Box.new _ _ _
        have H7 := Lib.hid (H6.out.trans (hb7.mono H6.out.size))
        have B7 := Lib.hid (B6.out.keep hb7 B6.out.lt)
        have R7 : Hid (RdPos w7 R bo (10 + valN bo 8 2)) := (hb7.block R R6.out.lt).trans R6.out
        have LU : Hid (w.heap.size < w6.heap.size) := B6.out.lt
        generalize w6.heap.size = U at *
        clear hwx hb7 H6 B6 R6
        refine (end_pos R bo (10 + valN bo 8 2) _ R7.out).mono ?_
        rintro e w8 ⟨rfl, rfl⟩
        rw [HE.out]
        have u0 : w7.cell? ⟨U, 0, none⟩ = some (.int .i64 rt) := BU.out.cell 0 _ rfl
        have u1 : w7.cell? ⟨U, 1, none⟩ = some (.string rl) := BU.out.cell 1 _ rfl
        go_wp2_with fail
        refine (umay_any ⟨rt, rl⟩ _).mono ?_
        rintro e w9 ⟨rfl, hb⟩
        have H9 := Lib.hid (H7.out.trans (hb.mono H7.out.size))
        have B9 := Lib.hid (B7.out.keep hb B7.out.lt)
        have BU9 := Lib.hid (BU.out.keep hb BU.out.lt)
        clear hb u0 u1 H7 B7 BU
        by_cases hy : mayU (⟨rt, rl⟩ : UbD)
        · rw [show decide (mayU (⟨rt, rl⟩ : UbD)) = true from decide_eq_true hy]
          have HQ : Hid (decU s = (⟨rt, rl⟩, 0)) := by
            show _ = _
            have := HD2.out
            rw [if_neg (by rw [HRW.out]; intro h; rcases h with h | h | h; exact h rfl; exact h HE.out; exact h hy)] at this
            rw [this, HRW.out]
          have u0 : w9.cell? ⟨U, 0, none⟩ = some (.int .i64 rt) := BU9.out.cell 0 _ rfl
          have u1 : w9.cell? ⟨U, 1, none⟩ = some (.string rl) := BU9.out.cell 1 _ rfl
          have f0 := B9.out.free 0
          have f1 := B9.out.free 1
          have k0 : w9.cell? ⟨w.heap.size, 0, none⟩ = some (.int .i64 0) := B9.out.cell 0 _ rfl
          have k1 : w9.cell? ⟨w.heap.size, 1, none⟩ = some (.string ⟨#[]⟩) := B9.out.cell 1 _ rfl
          have HR : Hid (Box ((w9.setCell ⟨w.heap.size, 0, none⟩ (.int .i64 rt)).setCell ⟨w.heap.size, 1, none⟩ (.string rl)) w.heap.size 30 #[(.int .i64 rt), (.string rl)]) := (B9.out.set 0 _).set 1 _
          have HRB : Hid (Below w.heap.size w ((w9.setCell ⟨w.heap.size, 0, none⟩ (.int .i64 rt)).setCell ⟨w.heap.size, 1, none⟩ (.string rl))) := (H9.out.setCell (p := ⟨w.heap.size, 0, none⟩) (Nat.le_refl _) _).setCell (p := ⟨w.heap.size, 1, none⟩) (Nat.le_refl _) _
          clear hy
          go_wp2
          refine bodyPost_ret (results_cell_row_tmp2 rfl _ _ w.heap.size 30 _ (0, 0) _ rfl HR.out Tryd.underlying30 rfl sizeUb) rfl ?_
          exact ⟨by rw [HQ.out]; rfl, HRB.out⟩
        · rw [show decide (mayU (⟨rt, rl⟩ : UbD)) = false from decide_eq_false hy]
          have HQ : Hid (decU s = (ub0, 3)) := by
            have := HD2.out
            rw [if_pos (.inr (.inr (by rw [HRW.out]; exact hy)))] at this
            exact this
          have f0 := B9.out.free 0
          have f1 := B9.out.free 1
          have k0 : w9.cell? ⟨w.heap.size, 0, none⟩ = some (.int .i64 0) := B9.out.cell 0 _ rfl
          have k1 : w9.cell? ⟨w.heap.size, 1, none⟩ = some (.string ⟨#[]⟩) := B9.out.cell 1 _ rfl
          have HR : Hid (Box ((w9.setCell ⟨w.heap.size, 0, none⟩ (.int .i64 0)).setCell ⟨w.heap.size, 1, none⟩ (.string ⟨#[]⟩)) w.heap.size 30 #[(.int .i64 0), (.string ⟨#[]⟩)]) := (B9.out.set 0 _).set 1 _
          have HRB : Hid (Below w.heap.size w ((w9.setCell ⟨w.heap.size, 0, none⟩ (.int .i64 0)).setCell ⟨w.heap.size, 1, none⟩ (.string ⟨#[]⟩))) := (H9.out.setCell (p := ⟨w.heap.size, 0, none⟩) (Nat.le_refl _) _).setCell (p := ⟨w.heap.size, 1, none⟩) (Nat.le_refl _) _
          clear hy
          go_wp2
          refine bodyPost_ret (results_cell_row_tmp2 rfl _ _ w.heap.size 30 _ (0, 0) _ rfl HR.out Tryd.underlying30 rfl sizeUb) rfl ?_
          exact ⟨by rw [HQ.out]; rfl, HRB.out⟩
      · have hq : (posEnd bo (10 + valN bo 8 2) != 0) = true := by simpa using he
        have HQ : Hid (decU s = (ub0, 3)) := by
          have := HD2.out
          rw [if_pos (.inr (.inl he))] at this
          exact this
        subst hm
        have em : markB.toList = [80, 70] := mark_list
        clear he
        go_wp2_with fail
        generalize hwx : World.alloc _ _ = w7
        have hb7 : Below w6.heap.size w6 w7 := by rw [← hwx]; exact (Below.refl _ _).alloc (Nat.le_refl _) _
        have BU : Hid (Box w7 w6.heap.size 30 #[.int .i64 rt, .string rl]) := by show Box _ _ _ _; rw [← hwx]; exact Box.new _ _ _
        have H7 := Lib.hid (H6.out.trans (hb7.mono H6.out.size))
        have B7 := Lib.hid (B6.out.keep hb7 B6.out.lt)
        have R7 : Hid (RdPos w7 R bo (10 + valN bo 8 2)) := (hb7.block R R6.out.lt).trans R6.out
        have LU : Hid (w.heap.size < w6.heap.size) := B6.out.lt
        generalize w6.heap.size = U at *
        clear hwx hb7 H6 B6 R6
        refine (end_pos R bo (10 + valN bo 8 2) _ R7.out).mono ?_
        rintro e w8 ⟨rfl, rfl⟩
        generalize posEnd bo (10 + valN bo 8 2) = pe at *
        have f0 := B7.out.free 0
        have f1 := B7.out.free 1
        have k0 : w7.cell? ⟨w.heap.size, 0, none⟩ = some (.int .i64 0) := B7.out.cell 0 _ rfl
        have k1 : w7.cell? ⟨w.heap.size, 1, none⟩ = some (.string ⟨#[]⟩) := B7.out.cell 1 _ rfl
        have HR : Hid (Box ((w7.setCell ⟨w.heap.size, 0, none⟩ (.int .i64 0)).setCell ⟨w.heap.size, 1, none⟩ (.string ⟨#[]⟩)) w.heap.size 30 #[(.int .i64 0), (.string ⟨#[]⟩)]) := (B7.out.set 0 _).set 1 _
        have HRB : Hid (Below w.heap.size w ((w7.setCell ⟨w.heap.size, 0, none⟩ (.int .i64 0)).setCell ⟨w.heap.size, 1, none⟩ (.string ⟨#[]⟩))) := (H7.out.setCell (p := ⟨w.heap.size, 0, none⟩) (Nat.le_refl _) _).setCell (p := ⟨w.heap.size, 1, none⟩) (Nat.le_refl _) _
        go_wp2
        refine bodyPost_ret (results_cell_row_tmp2 rfl _ _ w.heap.size 30 _ (0, 0) _ rfl HR.out Tryd.underlying30 rfl sizeUb) rfl ?_
        exact ⟨by rw [HQ.out]; rfl, HRB.out⟩
    · have hq : (fr.toList == [80, 70]) = false := by
        have h9 := str_neq hm
        rw [mark_list] at h9
        exact h9
      have HQ : Hid (decU s = (ub0, 3)) := by
        have := HD2.out
        rw [if_pos (.inl hm)] at this
        exact this
      clear hm
      have hbx := fun o : Obj => (Below.refl w6.heap.size w6).alloc (Nat.le_refl _) o
      have hlt := B6.out.lt
      have a0 : ∀ o : Obj, (w6.alloc o).cell? ⟨w.heap.size, 0, none⟩ = some (.int .i64 0) := fun o => (B6.out.keep (hbx o) hlt).cell 0 _ rfl
      have b0 : ∀ o : Obj, (w6.alloc o).frozen? ⟨w.heap.size, 0, none⟩ = false := fun o => (B6.out.keep (hbx o) hlt).free 0
      have hB1 := fun (o : Obj) v => (B6.out.keep (hbx o) hlt).set 0 v
      have a1 : ∀ (o : Obj) (v : Value), ((w6.alloc o).setCell ⟨w.heap.size, 0, none⟩ v).cell? ⟨w.heap.size, 1, none⟩ = some (.string ⟨#[]⟩) := fun o v => (hB1 o v).cell 1 _ (by simp)
      have b1 : ∀ (o : Obj) (v : Value), ((w6.alloc o).setCell ⟨w.heap.size, 0, none⟩ v).frozen? ⟨w.heap.size, 1, none⟩ = false := fun o v => (hB1 o v).free 1
      have HR : Hid (∀ o, Box (((w6.alloc o).setCell ⟨w.heap.size, 0, none⟩ (.int .i64 0)).setCell ⟨w.heap.size, 1, none⟩ (.string ⟨#[]⟩)) w.heap.size 30 #[.int .i64 0, .string ⟨#[]⟩]) := fun o => ((B6.out.keep (hbx o) hlt).set 0 (.int .i64 0)).set 1 (.string ⟨#[]⟩)
      have HRB : Hid (∀ o, Below w.heap.size w (((w6.alloc o).setCell ⟨w.heap.size, 0, none⟩ (.int .i64 0)).setCell ⟨w.heap.size, 1, none⟩ (.string ⟨#[]⟩))) := fun o => ((H6.out.trans ((hbx o).mono H6.out.size)).setCell (p := ⟨w.heap.size, 0, none⟩) (Nat.le_refl _) _).setCell (p := ⟨w.heap.size, 1, none⟩) (Nat.le_refl _) _
      clear hbx hlt hB1
      go_wp2
      refine bodyPost_ret (results_cell_row_tmp2 rfl _ _ w.heap.size 30 _ (0, 0) _ rfl (HR.out _) Tryd.underlying30 rfl sizeUb) rfl ?_
      exact ⟨by rw [HQ.out]; rfl, HRB.out _⟩
  · have hnf : (sh.toList == dg.toList) = false := str_neq hc
    have HD2 : Hid (decU s = (ub0, 4)) := by
      have := HD.out
      rw [if_pos (by simpa using hc)] at this
      exact this
    have f0 := B2.out.free 0
    have f1 := B2.out.free 1
    have k0 : w2.cell? ⟨w.heap.size, 0, none⟩ = some (.int .i64 0) := B2.out.cell 0 _ rfl
    have k1 : w2.cell? ⟨w.heap.size, 1, none⟩ = some (.string ⟨#[]⟩) := B2.out.cell 1 _ rfl
    have HR : Hid (Box ((w2.setCell ⟨w.heap.size, 0, none⟩ (.int .i64 0)).setCell ⟨w.heap.size, 1, none⟩ (.string ⟨#[]⟩)) w.heap.size 30 #[.int .i64 0, .string ⟨#[]⟩]) := (B2.out.set 0 _).set 1 _
    have HRB : Hid (Below w.heap.size w ((w2.setCell ⟨w.heap.size, 0, none⟩ (.int .i64 0)).setCell ⟨w.heap.size, 1, none⟩ (.string ⟨#[]⟩))) := (H2.out.setCell (p := ⟨w.heap.size, 0, none⟩) (Nat.le_refl _) _).setCell (p := ⟨w.heap.size, 1, none⟩) (Nat.le_refl _) _
    clear hc HD
    go_wp2
    refine bodyPost_ret (results_cell_row_tmp2 rfl _ _ w.heap.size 30 _ (0, 0) _ rfl HR.out Tryd.underlying30 rfl sizeUb) rfl ?_
    exact ⟨by rw [HD2.out]; rfl, HRB.out⟩
theorem decode_any (s : ByteArray) (w : World) (hs2 : s.size ≤ 140737488351232) (hK : Kt w) : Calls Tryd.prog 18 #[.string s] w fun e w' => e = .returned (.tuple #[ubV (decU s).1, .int .i64 (decU s).2]) ∧ Below w.heap.size w w' := by
  by_cases h : s.size < 42
  · rw [show decU s = (ub0, 2) from if_pos h]
    exact decode_cut s w h
  · exact decode_long s w h hs2 hK
end Go.Proofs.YtkapbkkbkfmidaaDoor
