/-
  The contract of ptr.Decode.
-/
import Derived.Test.YtbdnkmkagglmhaaPtrCheck2
import Derived.Test.YtbdnkmkagglmhaaPos
import Derived.Test.YtbdnkmkagglmhaaOwnRows
import Derived.Deep.RegionLaw
import Derived.Laws.ResultCell
import Derived.Deep.QuietTactic
namespace Go.Proofs.Ytbdnkmkagglmhaa
open Go.RowKit Go.WideShapes

def nilP : PtrD := ⟨[], 0, 0, ⟨#[]⟩⟩
def locAt (s : ByteArray) (j : Nat) : Int × Int := (valN s (1 + 3 * j) 1, valN s (2 + 3 * j) 2)
def rawP (s : ByteArray) (c : Nat) : PtrD := ⟨(List.range c).map (locAt s), valN s (1 + 3 * c) 2, valN s (3 + 3 * c) 6, valB s (9 + 3 * c) 32⟩
/-- What Decode answers. -/
def decP (s : ByteArray) : PtrD × Int :=
  if s.size = 0 then (nilP, 2) else if valN s 0 1 < 1 ∨ 2 < valN s 0 1 then (nilP, 3) else
  if posEnd s (41 + 3 * valN s 0 1) ≠ 0 then (nilP, posEnd s (41 + 3 * valN s 0 1)) else if badP (rawP s (valN s 0 1)) then (nilP, 3) else (rawP s (valN s 0 1), 0)

theorem RdPos.keep {w w' : World} {b n : Nat} {s : ByteArray} {k : Nat} (h : RdPos w b s k) (hb : Below n w w') (hn : b < n) : RdPos w' b s k := by
  show w'.heap[b]? = _
  rw [hb.block b hn]; exact h
theorem RdPos.lt {w : World} {b : Nat} {s : ByteArray} {k : Nat} (h : RdPos w b s k) : b < w.heap.size := lt_of_block h

theorem locs_snoc (s : ByteArray) (k : Nat) : (List.range (k + 1)).map (locAt s) = (List.range k).map (locAt s) ++ [(((valN s (1 + 3 * k) 1 : Nat) : Int), ((valN s (2 + 3 * k) 2 : Nat) : Int))] := by
  rw [List.range_succ, List.map_append]; rfl

/-- What the loop holds. -/
structure DecI (w0 : World) (D R P : Nat) (s : ByteArray) (k : Nat) (v : Value) (w : World) : Prop where
  box : Box w P 59 #[v, .int .i64 0, .int .i64 0, .string ⟨#[]⟩]
  row : Prs w (P + 1) v ((List.range k).map (locAt s))
  rd : RdPos w R s (1 + 3 * k)
  res : Box w D 59 #[.slice none 0 0, .int .i64 0, .int .i64 0, .string ⟨#[]⟩]
  bel : Below w0.heap.size w0 w

theorem DecI.next {w0 wr w4 w5 : World} {D R P : Nat} {s : ByteArray} {k n c5 : Nat} {v : Value} {a5 : Option Addr} {o : Obj} (h : DecI w0 D R P s k v wr) (hP : R < P) (hD : D < R) (hw0 : w0.heap.size ≤ D)
    (h4 : Only R wr w4) (r4 : RdPos w4 R s (1 + 3 * (k + 1))) (x5 : Box w5 P 59 #[v, .int .i64 0, .int .i64 0, .string ⟨#[]⟩]) (g5 : (w4.alloc o).grownBy w5 v.ownBlock)
    (p5 : Prs w5 (P + 1) (.slice a5 n c5) ((List.range (k + 1)).map (locAt s))) : DecI w0 D R P s (k + 1) (.slice a5 n c5) (w5.setCell ⟨P, 0, none⟩ (.slice a5 n c5)) := by
  have hv : ∀ j, j ≤ P → some j ≠ v.ownBlock := fun j hj e => by have := h.row.own_block _ e.symm; omega
  have hR : R < w4.heap.size := r4.lt
  have hbel : Below w0.heap.size w4 (w5.setCell ⟨P, 0, none⟩ (.slice a5 n c5)) := by
    refine Below.setCell ?_ (by simp only; omega) _
    refine Below.grown ((Below.refl _ _).alloc (by omega) o) g5 (by rw [size_alloc]; omega) (fun j hj => ?_)
    have := h.row.own_block _ hj; omega
  have hblk : ∀ j, j ≤ R → (w5.setCell ⟨P, 0, none⟩ (.slice a5 n c5)).heap[j]? = w4.heap[j]? := fun j hj => by
    rw [heap_setCell_other _ _ _ _ (by simp only; omega), g5.block j (by rw [size_alloc]; omega) (hv j (by omega))]
    exact ((Below.refl w4.heap.size w4).alloc (Nat.le_refl _) o).block j (by omega)
  refine ⟨x5.set 0 _, (Only.set P 0 w5 _).row (fun e => ?_) p5, ?_, ?_, ?_⟩
  · have := p5.own_block _ e; omega
  · show _ = _
    rw [hblk R (Nat.le_refl _)]; exact r4
  · exact (h4.box (by omega) h.res).of (hblk D (by omega))
  · exact h.bel.trans ((h4.below' (by omega) h.bel.size).trans hbel)

theorem results_cell_row_tmp {P : Program} {fn : Func} {p u : Tmp} {ty : TypeId} (h : fn.results = #[.cell p ty, .tmp u]) (tmps : Array Value) (w : World) (g : Nat) (t : TypeId) (cs : Array Value) (fr : Nat × Nat) (d : TypeDesc)
    (hp : tmps.getD p undef = .pointer (some ⟨g, 0, none⟩)) (hg : w.heap[g]? = some (.cells cs t fr))
    (hu : P.underlying ty = some d) (hd : (match d with | .struct _ | .array _ _ => true | _ => false) = true) (hi : (P.info? ty).map (·.size) = some cs.size) :
    (results fn tmps).run P w = .ok (.tuple #[.agg cs, tmps.getD u undef]) w := by
  rw [results_cell_tmp h, hp]
  simp [asAddr, run_loadVar_row w g t ty cs fr d hg hu hd hi]

theorem sizePtr : (Try.prog.info? 59).map (·.size) = some 4 := by kernel_rfl

/-- What stands behind the loop. -/
structure DecT (w0 : World) (D R P : Nat) (s : ByteArray) (pos : Nat) (cs : Array Value) (v : Value) (l : List (Int × Int)) (w : World) : Prop where
  box : Box w P 59 cs
  row : Prs w (P + 1) v l
  rd : RdPos w R s pos
  res : Box w D 59 #[.slice none 0 0, .int .i64 0, .int .i64 0, .string ⟨#[]⟩]
  bel : Below w0.heap.size w0 w
  hP : R < P
  hD : D < R
  hw : w0.heap.size ≤ D
theorem DecT.call {w0 w w' : World} {D R P : Nat} {s : ByteArray} {pos pos' : Nat} {cs : Array Value} {v : Value} {l : List (Int × Int)} (h : DecT w0 D R P s pos cs v l w) (hb : Only R w w') (hr : RdPos w' R s pos') : DecT w0 D R P s pos' cs v l w' :=
  ⟨hb.box (by have := h.hP; omega) h.box, hb.row (fun e => by have := h.row.own_block _ e; have := h.hP; omega) h.row, hr, hb.box (by have := h.hD; omega) h.res, h.bel.trans (hb.below' (by have := h.hD; have := h.hw; omega) h.bel.size), h.hP, h.hD, h.hw⟩
theorem retBox {w : World} {D : Nat} {t : TypeId} {y0 y1 y2 y3 : Value} (h : Box w D t #[y0, y1, y2, y3]) (x0 x1 x2 x3 : Value) :
    Box ((((w.setCell ⟨D, 0, none⟩ x0).setCell ⟨D, 1, none⟩ x1).setCell ⟨D, 2, none⟩ x2).setCell ⟨D, 3, none⟩ x3) D t #[x0, x1, x2, x3] ∧
    Only D w ((((w.setCell ⟨D, 0, none⟩ x0).setCell ⟨D, 1, none⟩ x1).setCell ⟨D, 2, none⟩ x2).setCell ⟨D, 3, none⟩ x3) :=
  ⟨(((h.set 0 x0).set 1 x1).set 2 x2).set 3 x3, (((Only.set D 0 w x0).trans (Only.set D 1 _ x1)).trans (Only.set D 2 _ x2)).trans (Only.set D 3 _ x3)⟩
/-- The result's box, written whole. -/
theorem DecT.ret {w0 w : World} {D R P : Nat} {s : ByteArray} {pos : Nat} {cs : Array Value} {v : Value} {l : List (Int × Int)} (h : DecT w0 D R P s pos cs v l w) (x0 x1 x2 x3 : Value) :
    Box ((((w.setCell ⟨D, 0, none⟩ x0).setCell ⟨D, 1, none⟩ x1).setCell ⟨D, 2, none⟩ x2).setCell ⟨D, 3, none⟩ x3) D 59 #[x0, x1, x2, x3] ∧
    Only D w ((((w.setCell ⟨D, 0, none⟩ x0).setCell ⟨D, 1, none⟩ x1).setCell ⟨D, 2, none⟩ x2).setCell ⟨D, 3, none⟩ x3) :=
  ⟨(((h.res.set 0 x0).set 1 x1).set 2 x2).set 3 x3, (((Only.set D 0 w x0).trans (Only.set D 1 _ x1)).trans (Only.set D 2 _ x2)).trans (Only.set D 3 _ x3)⟩
theorem DecT.put {w0 w : World} {D R P : Nat} {s : ByteArray} {pos : Nat} {cs : Array Value} {v : Value} {l : List (Int × Int)} (h : DecT w0 D R P s pos cs v l w) (j : Nat) (u : Value) : DecT w0 D R P s pos (cs.setIfInBounds j u) v l (w.setCell ⟨P, j, none⟩ u) := by
  have hb : Only P w (w.setCell ⟨P, j, none⟩ u) := Only.set P j w u
  refine ⟨h.box.set j u, hb.row (fun e => by have := h.row.own_block _ e; omega) h.row, ?_, hb.box (by have := h.hP; have := h.hD; omega) h.res, h.bel.trans (hb.below' (by have := h.hP; have := h.hD; have := h.hw; omega) h.bel.size), h.hP, h.hD, h.hw⟩
  show _ = _
  rw [heap_setCell_other _ _ _ _ (by have := h.hP; simp only; omega)]
  exact h.rd

set_option maxHeartbeats 1000000 in
theorem decode_some (s : ByteArray) (w : World) (hs : s.size ≤ 140737488351232) (h0 : ¬ s.size = 0) (hc : 1 ≤ (valN s 0 1 : Int) ∧ (valN s 0 1 : Int) ≤ 2) : Calls Try.prog 39 #[.string s] w fun e w' =>
    ∃ a cap, e = .returned (.tuple #[ptrV a cap (decP s).1, .int .i64 (decP s).2]) ∧ SlP w' a (decP s).1.locs ∧ Below w.heap.size w w' := by
  obtain ⟨hn1, hn2⟩ := str_some s (by omega)
  have HC : Hid (decide (1 ≤ (valN s 0 1 : Int) ∧ (valN s 0 1 : Int) ≤ 2) = true) := decide_eq_true hc
  obtain ⟨c, hcc⟩ : ∃ c, c = valN s 0 1 := ⟨_, rfl⟩
  rw [← hcc] at HC hc
  have HCC := Lib.hid hcc
  clear hcc
  go_enter Try.func39, Try.ntmps39
  go_wp2_with fail
  refine (read_pos s _).mono ?_
  rintro e w1 ⟨rfl, hr, hb⟩
  have HD := Lib.hid ((Box.new w 59 #[.slice none 0 0, .int .i64 0, .int .i64 0, .string ⟨#[]⟩]).keep hb (by rw [size_alloc]; omega))
  have HB := Lib.hid (((Below.refl w.heap.size w).alloc (Nat.le_refl _) _).trans (hb.mono (by rw [size_alloc]; omega)))
  rw [size_alloc] at hr
  have HR := Lib.hid hr
  clear hr hb
  go_wp2_with fail
  refine (number_pos (w.heap.size + 1) s 0 1 (by decide) (by decide) _ HR.out).mono ?_
  rintro e w2 ⟨rfl, hr, hb⟩
  rw [← HCC.out]
  have HD2 := Lib.hid (hb.box (by omega) HD.out)
  have HB2 := Lib.hid (HB.out.trans (hb.below' (by omega) HB.out.size))
  have HR2 := Lib.hid hr
  clear hr hb HD HB HR
  go_wp2_with fail
  refine (some_any c _).mono ?_
  rintro e w' ⟨rfl, rfl⟩
  rw [HC.out]
  have HI : Hid (DecI w w.heap.size (w.heap.size + 1) w2.heap.size s 0 (.slice none 0 0) (w2.alloc (.cells #[.slice none 0 0, .int .i64 0, .int .i64 0, .string ⟨#[]⟩] 59 (0, 0)))) := by
    have hb : Below w2.heap.size w2 (w2.alloc (.cells #[.slice none 0 0, .int .i64 0, .int .i64 0, .string ⟨#[]⟩] 59 (0, 0))) := (Below.refl _ _).alloc (Nat.le_refl _) _
    exact ⟨Box.new _ _ _, Prs.nil _ _, HR2.out.keep hb HR2.out.lt, HD2.out.keep hb HD2.out.lt, HB2.out.trans (hb.mono HB2.out.size)⟩
  have HP : Hid (w.heap.size + 1 < w2.heap.size) := HR2.out.lt
  clear HD2 HB2 HR2
  go_wp2_with fail
  generalize hwx : w2.alloc _ = wx
  rw [hwx] at HI
  clear hwx
  generalize w2.heap.size = P at *
  go_loopw [21] (fun i wr => ∃ k : Nat, k ≤ c ∧ i = .int .i64 k ∧ Hid (∃ v, DecI w w.heap.size (w.heap.size + 1) P s k v wr)) (fun i _ => c - (intOf i).toNat)
  case atStart => exact ⟨0, Nat.zero_le _, rfl, ⟨_, HI.out⟩⟩
  case round =>
    clear HI
    obtain ⟨k, hk, rfl, HI⟩ := hrel
    obtain ⟨v, HI⟩ := HI.out
    have hPP : w.heap.size + 1 < P := HP.out
    by_cases hlt : k < c
    · have hk0 : wr.cell? ⟨P, 0, none⟩ = some v := HI.box.cell 0 _ rfl
      have HH := Lib.hid HI
      clear HI
      go_wp2_with fail
      have hk00 : wr.drew.cell? ⟨P, 0, none⟩ = some v := hk0
      go_region_law
        (first
          | (go_simp; go_at_call_of 68 (Value.int .i64 1); refine (number_pos (w.heap.size + 1) s (1 + 3 * k) 1 (by decide) (by decide) _ (by exact HH.out.rd)).mono ?_; rintro e w3 ⟨rfl, hr, hb⟩; have hx := hb.box (by omega) (show Box wr.drew P _ _ from HH.out.box); have hk0 : w3.cell? ⟨P, 0, none⟩ = some v := hx.cell 0 _ rfl; have H3 : Hid (Only (w.heap.size + 1) wr w3) := ⟨hb.os, hb.tape, hb.output, hb.size, hb.block⟩; have R3 : Hid (RdPos w3 (w.heap.size + 1) s (2 + 3 * k)) := (by rw [show 1 + 3 * k + 1 = 2 + 3 * k by omega] at hr; exact hr); clear hb hr hx)
          | (go_simp; go_at_call_of 68 (Value.int .i64 2); refine (number_pos (w.heap.size + 1) s (2 + 3 * k) 2 (by decide) (by decide) _ (by exact R3.out)).mono ?_; rintro e w4 ⟨rfl, hr, hb⟩; have hx := (H3.out.trans hb).box (by omega) HH.out.box; have hk0 : w4.cell? ⟨P, 0, none⟩ = some v := hx.cell 0 _ rfl; have hkA : ∀ o : Obj, (w4.alloc o).cell? ⟨P, 0, none⟩ = some v := (fun o => (hx.alloc o).cell 0 _ rfl); have HX4 := Lib.hid hx; have HL4 : Hid (P < w4.heap.size) := hx.lt; have H4 := Lib.hid (H3.out.trans hb); have R4 := Lib.hid hr; clear hb hr hx)
          | (refine step_prs_push rfl (.tmp 24) (.tmp 30) rfl (P + 1) v _ (by simp [Act.eval, Act.put]) (by exact (H4.out.row (fun e => by have := HH.out.row.own_block _ e; omega) HH.out.row).alloc _) ⟨w4.heap.size, 0, none⟩ 1 (((valN s (1 + 3 * k) 1 : Nat) : Int), ((valN s (2 + 3 * k) 2 : Nat) : Int)) (by simp [Act.eval, Act.put]) (by intro j u hj; rw [add_plain, Nat.zero_add]; exact boxed0 w4 _ _ _ j u (by rw [List.getElem?_toArray]; exact hj)) (by simp; omega) (by rw [size_alloc]; have := HL4.out; omega) ?_; intro v5 w5 hp5 hg5; obtain ⟨a5, c5, e5, hs5⟩ := hp5.view; clear hs5; subst e5; have hx5 := (HX4.out.alloc _).of (hg5.block P (by rw [size_alloc]; have := HL4.out; omega) (fun e => by have := HH.out.row.own_block _ e.symm; omega)); have hk0 : w5.cell? ⟨P, 0, none⟩ = some v := hx5.cell 0 _ rfl; have hf5 : w5.frozen? ⟨P, 0, none⟩ = false := hx5.free 0; have HX5 := Lib.hid hx5; have P5 := Lib.hid hp5; have G5 := Lib.hid hg5; clear hp5 hg5 hx5))
      all_goals
        have HN : Hid (DecI w w.heap.size (w.heap.size + 1) P s (k + 1) (.slice a5 (k + 1) c5) (w5.setCell ⟨P, 0, none⟩ (.slice a5 (k + 1) c5))) := by
          refine HH.out.next HP.out (by omega) (Nat.le_refl _) H4.out (by have := R4.out; rwa [show 2 + 3 * k + 2 = 1 + 3 * (k + 1) by omega] at this) HX5.out G5.out ?_
          rw [locs_snoc]
          have := P5.out
          rwa [show ((List.range k).map (locAt s) ++ [(((valN s (1 + 3 * k) 1 : Nat) : Int), ((valN s (2 + 3 * k) 2 : Nat) : Int))]).length = k + 1 by simp] at this
        clear hk00 hkA hk0 hf5 HX4 HX5 P5 G5 H3 R3 H4 R4 HH
        go_wp2
        go_roundw
        case rel => exact ⟨k + 1, by omega, by go_num, ⟨_, HN.out⟩⟩
        case measure => simp [intOf]; omega
    · have hkc : k = c := by omega
      subst hkc
      clear hlt hk
      obtain ⟨av, cv, rfl, hsv⟩ := HI.row.view
      clear hsv
      have T0 : Hid (DecT w w.heap.size (w.heap.size + 1) P s (1 + 3 * k) #[.slice av ((List.range k).map (locAt s)).length cv, .int .i64 0, .int .i64 0, .string ⟨#[]⟩] (.slice av ((List.range k).map (locAt s)).length cv) ((List.range k).map (locAt s)) wr) :=
        ⟨HI.box, HI.row, HI.rd, HI.res, HI.bel, hPP, Nat.lt_succ_self _, Nat.le_refl _⟩
      clear HI hPP
      go_wp2_with fail
      refine (number_pos (w.heap.size + 1) s (1 + 3 * k) 2 (by decide) (by decide) _ (by exact T0.out.rd)).mono ?_
      rintro e w3 ⟨rfl, hr, hb⟩
      rw [show 1 + 3 * k + 2 = 3 + 3 * k by omega] at hr
      have T1 := Lib.hid (T0.out.call hb hr)
      have hf := T1.out.box.free 1
      have hc1 : w3.cell? ⟨P, 1, none⟩ = some (.int .i64 0) := T1.out.box.cell 1 _ rfl
      clear hb hr T0
      go_wp2_with fail
      generalize hwx : w3.setCell _ _ = wx
      have T2 := Lib.hid (T1.out.put 1 (.int .i64 (valN s (1 + 3 * k) 2 : Nat)))
      rw [hwx] at T2
      clear hwx hf hc1 T1
      refine (number_pos (w.heap.size + 1) s (3 + 3 * k) 6 (by decide) (by decide) _ (by exact T2.out.rd)).mono ?_
      rintro e w4 ⟨rfl, hr, hb⟩
      rw [show 3 + 3 * k + 6 = 9 + 3 * k by omega] at hr
      have T3 := Lib.hid (T2.out.call hb hr)
      have hf := T3.out.box.free 2
      have hc2 : w4.cell? ⟨P, 2, none⟩ = some (.int .i64 0) := T3.out.box.cell 2 _ rfl
      clear hb hr T2
      go_wp2_with fail
      generalize hwx : w4.setCell _ _ = wy
      have T4 := Lib.hid (T3.out.put 2 (.int .i64 (valN s (3 + 3 * k) 6 : Nat)))
      rw [hwx] at T4
      clear hwx hf hc2 T3
      refine (bytes_pos (w.heap.size + 1) s (9 + 3 * k) 32 _ (by exact T4.out.rd)).mono ?_
      rintro e w5 ⟨rfl, hr, hb⟩
      rw [show 9 + 3 * k + 32 = 41 + 3 * k by omega] at hr
      have T5 := Lib.hid (T4.out.call hb hr)
      have hf := T5.out.box.free 3
      have hc3 : w5.cell? ⟨P, 3, none⟩ = some (.string ⟨#[]⟩) := T5.out.box.cell 3 _ rfl
      clear hb hr T4
      go_wp2_with fail
      generalize hwx : w5.setCell _ _ = wz
      have T6 := Lib.hid (T5.out.put 3 (.string (valB s (9 + 3 * k) 32)))
      rw [hwx] at T6
      clear hwx hf hc3 T5
      refine (end_pos (w.heap.size + 1) s (41 + 3 * k) _ (by exact T6.out.rd)).mono ?_
      rintro e w' ⟨rfl, rfl⟩
      have hD0 := T6.out.res.free 0
      have hD1 := T6.out.res.free 1
      have hD2 := T6.out.res.free 2
      have hD3 := T6.out.res.free 3
      have hE0 : wz.cell? ⟨w.heap.size, 0, none⟩ = some (.slice none 0 0) := T6.out.res.cell 0 _ rfl
      have hE1 : wz.cell? ⟨w.heap.size, 1, none⟩ = some (.int .i64 0) := T6.out.res.cell 1 _ rfl
      have hE2 : wz.cell? ⟨w.heap.size, 2, none⟩ = some (.int .i64 0) := T6.out.res.cell 2 _ rfl
      have hE3 : wz.cell? ⟨w.heap.size, 3, none⟩ = some (.string ⟨#[]⟩) := T6.out.res.cell 3 _ rfl
      have hVV : Hid (valN s 0 1 = k) := HCC.out.symm
      have hN12 : Hid (¬ (valN s 0 1 < 1 ∨ 2 < valN s 0 1)) := by show ¬ _; rw [hVV.out]; omega
      by_cases he : posEnd s (41 + 3 * k) = 0
      · have hq : (posEnd s (41 + 3 * k) != 0) = false := by simpa using he
        have hSlP : SlP wz av (rawP s k).locs := by
          obtain ⟨a', c', e', h'⟩ := T6.out.row.view
          injection e' with e1 e2 e3
          subst e1
          exact h'
        have hlk : (rawP s k).locs.length = k := by simp [rawP]
        have HS := Lib.hid hSlP
        have HPV : Hid (ptrV av cv (rawP s k) = .agg #[.slice av k cv, .int .i64 (valN s (1 + 3 * k) 2 : Nat), .int .i64 (valN s (3 + 3 * k) 6 : Nat), .string (valB s (9 + 3 * k) 32)]) := by
          show _ = _
          unfold ptrV
          rw [hlk]; rfl
        have hchk := check_any av cv (rawP s k) wz hSlP (by rw [hlk]; omega)
        rw [HPV.out] at hchk
        have HCK := Lib.hid hchk
        have HLK := Lib.hid hlk
        have hk0 : wz.cell? ⟨P, 0, none⟩ = some (.slice av k cv) := by have := T6.out.box.cell 0 _ rfl; rw [this]; simp
        have hk1 : wz.cell? ⟨P, 1, none⟩ = some (.int .i64 (valN s (1 + 3 * k) 2 : Nat)) := T6.out.box.cell 1 _ rfl
        have hk2 : wz.cell? ⟨P, 2, none⟩ = some (.int .i64 (valN s (3 + 3 * k) 6 : Nat)) := T6.out.box.cell 2 _ rfl
        have hk3 : wz.cell? ⟨P, 3, none⟩ = some (.string (valB s (9 + 3 * k) 32)) := T6.out.box.cell 3 _ rfl
        clear hchk hSlP hlk
        go_wp2_with fail
        refine HCK.out.mono ?_
        rintro e wc ⟨rfl, hb⟩
        have T7 := Lib.hid (T6.out.call (w' := wc) (pos' := 41 + 3 * k) (Only.of hb (Nat.le_refl _)) (T6.out.rd.keep hb T6.out.rd.lt))
        have HS7 := Lib.hid (HS.out.keep hb)
        have hd0 := T7.out.res.free 0
        have hd1 := T7.out.res.free 1
        have hd2 := T7.out.res.free 2
        have hd3 := T7.out.res.free 3
        have he0 : wc.cell? ⟨w.heap.size, 0, none⟩ = some (.slice none 0 0) := T7.out.res.cell 0 _ rfl
        have he1 : wc.cell? ⟨w.heap.size, 1, none⟩ = some (.int .i64 0) := T7.out.res.cell 1 _ rfl
        have he2 : wc.cell? ⟨w.heap.size, 2, none⟩ = some (.int .i64 0) := T7.out.res.cell 2 _ rfl
        have he3 : wc.cell? ⟨w.heap.size, 3, none⟩ = some (.string ⟨#[]⟩) := T7.out.res.cell 3 _ rfl
        clear hb hk0 hk1 hk2 hk3 hD0 hD1 hD2 hD3 hE0 hE1 hE2 hE3
        by_cases hbad : badP (rawP s k)
        · have HE : Hid (decP s = (nilP, 3)) := by
            show _ = _
            unfold decP
            rw [if_neg h0, if_neg hN12.out, hVV.out, if_neg (by simpa using he), if_pos hbad]
          rw [show chkP (rawP s k) = 1 from if_pos hbad]
          have HR := Lib.hid (T7.out.ret (.slice none 0 0) (.int .i64 0) (.int .i64 0) (.string ⟨#[]⟩))
          go_wp2
          refine bodyPost_ret (results_cell_row_tmp rfl _ _ w.heap.size 59 _ (0, 0) _ rfl HR.out.1 Try.underlying59 rfl sizePtr) rfl ?_
          exact ⟨none, 0, by rw [HE.out]; rfl, by rw [HE.out]; exact SlP.nil, T7.out.bel.trans (HR.out.2.below' (Nat.le_refl _) T7.out.bel.size)⟩
        · have HE : Hid (decP s = (rawP s k, 0)) := by
            show _ = _
            unfold decP
            rw [if_neg h0, if_neg hN12.out, hVV.out, if_neg (by simpa using he), if_neg hbad]
          rw [show chkP (rawP s k) = 0 from if_neg hbad]
          have hk0 : wc.cell? ⟨P, 0, none⟩ = some (.slice av k cv) := by have := T7.out.box.cell 0 _ rfl; rw [this]; simp
          have hk1 : wc.cell? ⟨P, 1, none⟩ = some (.int .i64 (valN s (1 + 3 * k) 2 : Nat)) := T7.out.box.cell 1 _ rfl
          have hk2 : wc.cell? ⟨P, 2, none⟩ = some (.int .i64 (valN s (3 + 3 * k) 6 : Nat)) := T7.out.box.cell 2 _ rfl
          have hk3 : wc.cell? ⟨P, 3, none⟩ = some (.string (valB s (9 + 3 * k) 32)) := T7.out.box.cell 3 _ rfl
          have HR := Lib.hid (T7.out.ret (.slice av k cv) (.int .i64 (valN s (1 + 3 * k) 2 : Nat)) (.int .i64 (valN s (3 + 3 * k) 6 : Nat)) (.string (valB s (9 + 3 * k) 32)))
          go_wp2
          refine bodyPost_ret (results_cell_row_tmp rfl _ _ w.heap.size 59 _ (0, 0) _ rfl HR.out.1 Try.underlying59 rfl sizePtr) rfl ?_
          refine ⟨av, cv, by rw [HE.out, HPV.out]; rfl, ?_, T7.out.bel.trans (HR.out.2.below' (Nat.le_refl _) T7.out.bel.size)⟩
          rw [HE.out]
          intro hne
          obtain ⟨b, off, e1, hl1, hc1⟩ := HS7.out hne
          refine ⟨b, off, e1, Nat.lt_of_lt_of_le hl1 HR.out.2.size, fun i x hx => ?_⟩
          have hbD : b ≠ w.heap.size := by
            have := T7.out.row.own_block b (by rw [e1]; rfl)
            have := HP.out
            omega
          have hblk := HR.out.2.block b hl1 (fun e => hbD (by injection e))
          exact ⟨(World.cell?_of_block (a := ⟨b, _, none⟩) hblk).trans (hc1 i x hx).1, (World.cell?_of_block (a := ⟨b, _, none⟩) hblk).trans (hc1 i x hx).2⟩
      · have hq : (posEnd s (41 + 3 * k) != 0) = true := by simpa using he
        have HE : Hid (decP s = (nilP, posEnd s (41 + 3 * k))) := by
          show _ = _
          unfold decP
          rw [if_neg h0, if_neg hN12.out, hVV.out, if_pos he]
        have HR := Lib.hid (T6.out.ret (.slice none 0 0) (.int .i64 0) (.int .i64 0) (.string ⟨#[]⟩))
        go_wp2
        refine bodyPost_ret (results_cell_row_tmp rfl _ _ w.heap.size 59 _ (0, 0) _ rfl HR.out.1 Try.underlying59 rfl sizePtr) rfl ?_
        exact ⟨none, 0, by rw [HE.out]; rfl, by rw [HE.out]; exact SlP.nil, T6.out.bel.trans (HR.out.2.below' (Nat.le_refl _) T6.out.bel.size)⟩

theorem decode_bad (s : ByteArray) (w : World) (hs : s.size ≤ 140737488351232) (h0 : ¬ s.size = 0) (hc : ¬ (1 ≤ (valN s 0 1 : Int) ∧ (valN s 0 1 : Int) ≤ 2)) : Calls Try.prog 39 #[.string s] w fun e w' =>
    ∃ a cap, e = .returned (.tuple #[ptrV a cap (decP s).1, .int .i64 (decP s).2]) ∧ SlP w' a (decP s).1.locs ∧ Below w.heap.size w w' := by
  obtain ⟨hn1, hn2⟩ := str_some s (by omega)
  have HC : Hid (decide (1 ≤ (valN s 0 1 : Int) ∧ (valN s 0 1 : Int) ≤ 2) = false) := decide_eq_false hc
  have HE : Hid (decP s = (nilP, 3)) := by
    show _ = _
    unfold decP
    rw [if_neg h0, if_pos (by omega)]
  clear hc
  go_enter Try.func39, Try.ntmps39
  go_wp2_with fail
  refine (read_pos s _).mono ?_
  rintro e w1 ⟨rfl, hr, hb⟩
  have HD := Lib.hid ((Box.new w 59 #[.slice none 0 0, .int .i64 0, .int .i64 0, .string ⟨#[]⟩]).keep hb (by rw [size_alloc]; omega))
  have HB := Lib.hid (((Below.refl w.heap.size w).alloc (Nat.le_refl _) _).trans (hb.mono (by rw [size_alloc]; omega)))
  rw [size_alloc] at hr
  have HR := Lib.hid hr
  clear hr hb
  go_wp2_with fail
  refine (number_pos (w.heap.size + 1) s 0 1 (by decide) (by decide) _ HR.out).mono ?_
  rintro e w2 ⟨rfl, hr, hb⟩
  have HD2 := Lib.hid (hb.box (by omega) HD.out)
  have HB2 := Lib.hid (HB.out.trans (hb.below' (by omega) HB.out.size))
  clear hr hb HD HB HR
  have hD0 := HD2.out.free 0
  have hD1 := HD2.out.free 1
  have hD2 := HD2.out.free 2
  have hD3 := HD2.out.free 3
  have hE0 : w2.cell? ⟨w.heap.size, 0, none⟩ = some (.slice none 0 0) := HD2.out.cell 0 _ rfl
  have hE1 : w2.cell? ⟨w.heap.size, 1, none⟩ = some (.int .i64 0) := HD2.out.cell 1 _ rfl
  have hE2 : w2.cell? ⟨w.heap.size, 2, none⟩ = some (.int .i64 0) := HD2.out.cell 2 _ rfl
  have hE3 : w2.cell? ⟨w.heap.size, 3, none⟩ = some (.string ⟨#[]⟩) := HD2.out.cell 3 _ rfl
  go_wp2_with fail
  refine (some_any (valN s 0 1) _).mono ?_
  rintro e w' ⟨rfl, rfl⟩
  rw [HC.out]
  have HR := Lib.hid (retBox HD2.out (.slice none 0 0) (.int .i64 0) (.int .i64 0) (.string ⟨#[]⟩))
  go_wp2
  refine bodyPost_ret (results_cell_row_tmp rfl _ _ w.heap.size 59 _ (0, 0) _ rfl HR.out.1 Try.underlying59 rfl sizePtr) rfl ?_
  exact ⟨none, 0, by rw [HE.out]; rfl, by rw [HE.out]; exact SlP.nil, HB2.out.trans (HR.out.2.below' (Nat.le_refl _) HB2.out.size)⟩

theorem decode_nil (s : ByteArray) (w : World) (h0 : s.size = 0) : Calls Try.prog 39 #[.string s] w fun e w' =>
    ∃ a cap, e = .returned (.tuple #[ptrV a cap (decP s).1, .int .i64 (decP s).2]) ∧ SlP w' a (decP s).1.locs ∧ Below w.heap.size w w' := by
  have HE : Hid (decP s = (nilP, 2)) := by
    show _ = _
    unfold decP
    rw [if_pos h0]
  obtain rfl : s = ⟨#[]⟩ := by apply ByteArray.ext; exact Array.eq_empty_of_size_eq_zero h0
  have HV : Hid (valN ⟨#[]⟩ 0 1 = 0) := by show _ = _; rfl
  go_enter Try.func39, Try.ntmps39
  go_wp2_with fail
  refine (read_pos ⟨#[]⟩ _).mono ?_
  rintro e w1 ⟨rfl, hr, hb⟩
  have HD := Lib.hid ((Box.new w 59 #[.slice none 0 0, .int .i64 0, .int .i64 0, .string ⟨#[]⟩]).keep hb (by rw [size_alloc]; omega))
  have HB := Lib.hid (((Below.refl w.heap.size w).alloc (Nat.le_refl _) _).trans (hb.mono (by rw [size_alloc]; omega)))
  rw [size_alloc] at hr
  have HR := Lib.hid hr
  clear hr hb
  go_wp2_with fail
  refine (number_pos (w.heap.size + 1) ⟨#[]⟩ 0 1 (by decide) (by decide) _ HR.out).mono ?_
  rintro e w2 ⟨rfl, hr, hb⟩
  rw [HV.out]
  have HD2 := Lib.hid (hb.box (by omega) HD.out)
  have HB2 := Lib.hid (HB.out.trans (hb.below' (by omega) HB.out.size))
  have HR2 := Lib.hid hr
  clear hr hb HD HB HR
  have T0 : Hid (DecT w w.heap.size (w.heap.size + 1) w2.heap.size ⟨#[]⟩ 1 #[.slice none 0 0, .int .i64 0, .int .i64 0, .string ⟨#[]⟩] (.slice none 0 0) [] (w2.alloc (.cells #[.slice none 0 0, .int .i64 0, .int .i64 0, .string ⟨#[]⟩] 59 (0, 0)))) := by
    have hb : Below w2.heap.size w2 (w2.alloc (.cells #[.slice none 0 0, .int .i64 0, .int .i64 0, .string ⟨#[]⟩] 59 (0, 0))) := (Below.refl _ _).alloc (Nat.le_refl _) _
    exact ⟨Box.new _ _ _, Prs.nil _ _, HR2.out.keep hb HR2.out.lt, HD2.out.keep hb HD2.out.lt, HB2.out.trans (hb.mono HB2.out.size), HR2.out.lt, Nat.lt_succ_self _, Nat.le_refl _⟩
  clear HD2 HB2 HR2
  go_wp2_with fail
  generalize hwx : w2.alloc _ = wr
  rw [hwx] at T0
  clear hwx
  generalize w2.heap.size = P at *
  refine wp_loop_rounds 1 ?_
  rw [rounds_succ]
  go_wp2_with fail
  refine (number_pos (w.heap.size + 1) ⟨#[]⟩ 1 2 (by decide) (by decide) _ (by exact T0.out.rd)).mono ?_
  rintro e w3 ⟨rfl, hr, hb⟩
  have T1 := Lib.hid (T0.out.call hb hr)
  have hf := T1.out.box.free 1
  have hc1 : w3.cell? ⟨P, 1, none⟩ = some (.int .i64 0) := T1.out.box.cell 1 _ rfl
  clear hb hr T0
  go_wp2_with fail
  generalize hwx : w3.setCell _ _ = wx
  have T2 := Lib.hid (T1.out.put 1 (.int .i64 (valN ⟨#[]⟩ 1 2 : Nat)))
  rw [hwx] at T2
  clear hwx hf hc1 T1
  refine (number_pos (w.heap.size + 1) ⟨#[]⟩ (1 + 2) 6 (by decide) (by decide) _ (by exact T2.out.rd)).mono ?_
  rintro e w4 ⟨rfl, hr, hb⟩
  have T3 := Lib.hid (T2.out.call hb hr)
  have hf := T3.out.box.free 2
  have hc2 : w4.cell? ⟨P, 2, none⟩ = some (.int .i64 0) := T3.out.box.cell 2 _ rfl
  clear hb hr T2
  go_wp2_with fail
  generalize hwx : w4.setCell _ _ = wy
  have T4 := Lib.hid (T3.out.put 2 (.int .i64 (valN ⟨#[]⟩ (1 + 2) 6 : Nat)))
  rw [hwx] at T4
  clear hwx hf hc2 T3
  refine (bytes_pos (w.heap.size + 1) ⟨#[]⟩ (1 + 2 + 6) 32 _ (by exact T4.out.rd)).mono ?_
  rintro e w5 ⟨rfl, hr, hb⟩
  have T5 := Lib.hid (T4.out.call hb hr)
  have hf := T5.out.box.free 3
  have hc3 : w5.cell? ⟨P, 3, none⟩ = some (.string ⟨#[]⟩) := T5.out.box.cell 3 _ rfl
  clear hb hr T4
  go_wp2_with fail
  generalize hwx : w5.setCell _ _ = wz
  have T6 := Lib.hid (T5.out.put 3 (.string (valB ⟨#[]⟩ (1 + 2 + 6) 32)))
  rw [hwx] at T6
  clear hwx hf hc3 T5
  refine (end_pos (w.heap.size + 1) ⟨#[]⟩ (1 + 2 + 6 + 32) _ (by exact T6.out.rd)).mono ?_
  rintro e w' ⟨rfl, rfl⟩
  rw [show posEnd ⟨#[]⟩ (1 + 2 + 6 + 32) = 2 from by decide +kernel]
  have hD0 := T6.out.res.free 0
  have hD1 := T6.out.res.free 1
  have hD2 := T6.out.res.free 2
  have hD3 := T6.out.res.free 3
  have hE0 : wz.cell? ⟨w.heap.size, 0, none⟩ = some (.slice none 0 0) := T6.out.res.cell 0 _ rfl
  have hE1 : wz.cell? ⟨w.heap.size, 1, none⟩ = some (.int .i64 0) := T6.out.res.cell 1 _ rfl
  have hE2 : wz.cell? ⟨w.heap.size, 2, none⟩ = some (.int .i64 0) := T6.out.res.cell 2 _ rfl
  have hE3 : wz.cell? ⟨w.heap.size, 3, none⟩ = some (.string ⟨#[]⟩) := T6.out.res.cell 3 _ rfl
  have HR := Lib.hid (T6.out.ret (.slice none 0 0) (.int .i64 0) (.int .i64 0) (.string ⟨#[]⟩))
  go_wp2
  refine bodyPost_ret (results_cell_row_tmp rfl _ _ w.heap.size 59 _ (0, 0) _ rfl HR.out.1 Try.underlying59 rfl sizePtr) rfl ?_
  exact ⟨none, 0, by rw [HE.out]; rfl, by rw [HE.out]; exact SlP.nil, T6.out.bel.trans (HR.out.2.below' (Nat.le_refl _) T6.out.bel.size)⟩

theorem decode_any (s : ByteArray) (w : World) (hs : s.size ≤ 140737488351232) : Calls Try.prog 39 #[.string s] w fun e w' =>
    ∃ a cap, e = .returned (.tuple #[ptrV a cap (decP s).1, .int .i64 (decP s).2]) ∧ SlP w' a (decP s).1.locs ∧ Below w.heap.size w w' := by
  by_cases h0 : s.size = 0
  · exact decode_nil s w h0
  · by_cases hc : 1 ≤ (valN s 0 1 : Int) ∧ (valN s 0 1 : Int) ≤ 2
    · exact decode_some s w hs h0 hc
    · exact decode_bad s w hs h0 hc
end Go.Proofs.Ytbdnkmkagglmhaa
