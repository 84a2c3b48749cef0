/-
  The contract of the reference's Decode.
-/
import Derived.Test.YtbdnkmkagglmhaaPtrDec
import Derived.Test.YtbdnkmkagglmhaaRefPos
import Derived.Test.YtbdnkmkagglmhaaPtrRefC
namespace Go.Proofs.Ytbdnkmkagglmhaa
open Go.RowKit Go.WideShapes

theorem RrPos.of {w w' : World} {b : Nat} {s : ByteArray} {k : Nat} (h : RrPos w b s k) (e : w'.heap[b]? = w.heap[b]?) : RrPos w' b s k := by
  obtain ⟨r, hr, hs⟩ := h
  exact ⟨r, by unfold RrAt; rw [e]; exact hr, hs⟩
theorem RrPos.lt {w : World} {b : Nat} {s : ByteArray} {k : Nat} (h : RrPos w b s k) : b < w.heap.size := by
  obtain ⟨r, hr, _⟩ := h
  exact lt_of_block hr
theorem RrPos.keep {w w' : World} {b n : Nat} {s : ByteArray} {k : Nat} (h : RrPos w b s k) (hb : Below n w w') (hn : b < n) : RrPos w' b s k := h.of (hb.block b hn)
theorem RrPos.err {w : World} {b : Nat} {s : ByteArray} {k : Nat} (h : RrPos w b s k) : w.cell? ⟨b, 1, none⟩ = some (.int .i64 (posE s k)) := by
  obtain ⟨r, hr, _⟩ := h
  exact hr.cells.2.1

/-- What the reference's Decode holds. -/
structure ReT (w0 : World) (D R P : Nat) (s : ByteArray) (pos : Nat) (cs : Array Value) (v : Value) (l : List (Int × Int)) (w : World) : Prop where
  box : Box w P 59 cs
  row : Prs w (P + 1) v l
  rd : RrPos w R s pos
  res : Box w D 59 #[.slice none 0 0, .int .i64 0, .int .i64 0, .string ⟨#[]⟩]
  bel : Below w0.heap.size w0 w
  hP : R < P
  hD : D < R
  hw : w0.heap.size ≤ D
section
variable {w0 w w' : World} {D R P : Nat} {s : ByteArray} {pos pos' : Nat} {cs : Array Value} {v : Value} {l : List (Int × Int)}
theorem ReT.call (h : ReT w0 D R P s pos cs v l w) (hb : Only R w w') (hr : RrPos w' R s pos') : ReT w0 D R P s pos' cs v l w' :=
  ⟨hb.box (by have := h.hP; omega) h.box, hb.row (fun e => by have := h.row.own_block _ e; have := h.hP; omega) h.row, hr, hb.box (by have := h.hD; omega) h.res, h.bel.trans (hb.below' (by have := h.hD; have := h.hw; omega) h.bel.size), h.hP, h.hD, h.hw⟩
theorem ReT.put (h : ReT w0 D R P s pos cs v l w) (j : Nat) (u : Value) : ReT w0 D R P s pos (cs.setIfInBounds j u) v l (w.setCell ⟨P, j, none⟩ u) := by
  have hb : Only P w (w.setCell ⟨P, j, none⟩ u) := Only.set P j w u
  exact ⟨h.box.set j u, hb.row (fun e => by have := h.row.own_block _ e; omega) h.row, h.rd.of (heap_setCell_other _ _ _ _ (by have := h.hP; simp only; omega)), hb.box (by have := h.hP; have := h.hD; omega) h.res, h.bel.trans (hb.below' (by have := h.hP; have := h.hD; have := h.hw; omega) h.bel.size), h.hP, h.hD, h.hw⟩
/-- A block that is none of these has changed, or was made. -/
theorem ReT.keep (h : ReT w0 D R P s pos cs v l w) (hb : Below w.heap.size w w') : ReT w0 D R P s pos cs v l w' :=
  ⟨h.box.keep hb h.box.lt, h.row.keep hb, h.rd.keep hb h.rd.lt, h.res.keep hb h.res.lt, h.bel.trans (hb.mono h.bel.size), h.hP, h.hD, h.hw⟩
theorem ReT.only {b : Nat} (h : ReT w0 D R P s pos cs v l w) (hb : Only b w w') (hbP : P < b) (hv : v.ownBlock ≠ some b) : ReT w0 D R P s pos cs v l w' :=
  ⟨hb.box (by omega) h.box, hb.row hv h.row, h.rd.of (hb.block R h.rd.lt (fun e => by injection e with e; have := h.hP; omega)), hb.box (by have := h.hP; have := h.hD; omega) h.res,
    h.bel.trans (hb.below' (by have := h.hP; have := h.hD; have := h.hw; omega) h.bel.size), h.hP, h.hD, h.hw⟩
theorem ReT.next {w5 : World} {o : Obj} {c5 n : Nat} {a5 : Option Addr} {l' : List (Int × Int)} (h : ReT w0 D R P s pos #[v, .int .i64 0, .int .i64 0, .string ⟨#[]⟩] v l w) (g5 : (w.alloc o).grownBy w5 v.ownBlock)
    (p5 : Prs w5 (P + 1) (.slice a5 n c5) l') : ReT w0 D R P s pos #[.slice a5 n c5, .int .i64 0, .int .i64 0, .string ⟨#[]⟩] (.slice a5 n c5) l' (w5.setCell ⟨P, 0, none⟩ (.slice a5 n c5)) := by
  have hv : ∀ j, j ≤ P → some j ≠ v.ownBlock := fun j hj e => by have := h.row.own_block _ e.symm; omega
  have hA := h.keep ((Below.refl _ _).alloc (Nat.le_refl _) o)
  have x5 : Box w5 P 59 #[v, .int .i64 0, .int .i64 0, .string ⟨#[]⟩] := hA.box.of (g5.block P hA.box.lt (hv P (Nat.le_refl _)))
  have hbel : Below w0.heap.size (w.alloc o) w5 := (Below.refl _ _).grown g5 hA.bel.size (fun j hj => by have := h.row.own_block _ hj; have := h.hP; have := h.hD; have := h.hw; omega)
  have hR : RrPos w5 R s pos := hA.rd.of (g5.block R hA.rd.lt (hv R (by have := h.hP; omega)))
  have hD5 : Box w5 D 59 _ := hA.res.of (g5.block D hA.res.lt (hv D (by have := h.hP; have := h.hD; omega)))
  have hb : Only P w5 (w5.setCell ⟨P, 0, none⟩ (.slice a5 n c5)) := Only.set P 0 w5 _
  exact ⟨x5.set 0 _, hb.row (fun e => by have := p5.own_block _ e; omega) p5, hR.of (heap_setCell_other _ _ _ _ (by have := h.hP; simp only; omega)), hb.box (by have := h.hP; have := h.hD; omega) hD5,
    (hA.bel.trans hbel).trans (hb.below' (by have := h.hP; have := h.hD; have := h.hw; omega) (hA.bel.trans hbel).size), h.hP, h.hD, h.hw⟩
theorem ReT.ret (h : ReT w0 D R P s pos cs v l w) (x0 x1 x2 x3 : Value) :
    Box ((((w.setCell ⟨D, 0, none⟩ x0).setCell ⟨D, 1, none⟩ x1).setCell ⟨D, 2, none⟩ x2).setCell ⟨D, 3, none⟩ x3) D 59 #[x0, x1, x2, x3] ∧
    Only D w ((((w.setCell ⟨D, 0, none⟩ x0).setCell ⟨D, 1, none⟩ x1).setCell ⟨D, 2, none⟩ x2).setCell ⟨D, 3, none⟩ x3) := retBox h.res x0 x1 x2 x3
end

theorem newR (s : ByteArray) (w : World) : RrPos (w.alloc (.cells #[.string s, .int .i64 0] 96 (0, 0))) w.heap.size s 0 :=
  ⟨s, by unfold posE; rw [if_pos (Nat.zero_le _)]; exact (MapKept.heap_alloc w _).1, fun _ => (ByteArray.extract_zero_size).symm⟩

set_option maxRecDepth 100000 in
set_option maxHeartbeats 2000000 in
theorem rdecode_some (s : ByteArray) (w : World) (hs : s.size ≤ 140737488351232) (h0 : ¬ s.size = 0) (hc : 1 ≤ (valN s 0 1 : Int) ∧ (valN s 0 1 : Int) ≤ 2) : Calls Try.prog 40 #[.string s] w fun e w' =>
    ∃ a cap, e = .returned (.tuple #[ptrV a cap (decP s).1, .int .i64 (decP s).2]) ∧ SlP w' a (decP s).1.locs ∧ Below w.heap.size w w' := by
  obtain ⟨c, hcc⟩ : ∃ c, c = valN s 0 1 := ⟨_, rfl⟩
  rw [← hcc] at hc
  obtain ⟨hc1, hc2⟩ := hc
  have HCC := Lib.hid hcc
  have HE0 : Hid (posE s (0 + 1) = 0) := if_pos (by omega)
  have HRD := Lib.hid ((newR s (w.alloc (.cells #[.slice none 0 0, .int .i64 0, .int .i64 0, .string ⟨#[]⟩] 59 (0, 0)))))
  clear hcc
  go_enter Try.func40, Try.ntmps40
  go_wp2_with fail
  generalize hwx : World.alloc _ _ = wx
  have hx : Box wx w.heap.size 59 #[.slice none 0 0, .int .i64 0, .int .i64 0, .string ⟨#[]⟩] ∧ Below w.heap.size w wx := by
    rw [← hwx]
    exact ⟨(Box.new w _ _).alloc _, ((Below.refl _ _).alloc (Nat.le_refl _) _).alloc (by rw [size_alloc]; omega) _⟩
  rw [hwx, size_alloc] at HRD
  have HD := Lib.hid hx.1
  have HB := Lib.hid hx.2
  clear hwx hx
  refine (rnumber_pos (w.heap.size + 1) s 0 1 (by decide) (by decide) _ HRD.out).mono ?_
  rintro e w2 ⟨rfl, hr, hb⟩
  rw [← HCC.out]
  have HD2 := Lib.hid (hb.box (by omega) HD.out)
  have HB2 := Lib.hid (HB.out.trans (hb.below' (by omega) HB.out.size))
  have HR2 := Lib.hid hr
  have he1 := hr.err
  rw [HE0.out] at he1
  clear hr hb HD HB HRD
  have T0 : Hid (ReT w w.heap.size (w.heap.size + 1) w2.heap.size s 1 #[.slice none 0 0, .int .i64 0, .int .i64 0, .string ⟨#[]⟩] (.slice none 0 0) [] (w2.alloc (.cells #[.slice none 0 0, .int .i64 0, .int .i64 0, .string ⟨#[]⟩] 59 (0, 0)))) := by
    have hb : Below w2.heap.size w2 (w2.alloc (.cells #[.slice none 0 0, .int .i64 0, .int .i64 0, .string ⟨#[]⟩] 59 (0, 0))) := (Below.refl _ _).alloc (Nat.le_refl _) _
    exact ⟨Box.new _ _ _, Prs.nil _ _, HR2.out.keep hb HR2.out.lt, HD2.out.keep hb HD2.out.lt, HB2.out.trans (hb.mono HB2.out.size), HR2.out.lt, Nat.lt_succ_self _, Nat.le_refl _⟩
  clear HD2 HB2 HR2
  go_wp2_with fail
  generalize hwx : World.alloc _ _ = wx
  rw [hwx] at T0
  clear hwx he1
  generalize w2.heap.size = P at *
  go_loopw [7] (fun i wr => ∃ k : Nat, k ≤ c ∧ i = .int .i64 k ∧ Hid (∃ v, ReT w w.heap.size (w.heap.size + 1) P s (1 + 3 * k) #[v, .int .i64 0, .int .i64 0, .string ⟨#[]⟩] v ((List.range k).map (locAt s)) wr)) (fun i _ => c - (intOf i).toNat)
  case atStart => exact ⟨0, Nat.zero_le _, rfl, ⟨_, T0.out⟩⟩
  case round =>
    clear T0
    obtain ⟨k, hk, rfl, HI⟩ := hrel
    obtain ⟨v, HI⟩ := HI.out
    by_cases hlt : k < c
    · have HH := Lib.hid HI
      clear HI
      go_wp2_with fail
      have hLP : Hid (P < wr.heap.size) := HH.out.box.lt
      have hvL : Hid (v.ownBlock ≠ some wr.heap.size) := fun e => by have := ownsRow_lt HH.out.row _ e; omega
      have hRL : Hid (wr.heap.size ≠ w.heap.size + 1) := by have := HH.out.rd.lt; show _ ≠ _; omega
      have BL : Hid (Box (wr.alloc (.cells #[.int .i64 0, .int .i64 0] 29 (0, 0))) wr.heap.size 29 #[.int .i64 0, .int .i64 0]) := Box.new _ _ _
      have TL := Lib.hid (HH.out.keep ((Below.refl _ _).alloc (Nat.le_refl _) (.cells #[.int .i64 0, .int .i64 0] 29 (0, 0))))
      generalize hwy : wr.alloc _ = wy
      rw [hwy] at BL TL
      clear hwy HH
      generalize wr.heap.size = L at *
      refine (rnumber_pos (w.heap.size + 1) s (1 + 3 * k) 1 (by decide) (by decide) _ (by exact TL.out.rd)).mono ?_
      rintro e u1 ⟨rfl, hr, hb⟩
      rw [show 1 + 3 * k + 1 = 2 + 3 * k by omega] at hr
      have T1 := Lib.hid (TL.out.call hb hr)
      have B1 := Lib.hid (hb.box hRL.out BL.out)
      have hf0 := B1.out.free 0
      have hc0 : u1.cell? ⟨L, 0, none⟩ = some (.int .i64 0) := B1.out.cell 0 _ rfl
      clear hr hb TL BL
      go_wp2_with fail
      generalize hwy : u1.setCell _ _ = wy
      have T2 := Lib.hid (T1.out.only (Only.set L 0 u1 (.int .i64 (valN s (1 + 3 * k) 1 : Nat))) hLP.out hvL.out)
      have B2 := Lib.hid (B1.out.set 0 (.int .i64 (valN s (1 + 3 * k) 1 : Nat)))
      rw [hwy] at T2 B2
      clear hwy hf0 hc0 T1 B1
      refine (rnumber_pos (w.heap.size + 1) s (2 + 3 * k) 2 (by decide) (by decide) _ (by exact T2.out.rd)).mono ?_
      rintro e u2 ⟨rfl, hr, hb⟩
      rw [show 2 + 3 * k + 2 = 1 + 3 * (k + 1) by omega] at hr
      have T3 := Lib.hid (T2.out.call hb hr)
      have B3 := Lib.hid (hb.box hRL.out B2.out)
      have hf1 := B3.out.free 1
      have hc1 : u2.cell? ⟨L, 1, none⟩ = some (.int .i64 0) := B3.out.cell 1 _ rfl
      have T4 := Lib.hid (T3.out.only (Only.set L 1 u2 (.int .i64 (valN s (2 + 3 * k) 2 : Nat))) hLP.out hvL.out)
      have B4 := Lib.hid (B3.out.set 1 (.int .i64 (valN s (2 + 3 * k) 2 : Nat)))
      have kP : (u2.setCell ⟨L, 1, none⟩ (.int .i64 (valN s (2 + 3 * k) 2 : Nat))).cell? ⟨P, 0, none⟩ = some v := T4.out.box.cell 0 _ rfl
      have kL0 : (u2.setCell ⟨L, 1, none⟩ (.int .i64 (valN s (2 + 3 * k) 2 : Nat))).cell? ⟨L, 0, none⟩ = some (.int .i64 (valN s (1 + 3 * k) 1 : Nat)) := B4.out.cell 0 _ rfl
      have kL1 : (u2.setCell ⟨L, 1, none⟩ (.int .i64 (valN s (2 + 3 * k) 2 : Nat))).cell? ⟨L, 1, none⟩ = some (.int .i64 (valN s (2 + 3 * k) 2 : Nat)) := B4.out.cell 1 _ rfl
      have HZ5 : Hid (u2.heap.size = (u2.setCell ⟨L, 1, none⟩ (.int .i64 (valN s (2 + 3 * k) 2 : Nat))).heap.size) := (Array.size_modify ..).symm
      clear hr hb T2 B2 T3 B3
      go_wp2_with (at_builtin; refine wp_prs_push _ rfl _ _ rfl (P + 1) v _ rfl (by exact T4.out.row.alloc _) ⟨u2.heap.size, 0, none⟩ 1 (((valN s (1 + 3 * k) 1 : Nat) : Int), ((valN s (2 + 3 * k) 2 : Nat) : Int)) rfl (by intro j u hj; rw [add_plain, Nat.zero_add, HZ5.out]; exact boxed0 _ _ _ _ j u (by rw [List.getElem?_toArray]; exact hj)) (by simp; omega) (by rw [size_alloc]; have := T4.out.box.lt; omega) ?_)
      intro v5 w5 hp5 hg5
      rw [← locs_snoc] at hp5
      obtain ⟨a5, c5, e5, hs5⟩ := hp5.view
      have hlen5 : ((List.range (k + 1)).map (locAt s)).length = k + 1 := by simp
      rw [hlen5] at e5
      clear hs5
      subst e5
      have TN := Lib.hid (T4.out.next hg5 hp5)
      have hx5 := (T4.out.box.alloc _).of (hg5.block P (T4.out.box.alloc _).lt (fun e => by have := T4.out.row.own_block _ e.symm; omega))
      have hc5 : w5.cell? ⟨P, 0, none⟩ = some v := hx5.cell 0 _ rfl
      have hf5 : w5.frozen? ⟨P, 0, none⟩ = false := hx5.free 0
      clear hx5 hp5 hg5 hlen5 kP kL0 kL1 hf1 hc1 T4 B4
      go_wp2
      go_roundw
      case rel => exact ⟨k + 1, by omega, by go_num, ⟨_, TN.out⟩⟩
      case measure => simp [intOf]; omega
    · have hkc : k = c := by omega
      subst hkc
      clear hlt hk
      obtain ⟨av, cv, rfl, hsv⟩ := HI.row.view
      clear hsv
      have T0 : Hid (ReT w w.heap.size (w.heap.size + 1) P s (1 + 3 * k) #[.slice av ((List.range k).map (locAt s)).length cv, .int .i64 0, .int .i64 0, .string ⟨#[]⟩] (.slice av ((List.range k).map (locAt s)).length cv) ((List.range k).map (locAt s)) wr) :=
        HI
      clear HI
      go_wp2_with fail
      refine (rnumber_pos (w.heap.size + 1) s (1 + 3 * k) 2 (by decide) (by decide) _ (by exact T0.out.rd)).mono ?_
      rintro e w3 ⟨rfl, hr, hb⟩
      rw [show 1 + 3 * k + 2 = 3 + 3 * k by omega] at hr
      have T1 := Lib.hid (T0.out.call hb hr)
      have hf := T1.out.box.free 1
      have hc1 : w3.cell? ⟨P, 1, none⟩ = some (.int .i64 0) := T1.out.box.cell 1 _ rfl
      clear hb hr T0
      go_wp2_with fail
      generalize hwx : w3.setCell _ _ = wx
      have T2 := Lib.hid (T1.out.put 1 (.int .i64 (valN s (1 + 3 * k) 2 : Nat)))
      rw [hwx] at T2
      clear hwx hf hc1 T1
      refine (rnumber_pos (w.heap.size + 1) s (3 + 3 * k) 6 (by decide) (by decide) _ (by exact T2.out.rd)).mono ?_
      rintro e w4 ⟨rfl, hr, hb⟩
      rw [show 3 + 3 * k + 6 = 9 + 3 * k by omega] at hr
      have T3 := Lib.hid (T2.out.call hb hr)
      have hf := T3.out.box.free 2
      have hc2 : w4.cell? ⟨P, 2, none⟩ = some (.int .i64 0) := T3.out.box.cell 2 _ rfl
      clear hb hr T2
      go_wp2_with fail
      generalize hwx : w4.setCell _ _ = wy
      have T4 := Lib.hid (T3.out.put 2 (.int .i64 (valN s (3 + 3 * k) 6 : Nat)))
      rw [hwx] at T4
      clear hwx hf hc2 T3
      refine (rbytes_pos (w.heap.size + 1) s (9 + 3 * k) 32 _ (by exact T4.out.rd)).mono ?_
      rintro e w5 ⟨rfl, hr, hb⟩
      rw [show 9 + 3 * k + 32 = 41 + 3 * k by omega] at hr
      have T5 := Lib.hid (T4.out.call hb hr)
      have hf := T5.out.box.free 3
      have hc3 : w5.cell? ⟨P, 3, none⟩ = some (.string ⟨#[]⟩) := T5.out.box.cell 3 _ rfl
      clear hb hr T4
      go_wp2_with fail
      generalize hwx : w5.setCell _ _ = wz
      have T6 := Lib.hid (T5.out.put 3 (.string (valB s (9 + 3 * k) 32)))
      rw [hwx] at T6
      clear hwx hf hc3 T5
      refine (rend_pos (w.heap.size + 1) s (41 + 3 * k) _ (by exact T6.out.rd)).mono ?_
      rintro e w' ⟨rfl, rfl⟩
      have hD0 := T6.out.res.free 0
      have hD1 := T6.out.res.free 1
      have hD2 := T6.out.res.free 2
      have hD3 := T6.out.res.free 3
      have hE0 : wz.cell? ⟨w.heap.size, 0, none⟩ = some (.slice none 0 0) := T6.out.res.cell 0 _ rfl
      have hE1 : wz.cell? ⟨w.heap.size, 1, none⟩ = some (.int .i64 0) := T6.out.res.cell 1 _ rfl
      have hE2 : wz.cell? ⟨w.heap.size, 2, none⟩ = some (.int .i64 0) := T6.out.res.cell 2 _ rfl
      have hE3 : wz.cell? ⟨w.heap.size, 3, none⟩ = some (.string ⟨#[]⟩) := T6.out.res.cell 3 _ rfl
      have hVV : Hid (valN s 0 1 = k) := HCC.out.symm
      have hN12 : Hid (¬ (valN s 0 1 < 1 ∨ 2 < valN s 0 1)) := by show ¬ _; rw [hVV.out]; omega
      by_cases he : posEnd s (41 + 3 * k) = 0
      · have hq : (posEnd s (41 + 3 * k) != 0) = false := by simpa using he
        have hSlP : SlP wz av (rawP s k).locs := by
          obtain ⟨a', c', e', h'⟩ := T6.out.row.view
          injection e' with e1 e2 e3
          subst e1
          exact h'
        have hlk : (rawP s k).locs.length = k := by simp [rawP]
        have HS := Lib.hid hSlP
        have HPV : Hid (ptrV av cv (rawP s k) = .agg #[.slice av k cv, .int .i64 (valN s (1 + 3 * k) 2 : Nat), .int .i64 (valN s (3 + 3 * k) 6 : Nat), .string (valB s (9 + 3 * k) 32)]) := by
          show _ = _
          unfold ptrV
          rw [hlk]; rfl
        have hchk := rcheck_any av cv (rawP s k) wz hSlP (by rw [hlk]; omega)
        rw [HPV.out] at hchk
        have HCK := Lib.hid hchk
        have HLK := Lib.hid hlk
        have hk0 : wz.cell? ⟨P, 0, none⟩ = some (.slice av k cv) := by have := T6.out.box.cell 0 _ rfl; rw [this]; simp
        have hk1 : wz.cell? ⟨P, 1, none⟩ = some (.int .i64 (valN s (1 + 3 * k) 2 : Nat)) := T6.out.box.cell 1 _ rfl
        have hk2 : wz.cell? ⟨P, 2, none⟩ = some (.int .i64 (valN s (3 + 3 * k) 6 : Nat)) := T6.out.box.cell 2 _ rfl
        have hk3 : wz.cell? ⟨P, 3, none⟩ = some (.string (valB s (9 + 3 * k) 32)) := T6.out.box.cell 3 _ rfl
        clear hchk hSlP hlk
        go_wp2_with fail
        refine HCK.out.mono ?_
        rintro e wc ⟨rfl, hb⟩
        have T7 := Lib.hid (T6.out.call (w' := wc) (pos' := 41 + 3 * k) (Only.of hb (Nat.le_refl _)) (T6.out.rd.keep hb T6.out.rd.lt))
        have HS7 := Lib.hid (HS.out.keep hb)
        have hd0 := T7.out.res.free 0
        have hd1 := T7.out.res.free 1
        have hd2 := T7.out.res.free 2
        have hd3 := T7.out.res.free 3
        have he0 : wc.cell? ⟨w.heap.size, 0, none⟩ = some (.slice none 0 0) := T7.out.res.cell 0 _ rfl
        have he1 : wc.cell? ⟨w.heap.size, 1, none⟩ = some (.int .i64 0) := T7.out.res.cell 1 _ rfl
        have he2 : wc.cell? ⟨w.heap.size, 2, none⟩ = some (.int .i64 0) := T7.out.res.cell 2 _ rfl
        have he3 : wc.cell? ⟨w.heap.size, 3, none⟩ = some (.string ⟨#[]⟩) := T7.out.res.cell 3 _ rfl
        clear hb hk0 hk1 hk2 hk3 hD0 hD1 hD2 hD3 hE0 hE1 hE2 hE3
        by_cases hbad : badP (rawP s k)
        · have HE : Hid (decP s = (nilP, 3)) := by
            show _ = _
            unfold decP
            rw [if_neg h0, if_neg hN12.out, hVV.out, if_neg (by simpa using he), if_pos hbad]
          rw [show chkP (rawP s k) = 1 from if_pos hbad]
          have HR := Lib.hid (T7.out.ret (.slice none 0 0) (.int .i64 0) (.int .i64 0) (.string ⟨#[]⟩))
          go_wp2
          refine bodyPost_ret (results_cell_row_tmp rfl _ _ w.heap.size 59 _ (0, 0) _ rfl HR.out.1 Try.underlying59 rfl sizePtr) rfl ?_
          exact ⟨none, 0, by rw [HE.out]; rfl, by rw [HE.out]; exact SlP.nil, T7.out.bel.trans (HR.out.2.below' (Nat.le_refl _) T7.out.bel.size)⟩
        · have HE : Hid (decP s = (rawP s k, 0)) := by
            show _ = _
            unfold decP
            rw [if_neg h0, if_neg hN12.out, hVV.out, if_neg (by simpa using he), if_neg hbad]
          rw [show chkP (rawP s k) = 0 from if_neg hbad]
          have hk0 : wc.cell? ⟨P, 0, none⟩ = some (.slice av k cv) := by have := T7.out.box.cell 0 _ rfl; rw [this]; simp
          have hk1 : wc.cell? ⟨P, 1, none⟩ = some (.int .i64 (valN s (1 + 3 * k) 2 : Nat)) := T7.out.box.cell 1 _ rfl
          have hk2 : wc.cell? ⟨P, 2, none⟩ = some (.int .i64 (valN s (3 + 3 * k) 6 : Nat)) := T7.out.box.cell 2 _ rfl
          have hk3 : wc.cell? ⟨P, 3, none⟩ = some (.string (valB s (9 + 3 * k) 32)) := T7.out.box.cell 3 _ rfl
          have HR := Lib.hid (T7.out.ret (.slice av k cv) (.int .i64 (valN s (1 + 3 * k) 2 : Nat)) (.int .i64 (valN s (3 + 3 * k) 6 : Nat)) (.string (valB s (9 + 3 * k) 32)))
          go_wp2
          refine bodyPost_ret (results_cell_row_tmp rfl _ _ w.heap.size 59 _ (0, 0) _ rfl HR.out.1 Try.underlying59 rfl sizePtr) rfl ?_
          refine ⟨av, cv, by rw [HE.out, HPV.out]; rfl, ?_, T7.out.bel.trans (HR.out.2.below' (Nat.le_refl _) T7.out.bel.size)⟩
          rw [HE.out]
          intro hne
          obtain ⟨b, off, e1, hl1, hc1⟩ := HS7.out hne
          refine ⟨b, off, e1, Nat.lt_of_lt_of_le hl1 HR.out.2.size, fun i x hx => ?_⟩
          have hbD : b ≠ w.heap.size := by
            have := T7.out.row.own_block b (by rw [e1]; rfl)
            have := T7.out.hP
            omega
          have hblk := HR.out.2.block b hl1 (fun e => hbD (by injection e))
          exact ⟨(World.cell?_of_block (a := ⟨b, _, none⟩) hblk).trans (hc1 i x hx).1, (World.cell?_of_block (a := ⟨b, _, none⟩) hblk).trans (hc1 i x hx).2⟩
      · have hq : (posEnd s (41 + 3 * k) != 0) = true := by simpa using he
        have HE : Hid (decP s = (nilP, posEnd s (41 + 3 * k))) := by
          show _ = _
          unfold decP
          rw [if_neg h0, if_neg hN12.out, hVV.out, if_pos he]
        have HR := Lib.hid (T6.out.ret (.slice none 0 0) (.int .i64 0) (.int .i64 0) (.string ⟨#[]⟩))
        go_wp2
        refine bodyPost_ret (results_cell_row_tmp rfl _ _ w.heap.size 59 _ (0, 0) _ rfl HR.out.1 Try.underlying59 rfl sizePtr) rfl ?_
        exact ⟨none, 0, by rw [HE.out]; rfl, by rw [HE.out]; exact SlP.nil, T6.out.bel.trans (HR.out.2.below' (Nat.le_refl _) T6.out.bel.size)⟩

set_option maxRecDepth 100000 in
theorem rdecode_nil (w : World) : Calls Try.prog 40 #[.string ⟨#[]⟩] w fun e w' =>
    ∃ a cap, e = .returned (.tuple #[ptrV a cap (decP ⟨#[]⟩).1, .int .i64 (decP ⟨#[]⟩).2]) ∧ SlP w' a (decP ⟨#[]⟩).1.locs ∧ Below w.heap.size w w' := by
  have HE : Hid (decP ⟨#[]⟩ = (nilP, 2)) := by
    show _ = _
    unfold decP
    rw [if_pos (by rfl)]
  have HP : Hid (posE ⟨#[]⟩ (0 + 1) = 2) := by show _ = _; rfl
  have HV : Hid (valN ⟨#[]⟩ 0 1 = 0) := by show _ = _; rfl
  have HRD := Lib.hid ((newR ⟨#[]⟩ (w.alloc (.cells #[.slice none 0 0, .int .i64 0, .int .i64 0, .string ⟨#[]⟩] 59 (0, 0)))))
  go_enter Try.func40, Try.ntmps40
  go_wp2_with fail
  generalize hwx : World.alloc _ _ = wx
  have hx : Box wx w.heap.size 59 #[.slice none 0 0, .int .i64 0, .int .i64 0, .string ⟨#[]⟩] ∧ Below w.heap.size w wx := by
    rw [← hwx]
    exact ⟨(Box.new w _ _).alloc _, ((Below.refl _ _).alloc (Nat.le_refl _) _).alloc (by rw [size_alloc]; omega) _⟩
  rw [hwx, size_alloc] at HRD
  have HD := Lib.hid hx.1
  have HB := Lib.hid hx.2
  clear hwx hx
  refine (rnumber_pos (w.heap.size + 1) ⟨#[]⟩ 0 1 (by decide) (by decide) _ HRD.out).mono ?_
  rintro e w2 ⟨rfl, hr, hb⟩
  rw [HV.out]
  have HD2 := Lib.hid (hb.box (by omega) HD.out)
  have HB2 := Lib.hid (HB.out.trans (hb.below' (by omega) HB.out.size))
  have he1 := hr.err
  clear hr hb HD HB HRD
  have hD0 := HD2.out.free 0
  have hD1 := HD2.out.free 1
  have hD2 := HD2.out.free 2
  have hD3 := HD2.out.free 3
  have hE0 : w2.cell? ⟨w.heap.size, 0, none⟩ = some (.slice none 0 0) := HD2.out.cell 0 _ rfl
  have hE1 : w2.cell? ⟨w.heap.size, 1, none⟩ = some (.int .i64 0) := HD2.out.cell 1 _ rfl
  have hE2 : w2.cell? ⟨w.heap.size, 2, none⟩ = some (.int .i64 0) := HD2.out.cell 2 _ rfl
  have hE3 : w2.cell? ⟨w.heap.size, 3, none⟩ = some (.string ⟨#[]⟩) := HD2.out.cell 3 _ rfl
  rw [HP.out] at he1
  have HR := Lib.hid (retBox (w := w2.drew) HD2.out (.slice none 0 0) (.int .i64 0) (.int .i64 0) (.string ⟨#[]⟩))
  go_wp2_with fail
  go_region
  all_goals
    go_wp2
    refine bodyPost_ret (results_cell_row_tmp rfl _ _ w.heap.size 59 _ (0, 0) _ rfl HR.out.1 Try.underlying59 rfl sizePtr) rfl ?_
    exact ⟨none, 0, by rw [HE.out]; rfl, by rw [HE.out]; exact SlP.nil, HB2.out.drew.trans (HR.out.2.below' (Nat.le_refl _) HB2.out.size)⟩

set_option maxRecDepth 100000 in
theorem rdecode_bad (s : ByteArray) (w : World) (h0 : ¬ s.size = 0) (hc : ¬ (1 ≤ (valN s 0 1 : Int) ∧ (valN s 0 1 : Int) ≤ 2)) : Calls Try.prog 40 #[.string s] w fun e w' =>
    ∃ a cap, e = .returned (.tuple #[ptrV a cap (decP s).1, .int .i64 (decP s).2]) ∧ SlP w' a (decP s).1.locs ∧ Below w.heap.size w w' := by
  have HE : Hid (decP s = (nilP, 3)) := by
    show _ = _
    unfold decP
    rw [if_neg h0, if_pos (by omega)]
  have HP : Hid (posE s (0 + 1) = 0) := if_pos (by omega)
  obtain ⟨c, hcc⟩ : ∃ c, c = valN s 0 1 := ⟨_, rfl⟩
  rw [← hcc] at hc
  have HCC := Lib.hid hcc
  have hc' : c < 1 ∨ (1 ≤ c ∧ 2 < c) := by omega
  clear hcc hc
  have HRD := Lib.hid ((newR s (w.alloc (.cells #[.slice none 0 0, .int .i64 0, .int .i64 0, .string ⟨#[]⟩] 59 (0, 0)))))
  go_enter Try.func40, Try.ntmps40
  go_wp2_with fail
  generalize hwx : World.alloc _ _ = wx
  have hx : Box wx w.heap.size 59 #[.slice none 0 0, .int .i64 0, .int .i64 0, .string ⟨#[]⟩] ∧ Below w.heap.size w wx := by
    rw [← hwx]
    exact ⟨(Box.new w _ _).alloc _, ((Below.refl _ _).alloc (Nat.le_refl _) _).alloc (by rw [size_alloc]; omega) _⟩
  rw [hwx, size_alloc] at HRD
  have HD := Lib.hid hx.1
  have HB := Lib.hid hx.2
  clear hwx hx
  refine (rnumber_pos (w.heap.size + 1) s 0 1 (by decide) (by decide) _ HRD.out).mono ?_
  rintro e w2 ⟨rfl, hr, hb⟩
  rw [← HCC.out]
  have HD2 := Lib.hid (hb.box (by omega) HD.out)
  have HB2 := Lib.hid (HB.out.trans (hb.below' (by omega) HB.out.size))
  have he1 := hr.err
  clear hr hb HD HB HRD
  have hD0 := HD2.out.free 0
  have hD1 := HD2.out.free 1
  have hD2 := HD2.out.free 2
  have hD3 := HD2.out.free 3
  have hE0 : w2.cell? ⟨w.heap.size, 0, none⟩ = some (.slice none 0 0) := HD2.out.cell 0 _ rfl
  have hE1 : w2.cell? ⟨w.heap.size, 1, none⟩ = some (.int .i64 0) := HD2.out.cell 1 _ rfl
  have hE2 : w2.cell? ⟨w.heap.size, 2, none⟩ = some (.int .i64 0) := HD2.out.cell 2 _ rfl
  have hE3 : w2.cell? ⟨w.heap.size, 3, none⟩ = some (.string ⟨#[]⟩) := HD2.out.cell 3 _ rfl
  rw [HP.out] at he1
  have HR := Lib.hid (retBox HD2.out (.slice none 0 0) (.int .i64 0) (.int .i64 0) (.string ⟨#[]⟩))
  rcases hc' with hc' | ⟨hc', hc2⟩
  all_goals
    go_wp2
    refine bodyPost_ret (results_cell_row_tmp rfl _ _ w.heap.size 59 _ (0, 0) _ rfl HR.out.1 Try.underlying59 rfl sizePtr) rfl ?_
    first
      | exact ⟨none, ⟨0, by rw [HE.out]; rfl⟩, by rw [HE.out]; exact SlP.nil, HB2.out.trans (HR.out.2.below' (Nat.le_refl _) HB2.out.size)⟩
      | exact ⟨none, 0, by rw [HE.out]; rfl, by rw [HE.out]; exact SlP.nil, HB2.out.trans (HR.out.2.below' (Nat.le_refl _) HB2.out.size)⟩

theorem rdecode_any (s : ByteArray) (w : World) (hs : s.size ≤ 140737488351232) : Calls Try.prog 40 #[.string s] w fun e w' =>
    ∃ a cap, e = .returned (.tuple #[ptrV a cap (decP s).1, .int .i64 (decP s).2]) ∧ SlP w' a (decP s).1.locs ∧ Below w.heap.size w w' := by
  by_cases h0 : s.size = 0
  · obtain rfl : s = ⟨#[]⟩ := by apply ByteArray.ext; exact Array.eq_empty_of_size_eq_zero h0
    exact rdecode_nil w
  · by_cases hc : 1 ≤ (valN s 0 1 : Int) ∧ (valN s 0 1 : Int) ≤ 2
    · exact rdecode_some s w hs h0 hc
    · exact rdecode_bad s w h0 hc
end Go.Proofs.Ytbdnkmkagglmhaa
