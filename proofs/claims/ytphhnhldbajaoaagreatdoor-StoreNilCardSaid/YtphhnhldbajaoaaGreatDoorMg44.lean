/-
  Texts put together: PtrRefD, StLv, StoreNilWalk, Door.
-/
import Derived.Test.YtphhnhldbajaoaaGreatDoorMg36
import Derived.Test.YtphhnhldbajaoaaGreatDoorMg43
import Derived.Test.YtphhnhldbajaoaaGreatDoorMg0
import Derived.Test.YtphhnhldbajaoaaGreatDoorRows
import Derived.Test.YtphhnhldbajaoaaGreatDoorMg14
import Derived.Lib.LaidTab
import Derived.LaidMore
import Derived.Stop.Joined
namespace Go.Proofs.YtphhnhldbajaoaaGreatDoor
open Go.RowKit Go.WideShapes

theorem RrPos.of {w w' : World} {b : Nat} {s : ByteArray} {k : Nat} (h : RrPos w b s k) (e : w'.heap[b]? = w.heap[b]?) : RrPos w' b s k := by
  obtain ⟨r, hr, hs⟩ := h
  exact ⟨r, by unfold RrAt; rw [e]; exact hr, hs⟩
theorem RrPos.lt {w : World} {b : Nat} {s : ByteArray} {k : Nat} (h : RrPos w b s k) : b < w.heap.size := by
  obtain ⟨r, hr, _⟩ := h
  exact lt_of_block hr
theorem RrPos.keepN {w w' : World} {b n : Nat} {s : ByteArray} {k : Nat} (h : RrPos w b s k) (hb : Below n w w') (hn : b < n) : RrPos w' b s k := h.of (hb.block b hn)
theorem RrPos.err {w : World} {b : Nat} {s : ByteArray} {k : Nat} (h : RrPos w b s k) : w.cell? ⟨b, 1, none⟩ = some (.int .i64 (posE s k)) := by
  obtain ⟨r, hr, _⟩ := h
  exact hr.cells.2.1

/-- What the reference's Decode holds. -/
structure ReT (w0 : World) (D R P : Nat) (s : ByteArray) (pos : Nat) (cs : Array Value) (v : Value) (l : List (Int × Int)) (w : World) : Prop where
  box : Box w P 37 cs
  row : Prs w (P + 1) v l
  rd : RrPos w R s pos
  res : Box w D 37 #[.slice none 0 0, .int .i64 0, .int .i64 0, .string ⟨#[]⟩]
  bel : Below w0.heap.size w0 w
  hP : R < P
  hD : D < R
  hw : w0.heap.size ≤ D
section
variable {w0 w w' : World} {D R P : Nat} {s : ByteArray} {pos pos' : Nat} {cs : Array Value} {v : Value} {l : List (Int × Int)}
theorem ReT.call (h : ReT w0 D R P s pos cs v l w) (hb : Only R w w') (hr : RrPos w' R s pos') : ReT w0 D R P s pos' cs v l w' :=
  ⟨hb.box (by have := h.hP; omega) h.box, hb.row (fun e => by have := h.row.own_block _ e; have := h.hP; omega) h.row, hr, hb.box (by have := h.hD; omega) h.res, h.bel.trans (hb.below' (by have := h.hD; have := h.hw; omega) h.bel.size), h.hP, h.hD, h.hw⟩
theorem ReT.put (h : ReT w0 D R P s pos cs v l w) (j : Nat) (u : Value) : ReT w0 D R P s pos (cs.setIfInBounds j u) v l (w.setCell ⟨P, j, none⟩ u) := by
  have hb : Only P w (w.setCell ⟨P, j, none⟩ u) := Only.set P j w u
  exact ⟨h.box.set j u, hb.row (fun e => by have := h.row.own_block _ e; omega) h.row, h.rd.of (heap_setCell_other _ _ _ _ (by have := h.hP; simp only; omega)), hb.box (by have := h.hP; have := h.hD; omega) h.res, h.bel.trans (hb.below' (by have := h.hP; have := h.hD; have := h.hw; omega) h.bel.size), h.hP, h.hD, h.hw⟩
/-- A block that is none of these has changed, or was made. -/
theorem ReT.keep (h : ReT w0 D R P s pos cs v l w) (hb : Below w.heap.size w w') : ReT w0 D R P s pos cs v l w' :=
  ⟨h.box.keep hb h.box.lt, h.row.keep hb, h.rd.keepN hb h.rd.lt, h.res.keep hb h.res.lt, h.bel.trans (hb.mono h.bel.size), h.hP, h.hD, h.hw⟩
theorem ReT.only {b : Nat} (h : ReT w0 D R P s pos cs v l w) (hb : Only b w w') (hbP : P < b) (hv : v.ownBlock ≠ some b) : ReT w0 D R P s pos cs v l w' :=
  ⟨hb.box (by omega) h.box, hb.row hv h.row, h.rd.of (hb.block R h.rd.lt (fun e => by injection e with e; have := h.hP; omega)), hb.box (by have := h.hP; have := h.hD; omega) h.res,
    h.bel.trans (hb.below' (by have := h.hP; have := h.hD; have := h.hw; omega) h.bel.size), h.hP, h.hD, h.hw⟩
theorem ReT.next {w5 : World} {o : Obj} {c5 n : Nat} {a5 : Option Addr} {l' : List (Int × Int)} (h : ReT w0 D R P s pos #[v, .int .i64 0, .int .i64 0, .string ⟨#[]⟩] v l w) (g5 : (w.alloc o).grownBy w5 v.ownBlock)
    (p5 : Prs w5 (P + 1) (.slice a5 n c5) l') : ReT w0 D R P s pos #[.slice a5 n c5, .int .i64 0, .int .i64 0, .string ⟨#[]⟩] (.slice a5 n c5) l' (w5.setCell ⟨P, 0, none⟩ (.slice a5 n c5)) := by
  have hv : ∀ j, j ≤ P → some j ≠ v.ownBlock := fun j hj e => by have := h.row.own_block _ e.symm; omega
  have hA := h.keep ((Below.refl _ _).alloc (Nat.le_refl _) o)
  have x5 : Box w5 P 37 #[v, .int .i64 0, .int .i64 0, .string ⟨#[]⟩] := hA.box.of (g5.block P hA.box.lt (hv P (Nat.le_refl _)))
  have hbel : Below w0.heap.size (w.alloc o) w5 := (Below.refl _ _).grown g5 hA.bel.size (fun j hj => by have := h.row.own_block _ hj; have := h.hP; have := h.hD; have := h.hw; omega)
  have hR : RrPos w5 R s pos := hA.rd.of (g5.block R hA.rd.lt (hv R (by have := h.hP; omega)))
  have hD5 : Box w5 D 37 _ := hA.res.of (g5.block D hA.res.lt (hv D (by have := h.hP; have := h.hD; omega)))
  have hb : Only P w5 (w5.setCell ⟨P, 0, none⟩ (.slice a5 n c5)) := Only.set P 0 w5 _
  exact ⟨x5.set 0 _, hb.row (fun e => by have := p5.own_block _ e; omega) p5, hR.of (heap_setCell_other _ _ _ _ (by have := h.hP; simp only; omega)), hb.box (by have := h.hP; have := h.hD; omega) hD5,
    (hA.bel.trans hbel).trans (hb.below' (by have := h.hP; have := h.hD; have := h.hw; omega) (hA.bel.trans hbel).size), h.hP, h.hD, h.hw⟩
theorem ReT.ret (h : ReT w0 D R P s pos cs v l w) (x0 x1 x2 x3 : Value) :
    Box ((((w.setCell ⟨D, 0, none⟩ x0).setCell ⟨D, 1, none⟩ x1).setCell ⟨D, 2, none⟩ x2).setCell ⟨D, 3, none⟩ x3) D 37 #[x0, x1, x2, x3] ∧
    Only D w ((((w.setCell ⟨D, 0, none⟩ x0).setCell ⟨D, 1, none⟩ x1).setCell ⟨D, 2, none⟩ x2).setCell ⟨D, 3, none⟩ x3) := retBox h.res x0 x1 x2 x3
end

theorem newR (s : ByteArray) (w : World) : RrPos (w.alloc (.cells #[.string s, .int .i64 0] 73 (0, 0))) w.heap.size s 0 :=
  ⟨s, by unfold posE; rw [if_pos (Nat.zero_le _)]; exact (MapKept.heap_alloc w _).1, fun _ => (ByteArray.extract_zero_size).symm⟩

set_option maxRecDepth 100000 in
set_option maxHeartbeats 2000000 in
theorem rdecode_some (s : ByteArray) (w : World) (hs : s.size ≤ 140737488351232) (h0 : ¬ s.size = 0) (hc : 1 ≤ (valN s 0 1 : Int) ∧ (valN s 0 1 : Int) ≤ 2) : Calls Tryz.prog 12 #[.string s] w fun e w' =>
    ∃ a cap, e = .returned (.tuple #[ptrV a cap (decP s).1, .int .i64 (decP s).2]) ∧ SlP w' a (decP s).1.locs ∧ Below w.heap.size w w' := by
  obtain ⟨c, hcc⟩ : ∃ c, c = valN s 0 1 := ⟨_, rfl⟩
  rw [← hcc] at hc
  obtain ⟨hc1, hc2⟩ := hc
  have HCC := Lib.hid hcc
  have HE0 : Hid (posE s (0 + 1) = 0) := if_pos (by omega)
  have HRD := Lib.hid ((newR s (w.alloc (.cells #[.slice none 0 0, .int .i64 0, .int .i64 0, .string ⟨#[]⟩] 37 (0, 0)))))
  clear hcc
  go_enter Tryz.func12, Tryz.ntmps12
  go_wp2_with fail
  generalize hwx : World.alloc _ _ = wx
  have hx : Box wx w.heap.size 37 #[.slice none 0 0, .int .i64 0, .int .i64 0, .string ⟨#[]⟩] ∧ Below w.heap.size w wx := by
    rw [← hwx]
    exact ⟨(Box.new w _ _).alloc _, ((Below.refl _ _).alloc (Nat.le_refl _) _).alloc (by rw [size_alloc]; omega) _⟩
  rw [hwx, size_alloc] at HRD
  have HD := Lib.hid hx.1
  have HB := Lib.hid hx.2
  clear hwx hx
  refine (rnumber_pos (w.heap.size + 1) s 0 1 (by decide) (by decide) _ HRD.out).mono ?_
  rintro e w2 ⟨rfl, hr, hb⟩
  rw [← HCC.out]
  have HD2 := Lib.hid (hb.box (by omega) HD.out)
  have HB2 := Lib.hid (HB.out.trans (hb.below' (by omega) HB.out.size))
  have HR2 := Lib.hid hr
  have he1 := hr.err
  rw [HE0.out] at he1
  clear hr hb HD HB HRD
  have T0 : Hid (ReT w w.heap.size (w.heap.size + 1) w2.heap.size s 1 #[.slice none 0 0, .int .i64 0, .int .i64 0, .string ⟨#[]⟩] (.slice none 0 0) [] (w2.alloc (.cells #[.slice none 0 0, .int .i64 0, .int .i64 0, .string ⟨#[]⟩] 37 (0, 0)))) := by
    have hb : Below w2.heap.size w2 (w2.alloc (.cells #[.slice none 0 0, .int .i64 0, .int .i64 0, .string ⟨#[]⟩] 37 (0, 0))) := (Below.refl _ _).alloc (Nat.le_refl _) _
    exact ⟨Box.new _ _ _, Prs.nil _ _, HR2.out.keepN hb HR2.out.lt, HD2.out.keep hb HD2.out.lt, HB2.out.trans (hb.mono HB2.out.size), HR2.out.lt, Nat.lt_succ_self _, Nat.le_refl _⟩
  clear HD2 HB2 HR2
  go_wp2_with fail
  generalize hwx : World.alloc _ _ = wx
  rw [hwx] at T0
  clear hwx he1
  generalize w2.heap.size = P at *
  go_loopw [7] (fun i wr => ∃ k : Nat, k ≤ c ∧ i = .int .i64 k ∧ Hid (∃ v, ReT w w.heap.size (w.heap.size + 1) P s (1 + 3 * k) #[v, .int .i64 0, .int .i64 0, .string ⟨#[]⟩] v ((List.range k).map (locAt s)) wr)) (fun i _ => c - (intOf i).toNat)
  case atStart => exact ⟨0, Nat.zero_le _, rfl, ⟨_, T0.out⟩⟩
  case round =>
    clear T0
    obtain ⟨k, hk, rfl, HI⟩ := hrel
    obtain ⟨v, HI⟩ := HI.out
    by_cases hlt : k < c
    · have HH := Lib.hid HI
      clear HI
      go_wp2_with fail
      have hLP : Hid (P < wr.heap.size) := HH.out.box.lt
      have hvL : Hid (v.ownBlock ≠ some wr.heap.size) := fun e => by have := ownsRow_lt HH.out.row _ e; omega
      have hRL : Hid (wr.heap.size ≠ w.heap.size + 1) := by have := HH.out.rd.lt; show _ ≠ _; omega
      have BL : Hid (Box (wr.alloc (.cells #[.int .i64 0, .int .i64 0] 47 (0, 0))) wr.heap.size 47 #[.int .i64 0, .int .i64 0]) := Box.new _ _ _
      have TL := Lib.hid (HH.out.keep ((Below.refl _ _).alloc (Nat.le_refl _) (.cells #[.int .i64 0, .int .i64 0] 47 (0, 0))))
      generalize hwy : wr.alloc _ = wy
      rw [hwy] at BL TL
      clear hwy HH
      generalize wr.heap.size = L at *
      refine (rnumber_pos (w.heap.size + 1) s (1 + 3 * k) 1 (by decide) (by decide) _ (by exact TL.out.rd)).mono ?_
      rintro e u1 ⟨rfl, hr, hb⟩
      rw [show 1 + 3 * k + 1 = 2 + 3 * k by omega] at hr
      have T1 := Lib.hid (TL.out.call hb hr)
      have B1 := Lib.hid (hb.box hRL.out BL.out)
      have hf0 := B1.out.free 0
      have hc0 : u1.cell? ⟨L, 0, none⟩ = some (.int .i64 0) := B1.out.cell 0 _ rfl
      clear hr hb TL BL
      go_wp2_with fail
      generalize hwy : u1.setCell _ _ = wy
      have T2 := Lib.hid (T1.out.only (Only.set L 0 u1 (.int .i64 (valN s (1 + 3 * k) 1 : Nat))) hLP.out hvL.out)
      have B2 := Lib.hid (B1.out.set 0 (.int .i64 (valN s (1 + 3 * k) 1 : Nat)))
      rw [hwy] at T2 B2
      clear hwy hf0 hc0 T1 B1
      refine (rnumber_pos (w.heap.size + 1) s (2 + 3 * k) 2 (by decide) (by decide) _ (by exact T2.out.rd)).mono ?_
      rintro e u2 ⟨rfl, hr, hb⟩
      rw [show 2 + 3 * k + 2 = 1 + 3 * (k + 1) by omega] at hr
      have T3 := Lib.hid (T2.out.call hb hr)
      have B3 := Lib.hid (hb.box hRL.out B2.out)
      have hf1 := B3.out.free 1
      have hc1 : u2.cell? ⟨L, 1, none⟩ = some (.int .i64 0) := B3.out.cell 1 _ rfl
      have T4 := Lib.hid (T3.out.only (Only.set L 1 u2 (.int .i64 (valN s (2 + 3 * k) 2 : Nat))) hLP.out hvL.out)
      have B4 := Lib.hid (B3.out.set 1 (.int .i64 (valN s (2 + 3 * k) 2 : Nat)))
      have kP : (u2.setCell ⟨L, 1, none⟩ (.int .i64 (valN s (2 + 3 * k) 2 : Nat))).cell? ⟨P, 0, none⟩ = some v := T4.out.box.cell 0 _ rfl
      have kL0 : (u2.setCell ⟨L, 1, none⟩ (.int .i64 (valN s (2 + 3 * k) 2 : Nat))).cell? ⟨L, 0, none⟩ = some (.int .i64 (valN s (1 + 3 * k) 1 : Nat)) := B4.out.cell 0 _ rfl
      have kL1 : (u2.setCell ⟨L, 1, none⟩ (.int .i64 (valN s (2 + 3 * k) 2 : Nat))).cell? ⟨L, 1, none⟩ = some (.int .i64 (valN s (2 + 3 * k) 2 : Nat)) := B4.out.cell 1 _ rfl
      have HZ5 : Hid (u2.heap.size = (u2.setCell ⟨L, 1, none⟩ (.int .i64 (valN s (2 + 3 * k) 2 : Nat))).heap.size) := (Array.size_modify ..).symm
      clear hr hb T2 B2 T3 B3
      go_wp2_with (at_builtin; refine wp_prs_push _ rfl _ _ rfl (P + 1) v _ rfl (by exact T4.out.row.alloc _) ⟨u2.heap.size, 0, none⟩ 1 (((valN s (1 + 3 * k) 1 : Nat) : Int), ((valN s (2 + 3 * k) 2 : Nat) : Int)) rfl (by intro j u hj; rw [add_plain, Nat.zero_add, HZ5.out]; exact boxed0 _ _ _ _ j u (by rw [List.getElem?_toArray]; exact hj)) (by simp; omega) (by rw [size_alloc]; have := T4.out.box.lt; omega) ?_)
      intro v5 w5 hp5 hg5
      rw [← locs_snoc] at hp5
      obtain ⟨a5, c5, e5, hs5⟩ := hp5.view
      have hlen5 : ((List.range (k + 1)).map (locAt s)).length = k + 1 := by simp
      rw [hlen5] at e5
      clear hs5
      subst e5
      have TN := Lib.hid (T4.out.next hg5 hp5)
      have hx5 := (T4.out.box.alloc _).of (hg5.block P (T4.out.box.alloc _).lt (fun e => by have := T4.out.row.own_block _ e.symm; omega))
      have hc5 : w5.cell? ⟨P, 0, none⟩ = some v := hx5.cell 0 _ rfl
      have hf5 : w5.frozen? ⟨P, 0, none⟩ = false := hx5.free 0
      clear hx5 hp5 hg5 hlen5 kP kL0 kL1 hf1 hc1 T4 B4
      go_wp2
      go_roundw
      case rel => exact ⟨k + 1, by omega, by go_num, ⟨_, TN.out⟩⟩
      case measure => simp [intOf]; omega
    · have hkc : k = c := by omega
      subst hkc
      clear hlt hk
      obtain ⟨av, cv, rfl, hsv⟩ := HI.row.view
      clear hsv
      have T0 : Hid (ReT w w.heap.size (w.heap.size + 1) P s (1 + 3 * k) #[.slice av ((List.range k).map (locAt s)).length cv, .int .i64 0, .int .i64 0, .string ⟨#[]⟩] (.slice av ((List.range k).map (locAt s)).length cv) ((List.range k).map (locAt s)) wr) :=
        HI
      clear HI
      go_wp2_with fail
      refine (rnumber_pos (w.heap.size + 1) s (1 + 3 * k) 2 (by decide) (by decide) _ (by exact T0.out.rd)).mono ?_
      rintro e w3 ⟨rfl, hr, hb⟩
      rw [show 1 + 3 * k + 2 = 3 + 3 * k by omega] at hr
      have T1 := Lib.hid (T0.out.call hb hr)
      have hf := T1.out.box.free 1
      have hc1 : w3.cell? ⟨P, 1, none⟩ = some (.int .i64 0) := T1.out.box.cell 1 _ rfl
      clear hb hr T0
      go_wp2_with fail
      generalize hwx : w3.setCell _ _ = wx
      have T2 := Lib.hid (T1.out.put 1 (.int .i64 (valN s (1 + 3 * k) 2 : Nat)))
      rw [hwx] at T2
      clear hwx hf hc1 T1
      refine (rnumber_pos (w.heap.size + 1) s (3 + 3 * k) 6 (by decide) (by decide) _ (by exact T2.out.rd)).mono ?_
      rintro e w4 ⟨rfl, hr, hb⟩
      rw [show 3 + 3 * k + 6 = 9 + 3 * k by omega] at hr
      have T3 := Lib.hid (T2.out.call hb hr)
      have hf := T3.out.box.free 2
      have hc2 : w4.cell? ⟨P, 2, none⟩ = some (.int .i64 0) := T3.out.box.cell 2 _ rfl
      clear hb hr T2
      go_wp2_with fail
      generalize hwx : w4.setCell _ _ = wy
      have T4 := Lib.hid (T3.out.put 2 (.int .i64 (valN s (3 + 3 * k) 6 : Nat)))
      rw [hwx] at T4
      clear hwx hf hc2 T3
      refine (rbytes_pos (w.heap.size + 1) s (9 + 3 * k) 32 _ (by exact T4.out.rd)).mono ?_
      rintro e w5 ⟨rfl, hr, hb⟩
      rw [show 9 + 3 * k + 32 = 41 + 3 * k by omega] at hr
      have T5 := Lib.hid (T4.out.call hb hr)
      have hf := T5.out.box.free 3
      have hc3 : w5.cell? ⟨P, 3, none⟩ = some (.string ⟨#[]⟩) := T5.out.box.cell 3 _ rfl
      clear hb hr T4
      go_wp2_with fail
      generalize hwx : w5.setCell _ _ = wz
      have T6 := Lib.hid (T5.out.put 3 (.string (valB s (9 + 3 * k) 32)))
      rw [hwx] at T6
      clear hwx hf hc3 T5
      refine (rend_pos (w.heap.size + 1) s (41 + 3 * k) _ (by exact T6.out.rd)).mono ?_
      rintro e w' ⟨rfl, rfl⟩
      have hD0 := T6.out.res.free 0
      have hD1 := T6.out.res.free 1
      have hD2 := T6.out.res.free 2
      have hD3 := T6.out.res.free 3
      have hE0 : wz.cell? ⟨w.heap.size, 0, none⟩ = some (.slice none 0 0) := T6.out.res.cell 0 _ rfl
      have hE1 : wz.cell? ⟨w.heap.size, 1, none⟩ = some (.int .i64 0) := T6.out.res.cell 1 _ rfl
      have hE2 : wz.cell? ⟨w.heap.size, 2, none⟩ = some (.int .i64 0) := T6.out.res.cell 2 _ rfl
      have hE3 : wz.cell? ⟨w.heap.size, 3, none⟩ = some (.string ⟨#[]⟩) := T6.out.res.cell 3 _ rfl
      have hVV : Hid (valN s 0 1 = k) := HCC.out.symm
      have hN12 : Hid (¬ (valN s 0 1 < 1 ∨ 2 < valN s 0 1)) := by show ¬ _; rw [hVV.out]; omega
      by_cases he : posEnd s (41 + 3 * k) = 0
      · have hq : (posEnd s (41 + 3 * k) != 0) = false := by simpa using he
        have hSlP : SlP wz av (rawP s k).locs := by
          obtain ⟨a', c', e', h'⟩ := T6.out.row.view
          injection e' with e1 e2 e3
          subst e1
          exact h'
        have hlk : (rawP s k).locs.length = k := by simp [rawP]
        have HS := Lib.hid hSlP
        have HPV : Hid (ptrV av cv (rawP s k) = .agg #[.slice av k cv, .int .i64 (valN s (1 + 3 * k) 2 : Nat), .int .i64 (valN s (3 + 3 * k) 6 : Nat), .string (valB s (9 + 3 * k) 32)]) := by
          show _ = _
          unfold ptrV
          rw [hlk]; rfl
        have hchk := rcheckP_any av cv (rawP s k) wz hSlP (by rw [hlk]; omega)
        rw [HPV.out] at hchk
        have HCK := Lib.hid hchk
        have HLK := Lib.hid hlk
        have hk0 : wz.cell? ⟨P, 0, none⟩ = some (.slice av k cv) := by have := T6.out.box.cell 0 _ rfl; rw [this]; simp
        have hk1 : wz.cell? ⟨P, 1, none⟩ = some (.int .i64 (valN s (1 + 3 * k) 2 : Nat)) := T6.out.box.cell 1 _ rfl
        have hk2 : wz.cell? ⟨P, 2, none⟩ = some (.int .i64 (valN s (3 + 3 * k) 6 : Nat)) := T6.out.box.cell 2 _ rfl
        have hk3 : wz.cell? ⟨P, 3, none⟩ = some (.string (valB s (9 + 3 * k) 32)) := T6.out.box.cell 3 _ rfl
        clear hchk hSlP hlk
        go_wp2_with fail
        refine HCK.out.mono ?_
        rintro e wc ⟨rfl, hb⟩
        have T7 := Lib.hid (T6.out.call (w' := wc) (pos' := 41 + 3 * k) (Only.of hb (Nat.le_refl _)) (T6.out.rd.keepN hb T6.out.rd.lt))
        have HS7 := Lib.hid (HS.out.keep hb)
        have hd0 := T7.out.res.free 0
        have hd1 := T7.out.res.free 1
        have hd2 := T7.out.res.free 2
        have hd3 := T7.out.res.free 3
        have he0 : wc.cell? ⟨w.heap.size, 0, none⟩ = some (.slice none 0 0) := T7.out.res.cell 0 _ rfl
        have he1 : wc.cell? ⟨w.heap.size, 1, none⟩ = some (.int .i64 0) := T7.out.res.cell 1 _ rfl
        have he2 : wc.cell? ⟨w.heap.size, 2, none⟩ = some (.int .i64 0) := T7.out.res.cell 2 _ rfl
        have he3 : wc.cell? ⟨w.heap.size, 3, none⟩ = some (.string ⟨#[]⟩) := T7.out.res.cell 3 _ rfl
        clear hb hk0 hk1 hk2 hk3 hD0 hD1 hD2 hD3 hE0 hE1 hE2 hE3
        by_cases hbad : badP (rawP s k)
        · have HE : Hid (decP s = (nilP, 3)) := by
            show _ = _
            unfold decP
            rw [if_neg h0, if_neg hN12.out, hVV.out, if_neg (by simpa using he), if_pos hbad]
          rw [show chkP (rawP s k) = 1 from if_pos hbad]
          have HR := Lib.hid (T7.out.ret (.slice none 0 0) (.int .i64 0) (.int .i64 0) (.string ⟨#[]⟩))
          go_wp2
          refine bodyPost_ret (results_cell_row_tmp rfl _ _ w.heap.size 37 _ (0, 0) _ rfl HR.out.1 Tryz.underlying37 rfl sizePtr) rfl ?_
          exact ⟨none, 0, by rw [HE.out]; rfl, by rw [HE.out]; exact SlP.nil, T7.out.bel.trans (HR.out.2.below' (Nat.le_refl _) T7.out.bel.size)⟩
        · have HE : Hid (decP s = (rawP s k, 0)) := by
            show _ = _
            unfold decP
            rw [if_neg h0, if_neg hN12.out, hVV.out, if_neg (by simpa using he), if_neg hbad]
          rw [show chkP (rawP s k) = 0 from if_neg hbad]
          have hk0 : wc.cell? ⟨P, 0, none⟩ = some (.slice av k cv) := by have := T7.out.box.cell 0 _ rfl; rw [this]; simp
          have hk1 : wc.cell? ⟨P, 1, none⟩ = some (.int .i64 (valN s (1 + 3 * k) 2 : Nat)) := T7.out.box.cell 1 _ rfl
          have hk2 : wc.cell? ⟨P, 2, none⟩ = some (.int .i64 (valN s (3 + 3 * k) 6 : Nat)) := T7.out.box.cell 2 _ rfl
          have hk3 : wc.cell? ⟨P, 3, none⟩ = some (.string (valB s (9 + 3 * k) 32)) := T7.out.box.cell 3 _ rfl
          have HR := Lib.hid (T7.out.ret (.slice av k cv) (.int .i64 (valN s (1 + 3 * k) 2 : Nat)) (.int .i64 (valN s (3 + 3 * k) 6 : Nat)) (.string (valB s (9 + 3 * k) 32)))
          go_wp2
          refine bodyPost_ret (results_cell_row_tmp rfl _ _ w.heap.size 37 _ (0, 0) _ rfl HR.out.1 Tryz.underlying37 rfl sizePtr) rfl ?_
          refine ⟨av, cv, by rw [HE.out, HPV.out]; rfl, ?_, T7.out.bel.trans (HR.out.2.below' (Nat.le_refl _) T7.out.bel.size)⟩
          rw [HE.out]
          intro hne
          obtain ⟨b, off, e1, hl1, hc1⟩ := HS7.out hne
          refine ⟨b, off, e1, Nat.lt_of_lt_of_le hl1 HR.out.2.size, fun i x hx => ?_⟩
          have hbD : b ≠ w.heap.size := by
            have := T7.out.row.own_block b (by rw [e1]; rfl)
            have := T7.out.hP
            omega
          have hblk := HR.out.2.block b hl1 (fun e => hbD (by injection e))
          exact ⟨(World.cell?_of_block (a := ⟨b, _, none⟩) hblk).trans (hc1 i x hx).1, (World.cell?_of_block (a := ⟨b, _, none⟩) hblk).trans (hc1 i x hx).2⟩
      · have hq : (posEnd s (41 + 3 * k) != 0) = true := by simpa using he
        have HE : Hid (decP s = (nilP, posEnd s (41 + 3 * k))) := by
          show _ = _
          unfold decP
          rw [if_neg h0, if_neg hN12.out, hVV.out, if_pos he]
        have HR := Lib.hid (T6.out.ret (.slice none 0 0) (.int .i64 0) (.int .i64 0) (.string ⟨#[]⟩))
        go_wp2
        refine bodyPost_ret (results_cell_row_tmp rfl _ _ w.heap.size 37 _ (0, 0) _ rfl HR.out.1 Tryz.underlying37 rfl sizePtr) rfl ?_
        exact ⟨none, 0, by rw [HE.out]; rfl, by rw [HE.out]; exact SlP.nil, T6.out.bel.trans (HR.out.2.below' (Nat.le_refl _) T6.out.bel.size)⟩

set_option maxRecDepth 100000 in
theorem rdecode_nil (w : World) : Calls Tryz.prog 12 #[.string ⟨#[]⟩] w fun e w' =>
    ∃ a cap, e = .returned (.tuple #[ptrV a cap (decP ⟨#[]⟩).1, .int .i64 (decP ⟨#[]⟩).2]) ∧ SlP w' a (decP ⟨#[]⟩).1.locs ∧ Below w.heap.size w w' := by
  have HE : Hid (decP ⟨#[]⟩ = (nilP, 2)) := by
    show _ = _
    unfold decP
    rw [if_pos (by rfl)]
  have HP : Hid (posE ⟨#[]⟩ (0 + 1) = 2) := by show _ = _; rfl
  have HV : Hid (valN ⟨#[]⟩ 0 1 = 0) := by show _ = _; rfl
  have HRD := Lib.hid ((newR ⟨#[]⟩ (w.alloc (.cells #[.slice none 0 0, .int .i64 0, .int .i64 0, .string ⟨#[]⟩] 37 (0, 0)))))
  go_enter Tryz.func12, Tryz.ntmps12
  go_wp2_with fail
  generalize hwx : World.alloc _ _ = wx
  have hx : Box wx w.heap.size 37 #[.slice none 0 0, .int .i64 0, .int .i64 0, .string ⟨#[]⟩] ∧ Below w.heap.size w wx := by
    rw [← hwx]
    exact ⟨(Box.new w _ _).alloc _, ((Below.refl _ _).alloc (Nat.le_refl _) _).alloc (by rw [size_alloc]; omega) _⟩
  rw [hwx, size_alloc] at HRD
  have HD := Lib.hid hx.1
  have HB := Lib.hid hx.2
  clear hwx hx
  refine (rnumber_pos (w.heap.size + 1) ⟨#[]⟩ 0 1 (by decide) (by decide) _ HRD.out).mono ?_
  rintro e w2 ⟨rfl, hr, hb⟩
  rw [HV.out]
  have HD2 := Lib.hid (hb.box (by omega) HD.out)
  have HB2 := Lib.hid (HB.out.trans (hb.below' (by omega) HB.out.size))
  have he1 := hr.err
  clear hr hb HD HB HRD
  have hD0 := HD2.out.free 0
  have hD1 := HD2.out.free 1
  have hD2 := HD2.out.free 2
  have hD3 := HD2.out.free 3
  have hE0 : w2.cell? ⟨w.heap.size, 0, none⟩ = some (.slice none 0 0) := HD2.out.cell 0 _ rfl
  have hE1 : w2.cell? ⟨w.heap.size, 1, none⟩ = some (.int .i64 0) := HD2.out.cell 1 _ rfl
  have hE2 : w2.cell? ⟨w.heap.size, 2, none⟩ = some (.int .i64 0) := HD2.out.cell 2 _ rfl
  have hE3 : w2.cell? ⟨w.heap.size, 3, none⟩ = some (.string ⟨#[]⟩) := HD2.out.cell 3 _ rfl
  rw [HP.out] at he1
  have HR := Lib.hid (retBox (w := w2.drew) HD2.out (.slice none 0 0) (.int .i64 0) (.int .i64 0) (.string ⟨#[]⟩))
  go_wp2_with fail
  go_region
  all_goals
    go_wp2
    refine bodyPost_ret (results_cell_row_tmp rfl _ _ w.heap.size 37 _ (0, 0) _ rfl HR.out.1 Tryz.underlying37 rfl sizePtr) rfl ?_
    exact ⟨none, 0, by rw [HE.out]; rfl, by rw [HE.out]; exact SlP.nil, HB2.out.drew.trans (HR.out.2.below' (Nat.le_refl _) HB2.out.size)⟩

set_option maxRecDepth 100000 in
theorem rdecode_bad (s : ByteArray) (w : World) (h0 : ¬ s.size = 0) (hc : ¬ (1 ≤ (valN s 0 1 : Int) ∧ (valN s 0 1 : Int) ≤ 2)) : Calls Tryz.prog 12 #[.string s] w fun e w' =>
    ∃ a cap, e = .returned (.tuple #[ptrV a cap (decP s).1, .int .i64 (decP s).2]) ∧ SlP w' a (decP s).1.locs ∧ Below w.heap.size w w' := by
  have HE : Hid (decP s = (nilP, 3)) := by
    show _ = _
    unfold decP
    rw [if_neg h0, if_pos (by omega)]
  have HP : Hid (posE s (0 + 1) = 0) := if_pos (by omega)
  obtain ⟨c, hcc⟩ : ∃ c, c = valN s 0 1 := ⟨_, rfl⟩
  rw [← hcc] at hc
  have HCC := Lib.hid hcc
  have hc' : c < 1 ∨ (1 ≤ c ∧ 2 < c) := by omega
  clear hcc hc
  have HRD := Lib.hid ((newR s (w.alloc (.cells #[.slice none 0 0, .int .i64 0, .int .i64 0, .string ⟨#[]⟩] 37 (0, 0)))))
  go_enter Tryz.func12, Tryz.ntmps12
  go_wp2_with fail
  generalize hwx : World.alloc _ _ = wx
  have hx : Box wx w.heap.size 37 #[.slice none 0 0, .int .i64 0, .int .i64 0, .string ⟨#[]⟩] ∧ Below w.heap.size w wx := by
    rw [← hwx]
    exact ⟨(Box.new w _ _).alloc _, ((Below.refl _ _).alloc (Nat.le_refl _) _).alloc (by rw [size_alloc]; omega) _⟩
  rw [hwx, size_alloc] at HRD
  have HD := Lib.hid hx.1
  have HB := Lib.hid hx.2
  clear hwx hx
  refine (rnumber_pos (w.heap.size + 1) s 0 1 (by decide) (by decide) _ HRD.out).mono ?_
  rintro e w2 ⟨rfl, hr, hb⟩
  rw [← HCC.out]
  have HD2 := Lib.hid (hb.box (by omega) HD.out)
  have HB2 := Lib.hid (HB.out.trans (hb.below' (by omega) HB.out.size))
  have he1 := hr.err
  clear hr hb HD HB HRD
  have hD0 := HD2.out.free 0
  have hD1 := HD2.out.free 1
  have hD2 := HD2.out.free 2
  have hD3 := HD2.out.free 3
  have hE0 : w2.cell? ⟨w.heap.size, 0, none⟩ = some (.slice none 0 0) := HD2.out.cell 0 _ rfl
  have hE1 : w2.cell? ⟨w.heap.size, 1, none⟩ = some (.int .i64 0) := HD2.out.cell 1 _ rfl
  have hE2 : w2.cell? ⟨w.heap.size, 2, none⟩ = some (.int .i64 0) := HD2.out.cell 2 _ rfl
  have hE3 : w2.cell? ⟨w.heap.size, 3, none⟩ = some (.string ⟨#[]⟩) := HD2.out.cell 3 _ rfl
  rw [HP.out] at he1
  have HR := Lib.hid (retBox HD2.out (.slice none 0 0) (.int .i64 0) (.int .i64 0) (.string ⟨#[]⟩))
  rcases hc' with hc' | ⟨hc', hc2⟩
  all_goals
    go_wp2
    refine bodyPost_ret (results_cell_row_tmp rfl _ _ w.heap.size 37 _ (0, 0) _ rfl HR.out.1 Tryz.underlying37 rfl sizePtr) rfl ?_
    first
      | exact ⟨none, ⟨0, by rw [HE.out]; rfl⟩, by rw [HE.out]; exact SlP.nil, HB2.out.trans (HR.out.2.below' (Nat.le_refl _) HB2.out.size)⟩
      | exact ⟨none, 0, by rw [HE.out]; rfl, by rw [HE.out]; exact SlP.nil, HB2.out.trans (HR.out.2.below' (Nat.le_refl _) HB2.out.size)⟩

theorem rdecode_any (s : ByteArray) (w : World) (hs : s.size ≤ 140737488351232) : Calls Tryz.prog 12 #[.string s] w fun e w' =>
    ∃ a cap, e = .returned (.tuple #[ptrV a cap (decP s).1, .int .i64 (decP s).2]) ∧ SlP w' a (decP s).1.locs ∧ Below w.heap.size w w' := by
  by_cases h0 : s.size = 0
  · obtain rfl : s = ⟨#[]⟩ := by apply ByteArray.ext; exact Array.eq_empty_of_size_eq_zero h0
    exact rdecode_nil w
  · by_cases hc : 1 ≤ (valN s 0 1 : Int) ∧ (valN s 0 1 : Int) ≤ 2
    · exact rdecode_some s w hs h0 hc
    · exact rdecode_bad s w h0 hc
end Go.Proofs.YtphhnhldbajaoaaGreatDoor

namespace Go.Proofs.YtphhnhldbajaoaaGreatDoor
open Go Go.RowKit Go.ChangeShapes Go.WideShapes Go.ChangeAt

theorem sl_loc (w : World) (x y : Int) (t : TypeId) : SlP (w.alloc (.cells #[.int .i64 x, .int .i64 y] t (0, 0))) (some ⟨w.heap.size, 0, none⟩) [(x, y)] := fun _ => by
  have B := Box.new w t #[.int .i64 x, .int .i64 y]
  refine ⟨w.heap.size, 0, rfl, B.lt, fun i z hz => ?_⟩
  match i, hz with
  | 0, hz => simp at hz; subst hz; exact ⟨B.cell 0 _ rfl, B.cell 1 _ rfl⟩
set_option maxRecDepth 100000 in
set_option maxHeartbeats 16000000 in
theorem live18 (w : World) (hK : Kt w) : Calls Tryz.prog 10 #[] w fun e w' => e = .returned (.bool true) ∧ Below w.heap.size w w' := by
  have HK := Lib.hid hK
  have HBP := Lib.hid hK.pos
  obtain ⟨B, hB⟩ : ∃ B, B = w.heap.size := ⟨_, rfl⟩
  have HB := Lib.hid hB
  have HBP2 : Hid (0 < B) := by show 0 < B; rw [hB]; exact HBP.out
  have HNEW := Lib.hid (one_new B fixed_no 10 20 w (Nat.le_of_eq hB) ⟨[], rfl, fun k hk => by cases hk⟩ (by decide) (by decide))
  clear hK hB
  go_enter Tryz.func10, Tryz.ntmps10
  go_wp2_with fail
  refine HNEW.out.mono ?_
  rintro e w1 ⟨b, rfl, ho, hb⟩
  have HO := Lib.hid (Own.of_one (l := []) ho)
  have HBL := Lib.hid hb
  clear ho hb HNEW
  go_wp2_with fail
  have HO1 : Hid (Own B (DevF b (newD 10 20) :: []) (w1.alloc (.cells #[.int .i64 0, .int .i64 4] 47 (0, 0)))) := HO.out.keep (.cons (fixed_dev _ _) .nil) ((Below.refl _ _).alloc (Nat.le_refl _) _)
  have HB1 := Lib.hid (HBL.out.alloc HO.out.size (.cells #[.int .i64 0, .int .i64 4] 47 (0, 0)))
  have HOP := Lib.hid (sopen_any .nil HO1.out wf0.sz wf0.tiny (HK.out.below HB1.out HBP2.out) HBP2.out lvP rfl (some ⟨w1.heap.size, 0, none⟩) 1 [(0, 4)] (by decide) (sl_loc w1 0 4 _) 7)
  refine HOP.out.mono ?_
  intro e w2 hr
  obtain ⟨hr1, hb2⟩ := hr
  rw [lv_set] at hr1
  obtain ⟨s, p, rfl, _, ho⟩ := hr1
  have HO2 : Hid (Own B (stL s p lvS0 ++ []) w2) := ho
  have HB2 := Lib.hid (HB1.out.trans hb2)
  clear ho hb2 HOP HO1 HB1 HO HBL
  have HC := Lib.hid (sfree_own .nil HO2.out wf0)
  rw [lv_free.1, lv_free.2] at HC
  go_wp2_with fail
  refine HC.out.mono ?_
  rintro e w3 ⟨rfl, ho, hb⟩
  have HO3 := Lib.hid ho
  have HB3 := Lib.hid (HB2.out.trans (hb.mono HO2.out.size))
  clear ho hb HC HO2 HB2
  have HC := Lib.hid (sputM_any .nil HO3.out wf0 (by decide) (HK.out.below HB3.out HBP2.out) HBP2.out tN (by decide))
  rw [show (stoPut lvS0 0 tN).1.1 = lvR from rfl, lv_put.1, show (stoPut lvS0 0 tN).2 = lvS1 from rfl] at HC
  unfold tN at HC
  go_wp2_with fail
  refine HC.out.mono ?_
  rintro e w4 ⟨rfl, ⟨p1, _, ho⟩, hb⟩
  have HO4 := Lib.hid ho
  have HB4 := Lib.hid (HB3.out.trans hb)
  clear ho hb HC HO3 HB3
  have HC := Lib.hid (sputD_any .nil HO4.out wf1 (by decide) (HK.out.below HB4.out HBP2.out) HBP2.out tD (by decide))
  rw [show (stoPut lvS1 1 tD).1.1 = lvQ from rfl, lv_put.2, show (stoPut lvS1 1 tD).2 = lvS2 from rfl] at HC
  unfold tD at HC
  go_wp2_with fail
  refine HC.out.mono ?_
  rintro e w5 ⟨rfl, ⟨p2, _, ho⟩, hb⟩
  have HO5 := Lib.hid ho
  have HB5 := Lib.hid (HB4.out.trans hb)
  clear ho hb HC HO4 HB4
  obtain ⟨r, hr⟩ : ∃ r, r = lvR := ⟨_, rfl⟩
  obtain ⟨q, hq⟩ : ∃ q, q = lvQ := ⟨_, rfl⟩
  rw [← hr, ← hq]
  have HRR := Lib.hid hr
  have HQQ := Lib.hid hq
  clear hr hq
  have HC := Lib.hid (sget_any .nil HO5.out wf2 (by decide) (HK.out.below HB5.out HBP2.out) HBP2.out lvR (by have := lv_size.1; omega))
  rw [show (getS lvS2 lvR).1.1 = tN by rw [lv_get1], show (getS lvS2 lvR).1.2 = 0 by rw [lv_get1], show (getS lvS2 lvR).2 = lvS3 from rfl, ← HRR.out] at HC
  unfold tN at HC
  go_wp2_with fail
  refine HC.out.mono ?_
  rintro e w6 ⟨rfl, ho, hb⟩
  have HO6 := Lib.hid ho
  have HB6 := Lib.hid (HB5.out.trans hb)
  clear ho hb HC HO5 HB5
  have HC := Lib.hid (sget_any .nil HO6.out wf3 (by decide) (HK.out.below HB6.out HBP2.out) HBP2.out lvQ (by have := lv_size.2; omega))
  rw [show (getS lvS3 lvQ).1.1 = tD by rw [lv_get2], show (getS lvS3 lvQ).1.2 = 0 by rw [lv_get2], show (getS lvS3 lvQ).2 = lvS4 from rfl, ← HQQ.out] at HC
  unfold tD at HC
  go_wp2_with fail
  refine HC.out.mono ?_
  rintro e w7 ⟨rfl, ho, hb⟩
  have HO7 := Lib.hid ho
  have HB7 := Lib.hid (HB6.out.trans hb)
  clear ho hb HC HO6 HB6
  have HC := Lib.hid (sget_any .nil HO7.out wf4 (by decide) (HK.out.below HB7.out HBP2.out) HBP2.out lvR (by have := lv_size.1; omega))
  rw [show (getS lvS4 lvR).1.1 = tN by rw [lv_get3], show (getS lvS4 lvR).1.2 = 0 by rw [lv_get3], show (getS lvS4 lvR).2 = lvS5 from rfl, ← HRR.out] at HC
  unfold tN at HC
  go_wp2_with fail
  refine HC.out.mono ?_
  rintro e w8 ⟨rfl, ho, hb⟩
  have HO8 := Lib.hid ho
  have HB8 := Lib.hid (HB7.out.trans hb)
  clear ho hb HC HO7 HB7
  have HC := Lib.hid (shits_any s _ w8 (sto_box HO8.out))
  rw [show (stV p2 lvS5).h0 = 0 from lv_hits.1, show (stV p2 lvS5).h1 = 1 from lv_hits.2.1, show (stV p2 lvS5).h2 = 2 from lv_hits.2.2] at HC
  go_wp2_with fail
  refine HC.out.mono ?_
  rintro e w9 ⟨rfl, hb⟩
  have HO9 := Lib.hid (HO8.out.keep (sto_all .nil) hb)
  have HB9 := Lib.hid (HB8.out.trans (hb.mono HO8.out.size))
  clear hb HC HO8 HB8
  have HC := Lib.hid (sget_any .nil HO9.out wf5 (by decide) (HK.out.below HB9.out HBP2.out) HBP2.out tJ (by decide))
  rw [lv_junk] at HC
  obtain ⟨jt, hjt⟩ : ∃ x, x = (getS lvS5 tJ).1.1 := ⟨_, rfl⟩
  rw [← hjt] at HC
  unfold tJ at HC
  clear hjt
  go_wp2_with fail
  refine HC.out.mono ?_
  rintro e w10 ⟨rfl, ho, hb⟩
  have HB10 := Lib.hid (HB9.out.trans hb)
  clear ho hb HC HO9 HB9
  have HD := rdecode_any r w10 (by rw [HRR.out]; have := lv_size.1; omega)
  obtain ⟨dp, hdp⟩ : ∃ x, x = (decP r).1 := ⟨_, rfl⟩
  obtain ⟨de, hde⟩ : ∃ x, x = (decP r).2 := ⟨_, rfl⟩
  rw [← hdp, ← hde] at HD
  have hl1 : dp.locs = [(1, 4), (0, 5)] := by rw [hdp, HRR.out]; exact lv_dec.2.1
  have hl2 : dp.birth = 7 := by rw [hdp, HRR.out]; exact lv_dec.2.2
  obtain ⟨dl, dn, db, ds⟩ := dp
  have hl1 : dl = [(1, 4), (0, 5)] := hl1
  have hl2 : db = 7 := hl2
  subst hl1 hl2
  unfold ptrV at HD
  have HD := Lib.hid HD
  clear hdp hde
  go_wp2_with fail
  refine HD.out.mono ?_
  rintro e w11 ⟨pa, pc, rfl, hs, hb⟩
  have HB11 := Lib.hid (HB10.out.trans (hb.mono (Nat.le_trans (Nat.le_of_eq HB.out) HB10.out.size)))
  obtain ⟨ab, off, rfl, hbl, hc⟩ := hs (by simp)
  have d0 := (hc 0 (1, 4) rfl).1
  have d1 := (hc 0 (1, 4) rfl).2
  have d2 := (hc 1 (0, 5) rfl).1
  have d3 := (hc 1 (0, 5) rfl).2
  have d0 : w11.cell? ⟨ab, off, none⟩ = some (.int .i64 1) := d0
  have d1 : w11.cell? ⟨ab, off + 1, none⟩ = some (.int .i64 4) := d1
  have d2 : w11.cell? ⟨ab, off + 2, none⟩ = some (.int .i64 0) := d2
  have d3 : w11.cell? ⟨ab, off + 3, none⟩ = some (.int .i64 5) := d3
  obtain ⟨pb, hpb⟩ : ∃ pb, pb = w11.heap.size := ⟨_, rfl⟩
  obtain ⟨w12, hw12⟩ : ∃ x, x = w11.alloc (.cells #[.slice (some ⟨ab, off, none⟩) 2 pc, .int .i64 dn, .int .i64 7, .string ds] 37 (0, 0)) := ⟨_, rfl⟩
  have hba : Below w11.heap.size w11 w12 := by rw [hw12]; exact (Below.refl _ _).alloc (Nat.le_refl _) _
  have HBX : Hid (Box w12 pb 37 #[.slice (some ⟨ab, off, none⟩) 2 pc, .int .i64 dn, .int .i64 7, .string ds]) := by show Box _ _ _ _; rw [hw12, hpb]; exact Box.new _ _ _
  have HB12 := Lib.hid (HB11.out.trans (hba.mono (Nat.le_trans (Nat.le_of_eq HB.out) HB11.out.size)))
  have HAB : Hid (ab < w12.heap.size) := Nat.lt_of_lt_of_le hbl hba.size
  have HD4 : Hid (w12.cell? ⟨ab, off, none⟩ = some (.int .i64 1) ∧ w12.cell? ⟨ab, off + 1, none⟩ = some (.int .i64 4) ∧ w12.cell? ⟨ab, off + 2, none⟩ = some (.int .i64 0) ∧ w12.cell? ⟨ab, off + 3, none⟩ = some (.int .i64 5)) := ⟨(hba.cell (p := ⟨ab, off, none⟩) hbl).trans d0, (hba.cell (p := ⟨ab, off + 1, none⟩) hbl).trans d1, (hba.cell (p := ⟨ab, off + 2, none⟩) hbl).trans d2, (hba.cell (p := ⟨ab, off + 3, none⟩) hbl).trans d3⟩
  have hpb2 := hpb.symm
  have hw122 := hw12.symm
  clear hc hs hb HD HB10 d0 d1 d2 d3 hba hpb hw12 hbl hl1 hl2
  go_wp2_with fail
  try rw [hw122]
  clear hw122 hpb2
  refine (sopen_nil ⟨false, false, 0, 0, 0⟩ (.slice none 0 0) 0 w12).mono ?_
  rintro e w13 ⟨rfl, hb⟩
  have HB13 := Lib.hid (HB12.out.trans (hb.mono (Nat.le_trans (Nat.le_of_eq HB.out) HB12.out.size)))
  have hbx := HBX.out.keep hb HBX.out.lt
  have k0 : w13.cell? ⟨pb, 0, none⟩ = some (.slice (some ⟨ab, off, none⟩) 2 pc) := hbx.cell 0 _ rfl
  have k2 : w13.cell? ⟨pb, 2, none⟩ = some (.int .i64 7) := hbx.cell 2 _ rfl
  have d0 : w13.cell? ⟨ab, off, none⟩ = some (.int .i64 1) := (hb.cell (p := ⟨ab, off, none⟩) HAB.out).trans HD4.out.1
  have d1 : w13.cell? ⟨ab, off + 1, none⟩ = some (.int .i64 4) := (hb.cell (p := ⟨ab, off + 1, none⟩) HAB.out).trans HD4.out.2.1
  have d2 : w13.cell? ⟨ab, off + 2, none⟩ = some (.int .i64 0) := (hb.cell (p := ⟨ab, off + 2, none⟩) HAB.out).trans HD4.out.2.2.1
  have d3 : w13.cell? ⟨ab, off + 3, none⟩ = some (.int .i64 5) := (hb.cell (p := ⟨ab, off + 3, none⟩) HAB.out).trans HD4.out.2.2.2
  clear hb hbx HD4 HAB HBX HB12
  go_wp2
  go_ret
  exact ⟨rfl, by rw [← HB.out]; exact HB13.out⟩
end Go.Proofs.YtphhnhldbajaoaaGreatDoor

namespace Go.Proofs.YtphhnhldbajaoaaGreatDoor.storeNil
open Go Go.RowKit Go.ChangeShapes Go.WideShapes Go.ChangeAt

set_option maxRecDepth 100000 in
set_option maxHeartbeats 4000000 in
theorem walk (w : World) (hK : Kt w) (a0 : ByteArray) (_w0 : a0.size ≤ 140737488351232) :
    Calls Tryz.prog 8 #[.string a0] w fun e w' => e = .returned (.bool true) ∧ Below w.heap.size w w' := by
  have HK := Lib.hid hK
  have HBP := Lib.hid hK.pos
  clear hK
  go_enter Tryz.func8, Tryz.ntmps8
  go_wp2_with fail
  refine (sputM_nil a0 _).mono ?_
  rintro e w1 ⟨rfl, rfl⟩
  go_wp2_with fail
  refine (sputD_nil a0 _).mono ?_
  rintro e w1 ⟨rfl, rfl⟩
  have HB1 : Hid (Below w.heap.size w (w.alloc (.cells #[.int .i64 0] 3 (0, 0)))) := (Below.refl _ _).alloc (Nat.le_refl _) _
  go_wp2_with fail
  refine (sputon_nil a0 _ _).mono ?_
  rintro e w1 ⟨rfl, rfl⟩
  generalize World.alloc w _ = w1 at *
  go_wp2_with fail
  refine (sget_nil a0 _).mono ?_
  rintro e w2 ⟨rfl, rfl⟩
  go_wp2_with fail
  refine (sfree_nil _).mono ?_
  rintro e w2 ⟨rfl, hb⟩
  have HB2 := Lib.hid (HB1.out.trans (hb.mono HB1.out.size))
  clear hb HB1
  go_wp2_with fail
  refine (shits_nil _).mono ?_
  rintro e w3 ⟨rfl, rfl⟩
  go_wp2_with fail
  refine (ssettle_nil _ 0 _).mono ?_
  rintro e w3 ⟨rfl, rfl⟩
  go_wp2_with fail
  refine (sdevs_nil _).mono ?_
  rintro e w3 ⟨rfl, rfl⟩
  go_wp2_with fail
  refine (live18 _ (HK.out.below HB2.out HBP.out)).mono ?_
  rintro e w3 ⟨rfl, hb⟩
  have HB3 := Lib.hid (HB2.out.trans (hb.mono HB2.out.size))
  clear hb HB2
  go_wp2
  go_ret
  exact ⟨rfl, HB3.out⟩
end Go.Proofs.YtphhnhldbajaoaaGreatDoor.storeNil

namespace Go.Proofs.YtphhnhldbajaoaaGreatDoor
open Go.ChangeShapes Go.WideShapes Go.ChangeAt Go.RowKit

theorem gRoots : Tryz.prog.globalNamed (Rows.storeNilRow.named.headD "") = some 0 := by kernel_rfl
theorem gRootsType : (Tryz.prog.globals[0]?).map (·.type) = some 233 := by kernel_rfl
theorem cells32 : Tryz.prog.cellsOf 180 = 1 := by kernel_rfl
theorem cells64 : Tryz.prog.cellsOf 233 = 64 := by kernel_rfl

def kInts : List Int := kTab.map Int.ofNat

theorem door_met (os : Os) (args : Array Value) : laidMetH Tryz.prog Rows.storeNilRow.laid ((World.doorLaid Tryz.prog 400 os).forCall (fun _ _ => 0) ⟨#[], args, []⟩).memory :=
  laidMetH_of_parts3 (fuel := 8) (laidMet_of_run' 8 (by kernel_rfl) (by kernel_rfl)) (by kernel_rfl) (by kernel_rfl)

theorem laid_tab : Rows.storeNilRow.laid = [(Rows.storeNilRow.named.headD "", Lib.tabData .u32 kInts)] := rfl

theorem kt_of_laid {W : World} (h : laidMetH Tryz.prog Rows.storeNilRow.laid W) : Kt W := by
  rw [MakeChecks.laidMetH_plain _ _ _ (by kernel_rfl), laid_tab] at h
  have hT := Lib.tabIs_of_head gRoots gRootsType Tryz.underlying233 Tryz.underlying180 cells32 cells64 h
  intro t ht
  have hl : t < kTab.length := by show t < 64; exact ht
  have hc := hT.cell gRoots t (by simpa [kInts] using hl)
  rw [hc]
  congr 2
  simp [kInts, List.getD, List.getElem?_eq_getElem hl]
end Go.Proofs.YtphhnhldbajaoaaGreatDoor
