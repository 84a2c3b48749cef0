/-
  The library's heap over the queue: its methods through the interface; up.
-/
import Derived.Test.YtgdlnifncmiebaaHeatA
import Derived.Handy
namespace Go.Proofs.Ytgdlnifncmiebaa
open Go.RowKit Go.ChangeShapes Go.WideShapes Go.ChangeAt

theorem inv_less0 (b : Nat) (w : World) : (method 193 58 (.pointer (some ⟨b, 0, none⟩)) "Less").run Try.prog w = ((loadVar 67 ⟨b, 0, none⟩) >>= fun r => (pure (46, r) : Sem (FuncId × Value))).run Try.prog w := by kernel_rfl
theorem inv_less (b : Nat) (a : Option Addr) (n c : Nat) (w : World) (h : w.cell? ⟨b, 0, none⟩ = some (.slice a n c)) : (method 193 58 (.pointer (some ⟨b, 0, none⟩)) "Less").run Try.prog w = .ok (46, .slice a n c) w := by
  rw [inv_less0]
  go_simp
theorem inv_swap0 (b : Nat) (w : World) : (method 193 58 (.pointer (some ⟨b, 0, none⟩)) "Swap").run Try.prog w = ((loadVar 67 ⟨b, 0, none⟩) >>= fun r => (pure (49, r) : Sem (FuncId × Value))).run Try.prog w := by kernel_rfl
theorem inv_swap (b : Nat) (a : Option Addr) (n c : Nat) (w : World) (h : w.cell? ⟨b, 0, none⟩ = some (.slice a n c)) : (method 193 58 (.pointer (some ⟨b, 0, none⟩)) "Swap").run Try.prog w = .ok (49, .slice a n c) w := by
  rw [inv_swap0]
  go_simp
theorem inv_len0 (b : Nat) (w : World) : (method 193 58 (.pointer (some ⟨b, 0, none⟩)) "Len").run Try.prog w = ((loadVar 67 ⟨b, 0, none⟩) >>= fun r => (pure (25, r) : Sem (FuncId × Value))).run Try.prog w := by kernel_rfl
theorem inv_len (b : Nat) (a : Option Addr) (n c : Nat) (w : World) (h : w.cell? ⟨b, 0, none⟩ = some (.slice a n c)) : (method 193 58 (.pointer (some ⟨b, 0, none⟩)) "Len").run Try.prog w = .ok (25, .slice a n c) w := by
  rw [inv_len0]
  go_simp
theorem inv_push (b : Nat) (w : World) : (method 193 58 (.pointer (some ⟨b, 0, none⟩)) "Push").run Try.prog w = .ok (48, .pointer (some ⟨b, 0, none⟩)) w := by kernel_rfl
theorem inv_pop (b : Nat) (w : World) : (method 193 58 (.pointer (some ⟨b, 0, none⟩)) "Pop").run Try.prog w = .ok (47, .pointer (some ⟨b, 0, none⟩)) w := by kernel_rfl

/-- Block b is the queue l; its row lies in block g. -/
structure QAt (w : World) (b g cap : Nat) (l : List ItD) : Prop where
  box : Box w b 67 #[.slice (some ⟨g, 0, none⟩) l.length cap]
  row : Its w 0 (.slice (some ⟨g, 0, none⟩) l.length cap) l
  ne : g ≠ b
theorem QAt.keep {w w' : World} {b g cap : Nat} {l : List ItD} (h : QAt w b g cap l) (hb : Below w.heap.size w w') : QAt w' b g cap l := ⟨h.box.keep hb h.box.lt, h.row.keep hb, h.ne⟩
theorem gt_some {l : List ItD} {i : Nat} (hi : i < l.length) : l[i]? = some (gt l i) := by unfold gt; rw [List.getD_eq_getElem?_getD, List.getElem?_eq_getElem hi]; rfl

set_option maxRecDepth 100000 in
set_option maxHeartbeats 2000000 in
theorem up_any (b g cap : Nat) (l : List ItD) (j : Nat) (w : World) (h : QAt w b g cap l) (hj : j < l.length) (hlen : l.length ≤ 100000) :
    Calls Try.prog 29 #[.iface 58 (.pointer (some ⟨b, 0, none⟩)), .int .i64 (j : Int)] w fun e w' => e = .returned (.tuple #[]) ∧ QAt w' b g cap (upL hotter l j) ∧ Chg [g] w w' := by
  have HQ := Lib.hid h
  obtain ⟨U, hU⟩ : ∃ U, U = upL hotter l j := ⟨_, rfl⟩
  rw [← hU]
  have HU := Lib.hid hU
  have HLL := Lib.hid hlen
  clear h hU hlen
  go_enter Try.func29, Try.ntmps29
  go_wp2_with fail
  go_loopw [1] (fun s wr => ∃ (k : Nat) (m : List ItD), k < m.length ∧ s = .int .i64 k ∧ Hid (m.length = l.length) ∧ Hid (QAt wr b g cap m) ∧ Hid (U = upL hotter m k) ∧ Hid (Chg [g] w wr)) (fun s _ => (intOf s).toNat)
  case atStart => exact ⟨j, l, hj, rfl, rfl, HQ, HU, Chg.refl _ _⟩
  case round =>
    clear HQ HU
    obtain ⟨k, m, hk, rfl, HM, HQ, HU, HC⟩ := hrel
    by_cases h0 : k = 0
    · subst h0
      have HUE : Hid (U = m) := by show _ = _; rw [HU.out, upL, dif_pos rfl]
      have w1 : wrap64 (-1) = -1 := IntWalk.wrap64_in _ (by omega)
      have w2 : (-1 : Int).tdiv 2 = 0 := by decide
      have w3 : wrap64 0 = 0 := IntWalk.wrap64_in _ (by omega)
      go_wp2_with fail
      go_end0
      exact ⟨rfl, by rw [HUE.out]; exact HQ.out, HC.out⟩
    · obtain ⟨k', rfl⟩ : ∃ k', k = k' + 1 := ⟨k - 1, by omega⟩
      have hml : m.length ≤ 100000 := by have := HM.out; have := HLL.out; omega
      obtain ⟨p, hp⟩ : ∃ p, p = k' / 2 := ⟨_, rfl⟩
      have w1 : wrap64 (k' : Int) = (k' : Int) := IntWalk.wrap64_in _ (by omega)
      have w2 : (k' : Int).tdiv 2 = (p : Int) := by rw [Int.tdiv_eq_ediv_of_nonneg (by omega)]; omega
      have w3 : wrap64 (p : Int) = (p : Int) := IntWalk.wrap64_in _ (by omega)
      have e3 : ((p : Int) == (k' : Int) + 1) = false := by rw [beq_eq_false_iff_ne]; omega
      have hpm : p < m.length := by omega
      have c0 : wr.cell? ⟨b, 0, none⟩ = some (.slice (some ⟨g, 0, none⟩) m.length cap) := HQ.out.box.cell 0 _ rfl
      obtain ⟨x0, x1, _, _⟩ := HQ.out.row.cells (gt_some hk)
      obtain ⟨y0, y1, _, _⟩ := HQ.out.row.cells (gt_some hpm)
      have HLS := Lib.hid (qless g cap m.length (k' + 1) p (gt m (k' + 1)) (gt m p) wr hk hpm x0 x1 y0 y1)
      have i1 := inv_less b _ _ _ wr c0
      have HUE : Hid (U = if hotter (gt m (k' + 1)) (gt m p) = true then upL hotter (swapL m p (k' + 1)) p else m) := by
        show _ = _
        rw [HU.out, upL, dif_neg h0, hp]
        rfl
      have HP : Hid (p < k' + 1) := by show _ < _; omega
      clear x0 x1 y0 y1 h0 hp
      cases hh : hotter (gt m (k' + 1)) (gt m p)
      · rw [hh] at HLS HUE
        go_wp2_with fail
        refine HLS.out.mono ?_
        rintro e w2 ⟨rfl, hb⟩
        have HQ2 := Lib.hid (HQ.out.keep hb)
        have HC2 := Lib.hid (HC.out.trans (Chg.of hb (Nat.le_refl _)))
        have HUE2 : Hid (U = m) := HUE.out.trans (if_neg (by simp))
        clear hb
        go_wp2
        go_end0
        exact ⟨rfl, by rw [HUE2.out]; exact HQ2.out, HC2.out⟩
      · rw [hh] at HLS HUE
        have HUE2 : Hid (U = upL hotter (swapL m p (k' + 1)) p) := HUE.out.trans (if_pos rfl)
        go_wp2_with fail
        refine HLS.out.mono ?_
        rintro e w2 ⟨rfl, hb⟩
        have hq2 := HQ.out.keep hb
        have HQ2 := Lib.hid hq2
        have HC2 := Lib.hid (HC.out.trans (Chg.of hb (Nat.le_refl _)))
        have c2 : w2.cell? ⟨b, 0, none⟩ = some (.slice (some ⟨g, 0, none⟩) m.length cap) := hq2.box.cell 0 _ rfl
        have i2 := inv_swap b _ _ _ w2 c2
        have HSW := Lib.hid (qswap 0 g cap p (k' + 1) m w2 hq2.row hpm hk)
        clear hb hq2 i1 c0
        go_wp2_with fail
        refine HSW.out.mono ?_
        rintro e w3 ⟨rfl, hr, hc⟩
        have hln : (swapL m p (k' + 1)).length = m.length := swap_len _ _ _
        have HQ3 : Hid (QAt w3 b g cap (swapL m p (k' + 1))) := ⟨by rw [hln]; exact HQ2.out.box.of (hc.block b HQ2.out.box.lt (by simpa using Ne.symm HQ2.out.ne)), by rw [hln]; exact hr, HQ2.out.ne⟩
        have HC3 := Lib.hid (HC2.out.trans hc)
        have HM3 : Hid ((swapL m p (k' + 1)).length = l.length) := hln.trans HM.out
        have HPM : Hid (p < (swapL m p (k' + 1)).length) := by show _ < _; rw [hln]; exact hpm
        clear hr hc hln HSW
        go_wp2
        go_roundw
        case rel => exact ⟨p, _, HPM.out, rfl, HM3, HQ3, HUE2, HC3⟩
        case measure => have := HP.out; simp [intOf]; omega
end Go.Proofs.Ytgdlnifncmiebaa
