/-
  container/heap's Pop over the queue.
-/
import Derived.Test.YtgdlnifncmiebaaHeatC
import Derived.Test.YtgdlnifncmiebaaHeatE
import Derived.Handy
namespace Go.Proofs.Ytgdlnifncmiebaa
open Go.RowKit Go.ChangeShapes Go.WideShapes Go.ChangeAt

theorem qlast_snoc (l : List ItD) (n : Nat) (h : l.length = n + 1) : l = l.take n ++ [gt l n] := by
  have h1 : gt l n = l[n] := by unfold gt; rw [List.getD_eq_getElem?_getD, List.getElem?_eq_getElem (by omega)]; rfl
  rw [h1, ← List.take_succ_eq_append_getElem (by omega), List.take_of_length_le (by omega)]

set_option maxRecDepth 100000 in
set_option maxHeartbeats 2000000 in
theorem hpop_any (b g cap : Nat) (l : List ItD) (w : World) (h : QAt w b g cap l) (h0 : 0 < l.length) (hlen : l.length ≤ 100000) :
    Calls Try.prog 26 #[.iface 58 (.pointer (some ⟨b, 0, none⟩))] w fun e w' => e = .returned (.iface 61 (.agg #[.string (popL hotter l).2.1, .int .i64 (popL hotter l).2.2])) ∧ QAt w' b g cap (popL hotter l).1 ∧ Chg [b, g] w w' := by
  have HQ := Lib.hid h
  obtain ⟨n, hn⟩ : ∃ n, l.length = n + 1 := ⟨l.length - 1, by omega⟩
  have hPE : popL hotter l = ((downL hotter (swapL l 0 n) 0 n).take n, gt (downL hotter (swapL l 0 n) 0 n) n) := by unfold popL; rw [hn]; rfl
  obtain ⟨D, hD⟩ : ∃ D, D = downL hotter (swapL l 0 n) 0 n := ⟨_, rfl⟩
  rw [hPE, ← hD]
  have hDl : D.length = n + 1 := by rw [hD, downL_len _ _ _ _ rfl, swap_len, hn]
  have HDS := Lib.hid (qlast_snoc D n hDl)
  have HD := Lib.hid hD
  have HDL := Lib.hid hDl
  have HN := Lib.hid hn
  have HLL := Lib.hid hlen
  have c0 : w.cell? ⟨b, 0, none⟩ = some (.slice (some ⟨g, 0, none⟩) (n + 1) cap) := by
    have := h.box.cell 0 _ rfl
    rw [← hn]; exact this
  have i0 := inv_len b _ _ _ w c0
  have w1 : wrap64 ((n : Int) + 1 - 1) = (n : Int) := by rw [IntWalk.wrap64_in _ (by omega)]; omega
  have w2 : wrap64 (n : Int) = (n : Int) := IntWalk.wrap64_in _ (by omega)
  clear h h0 hlen hn hPE hD hDl
  go_enter Try.func26, Try.ntmps26
  go_wp2_with fail
  refine (qlen _ _ _ _).mono ?_
  rintro e w' ⟨rfl, rfl⟩
  have i1 := inv_swap b _ _ _ w c0
  have HSW := Lib.hid (qswap 0 g cap 0 n l w HQ.out.row (by have := HN.out; omega) (by have := HN.out; omega))
  have HS2 : Hid (Calls Try.prog 49 #[.slice (some ⟨g, 0, none⟩) (n + 1) cap, .int .i64 0, .int .i64 (n : Int)] w fun e w' => e = .returned (.tuple #[]) ∧ Its w' 0 (.slice (some ⟨g, 0, none⟩) (n + 1) cap) (swapL l 0 n) ∧ Chg [g] w w') := by
    have h := HSW.out
    rw [HN.out] at h
    exact h
  clear HSW
  go_wp2_with fail
  refine HS2.out.mono ?_
  rintro e w2 ⟨rfl, hr, hc⟩
  have hln : (swapL l 0 n).length = n + 1 := by rw [swap_len]; exact HN.out
  have HQ2 : Hid (QAt w2 b g cap (swapL l 0 n)) := ⟨by rw [hln, ← HN.out]; exact HQ.out.box.of (hc.block b HQ.out.box.lt (by simpa using Ne.symm HQ.out.ne)), by rw [hln]; exact hr, HQ.out.ne⟩
  have HC2 : Hid (Chg [b, g] w w2) := hc.mono (by simp)
  have HDN := Lib.hid (down_any b g cap (swapL l 0 n) 0 n w2 HQ2.out (by omega) (by have := HLL.out; have := HN.out; omega) (by omega) (by omega))
  clear hr hc hln HS2 i0 i1 c0
  go_wp2_with fail
  refine HDN.out.mono ?_
  rintro e w3 ⟨r, rfl, hq, hc⟩
  rw [← HD.out] at hq
  have HC3 : Hid (Chg [b, g] w w3) := HC2.out.trans (hc.mono (by simp))
  rw [HDS.out] at hq
  have i3 := inv_pop b w3
  have HP := Lib.hid (qpop_any b g cap (D.take n) (gt D n) w3 hq (by have := HDL.out; have := HLL.out; have := HN.out; simp; omega))
  clear hq hc HDN HQ2 HC2
  go_wp2_with fail
  refine HP.out.mono ?_
  rintro e w4 ⟨rfl, hq, hc⟩
  have HQ4 := Lib.hid hq
  have HC4 : Hid (Chg [b, g] w w4) := HC3.out.trans (hc.mono (by simp))
  clear hq hc
  go_wp2
  go_ret
  exact ⟨by simp, HQ4.out, HC4.out⟩
end Go.Proofs.Ytgdlnifncmiebaa
