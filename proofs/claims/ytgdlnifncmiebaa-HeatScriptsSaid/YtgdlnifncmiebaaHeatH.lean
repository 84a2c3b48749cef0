/-
  container/heap's Push over the queue.
-/
import Derived.Test.YtgdlnifncmiebaaHeatC
import Derived.Test.YtgdlnifncmiebaaHeatG
import Derived.Handy
namespace Go.Proofs.Ytgdlnifncmiebaa
open Go.RowKit Go.ChangeShapes Go.WideShapes Go.ChangeAt

set_option maxRecDepth 100000 in
set_option maxHeartbeats 2000000 in
theorem hpush_any (b : Nat) (a : Option Addr) (n c : Nat) (l : List ItD) (x : ItD) (w : World) (h : Box w b 67 #[.slice a n c]) (hI : Its w 0 (.slice a n c) l) (hne : (Value.slice a n c).ownBlock ≠ some b) (hlen : l.length ≤ 90000) :
    Calls Try.prog 27 #[.iface 58 (.pointer (some ⟨b, 0, none⟩)), .iface 61 (.agg #[.string x.1, .int .i64 x.2])] w fun e w' => e = .returned (.tuple #[]) ∧ ∃ g cap, QAt w' b g cap (pushL hotter l x) ∧ ((Value.slice a n c).ownBlock = some g ∨ w.heap.size ≤ g) ∧ Chg (b :: (Value.slice a n c).ownBlock.toList) w w' := by
  have HP := Lib.hid (qpush_any b a n c l x w h hI hne (by omega))
  have hbl := h.lt
  have HB : Hid (b < w.heap.size) := hbl
  have HL := Lib.hid hlen
  obtain ⟨S, hS⟩ : ∃ S, S = b :: (Value.slice a n c).ownBlock.toList := ⟨_, rfl⟩
  rw [← hS] at HP ⊢
  have HS := Lib.hid hS
  clear h hI hne hlen hS hbl
  have i0 := inv_push b w
  go_enter Try.func27, Try.ntmps27
  go_wp2_with fail
  refine HP.out.mono ?_
  rintro e w2 ⟨rfl, g, cap, hq, ho, hc⟩
  have HO := Lib.hid ho
  have HQ := Lib.hid hq
  have HC := Lib.hid hc
  have hl : (l ++ [x]).length = l.length + 1 := by simp
  obtain ⟨m, hm⟩ : ∃ m, m = l.length := ⟨_, rfl⟩
  have c2 : w2.cell? ⟨b, 0, none⟩ = some (.slice (some ⟨g, 0, none⟩) (m + 1) cap) := by
    have := hq.box.cell 0 _ rfl
    rw [hl, ← hm] at this
    exact this
  have i2 := inv_len b _ _ _ w2 c2
  have HU : Hid (Calls Try.prog 29 #[.iface 58 (.pointer (some ⟨b, 0, none⟩)), .int .i64 (m : Int)] w2 fun e w' => e = .returned (.tuple #[]) ∧ QAt w' b g cap (pushL hotter l x) ∧ Chg [g] w2 w') := by
    have := up_any b g cap (l ++ [x]) l.length w2 hq (by rw [hl]; omega) (by rw [hl]; have := HL.out; omega)
    rw [hm]
    exact this
  have w1 : wrap64 ((m : Int) + 1 - 1) = (m : Int) := by rw [IntWalk.wrap64_in _ (by have := HL.out; omega)]; omega
  have w2' : wrap64 (m : Int) = (m : Int) := IntWalk.wrap64_in _ (by have := HL.out; omega)
  clear hq hc hl hm i0 ho
  go_wp2_with fail
  refine (qlen _ _ _ _).mono ?_
  rintro e w' ⟨rfl, rfl⟩
  go_wp2_with fail
  refine HU.out.mono ?_
  rintro e w3 ⟨rfl, hq3, hc3⟩
  have HQ3 := Lib.hid hq3
  have HC3 := Lib.hid hc3
  clear hq3 hc3 c2 i2
  go_wp2
  go_end0
  refine ⟨rfl, g, cap, HQ3.out, HO.out, HC.out.then HC3.out ?_⟩
  intro i hi
  rw [List.mem_singleton.1 hi]
  rcases HO.out with h | h
  · exact .inl (by rw [HS.out, h]; simp)
  · exact .inr h
end Go.Proofs.Ytgdlnifncmiebaa
