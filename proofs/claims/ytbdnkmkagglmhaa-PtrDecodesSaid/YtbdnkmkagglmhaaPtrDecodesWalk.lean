/-
  The walk of PtrDecodes.
-/
import Derived.Test.YtbdnkmkagglmhaaPtrLaw
import Derived.Test.YtbdnkmkagglmhaaPtrRef
import Derived.Test.YtbdnkmkagglmhaaPtrRefD
namespace Go.Proofs.Ytbdnkmkagglmhaa.ptrDecodes
open Go.RowKit

theorem sameD_self (p : PtrD) : sameD p p = true := by unfold sameD; simp

theorem decP_len (s : ByteArray) : (decP s).1.locs.length ≤ 1000 := by
  unfold decP
  split
  · decide
  · split
    · decide
    · split
      · exact Nat.zero_le _
      · split
        · decide
        · simp only [rawP, List.length_map, List.length_range]; omega

set_option maxHeartbeats 1000000 in
theorem walk (w : World) (a0 : ByteArray) (w0 : a0.size ≤ 140737488351232) :
    Calls Try.prog 10 #[.string a0] w fun e w' => e = .returned (.bool true) ∧ Below w.heap.size w w' := by
  by_cases ha : 200 < a0.size
  · go_enter Try.func10, Try.ntmps10
    go_wp2_with fail
    refine (live_any _).mono ?_
    rintro e wl ⟨rfl, hb⟩
    have HL := Lib.hid hb
    clear hb
    go_wp2
    go_ret
    exact ⟨rfl, HL.out⟩
  · have ha2 : a0.size ≤ 200 := by omega
    have HLEN := Lib.hid (decP_len a0)
    clear ha
    go_enter Try.func10, Try.ntmps10
    go_wp2_with fail
    refine (decode_any a0 _ w0).mono ?_
    rintro e u1 ⟨aq, cq, rfl, hsq, hb⟩
    simp only [ptrV]
    have QN := PB.new (cap := cq) hsq hb
    have HQ := Lib.hid QN
    clear hsq hb QN
    go_wp2_with fail
    generalize hwy : World.alloc _ _ = wy
    rw [hwy] at HQ
    clear hwy
    generalize u1.heap.size = g at *
    refine (rdecode_any a0 _ w0).mono ?_
    rintro e u2 ⟨ar, cr, rfl, hsr, hb⟩
    simp only [ptrV]
    have HQ2 := HQ.out.keep hb
    have RN := Lib.hid (PB.new (cap := cr) hsr HQ2.bel)
    have HQ3 := Lib.hid (HQ2.keep ((Below.refl _ _).alloc (Nat.le_refl _) (.cells #[.slice ar (decP a0).1.locs.length cr, .int .i64 (decP a0).1.len, .int .i64 (decP a0).1.birth, .string (decP a0).1.sum] 59 (0, 0))))
    clear hsr hb HQ HQ2
    generalize (decP a0).1 = q at *
    generalize (decP a0).2 = f at *
    have hff : (f == f) = true := by simp
    obtain ⟨p0, p1, p2, p3⟩ := HQ3.out.cells
    obtain ⟨r0, r1, r2, r3⟩ := RN.out.cells
    go_wp2_with fail
    clear p0 p1 p2 p3 r0 r1 r2 r3
    generalize hwy : World.alloc _ _ = wz
    rw [hwy] at HQ3 RN
    clear hwy
    refine (rsame_any aq ar cq cr q q _ HQ3.out.sl RN.out.sl HLEN.out HLEN.out).mono ?_
    rintro e u3 ⟨rfl, hb⟩
    rw [sameD_self]
    have HB := Lib.hid (HQ3.out.bel.trans (hb.mono HQ3.out.bel.size))
    clear hb HQ3 RN
    go_wp2_with fail
    refine (live_any _).mono ?_
    rintro e wl ⟨rfl, hb⟩
    have HL := Lib.hid (HB.out.trans (hb.mono HB.out.size))
    clear hb
    go_wp2
    go_ret
    exact ⟨rfl, HL.out⟩
end Go.Proofs.Ytbdnkmkagglmhaa.ptrDecodes
