/-
  The walk of PtrEncodes.
-/
import Derived.Test.YtbdnkmkagglmhaaPtrLaw
import Derived.Test.YtbdnkmkagglmhaaPtrRefE
import Derived.Deep.RegionHeld3
namespace Go.Proofs.Ytbdnkmkagglmhaa.ptrEncodes
open Go.RowKit

theorem str_eq (t : ByteArray) : (t.toList == t.toList) = true := by simp
theorem onK (l : List (Int × Int)) (d : Int) (k : Nat) (h : k < l.length) : onP (l.take (k + 1)) d = (onP (l.take k) d || (l[k]).1 == d) := by
  unfold onP
  rw [List.take_succ_eq_append_getElem h, List.any_append]
  simp

set_option maxHeartbeats 4000000 in
theorem walk (w : World) (x0 : Option Addr) (c0 : Nat) (y0 : PtrD) (s0 : SlP w x0 y0.locs) (m0 : y0.locs.length ≤ maxLen) (z0 : y0.sum.size ≤ maxLen) (a1 : Int) (w1 : (Lit.int .i64 a1).wf = true) :
    Calls Try.prog 9 #[ptrV x0 c0 y0, .int .i64 a1] w fun e w' => e = .returned (.bool true) ∧ Below w.heap.size w w' := by
  have PN := Lib.hid (PB.new (cap := c0) s0 (Below.refl w.heap.size w))
  clear s0
  unfold ptrV
  go_enter Try.func9, Try.ntmps9
  go_wp2_with fail
  generalize hwx : World.alloc _ _ = wx
  rw [hwx] at PN
  clear hwx
  generalize w.heap.size = g at PN ⊢
  refine (small_any x0 c0 y0 _).mono ?_
  rintro e v1 ⟨rfl, hb⟩
  have P_1 := Lib.hid (PN.out.keep hb)
  clear hb PN
  by_cases hs : smallP y0
  · have l0 : y0.locs.length ≤ 1000 := by have := hs.1; omega
    rw [decide_eq_true hs]
    clear hs
    obtain ⟨p0, p1, p2, p3⟩ := P_1.out.cells
    go_wp2_with fail
    clear p0 p1 p2 p3
    refine (encode_any x0 c0 y0 _ P_1.out.sl l0).mono ?_
    rintro e v2 ⟨rfl, hb⟩
    obtain ⟨t, ht⟩ : ∃ t, t = (if badP y0 then (⟨#[]⟩ : ByteArray) else encB y0) := ⟨_, rfl⟩
    rw [← ht]
    have HT := Lib.hid ht
    clear ht
    obtain ⟨kk, hkk⟩ : ∃ kk, kk = chkP y0 := ⟨_, rfl⟩
    rw [← hkk]
    have HKK := Lib.hid hkk
    clear hkk
    have P_2 := Lib.hid (P_1.out.keep hb)
    clear hb P_1
    obtain ⟨p0, p1, p2, p3⟩ := P_2.out.cells
    go_wp2_with fail
    clear p0 p1 p2 p3
    refine (rencode_any x0 c0 y0 _ P_2.out.sl l0).mono ?_
    rintro e v3 ⟨rfl, hb⟩
    rw [← HT.out, ← HKK.out]
    have P_3 := Lib.hid (P_2.out.keep hb)
    clear hb P_2
    have hst := str_eq t
    obtain ⟨p0, p1, p2, p3⟩ := P_3.out.cells
    go_wp2_with fail
    clear p0 p1 p2 p3
    go_loopw [9, 10] (fun b i wr => ∃ k : Nat, k ≤ y0.locs.length ∧ i = .int .i64 k ∧ b = .bool (onP (y0.locs.take k) a1) ∧ Hid (PB w g x0 c0 y0 wr)) (fun _ i _ => y0.locs.length - (intOf i).toNat)
    case atStart => exact ⟨0, Nat.zero_le _, rfl, rfl, P_3⟩
    case round =>
      clear P_3
      obtain ⟨k, hk, rfl, rfl, PL⟩ := hrel
      obtain ⟨k0, k1, k2, k3⟩ := PL.out.cells
      by_cases hlt : k < y0.locs.length
      · obtain ⟨b, off, rfl, hb, hc0, hc1⟩ := PL.out.sl.get k hlt
        have HON := Lib.hid (onK y0.locs a1 k hlt)
        cases hon : onP (y0.locs.take k) a1
        · rw [hon] at HON
          have HON2 := Lib.hid HON.out
          clear hon k1 k2 k3 hb HON
          go_wp2_with fail
          clear k0 hc0 hc1
          go_wp2
          go_roundw
          case rel => exact ⟨k + 1, by omega, by go_num, by rw [HON2.out]; rfl, PL⟩
          case measure => simp [intOf]; omega
        · rw [hon] at HON
          have HON2 := Lib.hid HON.out
          clear hon k1 k2 k3 hb HON
          go_wp2_with fail
          clear k0 hc0 hc1
          go_wp2
          go_roundw
          case rel => exact ⟨k + 1, by omega, by go_num, by rw [HON2.out]; rfl, PL⟩
          case measure => simp [intOf]; omega
      · have hkl : k = y0.locs.length := by omega
        subst hkl
        rw [List.take_length]
        obtain ⟨bo, hbo⟩ : ∃ bo, bo = onP y0.locs a1 := ⟨_, rfl⟩
        rw [← hbo]
        have HBO := Lib.hid hbo
        clear hbo hlt hk
        have hbb : (bo == bo) = true := by simp
        go_wp2_with fail
        go_region_held3 (fun w' => w'.cell? ⟨g, 0, none⟩ = some (.slice x0 y0.locs.length c0) ∧ w'.cell? ⟨g, 1, none⟩ = some (.int .i64 y0.len) ∧ w'.cell? ⟨g, 2, none⟩ = some (.int .i64 y0.birth) ∧ w'.cell? ⟨g, 3, none⟩ = some (.string y0.sum)) (first | go_keep | exact k0 | exact k1 | exact k2 | exact k3)
          (first
            | (go_at_call 36; refine (check_any x0 c0 y0 _ (by exact PL.out.drew.sl) l0).mono ?_; rintro e u1 ⟨rfl, hb⟩; rw [← HKK.out]; have P1 := Lib.hid (PL.out.drew.keep hb); obtain ⟨k0, k1, k2, k3⟩ := P1.out.cells; clear hb)
            | (go_at_call 37; refine (rcheck_any x0 c0 y0 _ (by exact P1.out.sl) l0).mono ?_; rintro e u2 ⟨rfl, hb⟩; rw [← HKK.out]; have P2 := Lib.hid (P1.out.keep hb); obtain ⟨k0, k1, k2, k3⟩ := P2.out.cells; clear hb)
            | (go_at_call 38; refine (on_any x0 c0 y0 a1 _ (by exact P2.out.sl) l0).mono ?_; rintro e u3 ⟨rfl, hb⟩; rw [← HBO.out]; have P3 := Lib.hid (P2.out.keep hb); obtain ⟨k0, k1, k2, k3⟩ := P3.out.cells; clear hb)
            | (go_at_call 33; refine (live_any _).mono ?_; rintro e u4 ⟨rfl, hb⟩; have P4 := Lib.hid (P3.out.keep hb); obtain ⟨k0, k1, k2, k3⟩ := P4.out.cells; clear hb))
        clear k0 k1 k2 k3
        go_wp2
        go_ret
        exact ⟨rfl, P4.out.bel⟩
  · rw [decide_eq_false hs]
    obtain ⟨p0, p1, p2, p3⟩ := P_1.out.cells
    go_wp2_with fail
    clear p0 p1 p2 p3
    refine (live_any _).mono ?_
    rintro e wl ⟨rfl, hb⟩
    have HL := Lib.hid (P_1.out.bel.trans (hb.mono P_1.out.bel.size))
    clear hb
    go_wp2
    go_ret
    exact ⟨rfl, HL.out⟩
end Go.Proofs.Ytbdnkmkagglmhaa.ptrEncodes
