/-
  The walk of FixedBack.
-/
import Derived.Test.YtjhhgaajpojjfaaLive
import Derived.Test.YtjhhgaajpojjfaaBackPlain
import Derived.Deep.QuietTactic
import Derived.BigQuiet
import Derived.Deep.RegionHeld3
import Derived.WalkSmall
import Derived.Test.YtjhhgaajpojjfaaFrame
namespace Go.Proofs.Ytjhhgaajpojjfaa.fixedBack
open Go.RowKit

theorem good_succ {l : List Int} {k : Nat} {m n : Int} (h : ∀ j x, j < k → l[j]? = some x → 0 ≤ x ∧ x ≤ m) (hn : l[k]? = some n) (h0 : 0 ≤ n) (h1 : n ≤ m) : ∀ j x, j < k + 1 → l[j]? = some x → 0 ≤ x ∧ x ≤ m := by
  intro j x hj hx
  by_cases e : j = k
  · subst e; rw [hn] at hx; cases hx; exact ⟨h0, h1⟩
  · exact h j x (by omega) hx

theorem small_succ {l : List ByteArray} {k : Nat} {y : ByteArray} (h : ∀ x ∈ l.take k, x.size ≤ 100) (hn : l[k]? = some y) (h1 : y.size ≤ 100) : ∀ x ∈ l.take (k + 1), x.size ≤ 100 := by
  intro x hx
  rw [take_some hn] at hx
  rcases List.mem_append.1 hx with hx | hx
  · exact h x hx
  · rw [List.mem_singleton.1 hx]; exact h1

theorem textB_size (s : ByteArray) (w : Int) (h : s.size ≤ 100) : (textB s w).size ≤ 107 := by
  unfold textB
  split
  · exact Nat.zero_le _
  · have := putB_size s.size w
    rw [ByteArray.size_append]
    omega

set_option maxHeartbeats 4000000 in
theorem walk (w : World) (x0 : Option Addr) (c0 : Nat) (l0 : List Int) (s0 : Sl w (Value.int .i64) x0 l0) (w0 : ∀ n ∈ l0, (Lit.int .i64 n).wf = true) (m0 : l0.length ≤ maxLen) (x1 : Option Addr) (c1 : Nat) (l1 : List ByteArray) (s1 : Sl w Value.string x1 l1) (w1 : ∀ s ∈ l1, s.size ≤ maxLen) (m1 : l1.length ≤ maxLen) (a2 : Int) (w2 : (Lit.int .i64 a2).wf = true) :
    Calls Try.prog 4 #[.slice x0 l0.length c0, .slice x1 l1.length c1, .int .i64 a2] w fun e w' => e = .returned (.bool true) ∧ Below w.heap.size w w' := by
  by_cases h1 : 20 < l0.length
  · go_enter Try.func4, Try.ntmps4
    go_wp2_with fail
    refine (live_any _).mono ?_
    rintro e wl ⟨rfl, hb⟩
    have Hl := Lib.hid hb
    clear hb
    go_wp2
    go_ret
    exact ⟨rfl, Hl.out⟩
  by_cases h2 : 20 < l1.length
  · go_enter Try.func4, Try.ntmps4
    go_wp2_with fail
    refine (live_any _).mono ?_
    rintro e wl ⟨rfl, hb⟩
    have Hl := Lib.hid hb
    clear hb
    go_wp2
    go_ret
    exact ⟨rfl, Hl.out⟩
  by_cases h3 : a2 < 1
  · go_enter Try.func4, Try.ntmps4
    go_wp2_with fail
    refine (live_any _).mono ?_
    rintro e wl ⟨rfl, hb⟩
    have Hl := Lib.hid hb
    clear hb
    go_wp2
    go_ret
    exact ⟨rfl, Hl.out⟩
  by_cases h4 : 7 < a2
  · go_enter Try.func4, Try.ntmps4
    go_wp2_with fail
    refine (live_any _).mono ?_
    rintro e wl ⟨rfl, hb⟩
    have Hl := Lib.hid hb
    clear hb
    go_wp2
    go_ret
    exact ⟨rfl, Hl.out⟩
  obtain ⟨wd, rfl⟩ : ∃ k : Nat, a2 = k := ⟨a2.toNat, by omega⟩
  have hw : 1 ≤ wd ∧ wd ≤ 7 := by omega
  have hw7 : wd ≤ 7 := hw.2
  have HW := Lib.hid hw
  have S0 := Lib.hid s0
  have S1 := Lib.hid s1
  clear hw s0 s1 w0 w1 m0 m1
  go_enter Try.func4, Try.ntmps4
  go_wp2
  go_loopw [7, 8] (fun v i wr => ∃ k : Nat, k ≤ l0.length ∧ i = .int .i64 k ∧ v = .string (sN l0 wd k) ∧ Hid (∀ j x, j < k → l0[j]? = some x → 0 ≤ x ∧ x ≤ mostI wd) ∧ Hid (Below w.heap.size w wr)) (fun _ i _ => l0.length - (intOf i).toNat)
  case atStart => exact ⟨0, Nat.zero_le _, rfl, by rw [sN_zero], fun j x hj => by omega, Below.refl _ _⟩
  case round =>
    obtain ⟨k, hk, rfl, rfl, HG, HL⟩ := hrel
    have hsz := sN_size l0 wd k (by omega) hw7
    by_cases hlt : k < l0.length
    · obtain ⟨n, hn⟩ : ∃ n, l0[k]? = some n := ⟨_, List.getElem?_eq_getElem hlt⟩
      obtain ⟨b, off, rfl, hbl, hcs⟩ := S0.out (by intro h; rw [h] at hlt; simp at hlt)
      have hc : wr.cell? ⟨b, off + k, none⟩ = some (.int .i64 n) := by rw [HL.out.cell (by exact hbl)]; exact hcs k n hn
      have HN := Lib.hid hn
      have Hbl := Lib.hid hbl
      have Hcs := Lib.hid hcs
      clear hn hcs hbl
      by_cases hn0 : n < 0
      · have hd : decide (n < 0) = true := by simpa using hn0
        go_wp2_with fail
        go_quiet (fail)
        go_wp2_with fail
        refine (live_any _).mono ?_
        rintro e wl ⟨rfl, hb⟩
        have Hl := Lib.hid ((below_drewN HL.out _).trans (hb.mono (by simpa using HL.out.size)))
        clear hb
        go_wp2
        go_ret
        exact ⟨rfl, Hl.out⟩
      · have hd : decide (n < 0) = false := by simpa using hn0
        by_cases hn1 : mostI wd < n
        · go_wp2_with fail
          go_quiet ((go_at_call 13; exact Calls.quiet_of_same ((most_any _ _).mono fun e w' h => ⟨h.1, h.2.symm⟩)))
          go_wp2_with fail
          refine (live_any _).mono ?_
          rintro e wl ⟨rfl, hb⟩
          have Hl := Lib.hid ((below_drewN HL.out _).trans (hb.mono (by simpa using HL.out.size)))
          clear hb
          go_wp2
          go_ret
          exact ⟨rfl, Hl.out⟩
        · have hp := putB_size n wd
          have HS := Lib.hid (sN_succ HN.out (by omega) (by omega : n ≤ mostI wd))
          have HG' := Lib.hid (good_succ HG.out HN.out (by omega) (by omega))
          go_wp2_with fail
          go_quiet ((go_at_call 13; exact Calls.quiet_of_same ((most_any _ _).mono fun e w' h => ⟨h.1, h.2.symm⟩)))
          go_wp2_with fail
          refine (put_any n wd _).mono ?_
          rintro e w2 ⟨rfl, hb⟩
          have HL2 := Lib.hid ((below_drewN HL.out _).trans (hb.mono (by simpa using HL.out.size)))
          clear hb HL
          generalize putB n wd = pb at *
          generalize sN l0 wd k = sk at *
          go_wp2
          go_roundw
          case rel => exact ⟨k + 1, by omega, by go_num, congrArg Value.string HS.out, HG', HL2⟩
          case measure => simp [intOf]; omega
    · have hkl : k = l0.length := by omega
      subst hkl
      have HE := Lib.hid (sN_end l0 l1 wd)
      generalize sN l0 wd l0.length = sk at *
      go_wp2
      go_loopw [7, 9] (fun v i wr => ∃ k : Nat, k ≤ l1.length ∧ i = .int .i64 k ∧ v = .string (sT l0 l1 wd k) ∧ Hid (∀ x ∈ l1.take k, x.size ≤ 100) ∧ Hid (Below w.heap.size w wr)) (fun _ i _ => l1.length - (intOf i).toNat)
      case atStart => exact ⟨0, Nat.zero_le _, rfl, congrArg Value.string HE.out, fun x hx => by simp at hx, HL⟩
      case round =>
        obtain ⟨k, hk, rfl, rfl, HT, HL⟩ := hrel
        have hsz := sT_size l0 l1 wd k (by omega) (by omega) hw7 HT.out
        by_cases hlt : k < l1.length
        · obtain ⟨x, hx⟩ : ∃ x, l1[k]? = some x := ⟨_, List.getElem?_eq_getElem hlt⟩
          obtain ⟨b, off, rfl, hbl, hcs⟩ := S1.out (by intro h; rw [h] at hlt; simp at hlt)
          have hc : wr.cell? ⟨b, off + k, none⟩ = some (.string x) := by rw [HL.out.cell (by exact hbl)]; exact hcs k x hx
          have HN := Lib.hid hx
          clear hx hcs hbl
          by_cases hx1 : 100 < x.size
          · go_wp2_with fail
            refine (live_any _).mono ?_
            rintro e wl ⟨rfl, hb⟩
            have Hl := Lib.hid (HL.out.trans (hb.mono HL.out.size))
            clear hb
            go_wp2
            go_ret
            exact ⟨rfl, Hl.out⟩
          · have HS := Lib.hid (sT_succ (l := l0) HN.out HW.out (by omega))
            have hts := textB_size x wd (by omega)
            go_wp2_with fail
            refine (ftext_any x wd _ (by omega)).mono ?_
            rintro e w2 ⟨rfl, hb⟩
            have HL2 := Lib.hid (HL.out.trans (hb.mono HL.out.size))
            have HT' := Lib.hid (small_succ HT.out HN.out (by omega))
            clear hb HL
            generalize textB x wd = tb at *
            generalize sT l0 l1 wd k = sk at *
            go_wp2
            go_roundw
            case rel => exact ⟨k + 1, by omega, by go_num, congrArg Value.string HS.out, HT', HL2⟩
            case measure => simp [intOf]; omega
        · have hkl : k = l1.length := by omega
          subst hkl
          have HE := Lib.hid (sT_end l0 l1 wd)
          rw [List.take_length] at HT
          generalize sT l0 l1 wd l1.length = sk at *
          go_wp2_with fail
          refine (read_any sk _).mono ?_
          rintro e w2 ⟨rfl, hr, hb⟩
          have Hr := Lib.hid hr
          have HL2 := Lib.hid (HL.out.trans (hb.mono HL.out.size))
          have Hg := Lib.hid HL.out.size
          clear hr hb HL
          generalize wr.heap.size = g at *
          rw [← HE.out.symm] at Hr
          clear HE hsz
          go_wp2_with fail
          go_loopw [11] (fun i wr => ∃ k : Nat, k ≤ l0.length ∧ i = .int .i64 k ∧ Hid (RdAt wr g (rN l0 l1 wd k) 0) ∧ Hid (Below w.heap.size w wr)) (fun i _ => l0.length - (intOf i).toNat)
          case atStart => exact ⟨0, Nat.zero_le _, rfl, Hr, HL2⟩
          case round =>
            obtain ⟨k, hk, rfl, Hr, HL⟩ := hrel
            by_cases hlt : k < l0.length
            · obtain ⟨n, hn⟩ : ∃ n, l0[k]? = some n := ⟨_, List.getElem?_eq_getElem hlt⟩
              obtain ⟨b, off, rfl, hbl, hcs⟩ := S0.out (by intro h; rw [h] at hlt; simp at hlt)
              have hc : wr.cell? ⟨b, off + k, none⟩ = some (.int .i64 n) := by rw [HL.out.cell (by exact hbl)]; exact hcs k n hn
              have HN := Lib.hid (rN_num (t := l1) hn HW.out (HG.out k n hlt hn).1 (HG.out k n hlt hn).2)
              have Hbg := Lib.hid (Nat.lt_of_lt_of_le hbl Hg.out)
              clear hn hcs hbl
              go_wp2_with fail
              go_region_held3 (fun w' => w'.cell? ⟨b, off + k, none⟩ = some (.int .i64 n)) (first | go_keep | exact hck)
                ((go_at_call 16; refine (number_any g _ 0 wd _ (by exact Hr.out)).mono ?_; rintro e w' ⟨rfl, hr, hb⟩; rw [HN.out.1]; rw [HN.out.2.1, HN.out.2.2] at hr; have hck : w'.cell? ⟨b, off + k, none⟩ = some (.int .i64 n) := (by rw [hb.cell (by exact Hbg.out)]; exact hc); have Hr2 := Lib.hid hr; have HLn := Lib.hid (HL.out.trans (Below.mono (show Below g wr w' from ⟨hb.os, hb.tape, hb.output, hb.size, hb.block⟩) Hg.out)); clear hr hb))
              clear hck hc HL Hr
              go_wp2
              go_roundw
              case rel => exact ⟨k + 1, by omega, by go_num, Hr2, HLn⟩
              case measure => simp [intOf]; omega
            · have hkl : k = l0.length := by omega
              subst hkl
              rw [rN_end] at Hr
              go_wp2_with fail
              go_loopw [12] (fun i wr => ∃ k : Nat, k ≤ l1.length ∧ i = .int .i64 k ∧ Hid (RdAt wr g (rT l1 wd k) 0) ∧ Hid (Below w.heap.size w wr)) (fun i _ => l1.length - (intOf i).toNat)
              case atStart => exact ⟨0, Nat.zero_le _, rfl, Hr, HL⟩
              case round =>
                obtain ⟨k, hk, rfl, Hr, HL⟩ := hrel
                by_cases hlt : k < l1.length
                · obtain ⟨x, hx⟩ : ∃ x, l1[k]? = some x := ⟨_, List.getElem?_eq_getElem hlt⟩
                  obtain ⟨b, off, rfl, hbl, hcs⟩ := S1.out (by intro h; rw [h] at hlt; simp at hlt)
                  have hc : wr.cell? ⟨b, off + k, none⟩ = some (.string x) := by rw [HL.out.cell (by exact hbl)]; exact hcs k x hx
                  have HN := Lib.hid (rT_text hx HW.out (HT.out x (List.mem_of_getElem? hx)))
                  have Hbg := Lib.hid (Nat.lt_of_lt_of_le hbl Hg.out)
                  clear hx hcs hbl
                  go_wp2_with fail
                  go_region_held3 (fun w' => w'.cell? ⟨b, off + k, none⟩ = some (.string x)) (first | go_keep | exact hck)
                    ((go_at_call 17; refine (text_any g _ 0 wd _ (by exact Hr.out)).mono ?_; rintro e w' ⟨rfl, hr, hb⟩; rw [HN.out.1]; rw [HN.out.2.1, HN.out.2.2] at hr; have hck : w'.cell? ⟨b, off + k, none⟩ = some (.string x) := (by rw [hb.cell (by exact Hbg.out)]; exact hc); have Hr2 := Lib.hid hr; have HLn := Lib.hid (HL.out.trans (Below.mono (show Below g wr w' from ⟨hb.os, hb.tape, hb.output, hb.size, hb.block⟩) Hg.out)); clear hr hb))
                  clear hck hc HL Hr
                  go_wp2
                  go_roundw
                  case rel => exact ⟨k + 1, by omega, by go_num, Hr2, HLn⟩
                  case measure => simp [intOf]; omega
                · have hkl : k = l1.length := by omega
                  subst hkl
                  rw [rT_end] at Hr
                  go_wp2_with fail
                  refine (end_any g _ _ _ Hr.out).mono ?_
                  rintro e w' ⟨rfl, rfl⟩
                  rw [show endR ⟨#[]⟩ 0 = 0 from rfl]
                  go_wp2_with fail
                  refine (live_any _).mono ?_
                  rintro e wl ⟨rfl, hb⟩
                  have Hl := Lib.hid (HL.out.trans (hb.mono HL.out.size))
                  clear hb
                  go_wp2
                  go_ret
                  exact ⟨rfl, Hl.out⟩
end Go.Proofs.Ytjhhgaajpojjfaa.fixedBack
