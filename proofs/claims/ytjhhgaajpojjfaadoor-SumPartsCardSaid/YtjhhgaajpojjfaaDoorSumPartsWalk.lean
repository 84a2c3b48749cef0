/-
  The walk of SumParts.
-/
import Derived.Test.YtjhhgaajpojjfaaDoorSumLive
import Derived.Test.YtjhhgaajpojjfaaDoorShaMath
import Derived.Test.YtjhhgaajpojjfaaDoorFrame
namespace Go.Proofs.YtjhhgaajpojjfaaDoor.sumParts
open Go.RowKit

/-- Block b is a writer that took the text t. -/
def WrIn (w : World) (b : Nat) (t : ByteArray) : Prop := ∃ st r n, WtAt w b st r n ∧ WrOK t st r n ∧ st.ok
/-- The first k texts, one behind the other. -/
def catK (l : List ByteArray) (k : Nat) : ByteArray := (l.take k).foldl (· ++ ·) ⟨#[]⟩
theorem catK_succ {l : List ByteArray} {k : Nat} {x : ByteArray} (h : l[k]? = some x) : catK l k ++ x = catK l (k + 1) := by
  obtain ⟨hl, rfl⟩ := List.getElem?_eq_some_iff.1 h
  unfold catK
  rw [List.take_succ_eq_append_getElem hl, List.foldl_append]
  rfl

set_option maxHeartbeats 4000000 in
theorem walk (w : World) (hK : Kt w) (x0 : Option Addr) (c0 : Nat) (l0 : List ByteArray) (s0 : Sl w Value.string x0 l0) (w0 : ∀ s ∈ l0, s.size ≤ maxLen) (m0 : l0.length ≤ maxLen) (x1 : Option Addr) (c1 : Nat) (l1 : List Bool) (s1 : Sl w Value.bool x1 l1) (w1 : True) (m1 : l1.length ≤ maxLen) :
    Calls Tryd.prog 4 #[.slice x0 l0.length c0, .slice x1 l1.length c1] w fun e w' => e = .returned (.bool true) ∧ Below w.heap.size w w' := by
  have HK := Lib.hid hK
  have HP := Lib.hid hK.pos
  have S0 := Lib.hid s0
  have S1 := Lib.hid s1
  clear hK s0 s1 w0 w1 m0 m1
  by_cases h1 : 20 < l0.length
  · go_enter Tryd.func4, Tryd.ntmps4
    go_wp2_with fail
    refine (live_any _ HK.out).mono ?_
    rintro e wl ⟨rfl, hb⟩
    have Hl := Lib.hid hb
    clear hb
    go_wp2
    go_ret
    exact ⟨rfl, Hl.out⟩
  go_enter Tryd.func4, Tryd.ntmps4
  go_wp2_with fail
  refine (new_any _).mono ?_
  rintro e wn ⟨rfl, hw, hb⟩
  have B0 := Lib.hid hb
  have W0 : Hid (WrIn wn w.heap.size ⟨#[]⟩) := ⟨_, _, _, hw, WrOK.nil, Z0_ok⟩
  clear hb hw
  go_wp2_with fail
  go_loopw [6, 7] (fun v i wr => ∃ k : Nat, k ≤ l0.length ∧ i = .int .i64 k ∧ v = .string (catK l0 k) ∧ (catK l0 k).size ≤ 200 * k ∧ Hid (WrIn wr w.heap.size (catK l0 k)) ∧ Hid (Below w.heap.size w wr)) (fun _ i _ => l0.length - (intOf i).toNat)
  case atStart => exact ⟨0, Nat.zero_le _, rfl, rfl, Nat.zero_le _, W0, B0⟩
  case round =>
    clear W0 B0
    obtain ⟨k, hk, rfl, rfl, hcz, HI, HB⟩ := hrel
    obtain ⟨st, r, n, hw, hok, hst⟩ := HI.out
    have HW := Lib.hid hw
    have HOK := Lib.hid hok
    have HST := Lib.hid hst
    have hnz : n ≤ 4000 := by rw [hok.en]; omega
    have hrz : r.size ≤ 63 := by have := hok.rsize; omega
    clear hw hok hst HI
    by_cases hlt : k < l0.length
    · obtain ⟨x, hx⟩ : ∃ x, l0[k]? = some x := ⟨_, List.getElem?_eq_getElem hlt⟩
      obtain ⟨b, off, rfl, hbl, hcs⟩ := S0.out (by intro h; rw [h] at hlt; simp at hlt)
      have Hbl := Lib.hid hbl
      have Hcs := Lib.hid (hcs k x hx)
      have hc : wr.cell? ⟨b, off + k, none⟩ = some (.string x) := by rw [HB.out.cell (by exact hbl)]; exact Hcs.out
      have hcat := Lib.hid (catK_succ hx)
      clear hx hcs hbl
      by_cases hx1 : 200 < x.size
      · go_wp2_with fail
        refine (live_any _ (HK.out.below HB.out HP.out)).mono ?_
        rintro e wl ⟨rfl, hb⟩
        have Hl := Lib.hid (HB.out.trans (hb.mono HB.out.size))
        clear hb
        go_wp2
        go_ret
        exact ⟨rfl, Hl.out⟩
      · go_wp2_with fail
        refine (write_any w.heap.size st r x n _ HW.out HST.out (by omega) (by omega) (by omega) (HK.out.below HB.out HP.out)).mono ?_
        rintro e w2 ⟨rfl, hw, hb⟩
        have HW2 := Lib.hid hw
        have HB2 := Lib.hid (HB.out.trans hb)
        have HOK2 : Hid (WrOK (catK l0 (k + 1)) (fin1 (nowS st n) (r ++ x)) (wrR (r ++ x)) (n + x.size)) := by rw [← hcat.out]; exact HOK.out.write x
        have HST2 : Hid (fin1 (nowS st n) (r ++ x)).ok := absK_ok _ (nowS_ok HST.out) _
        have hnz2 : n + x.size ≤ 4200 := by omega
        have hrz2 : (wrR (r ++ x)).size ≤ 63 := by have := HOK2.out.rsize; omega
        have hc2 : w2.cell? ⟨b, off + k, none⟩ = some (.string x) := by rw [HB2.out.cell (by exact Hbl.out)]; exact Hcs.out
        have hn2 : Hid (n + x.size = (catK l0 (k + 1)).size) := HOK2.out.en
        have hcz2 : (catK l0 (k + 1)).size ≤ 200 * (k + 1) := by rw [← hcat.out, ByteArray.size_append]; omega
        clear hw hb hc HW HB HOK HST hnz hrz
        generalize fin1 (nowS st n) (r ++ x) = st2 at *
        generalize wrR (r ++ x) = r2 at *
        generalize n + x.size = n2 at *
        by_cases ha : k < l1.length
        · obtain ⟨y, hy⟩ : ∃ y, l1[k]? = some y := ⟨_, List.getElem?_eq_getElem ha⟩
          obtain ⟨b1, off1, rfl, hbl1, hcs1⟩ := S1.out (by intro h; rw [h] at ha; simp at ha)
          have hc3 : w2.cell? ⟨b1, off1 + k, none⟩ = some (.bool y) := by rw [HB2.out.cell (by exact hbl1)]; exact hcs1 k y hy
          clear hcs1 hbl1 hy
          cases y
          · go_wp2
            go_roundw
            case rel => exact ⟨k + 1, by omega, by go_num, congrArg Value.string hcat.out, hcz2, ⟨st2, r2, _, HW2.out, HOK2.out, HST2.out⟩, HB2⟩
            case measure => simp [intOf]; omega
          · go_wp2_with fail
            rw [hcat.out]
            obtain rfl := hn2.out
            have HC1 : Hid (catK l0 (k + 1) = catK l0 (k + 1)) := rfl
            generalize hct : catK l0 (k + 1) = t at *
            have HCT := Lib.hid hct
            clear hct HC1 hn2 hcat
            refine (sum_any w.heap.size st2 r2 t.size _ HW2.out HST2.out (by omega) (by omega) (HK.out.below HB2.out HP.out)).mono ?_
            rintro e w3 ⟨rfl, hb⟩
            rw [HOK2.out.sum]
            have W3 := Lib.hid (WtAt.below HW2.out hb HW2.out.lt)
            have B3 := Lib.hid (HB2.out.trans (hb.mono HB2.out.size))
            clear hb
            go_wp2_with fail
            refine (of_any t _ (by omega) (HK.out.below B3.out HP.out)).mono ?_
            rintro e w4 ⟨rfl, hb⟩
            have W4 := Lib.hid (WtAt.below W3.out hb W3.out.lt)
            have B4 := Lib.hid (B3.out.trans (hb.mono B3.out.size))
            clear hb W3 B3
            generalize sha t = d at *
            go_wp2_with fail
            refine (len_any w.heap.size st2 r2 t.size _ W4.out).mono ?_
            rintro e w' ⟨rfl, rfl⟩
            go_wp2
            go_roundw
            case rel => exact ⟨k + 1, by omega, by go_num, by rw [HCT.out], by rw [HCT.out]; exact hcz2, by rw [HCT.out]; exact ⟨st2, r2, _, W4.out, HOK2.out, HST2.out⟩, B4⟩
            case measure => simp [intOf]; omega
        · go_wp2
          go_roundw
          case rel => exact ⟨k + 1, by omega, by go_num, congrArg Value.string hcat.out, hcz2, ⟨st2, r2, _, HW2.out, HOK2.out, HST2.out⟩, HB2⟩
          case measure => simp [intOf]; omega
    · have hkl : k = l0.length := by omega
      subst hkl
      obtain rfl := HOK.out.en
      generalize catK l0 l0.length = t at *
      go_wp2_with fail
      refine (sum_any w.heap.size st r t.size _ HW.out HST.out (by omega) (by omega) (HK.out.below HB.out HP.out)).mono ?_
      rintro e w3 ⟨rfl, hb⟩
      rw [HOK.out.sum]
      have W3 := Lib.hid (WtAt.below HW.out hb HW.out.lt)
      have B3 := Lib.hid (HB.out.trans (hb.mono HB.out.size))
      clear hb
      go_wp2_with fail
      refine (of_any t _ (by omega) (HK.out.below B3.out HP.out)).mono ?_
      rintro e w4 ⟨rfl, hb⟩
      have W4 := Lib.hid (WtAt.below W3.out hb W3.out.lt)
      have B4 := Lib.hid (B3.out.trans (hb.mono B3.out.size))
      clear hb W3 B3
      generalize sha t = d at *
      go_wp2_with fail
      refine (len_any w.heap.size st r t.size _ W4.out).mono ?_
      rintro e w' ⟨rfl, rfl⟩
      go_wp2_with fail
      refine (live_any _ (HK.out.below B4.out HP.out)).mono ?_
      rintro e wl ⟨rfl, hb⟩
      have Hl := Lib.hid (B4.out.trans (hb.mono B4.out.size))
      clear hb
      go_wp2
      go_ret
      exact ⟨rfl, Hl.out⟩
end Go.Proofs.YtjhhgaajpojjfaaDoor.sumParts
