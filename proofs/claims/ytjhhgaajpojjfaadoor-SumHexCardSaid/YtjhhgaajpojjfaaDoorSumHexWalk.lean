/-
  The walk of SumHex.
-/
import Derived.Test.YtjhhgaajpojjfaaDoorSumLive
import Derived.Test.YtjhhgaajpojjfaaDoorFrame
namespace Go.Proofs.YtjhhgaajpojjfaaDoor.sumHex
open Go.RowKit

theorem hexB_append (a b : ByteArray) : hexB (a ++ b) = hexB a ++ hexB b := by
  apply ba_eq
  simp [hexB, ByteArray.data_append]

theorem str_eq {a b : ByteArray} (h : a.toList = b.toList) : a = b := by
  rw [ByteArray.toList_eq, ByteArray.toList_eq] at h
  exact ba_eq h
theorem str_ne {a b : ByteArray} (h : ¬ a = b) : (a.toList == b.toList) = false := by
  rw [beq_eq_false_iff_ne]
  exact fun e => h (str_eq e)
theorem hexD_inj : ∀ x, x < 16 → ∀ y, y < 16 → hexD x = hexD y → x = y := by decide +kernel
theorem hx2_inj {x y : UInt8} (h : hx2 x.toNat = hx2 y.toNat) : x = y := by
  have hx := x.toNat_lt
  have hy := y.toNat_lt
  simp only [hx2, List.cons.injEq, and_true] at h
  have e1 := hexD_inj _ (by omega) _ (by omega) h.1
  have e2 := hexD_inj _ (by omega) _ (by omega) h.2
  exact UInt8.toNat_inj.1 (by omega)
theorem flat_inj : ∀ (l m : List UInt8), (l.flatMap fun c => hx2 c.toNat) = (m.flatMap fun c => hx2 c.toNat) → l = m
  | [], [], _ => rfl
  | [], y :: m, h => by simp [hx2] at h
  | x :: l, [], h => by simp [hx2] at h
  | x :: l, y :: m, h => by
    have hl : ∀ c : UInt8, (hx2 c.toNat).length = 2 := fun _ => rfl
    rw [List.flatMap_cons, List.flatMap_cons] at h
    obtain ⟨h1, h2⟩ := List.append_inj h (by rw [hl, hl])
    rw [hx2_inj h1, flat_inj l m h2]
theorem hexB_inj {a b : ByteArray} (h : hexB a = hexB b) : a = b := by
  have := congrArg (fun x : ByteArray => x.data.toList) h
  simp only [hexB, List.toList_toArray] at this
  exact ba_eq (flat_inj _ _ this)

theorem walk (w : World) (hK : Kt w) (a0 : ByteArray) (w0 : a0.size ≤ 140737488351232) (a1 : ByteArray) (w1 : a1.size ≤ 140737488351232) :
    Calls Tryd.prog 8 #[.string a0, .string a1] w fun e w' => e = .returned (.bool true) ∧ Below w.heap.size w w' := by
  have HK := Lib.hid hK
  have HP := Lib.hid hK.pos
  clear hK
  by_cases hl : 300 < a0.size
  · go_enter Tryd.func8, Tryd.ntmps8
    go_wp2_with fail
    refine (live_any _ HK.out).mono ?_
    rintro e wl ⟨rfl, hb⟩
    have Hl := Lib.hid hb
    clear hb
    go_wp2
    go_ret
    exact ⟨rfl, Hl.out⟩
  by_cases hl2 : 300 < a1.size
  · go_enter Tryd.func8, Tryd.ntmps8
    go_wp2_with fail
    refine (live_any _ HK.out).mono ?_
    rintro e wl ⟨rfl, hb⟩
    have Hl := Lib.hid hb
    clear hb
    go_wp2
    go_ret
    exact ⟨rfl, Hl.out⟩
  have hsz : (a0 ++ a1).size ≤ 600 := by rw [ByteArray.size_append]; omega
  have happ := Lib.hid (hexB_append a0 a1)
  have hz0 := hexB_size a0
  have hz1 := hexB_size a1
  by_cases heq : a0 = a1
  · subst heq
    go_enter Tryd.func8, Tryd.ntmps8
    go_wp2_with fail
    refine (hex_any (a0 ++ a0) _ (by omega)).mono ?_
    rintro e wB1 ⟨rfl, hb⟩
    have B1 := Lib.hid hb
    clear hb
    rw [happ.out]
    generalize hh : hexB a0 = x at *
    have HH := Lib.hid hh
    clear hh
    go_wp2_with fail
    refine (hex_any a0 _ (by omega)).mono ?_
    rintro e wB2 ⟨rfl, hb⟩
    rw [HH.out]
    have B2 := Lib.hid (B1.out.trans (hb.mono B1.out.size))
    clear hb
    go_wp2_with fail
    refine (hex_any a0 _ (by omega)).mono ?_
    rintro e wB3 ⟨rfl, hb⟩
    rw [HH.out]
    have B3 := Lib.hid (B2.out.trans (hb.mono B2.out.size))
    clear hb
    go_wp2_with fail
    refine (hex_any a0 _ (by omega)).mono ?_
    rintro e wB4 ⟨rfl, hb⟩
    rw [HH.out]
    have B4 := Lib.hid (B3.out.trans (hb.mono B3.out.size))
    clear hb
    go_wp2_with fail
    refine (hex_any a0 _ (by omega)).mono ?_
    rintro e wB5 ⟨rfl, hb⟩
    rw [HH.out]
    have B5 := Lib.hid (B4.out.trans (hb.mono B4.out.size))
    clear hb
    go_wp2_with fail
    refine (hex_any a0 _ (by omega)).mono ?_
    rintro e wB6 ⟨rfl, hb⟩
    rw [HH.out]
    have B6 := Lib.hid (B5.out.trans (hb.mono B5.out.size))
    clear hb
    go_wp2_with fail
    refine (live_any _ (HK.out.below B6.out HP.out)).mono ?_
    rintro e wl ⟨rfl, hb⟩
    have Hl := Lib.hid (B6.out.trans (hb.mono B6.out.size))
    clear hb
    go_wp2
    go_ret
    exact ⟨rfl, Hl.out⟩
  · have hne := Lib.hid heq
    have hnh := Lib.hid (fun h => heq (hexB_inj h))
    have q1 : (a0.toList == a1.toList) = false := str_ne heq
    have q2 : (hexB a0).toList = (hexB a1).toList → False := fun h => heq (hexB_inj (str_eq h))
    have q2' : ((hexB a0).toList == (hexB a1).toList) = false := str_ne hnh.out
    have q1' : a0.toList = a1.toList → False := fun h => heq (str_eq h)
    have Q2 := Lib.hid q2'
    clear heq q2 q1'
    go_enter Tryd.func8, Tryd.ntmps8
    go_wp2_with fail
    refine (hex_any (a0 ++ a1) _ (by omega)).mono ?_
    rintro e wB1 ⟨rfl, hb⟩
    have B1 := Lib.hid hb
    clear hb
    rw [happ.out]
    generalize hh : hexB a0 = x at *
    have HH := Lib.hid hh
    clear hh
    generalize hh : hexB a1 = y at *
    have HY := Lib.hid hh
    clear hh
    go_wp2_with fail
    refine (hex_any a0 _ (by omega)).mono ?_
    rintro e wB2 ⟨rfl, hb⟩
    rw [HH.out]
    have B2 := Lib.hid (B1.out.trans (hb.mono B1.out.size))
    clear hb
    go_wp2_with fail
    refine (hex_any a1 _ (by omega)).mono ?_
    rintro e wB3 ⟨rfl, hb⟩
    rw [HY.out]
    have B3 := Lib.hid (B2.out.trans (hb.mono B2.out.size))
    clear hb
    go_wp2_with fail
    refine (hex_any a0 _ (by omega)).mono ?_
    rintro e wB4 ⟨rfl, hb⟩
    rw [HH.out]
    have B4 := Lib.hid (B3.out.trans (hb.mono B3.out.size))
    clear hb
    go_wp2_with fail
    refine (hex_any a0 _ (by omega)).mono ?_
    rintro e wB5 ⟨rfl, hb⟩
    rw [HH.out]
    have B5 := Lib.hid (B4.out.trans (hb.mono B4.out.size))
    clear hb
    go_wp2_with fail
    refine (hex_any a1 _ (by omega)).mono ?_
    rintro e wB6 ⟨rfl, hb⟩
    rw [HY.out]
    have B6 := Lib.hid (B5.out.trans (hb.mono B5.out.size))
    clear hb
    go_wp2_with fail
    refine (live_any _ (HK.out.below B6.out HP.out)).mono ?_
    rintro e wl ⟨rfl, hb⟩
    have Hl := Lib.hid (B6.out.trans (hb.mono B6.out.size))
    clear hb
    go_wp2
    go_ret
    exact ⟨rfl, Hl.out⟩
end Go.Proofs.YtjhhgaajpojjfaaDoor.sumHex
