/-
  The walk of UberCrash.
-/
import Derived.Test.YtcdjchpmgekjgabDoorUberLive
import Derived.Test.YtcdjchpmgekjgabDoorUberMath4
import Derived.Test.YtcdjchpmgekjgabDoorFrame
import Derived.Test.YtcdjchpmgekjgabDoorOpenTwo
import Derived.Deep.QuietTactic
import Derived.BigQuiet
namespace Go.Proofs.YtcdjchpmgekjgabDoor.uberCrash
open Go.RowKit

theorem sl_keep {α : Type} {w w' : World} {f : α → Value} {a : Option Addr} {l : List α} (h : Sl w f a l) (hb : Below w.heap.size w w') : Sl w' f a l := by
  intro hne
  obtain ⟨b, off, e, hl, hc⟩ := h hne
  exact ⟨b, off, e, Nat.lt_of_lt_of_le hl hb.size, fun i x hx => by rw [hb.cell (p := ⟨b, off + i, none⟩) hl]; exact hc i x hx⟩

set_option maxRecDepth 100000 in
set_option maxHeartbeats 2000000 in
theorem walk1 (w : World) (hK : Kt w) (x0 : Option Addr) (c0 : Nat) (t : Int) (a bb : ByteArray) (keep : List Bool) (s0 : Sl w Value.bool x0 keep) :
    Calls Tryd.prog 3 #[.agg #[.int .i64 t, .string a, .string bb, .slice x0 keep.length c0]] w fun e w' => e = .returned (.bool true) ∧ Below w.heap.size w w' := by
  have HK := Lib.hid hK
  have HP := Lib.hid hK.pos
  have S0 := Lib.hid s0
  have LX := Lib.hid ((Below.refl w.heap.size w).alloc (Nat.le_refl _) (.cells #[.int .i64 t, .string a, .string bb, .slice x0 keep.length c0] 24 (0, 0)))
  have BX := Lib.hid (Box.new w 24 #[.int .i64 t, .string a, .string bb, .slice x0 keep.length c0])
  clear hK s0
  by_cases hA : t < 0
  · go_enter Tryd.func3, Tryd.ntmps3
    go_wp2_with fail
    generalize World.alloc _ _ = v0 at *
    have k0 : v0.cell? ⟨w.heap.size, 0, none⟩ = some (.int .i64 t) := BX.out.cell 0 _ rfl
    have k1 : v0.cell? ⟨w.heap.size, 1, none⟩ = some (.string a) := BX.out.cell 1 _ rfl
    have k2 : v0.cell? ⟨w.heap.size, 2, none⟩ = some (.string bb) := BX.out.cell 2 _ rfl
    have k3 : v0.cell? ⟨w.heap.size, 3, none⟩ = some (.slice x0 keep.length c0) := BX.out.cell 3 _ rfl
    go_quiet (fail)
    generalize hd : World.drewN _ _ = vd
    have L0 : Hid (Below w.heap.size w vd) := by show Below _ _ _; rw [← hd]; exact ⟨LX.out.os, LX.out.tape, LX.out.output, LX.out.size, LX.out.block⟩
    clear hd k0 k1 k2 k3 BX LX
    go_wp2_with fail
    refine (live_any _ (HK.out.below L0.out HP.out)).mono ?_
    rintro e wl ⟨rfl, hb⟩
    have HL := Lib.hid (L0.out.trans (hb.mono L0.out.size))
    clear hb
    go_wp2
    go_ret
    exact ⟨rfl, HL.out⟩
  · by_cases hB : 1099511627776 ≤ t
    · go_enter Tryd.func3, Tryd.ntmps3
      go_wp2_with fail
      generalize World.alloc _ _ = v0 at *
      have k0 : v0.cell? ⟨w.heap.size, 0, none⟩ = some (.int .i64 t) := BX.out.cell 0 _ rfl
      have k1 : v0.cell? ⟨w.heap.size, 1, none⟩ = some (.string a) := BX.out.cell 1 _ rfl
      have k2 : v0.cell? ⟨w.heap.size, 2, none⟩ = some (.string bb) := BX.out.cell 2 _ rfl
      have k3 : v0.cell? ⟨w.heap.size, 3, none⟩ = some (.slice x0 keep.length c0) := BX.out.cell 3 _ rfl
      go_quiet (fail)
      generalize hd : World.drewN _ _ = vd
      have L0 : Hid (Below w.heap.size w vd) := by show Below _ _ _; rw [← hd]; exact ⟨LX.out.os, LX.out.tape, LX.out.output, LX.out.size, LX.out.block⟩
      clear hd k0 k1 k2 k3 BX LX
      go_wp2_with fail
      refine (live_any _ (HK.out.below L0.out HP.out)).mono ?_
      rintro e wl ⟨rfl, hb⟩
      have HL := Lib.hid (L0.out.trans (hb.mono L0.out.size))
      clear hb
      go_wp2
      go_ret
      exact ⟨rfl, HL.out⟩
    · by_cases hC : 900 < a.size
      · have hC2 : (900 : Int) < (a.size : Int) := by omega
        clear hC
        go_enter Tryd.func3, Tryd.ntmps3
        go_wp2_with fail
        generalize World.alloc _ _ = v0 at *
        have k0 : v0.cell? ⟨w.heap.size, 0, none⟩ = some (.int .i64 t) := BX.out.cell 0 _ rfl
        have k1 : v0.cell? ⟨w.heap.size, 1, none⟩ = some (.string a) := BX.out.cell 1 _ rfl
        have k2 : v0.cell? ⟨w.heap.size, 2, none⟩ = some (.string bb) := BX.out.cell 2 _ rfl
        have k3 : v0.cell? ⟨w.heap.size, 3, none⟩ = some (.slice x0 keep.length c0) := BX.out.cell 3 _ rfl
        go_quiet (fail)
        generalize hd : World.drewN _ _ = vd
        have L0 : Hid (Below w.heap.size w vd) := by show Below _ _ _; rw [← hd]; exact ⟨LX.out.os, LX.out.tape, LX.out.output, LX.out.size, LX.out.block⟩
        clear hd k0 k1 k2 k3 BX LX
        go_wp2_with fail
        refine (live_any _ (HK.out.below L0.out HP.out)).mono ?_
        rintro e wl ⟨rfl, hb⟩
        have HL := Lib.hid (L0.out.trans (hb.mono L0.out.size))
        clear hb
        go_wp2
        go_ret
        exact ⟨rfl, HL.out⟩
      · by_cases hD : 900 < bb.size
        · have hC2 : (a.size : Int) ≤ 900 := by omega
          have hD2 : (900 : Int) < (bb.size : Int) := by omega
          clear hC hD
          go_enter Tryd.func3, Tryd.ntmps3
          go_wp2_with fail
          generalize World.alloc _ _ = v0 at *
          have k0 : v0.cell? ⟨w.heap.size, 0, none⟩ = some (.int .i64 t) := BX.out.cell 0 _ rfl
          have k1 : v0.cell? ⟨w.heap.size, 1, none⟩ = some (.string a) := BX.out.cell 1 _ rfl
          have k2 : v0.cell? ⟨w.heap.size, 2, none⟩ = some (.string bb) := BX.out.cell 2 _ rfl
          have k3 : v0.cell? ⟨w.heap.size, 3, none⟩ = some (.slice x0 keep.length c0) := BX.out.cell 3 _ rfl
          go_quiet (fail)
          generalize hd : World.drewN _ _ = vd
          have L0 : Hid (Below w.heap.size w vd) := by show Below _ _ _; rw [← hd]; exact ⟨LX.out.os, LX.out.tape, LX.out.output, LX.out.size, LX.out.block⟩
          clear hd k0 k1 k2 k3 BX LX
          go_wp2_with fail
          refine (live_any _ (HK.out.below L0.out HP.out)).mono ?_
          rintro e wl ⟨rfl, hb⟩
          have HL := Lib.hid (L0.out.trans (hb.mono L0.out.size))
          clear hb
          go_wp2
          go_ret
          exact ⟨rfl, HL.out⟩
        · by_cases hE : 10 < keep.length
          · have hC2 : (a.size : Int) ≤ 900 := by omega
            have hD2 : (bb.size : Int) ≤ 900 := by omega
            have hE2 : (10 : Int) < (keep.length : Int) := by omega
            clear hC hD hE
            go_enter Tryd.func3, Tryd.ntmps3
            go_wp2_with fail
            generalize World.alloc _ _ = v0 at *
            have k0 : v0.cell? ⟨w.heap.size, 0, none⟩ = some (.int .i64 t) := BX.out.cell 0 _ rfl
            have k1 : v0.cell? ⟨w.heap.size, 1, none⟩ = some (.string a) := BX.out.cell 1 _ rfl
            have k2 : v0.cell? ⟨w.heap.size, 2, none⟩ = some (.string bb) := BX.out.cell 2 _ rfl
            have k3 : v0.cell? ⟨w.heap.size, 3, none⟩ = some (.slice x0 keep.length c0) := BX.out.cell 3 _ rfl
            go_quiet (fail)
            generalize hd : World.drewN _ _ = vd
            have L0 : Hid (Below w.heap.size w vd) := by show Below _ _ _; rw [← hd]; exact ⟨LX.out.os, LX.out.tape, LX.out.output, LX.out.size, LX.out.block⟩
            clear hd k0 k1 k2 k3 BX LX
            go_wp2_with fail
            refine (live_any _ (HK.out.below L0.out HP.out)).mono ?_
            rintro e wl ⟨rfl, hb⟩
            have HL := Lib.hid (L0.out.trans (hb.mono L0.out.size))
            clear hb
            go_wp2
            go_ret
            exact ⟨rfl, HL.out⟩
          · have HC := Lib.hid (crash_best t a bb keep (by omega) (by omega) (by omega) (by omega))
            have HKL := Lib.hid (show keep.length ≤ 100000 by omega)
            have hC2 : (a.size : Int) ≤ 900 := by omega
            have hD2 : (bb.size : Int) ≤ 900 := by omega
            have hE2 : (keep.length : Int) ≤ 10 := by omega
            have hA2 : 0 ≤ t := by omega
            have hB2 : t < 1099511627776 := by omega
            clear hA hB hC hD hE
            go_enter Tryd.func3, Tryd.ntmps3
            go_wp2_with fail
            generalize World.alloc _ _ = v0 at *
            have k0 : v0.cell? ⟨w.heap.size, 0, none⟩ = some (.int .i64 t) := BX.out.cell 0 _ rfl
            have k1 : v0.cell? ⟨w.heap.size, 1, none⟩ = some (.string a) := BX.out.cell 1 _ rfl
            have k2 : v0.cell? ⟨w.heap.size, 2, none⟩ = some (.string bb) := BX.out.cell 2 _ rfl
            have k3 : v0.cell? ⟨w.heap.size, 3, none⟩ = some (.slice x0 keep.length c0) := BX.out.cell 3 _ rfl
            go_quiet (fail)
            generalize hd : World.drewN _ _ = vd
            have L0 : Hid (Below w.heap.size w vd) := by show Below _ _ _; rw [← hd]; exact ⟨LX.out.os, LX.out.tape, LX.out.output, LX.out.size, LX.out.block⟩
            clear hd k0 k1 k2 k3 BX LX
            go_wp2_with fail
            refine (one_new w.heap.size fixed_no 9 9 _ L0.out.size ⟨[], rfl, fun _ h => by cases h⟩ (by omega) (by omega)).mono ?_
            rintro e v1 ⟨b, rfl, ho, hb⟩
            have H1 : Hid (One w.heap.size NoP b (newD 9 9) v1) := ho
            have L1 := Lib.hid (L0.out.trans hb)
            clear ho hb L0
            go_wp2_with fail
            refine (uwrite_ok fixed_no H1.out HP.out (HK.out.below L1.out HP.out) ⟨t, a⟩ HC.out.1 (by simp [newD])).mono ?_
            rintro e v2 ⟨rfl, ho, hb⟩
            rw [HC.out.2.2.1]
            have H2 := Lib.hid ho
            have L2 := Lib.hid (L1.out.trans hb)
            clear ho hb H1 L1
            go_wp2_with fail
            refine (one_flush fixed_no H2.out (by rw [HC.out.2.2.2.1]; omega)).mono ?_
            rintro e v3 ⟨rfl, ho, hb⟩
            have H3 : Hid (One w.heap.size NoP b (crA t a) v3) := ho
            have L3 := Lib.hid (L2.out.trans hb)
            clear ho hb H2 L2
            go_wp2_with fail
            refine (uwrite_ok fixed_no H3.out HP.out (HK.out.below L3.out HP.out) ⟨t + 1, bb⟩ HC.out.2.1 (by rw [HC.out.2.2.2.2.1]; simp)).mono ?_
            rintro e v4 ⟨rfl, ho, hb⟩
            rw [HC.out.2.2.2.2.2.1]
            have H4 : Hid (One w.heap.size NoP b (crB t a bb) v4) := ho
            have L4 := Lib.hid (L3.out.trans hb)
            have hs4 : Hid (Sl v4 Value.bool x0 keep) := sl_keep S0.out L4.out
            clear ho hb H3 L3
            go_wp2_with fail
            refine (one_crash fixed_no H4.out x0 c0 keep hs4.out (by rw [HC.out.2.2.2.2.2.2.1]; omega) HKL.out).mono ?_
            rintro e v5 ⟨rfl, ho, hb⟩
            have H5 := Lib.hid ho
            have L5 := Lib.hid (L4.out.trans hb)
            clear ho hb H4 L4 hs4
            go_wp2_with fail
            refine (best_any fixed_no H5.out HP.out (HK.out.below L5.out HP.out) HC.out.2.2.2.2.2.2.2.2).mono ?_
            rintro e v6 ⟨rfl, ho, hb⟩
            have L6 := Lib.hid (L5.out.trans (hb.mono H5.out.1))
            have HG := Lib.hid ho.1
            rcases HC.out.2.2.2.2.2.2.2.1 with hbe | hbe
            · rw [hbe, show ubV ((⟨t, a⟩, true) : UbD × Bool).1 = .agg #[.int .i64 (t), .string a] from rfl]
              have LA := Lib.hid (L6.out.trans (((Below.refl v6.heap.size v6).alloc (Nat.le_refl _) (.cells #[.int .i64 (t), .string a] 31 (0, 0))).mono HG.out))
              have q1 : ∀ w, (Op.equalIn 10000 31 (.agg #[.int .i64 t, .string a]) (.agg #[.int .i64 t, .string a])).run Tryd.prog w = .ok true w := fun w => by rw [eqUb]; simp
              clear ho hb hbe H5 L5
              go_wp2_with fail
              refine (live_any _ (HK.out.below LA.out HP.out)).mono ?_
              rintro e wl ⟨rfl, hb⟩
              have HL := Lib.hid (LA.out.trans (hb.mono LA.out.size))
              clear hb LA
              go_wp2
              go_ret
              exact ⟨rfl, HL.out⟩
            · rw [hbe, show ubV ((⟨t + 1, bb⟩, true) : UbD × Bool).1 = .agg #[.int .i64 (t + 1), .string bb] from rfl]
              have LA := Lib.hid (L6.out.trans (((Below.refl v6.heap.size v6).alloc (Nat.le_refl _) (.cells #[.int .i64 (t + 1), .string bb] 31 (0, 0))).mono HG.out))
              have q1 : ∀ w, (Op.equalIn 10000 31 (.agg #[.int .i64 (t + 1), .string bb]) (.agg #[.int .i64 t, .string a])).run Tryd.prog w = .ok false w := fun w => by rw [eqUb, show (t + 1 == t) = false by simp; omega]; rfl
              have q2 : ∀ w, (Op.equalIn 10000 31 (.agg #[.int .i64 (t + 1), .string bb]) (.agg #[.int .i64 (t + 1), .string bb])).run Tryd.prog w = .ok true w := fun w => by rw [eqUb]; simp
              clear ho hb hbe H5 L5
              go_wp2_with fail
              refine (live_any _ (HK.out.below LA.out HP.out)).mono ?_
              rintro e wl ⟨rfl, hb⟩
              have HL := Lib.hid (LA.out.trans (hb.mono LA.out.size))
              clear hb LA
              go_wp2
              go_ret
              exact ⟨rfl, HL.out⟩

theorem walk (w : World) (hK : Kt w) (x0 : Option Addr) (c0 : Nat) (y0 : TwoD) (s0 : Sl w Value.bool x0 y0.keep) (m0 : y0.keep.length ≤ maxLen) (z0 : y0.a.size ≤ maxLen) (k0 : y0.b.size ≤ maxLen) :
    Calls Tryd.prog 3 #[.agg #[.int .i64 y0.t, .string y0.a, .string y0.b, .slice x0 y0.keep.length c0]] w fun e w' => e = .returned (.bool true) ∧ Below w.heap.size w w' := by
  clear m0 z0 k0
  exact walk1 w hK x0 c0 y0.t y0.a y0.b y0.keep s0
end Go.Proofs.YtcdjchpmgekjgabDoor.uberCrash
