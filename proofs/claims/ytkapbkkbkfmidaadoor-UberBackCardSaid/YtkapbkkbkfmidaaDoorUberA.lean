/-
  Contracts of package uber: none, place, mayBe, Encode.
-/
import Derived.Test.YtkapbkkbkfmidaaDoorUberPlain
import Derived.Test.YtkapbkkbkfmidaaDoorFinish
import Derived.Test.YtkapbkkbkfmidaaDoorMg2
import Derived.Deep.QuietTactic
import Derived.Deep.DeepMust
import Derived.Deep.RegionWith
import Derived.Laws.ResultCell
namespace Go.Proofs.YtkapbkkbkfmidaaDoor
open Go.RowKit

theorem sizeUb : (Tryd.prog.info? 30).map (·.size) = some 2 := by kernel_rfl
theorem none_any (w : World) : Calls Tryd.prog 58 #[] w fun e w' => e = .returned (ubV ubN) ∧ Below w.heap.size w w' := by
  go_enter Tryd.func58, Tryd.ntmps58
  go_wp2
  refine bodyPost_ret (results_cell_row rfl _ _ w.heap.size 30 _ (0, 0) _ rfl (Box.new w 30 _) Tryd.underlying30 rfl sizeUb) rfl ?_
  exact ⟨rfl, (Below.refl _ _).alloc (Nat.le_refl _) _⟩

theorem place_any (u : UbD) (w : World) (h : 0 ≤ u.txg) : Calls Tryd.prog 54 #[ubV u] w fun e w' => e = .returned (.int .i64 (u.txg % 4)) ∧ Below w.heap.size w w' := by
  obtain ⟨t, l⟩ := u
  unfold ubV
  simp only at h ⊢
  go_enter Tryd.func54, Tryd.ntmps54
  go_wp2
  go_ret
  exact ⟨rfl, (Below.refl _ _).alloc (Nat.le_refl _) _⟩

theorem umay_any (u : UbD) (w : World) : Calls Tryd.prog 38 #[ubV u] w fun e w' => e = .returned (.bool (decide (mayU u))) ∧ Below w.heap.size w w' := by
  obtain ⟨t, l⟩ := u
  unfold ubV
  by_cases h0 : 0 ≤ t
  · by_cases h1 : t ≤ 1099511627776
    · by_cases h2 : l.size ≤ 960
      · rw [show decide (mayU ⟨t, l⟩) = true from decide_eq_true ⟨h0, h1, h2⟩]
        have h3 : (l.size : Int) ≤ 960 := by omega
        clear h2
        go_enter Tryd.func38, Tryd.ntmps38
        go_wp2
        go_ret
        exact ⟨rfl, (Below.refl _ _).alloc (Nat.le_refl _) _⟩
      · rw [show decide (mayU ⟨t, l⟩) = false from decide_eq_false (fun h => h2 h.2.2)]
        have h3 : (960 : Int) < (l.size : Int) := by omega
        have h4 : decide ((l.size : Int) ≤ 960) = false := decide_eq_false (by omega)
        clear h2
        go_enter Tryd.func38, Tryd.ntmps38
        go_wp2
        go_ret
        exact ⟨rfl, (Below.refl _ _).alloc (Nat.le_refl _) _⟩
    · rw [show decide (mayU ⟨t, l⟩) = false from decide_eq_false (fun h => h1 h.2.1)]
      have h3 : 1099511627776 < t := by omega
      clear h1
      go_enter Tryd.func38, Tryd.ntmps38
      go_wp2
      go_ret
      exact ⟨rfl, (Below.refl _ _).alloc (Nat.le_refl _) _⟩
  · rw [show decide (mayU ⟨t, l⟩) = false from decide_eq_false (fun h => h0 h.1)]
    have h3 : t < 0 := by omega
    clear h0
    go_enter Tryd.func38, Tryd.ntmps38
    go_wp2
    go_ret
    exact ⟨rfl, (Below.refl _ _).alloc (Nat.le_refl _) _⟩

set_option maxRecDepth 100000 in
set_option maxHeartbeats 1000000 in
theorem encode_any (u : UbD) (w : World) (_hs : u.load.size ≤ 140737488351232) (hK : Kt w) : Calls Tryd.prog 15 #[ubV u] w fun e w' => e = .returned (.tuple #[.string (encU u).1, .int .i64 (encU u).2]) ∧ Below w.heap.size w w' := by
  have HK := Lib.hid hK
  have HP := Lib.hid hK.pos
  by_cases hm : mayU u
  · have HM := Lib.hid (decide_eq_true hm)
    rw [encU_ok hm]
    have HS := Lib.hid (bodyU_size hm)
    have HS9 : Hid (u.load.size ≤ 960) := hm.2.2
    have HB : Hid (bodyU u = markB ++ putB u.txg 6 ++ textB u.load 2) := rfl
    have hbx : Below w.heap.size w (w.alloc (.cells #[.int .i64 u.txg, .string u.load] 30 (0, 0))) := (Below.refl _ _).alloc (Nat.le_refl _) _
    have BX := Box.new w 30 #[.int .i64 u.txg, .string u.load]
    have HX := Lib.hid hbx
    clear hm hK _hs hbx
    obtain ⟨t, l⟩ := u
    unfold ubV
    simp only at *
    go_enter Tryd.func15, Tryd.ntmps15
    go_wp2_with fail
    generalize World.alloc _ _ = wx at *
    have k0 : wx.cell? ⟨w.heap.size, 0, none⟩ = some (.int .i64 t) := BX.cell 0 _ rfl
    have k1 : wx.cell? ⟨w.heap.size, 1, none⟩ = some (.string l) := BX.cell 1 _ rfl
    have HBX := Lib.hid BX
    clear BX
    go_wp2_with fail
    refine (umay_any ⟨t, l⟩ _).mono ?_
    rintro e w1 ⟨rfl, hb⟩
    rw [HM.out]
    have H1 := Lib.hid (HX.out.trans (hb.mono HX.out.size))
    have B1 := Lib.hid (HBX.out.keep hb HBX.out.lt)
    clear hb k0 k1 HX HBX
    have k0 : w1.cell? ⟨w.heap.size, 0, none⟩ = some (.int .i64 t) := B1.out.cell 0 _ rfl
    have k1 : w1.cell? ⟨w.heap.size, 1, none⟩ = some (.string l) := B1.out.cell 1 _ rfl
    have hlb : w.heap.size < w1.heap.size := B1.out.lt
    have hpt := putB_size t 6
    have htl : (textB l 2).size ≤ 1000 := by
      unfold textB
      split
      · exact Nat.zero_le _
      · rw [ByteArray.size_append]; have := putB_size l.size 2; have := HS9.out; omega
    have hl9 := HS9.out
    generalize hpb : putB t 6 = pb at *
    generalize htb : textB l 2 = tb at *
    have HPB := Lib.hid hpb
    have HTB := Lib.hid htb
    clear hpb htb
    go_wp2_with fail
    have c0 : w1.drew.cell? ⟨w.heap.size, 0, none⟩ = some (.int .i64 t) := k0
    have c1 : w1.drew.cell? ⟨w.heap.size, 1, none⟩ = some (.string l) := k1
    have HLB : Hid (w.heap.size < w1.drew.heap.size) := hlb
    have LH := Lib.hid H1.out.drew
    clear k0 k1
    go_region_with (first
      | (go_at_call 39; go_must (refine (put_any t 6 _).mono ?_; rintro e w2 ⟨rfl, hb⟩; rw [HPB.out]; have c0 := (hb.cell (p := ⟨w.heap.size, 0, none⟩) HLB.out).trans c0; have c1 := (hb.cell (p := ⟨w.heap.size, 1, none⟩) HLB.out).trans c1; have LH := Lib.hid (LH.out.trans (hb.mono LH.out.size)); have HLB : Hid (w.heap.size < w2.heap.size) := Nat.lt_of_lt_of_le HLB.out hb.size; clear hb))
      | (go_at_call 40; go_must (refine (ftext_any l 2 _ (by omega)).mono ?_; rintro e w3 ⟨rfl, hb⟩; rw [HTB.out]; have c0 := (hb.cell (p := ⟨w.heap.size, 0, none⟩) HLB.out).trans c0; have c1 := (hb.cell (p := ⟨w.heap.size, 1, none⟩) HLB.out).trans c1; have LH := Lib.hid (LH.out.trans (hb.mono LH.out.size)); have HLB : Hid (w.heap.size < w3.heap.size) := Nat.lt_of_lt_of_le HLB.out hb.size; clear hb)))
    all_goals
      have KL := Lib.hid (HK.out.below LH.out HP.out)
      have HBB : Hid ((⟨#[80, 70]⟩ : ByteArray) ++ pb ++ tb = bodyU ⟨t, l⟩) := by show _ = _; rw [HB.out]; rfl
      have hbs : ((⟨#[80, 70]⟩ : ByteArray) ++ pb ++ tb).size ≤ 2000 := by rw [HBB.out, HS.out]; omega
      go_wp2_with fail
      refine (of_any _ _ (Nat.le_trans hbs (by decide)) KL.out).mono ?_
      rintro e w4 ⟨rfl, hb⟩
      rw [HBB.out] at hbs ⊢
      have LL := Lib.hid (LH.out.trans (hb.mono LH.out.size))
      have hsz := sha_size (bodyU ⟨t, l⟩)
      generalize hsh : sha (bodyU ⟨t, l⟩) = sh at *
      have HSH := Lib.hid hsh
      clear hb c0 c1 hsh
      go_wp2
      go_ret2
      exact ⟨by rw [HSH.out]; rfl, LL.out⟩
  · have HM := Lib.hid (decide_eq_false hm)
    rw [show encU u = (⟨#[]⟩, 1) from if_neg hm]
    have hbx : Below w.heap.size w (w.alloc (.cells #[.int .i64 u.txg, .string u.load] 30 (0, 0))) := (Below.refl _ _).alloc (Nat.le_refl _) _
    have BX := Box.new w 30 #[.int .i64 u.txg, .string u.load]
    have HX := Lib.hid hbx
    clear hm hK _hs hbx
    obtain ⟨t, l⟩ := u
    unfold ubV
    simp only at *
    go_enter Tryd.func15, Tryd.ntmps15
    go_wp2_with fail
    generalize World.alloc _ _ = wx at *
    have k0 : wx.cell? ⟨w.heap.size, 0, none⟩ = some (.int .i64 t) := BX.cell 0 _ rfl
    have k1 : wx.cell? ⟨w.heap.size, 1, none⟩ = some (.string l) := BX.cell 1 _ rfl
    clear BX
    go_wp2_with fail
    refine (umay_any ⟨t, l⟩ _).mono ?_
    rintro e w1 ⟨rfl, hb⟩
    rw [HM.out]
    have H1 := Lib.hid (HX.out.trans (hb.mono HX.out.size))
    clear hb k0 k1
    go_wp2
    go_ret2
    exact ⟨rfl, H1.out⟩
end Go.Proofs.YtkapbkkbkfmidaaDoor
