/-
  The contract of the reference's above.
-/
import Derived.Test.YtfnihldcnjnpbaaDoorNums
import Derived.Test.YtfnihldcnjnpbaaDoorRefFns
namespace Go.Proofs.YtfnihldcnjnpbaaDoor
open Go.RowKit

theorem sl_get {w : World} {a : Option Addr} {l : List Nat} (h : Sl w nV a l) (k : Nat) (hk : k < l.length) : ∃ b off, a = some ⟨b, off, none⟩ ∧ w.cell? ⟨b, off + k, none⟩ = some (.int .i64 (l.getD k 0 : Nat)) := by
  obtain ⟨b, off, e, _, hc⟩ := h (by intro e; rw [e] at hk; simp at hk)
  refine ⟨b, off, e, ?_⟩
  rw [hc k l[k] (List.getElem?_eq_getElem hk), List.getD, List.getElem?_eq_getElem hk]
  rfl

set_option maxHeartbeats 1000000 in
theorem above_any (x y : Option Addr) (cx cy : Nat) (a b : List Nat) (w : World) (ha : Sl w nV x a) (hb : Sl w nV y b) (la : a.length ≤ 1000) (lb : b.length ≤ 1000) :
    Calls Tryd.prog 53 #[.slice x a.length cx, .slice y b.length cy] w fun e w' => e = .returned (.bool (aboveL a b)) ∧ w = w' := by
  have HA := Lib.hid ha
  have HB := Lib.hid hb
  have HM : Hid (aboveL a b = aboveK a b (max a.length b.length)) := rfl
  have hmx : max a.length b.length ≤ 1000 := by omega
  clear ha hb
  go_enter Tryd.func53, Tryd.ntmps53
  go_wp2
  all_goals
    go_loop [5, 6, 7] (fun i _ _ => ∃ k : Nat, k ≤ max a.length b.length ∧ i = .int .i64 ((k : Int) - 1) ∧ Hid (aboveL a b = aboveK a b k)) (fun i _ _ => (intOf i + 1).toNat)
    case atStart => exact ⟨max a.length b.length, Nat.le_refl _, by first | (congr 1; omega) | rfl, HM⟩
    case round =>
      clear HM
      obtain ⟨k, hk, rfl, HM⟩ := hrel
      cases k with
      | zero =>
        have hz : aboveL a b = false := HM.out
        have Hz := Lib.hid hz
        clear hz HM
        go_wp2
        go_ret
        exact ⟨ret_bool (by rw [Hz.out]), rfl⟩
      | succ k =>
        have e1 : ((k + 1 : Nat) : Int) - 1 = k := by omega
        rw [e1]
        clear e1
        have HN : Hid (aboveK a b (k + 1) = if a.getD k 0 = b.getD k 0 then aboveK a b k else decide (b.getD k 0 < a.getD k 0)) := rfl
        have ga : k < a.length → ∃ b1 off, x = some ⟨b1, off, none⟩ ∧ w.cell? ⟨b1, off + k, none⟩ = some (.int .i64 (a.getD k 0 : Nat)) := sl_get HA.out k
        have gb : k < b.length → ∃ b1 off, y = some ⟨b1, off, none⟩ ∧ w.cell? ⟨b1, off + k, none⟩ = some (.int .i64 (b.getD k 0 : Nat)) := sl_get HB.out k
        have za : ¬ k < a.length → a.getD k 0 = 0 := fun h => by rw [List.getD, List.getElem?_eq_none (by omega)]; rfl
        have zb : ¬ k < b.length → b.getD k 0 = 0 := fun h => by rw [List.getD, List.getElem?_eq_none (by omega)]; rfl
        generalize a.getD k 0 = da at *
        generalize b.getD k 0 = db at *
        by_cases hka : k < a.length
        · obtain ⟨b1, o1, rfl, hc1⟩ := ga hka
          clear ga za
          by_cases hkb : k < b.length
          · obtain ⟨b2, o2, rfl, hc2⟩ := gb hkb
            clear gb zb
            by_cases he : da = db
            · have HE : Hid (aboveL a b = aboveK a b k) := by show _ = _; rw [HM.out, HN.out, if_pos he]
              have hq : ((da : Int) != (db : Int)) = false := by rw [bne_eq_false_iff_eq]; omega
              have HQ := Lib.hid he
              clear he HM HN
              go_wp2
              go_round
              case rel => exact ⟨k, by omega, by go_num, HE⟩
              case measure => simp [intOf]
            · have HE : Hid (aboveL a b = decide (db < da)) := by show _ = _; rw [HM.out, HN.out, if_neg he]
              have hq : ((da : Int) != (db : Int)) = true := by rw [bne_iff_ne]; omega
              clear he HM HN
              go_wp2
              go_ret
              exact ⟨ret_bool (by first | (rw [HE.out]; done) | (rw [HE.out]; simp)), rfl⟩
          · obtain rfl := zb hkb
            clear gb zb
            by_cases he : da = (0 : Nat)
            · have HE : Hid (aboveL a b = aboveK a b k) := by show _ = _; rw [HM.out, HN.out, if_pos he]
              have hq : ((da : Int) != (0 : Int)) = false := by rw [bne_eq_false_iff_eq]; omega
              have HQ := Lib.hid he
              clear he HM HN
              go_wp2
              go_round
              case rel => exact ⟨k, by omega, by go_num, HE⟩
              case measure => simp [intOf]
            · have HE : Hid (aboveL a b = decide ((0 : Nat) < da)) := by show _ = _; rw [HM.out, HN.out, if_neg he]
              have hq : ((da : Int) != (0 : Int)) = true := by rw [bne_iff_ne]; omega
              clear he HM HN
              go_wp2
              go_ret
              exact ⟨ret_bool (by first | (rw [HE.out]; done) | (rw [HE.out]; simp)), rfl⟩
        · obtain rfl := za hka
          clear ga za
          by_cases hkb : k < b.length
          · obtain ⟨b2, o2, rfl, hc2⟩ := gb hkb
            clear gb zb
            by_cases he : (0 : Nat) = db
            · have HE : Hid (aboveL a b = aboveK a b k) := by show _ = _; rw [HM.out, HN.out, if_pos he]
              have hq : ((0 : Int) != (db : Int)) = false := by rw [bne_eq_false_iff_eq]; omega
              have HQ := Lib.hid he
              clear he HM HN
              go_wp2
              go_round
              case rel => exact ⟨k, by omega, by go_num, HE⟩
              case measure => simp [intOf]
            · have HE : Hid (aboveL a b = decide (db < (0 : Nat))) := by show _ = _; rw [HM.out, HN.out, if_neg he]
              have hq : ((0 : Int) != (db : Int)) = true := by rw [bne_iff_ne]; omega
              clear he HM HN
              go_wp2
              go_ret
              exact ⟨ret_bool (by first | (rw [HE.out]; done) | (rw [HE.out]; simp)), rfl⟩
          · exfalso
            omega
end Go.Proofs.YtfnihldcnjnpbaaDoor
