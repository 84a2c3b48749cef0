/-
  Contracts of package uber: Best.
-/
import Derived.Test.YtkapbkkbkfmidaaDoorUberD
namespace Go.Proofs.YtkapbkkbkfmidaaDoor
open Go.RowKit Go.ChangeShapes Go.WideShapes Go.ChangeAt

def urootK (d : DevD) (k : Nat) : UbD := rootU d (((k / 4 : Nat) : Int), ((k % 4 : Nat) : Int))
/-- The best of the first k sectors of the ring. -/
def bestK (d : DevD) : Nat → UbD
  | 0 => ubN
  | k + 1 => if (bestK d k).txg < (urootK d k).txg then urootK d k else bestK d k
/-- Best's answer. -/
def bestU (d : DevD) : UbD × Bool := if bestK d 8 = ubN then (ub0, false) else (bestK d 8, true)

/-- The model's '==' at a root. -/
theorem eqUb (x1 y1 : Int) (x2 y2 : ByteArray) (w : World) : (Op.equalIn 10000 30 (.agg #[.int .i64 x1, .string x2]) (.agg #[.int .i64 y1, .string y2])).run Tryd.prog w = .ok (x1 == y1 && x2.toList == y2.toList) w := by
  have u3 := Tryd.underlying3
  have a3 := Tryd.isAgg3
  have z3 := Tryd.sizeOf3
  have u9 := Tryd.underlying9
  have a9 := Tryd.isAgg9
  have z9 := Tryd.sizeOf9
  have hS : Tryd.prog.underlying 30 = some (.struct (Tryd.prog.fieldsOf 30)) := by kernel_rfl
  have hp : Tryd.prog.stoodInHeld 30 = false := by kernel_rfl
  rw [show (10000 : Nat) = 9999 + 1 from rfl, run_equalIn_agg w 9999 30 _ _ hS hp]
  simp only [Program.fieldsOf, Tryd.underlying30]
  go_simp
  by_cases h1 : x1 = y1 <;> by_cases h2 : x2.toList = y2.toList <;> simp [h1, h2]

set_option maxRecDepth 100000 in
set_option maxHeartbeats 4000000 in
theorem best_any {B : Nat} {P : List Nat → World → Prop} (hP : Fixed P) {b : Nat} {d : DevD} {w : World} (h : One B P b d w) (hB : 0 < B) (hK : Kt w) (hT : ∀ l, (tellD d l).size ≤ 2000) :
    Calls Tryd.prog 25 #[.pointer (some ⟨b, 0, none⟩)] w fun e w' => e = .returned (.tuple #[ubV (bestU d).1, .bool (bestU d).2]) ∧ One B P b d w' ∧ Below w.heap.size w w' := by
  have HZ := Lib.hid (Nat.le_trans hB h.1)
  have HB := Lib.hid hB
  have HK := Lib.hid hK
  have HT := Lib.hid hT
  have H := Lib.hid h
  have ha := (Below.refl w.heap.size w).alloc (Nat.le_refl _) (.cells #[.int .i64 0, .string ⟨#[]⟩] 30 (0, 0))
  have HA := Lib.hid ha
  have BR := Lib.hid (Box.new w 30 #[.int .i64 0, .string ⟨#[]⟩])
  clear h hB hK hT ha
  go_enter Tryd.func25, Tryd.ntmps25
  go_wp2_with fail
  generalize World.alloc _ _ = wx at *
  refine (none_any _).mono ?_
  rintro e w1 ⟨rfl, hb⟩
  have L1 := Lib.hid (HA.out.trans (hb.mono HA.out.size))
  have BR1 := Lib.hid (BR.out.keep hb BR.out.lt)
  clear hb HA BR
  rw [show ubV ubN = .agg #[.int .i64 (-1), .string ⟨#[]⟩] from rfl]
  go_wp2_with fail
  have hb2 := (Below.refl w1.heap.size w1).alloc (Nat.le_refl _) (.cells #[.int .i64 (-1), .string ⟨#[]⟩] 30 (0, 0))
  have L2 := Lib.hid (L1.out.trans (hb2.mono L1.out.size))
  have BR2 := Lib.hid (BR1.out.keep hb2 BR1.out.lt)
  have BB2 := Lib.hid (Box.new w1 30 #[.int .i64 (-1), .string ⟨#[]⟩])
  have HG : Hid (w.heap.size < w1.heap.size) := BR1.out.lt
  clear hb2 L1 BR1
  generalize hwy : World.alloc _ _ = wy at *
  generalize w1.heap.size = g at *
  clear hwy
  go_loopw [11] (fun i wr => ∃ k : Nat, k ≤ 2 ∧ i = .int .i64 k ∧ Hid (Below w.heap.size w wr) ∧ Hid (Box wr w.heap.size 30 #[.int .i64 0, .string ⟨#[]⟩]) ∧ Hid (Box wr g 30 #[.int .i64 (bestK d (4 * k)).txg, .string (bestK d (4 * k)).load])) (fun i _ => 2 - (intOf i).toNat)
  case atStart => exact ⟨0, by omega, rfl, L2, BR2, BB2⟩
  case round =>
    clear L2 BR2 BB2
    obtain ⟨k, hk, rfl, L, BR, BB⟩ := hrel
    by_cases hlt : k < 2
    · have hix := fun W => index2 W k hlt
      have hkk : (k : Int) < 2 := by omega
      have HLT := Lib.hid hlt
      clear hlt
      go_wp2_with fail
      clear hix
      go_loopw [14] (fun i wr => ∃ j : Nat, j ≤ 4 ∧ i = .int .i64 j ∧ Hid (Below w.heap.size w wr) ∧ Hid (Box wr w.heap.size 30 #[.int .i64 0, .string ⟨#[]⟩]) ∧ Hid (Box wr g 30 #[.int .i64 (bestK d (4 * k + j)).txg, .string (bestK d (4 * k + j)).load])) (fun i _ => 4 - (intOf i).toNat)
      case atStart => exact ⟨0, by omega, rfl, L, BR, BB⟩
      case round =>
        clear L BR BB
        obtain ⟨j, hj, rfl, L, BR, BB⟩ := hrel
        by_cases hjt : j < 4
        · have hjj : (j : Int) < 4 := by omega
          have HRK : Hid (rootU d ((k : Int), (j : Int)) = urootK d (4 * k + j)) := by
            show _ = _
            unfold urootK
            rw [show (4 * k + j) / 4 = k by omega, show (4 * k + j) % 4 = j by omega]
          have HBK : Hid (bestK d (4 * k + (j + 1)) = if (bestK d (4 * k + j)).txg < (urootK d (4 * k + j)).txg then urootK d (4 * k + j) else bestK d (4 * k + j)) := rfl
          have HJ := Lib.hid hjt
          clear hjt
          generalize bestK d (4 * k + j) = bk at *
          obtain ⟨bt, bll⟩ := bk
          go_wp2_with fail
          refine (uroot_any hP (H.out.keep hP L.out) HB.out (HK.out.below L.out HZ.out) ((k : Int), (j : Int)) (HT.out _)).mono ?_
          rintro e w3 ⟨rfl, hb⟩
          rw [HRK.out]
          generalize urootK d (4 * k + j) = rk at *
          obtain ⟨rt, rll⟩ := rk
          have L3 := Lib.hid (L.out.trans (hb.mono L.out.size))
          have BR3 := Lib.hid (BR.out.keep hb BR.out.lt)
          have BB3 := Lib.hid (BB.out.keep hb BB.out.lt)
          clear hb L BR BB
          unfold ubV
          simp only at *
          have hb4 := fun o : Obj => (Below.refl w3.heap.size w3).alloc (Nat.le_refl _) o
          have c0 : ∀ o : Obj, (w3.alloc o).cell? ⟨g, 0, none⟩ = some (.int .i64 bt) := fun o => (BB3.out.alloc o).cell 0 _ rfl
          have c1 : ∀ o : Obj, (w3.alloc o).cell? ⟨g, 1, none⟩ = some (.string bll) := fun o => (BB3.out.alloc o).cell 1 _ rfl
          have f0 : ∀ o : Obj, (w3.alloc o).frozen? ⟨g, 0, none⟩ = false := fun o => (BB3.out.alloc o).free 0
          have f1 : ∀ o : Obj, (w3.alloc o).frozen? ⟨g, 1, none⟩ = false := fun o => (BB3.out.alloc o).free 1
          have hlt := HJ.out
          by_cases hc : bt < rt
          · have hd : decide (bt < rt) = true := decide_eq_true hc
            rw [if_pos hc] at HBK
            clear hc
            have FB : Hid (∀ o : Obj, Box (((w3.alloc o).setCell ⟨g, 0, none⟩ (.int .i64 rt)).setCell ⟨g, 1, none⟩ (.string rll)) g 30 #[.int .i64 rt, .string rll]) := fun o => ((BB3.out.alloc o).set 0 _).set 1 _
            have FR : Hid (∀ o : Obj, Box (((w3.alloc o).setCell ⟨g, 0, none⟩ (.int .i64 rt)).setCell ⟨g, 1, none⟩ (.string rll)) w.heap.size 30 #[.int .i64 0, .string ⟨#[]⟩]) := fun o => by
              have h1 := (BR3.out.alloc o).of ((chg_set (w3.alloc o) g 0 (.int .i64 rt)).block _ (BR3.out.alloc o).lt (by have := HG.out; simp; omega))
              exact h1.of ((chg_set _ g 1 (.string rll)).block _ h1.lt (by have := HG.out; simp; omega))
            have FL : Hid (∀ o : Obj, Below w.heap.size w (((w3.alloc o).setCell ⟨g, 0, none⟩ (.int .i64 rt)).setCell ⟨g, 1, none⟩ (.string rll))) := fun o => ((L3.out.trans ((hb4 o).mono L3.out.size)).setCell (p := ⟨g, 0, none⟩) (Nat.le_of_lt HG.out) _).setCell (p := ⟨g, 1, none⟩) (Nat.le_of_lt HG.out) _
            clear hb4
            go_wp2
            go_roundw
            case rel => exact ⟨j + 1, by omega, by go_num, FL.out _, FR.out _, by rw [HBK.out]; exact FB.out _⟩
            case measure => simp [intOf]; omega
          · have hd : decide (bt < rt) = false := decide_eq_false hc
            rw [if_neg hc] at HBK
            have FB : Hid (∀ o : Obj, Box (w3.alloc o) g 30 #[.int .i64 bt, .string bll]) := fun o => BB3.out.alloc o
            have FR : Hid (∀ o : Obj, Box (w3.alloc o) w.heap.size 30 #[.int .i64 0, .string ⟨#[]⟩]) := fun o => BR3.out.alloc o
            have FL : Hid (∀ o : Obj, Below w.heap.size w (w3.alloc o)) := fun o => L3.out.trans ((hb4 o).mono L3.out.size)
            clear hc hb4
            go_wp2
            go_roundw
            case rel => exact ⟨j + 1, by omega, by go_num, FL.out _, FR.out _, by rw [HBK.out]; exact FB.out _⟩
            case measure => simp [intOf]; omega
        · have hj4 : j = 4 := by omega
          subst hj4
          have hlt := HLT.out
          have HKK : Hid (4 * k + 4 = 4 * (k + 1)) := by show _ = _; omega
          rw [HKK.out] at BB
          clear hjt hj
          go_wp2
          go_roundw
          case rel => exact ⟨k + 1, by omega, by go_num, L, BR, BB⟩
          case measure => simp [intOf]; omega
    · have hk2 : k = 2 := by omega
      subst hk2
      have HBU : Hid (bestU d = if bestK d 8 = ubN then (ub0, false) else (bestK d 8, true)) := rfl
      rw [show 4 * 2 = 8 from rfl] at BB
      have HONE := Lib.hid (H.out.keep hP L.out)
      clear hlt hk
      generalize bestK d 8 = bk at *
      obtain ⟨bt, bll⟩ := bk
      simp only at BB
      have g0 : wr.drew.cell? ⟨g, 0, none⟩ = some (.int .i64 bt) := BB.out.cell 0 _ rfl
      have g1 : wr.drew.cell? ⟨g, 1, none⟩ = some (.string bll) := BB.out.cell 1 _ rfl
      have hgl := BB.out.lt
      have HGL : Hid (g < wr.drew.heap.size) := hgl
      by_cases hc : (⟨bt, bll⟩ : UbD) = ubN
      · have hq : ∀ w, (Op.equalIn 10000 30 (.agg #[.int .i64 bt, .string bll]) (.agg #[.int .i64 (-1), .string ⟨#[]⟩])).run Tryd.prog w = .ok true w := fun w => by
          rw [eqUb]
          injection hc with h1 h2
          subst h1 h2
          simp
        rw [if_pos hc] at HBU
        clear hc
        go_wp2_with fail
        go_region_with ((go_at_call 58; go_must (refine (none_any _).mono ?_; rintro e w4 ⟨rfl, hb⟩; rw [show ubV ubN = .agg #[.int .i64 (-1), .string ⟨#[]⟩] from rfl]; have g0 := (hb.cell (p := ⟨g, 0, none⟩) HGL.out).trans g0; have g1 := (hb.cell (p := ⟨g, 1, none⟩) HGL.out).trans g1; have L4 := Lib.hid (L.out.trans ((undrew' hb).mono L.out.size)); have BR4 := Lib.hid (BR.out.keep (undrew' hb) BR.out.lt); clear hb)))
        all_goals
          clear g0 g1
          have f0 := BR4.out.free 0
          have f1 := BR4.out.free 1
          have k0 : w4.cell? ⟨w.heap.size, 0, none⟩ = some (.int .i64 0) := BR4.out.cell 0 _ rfl
          have k1 : w4.cell? ⟨w.heap.size, 1, none⟩ = some (.string ⟨#[]⟩) := BR4.out.cell 1 _ rfl
          have HR : Hid (Box ((w4.setCell ⟨w.heap.size, 0, none⟩ (.int .i64 0)).setCell ⟨w.heap.size, 1, none⟩ (.string ⟨#[]⟩)) w.heap.size 30 #[.int .i64 0, .string ⟨#[]⟩]) := (BR4.out.set 0 _).set 1 _
          have HRB : Hid (Below w.heap.size w ((w4.setCell ⟨w.heap.size, 0, none⟩ (.int .i64 0)).setCell ⟨w.heap.size, 1, none⟩ (.string ⟨#[]⟩))) := (L4.out.setCell (p := ⟨w.heap.size, 0, none⟩) (Nat.le_refl _) _).setCell (p := ⟨w.heap.size, 1, none⟩) (Nat.le_refl _) _
          go_wp2
          refine bodyPost_ret (results_cell_row_tmp2 rfl _ _ w.heap.size 30 _ (0, 0) _ rfl HR.out Tryd.underlying30 rfl sizeUb) rfl ?_
          exact ⟨by rw [HBU.out]; rfl, H.out.keep hP HRB.out, HRB.out⟩
      · have hq : ∀ w, (Op.equalIn 10000 30 (.agg #[.int .i64 bt, .string bll]) (.agg #[.int .i64 (-1), .string ⟨#[]⟩])).run Tryd.prog w = .ok false w := fun w => by
          rw [eqUb]
          by_cases h1 : bt = -1
          · have h2 : ¬ bll = ⟨#[]⟩ := fun h2 => hc (by rw [h1, h2]; rfl)
            rw [str_neq h2]
            simp
          · have : (bt == -1) = false := by simpa using h1
            rw [this]; rfl
        rw [if_neg hc] at HBU
        clear hc
        go_wp2_with fail
        go_region_with ((go_at_call 58; go_must (refine (none_any _).mono ?_; rintro e w4 ⟨rfl, hb⟩; rw [show ubV ubN = .agg #[.int .i64 (-1), .string ⟨#[]⟩] from rfl]; have g0 := (hb.cell (p := ⟨g, 0, none⟩) HGL.out).trans g0; have g1 := (hb.cell (p := ⟨g, 1, none⟩) HGL.out).trans g1; have L4 := Lib.hid (L.out.trans ((undrew' hb).mono L.out.size)); have BR4 := Lib.hid (BR.out.keep (undrew' hb) BR.out.lt); clear hb)))
        all_goals
          have f0 := BR4.out.free 0
          have f1 := BR4.out.free 1
          have k0 : w4.cell? ⟨w.heap.size, 0, none⟩ = some (.int .i64 0) := BR4.out.cell 0 _ rfl
          have k1 : w4.cell? ⟨w.heap.size, 1, none⟩ = some (.string ⟨#[]⟩) := BR4.out.cell 1 _ rfl
          have HR : Hid (Box ((w4.setCell ⟨w.heap.size, 0, none⟩ (.int .i64 bt)).setCell ⟨w.heap.size, 1, none⟩ (.string bll)) w.heap.size 30 #[.int .i64 bt, .string bll]) := (BR4.out.set 0 _).set 1 _
          have HRB : Hid (Below w.heap.size w ((w4.setCell ⟨w.heap.size, 0, none⟩ (.int .i64 bt)).setCell ⟨w.heap.size, 1, none⟩ (.string bll))) := (L4.out.setCell (p := ⟨w.heap.size, 0, none⟩) (Nat.le_refl _) _).setCell (p := ⟨w.heap.size, 1, none⟩) (Nat.le_refl _) _
          go_wp2
          refine bodyPost_ret (results_cell_row_tmp2 rfl _ _ w.heap.size 30 _ (0, 0) _ rfl HR.out Tryd.underlying30 rfl sizeUb) rfl ?_
          exact ⟨by rw [HBU.out]; rfl, H.out.keep hP HRB.out, HRB.out⟩
end Go.Proofs.YtkapbkkbkfmidaaDoor
