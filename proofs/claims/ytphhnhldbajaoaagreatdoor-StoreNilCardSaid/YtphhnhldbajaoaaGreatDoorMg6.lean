/-
  Texts put together: SpaceB, SpaceRMay, SpaceTot, StB.
-/
import Derived.Test.YtphhnhldbajaoaaGreatDoorMg5
import Derived.Deep.RegionHeld3
import Derived.Deep.QuietTactic
import Derived.BigQuiet
import Derived.Lib.Hide
namespace Go.Proofs.YtphhnhldbajaoaaGreatDoor
open Go.RowKit Go.ChangeShapes Go.WideShapes Go.ChangeAt

def spmayF : Int → List (Int × Int) → Bool
  | _, [] => true
  | m, x :: r => decide (m ≤ x.1 ∧ 1 ≤ x.2 ∧ x.2 ≤ 1073741824 - x.1) && spmayF (x.1 + x.2 + 1) r
def mayL (l : List (Int × Int)) : Bool := spmayF 0 l
/-- Both lie in the range of ints. -/
def WfP (l : List (Int × Int)) : Prop := ∀ x ∈ l, (Lit.int .i64 x.1).wf = true ∧ (Lit.int .i64 x.2).wf = true
theorem may_bad {m : Int} {l : List (Int × Int)} {k : Nat} (h : k < l.length) (hb : ¬ (m ≤ l[k].1 ∧ 1 ≤ l[k].2 ∧ l[k].2 ≤ 1073741824 - l[k].1)) : spmayF m (l.drop k) = false := by
  rw [List.drop_eq_getElem_cons h, spmayF, decide_eq_false hb, Bool.false_and]
theorem may_good {m : Int} {l : List (Int × Int)} {k : Nat} (h : k < l.length) (hb : m ≤ l[k].1 ∧ 1 ≤ l[k].2 ∧ l[k].2 ≤ 1073741824 - l[k].1) : spmayF m (l.drop k) = spmayF (l[k].1 + l[k].2 + 1) (l.drop (k + 1)) := by
  rw [List.drop_eq_getElem_cons h, spmayF, decide_eq_true hb, Bool.true_and]
theorem i64_lo {n : Int} (h : (Lit.int .i64 n).wf = true) : -9223372036854775808 ≤ n ∧ n ≤ 9223372036854775807 := by
  have h2 : IntKind.i64.min ≤ n ∧ n ≤ IntKind.i64.max := by simpa [Lit.wf] using h
  rw [show IntKind.i64.min = -9223372036854775808 from rfl, show IntKind.i64.max = 9223372036854775807 from rfl] at h2
  exact h2

theorem spend_any (x : Int × Int) (w : World) (a0 : 0 ≤ x.1) (a1 : x.1 ≤ 2147483647) (n0 : 0 ≤ x.2) (n1 : x.2 ≤ 2147483647) :
    Calls Tryz.prog 95 #[.agg #[.int .i64 x.1, .int .i64 x.2]] w fun e w' => e = .returned (.int .i64 (x.1 + x.2)) ∧ Below w.heap.size w w' := by
  obtain ⟨a, n⟩ := x
  simp only at a0 a1 n0 n1
  have B := Box.new w 139 #[.int .i64 a, .int .i64 n]
  have HL := Lib.hid ((Below.refl w.heap.size w).alloc (Nat.le_refl _) (.cells #[.int .i64 a, .int .i64 n] 139 (0, 0)))
  have k0 := B.cell 0 _ rfl
  have k1 := B.cell 1 _ rfl
  clear B
  go_enter Tryz.func95, Tryz.ntmps95
  go_wp2
  go_ret
  exact ⟨rfl, HL.out⟩

set_option maxRecDepth 100000 in
set_option maxHeartbeats 1000000 in
theorem may_any (a : Option Addr) (cap : Nat) (l : List (Int × Int)) (w : World) (h : SlP w a l) (hl : l.length ≤ 1000) (hw : WfP l) :
    Calls Tryz.prog 90 #[.slice a l.length cap] w fun e w' => e = .returned (.bool (mayL l)) ∧ Below w.heap.size w w' := by
  have H := Lib.hid h
  have HW := Lib.hid hw
  clear h hw
  obtain ⟨r, hr⟩ : ∃ r, mayL l = r := ⟨_, rfl⟩
  rw [hr]
  have HR := Lib.hid hr
  clear hr
  go_enter Tryz.func90, Tryz.ntmps90
  go_wp2
  go_loopw [3, 8] (fun m i wr => ∃ (k : Nat) (least : Int), k ≤ l.length ∧ i = .int .i64 k ∧ m = .int .i64 least ∧ 0 ≤ least ∧ least ≤ 1073741825 ∧ Hid (spmayF least (l.drop k) = r) ∧ Hid (Below w.heap.size w wr)) (fun _ i _ => l.length - (intOf i).toNat)
  case atStart => exact ⟨0, 0, Nat.zero_le _, rfl, rfl, by omega, by omega, HR.out, Below.refl _ _⟩
  case round =>
    obtain ⟨k, least, hk, rfl, rfl, hl0, hl1, HM, HL⟩ := hrel
    by_cases hlt : k < l.length
    · obtain ⟨b, off, rfl, hb, hc0, hc1⟩ := (H.out.keep HL.out).get k hlt
      have hwf := HW.out l[k] (List.getElem_mem hlt)
      have HB := Lib.hid (@may_bad least l k hlt)
      have HG := Lib.hid (@may_good least l k hlt)
      generalize l[k] = x at *
      obtain ⟨xa, xn⟩ := x
      simp only at hc0 hc1 hwf HB HG
      have BX := Box.new wr 139 #[.int .i64 xa, .int .i64 xn]
      have ha := (Below.refl wr.heap.size wr).alloc (Nat.le_refl _) (.cells #[.int .i64 xa, .int .i64 xn] 139 (0, 0))
      have HL2 := Lib.hid (HL.out.trans (ha.mono HL.out.size))
      have k0 := BX.cell 0 _ rfl
      have k1 := BX.cell 1 _ rfl
      clear ha BX HL hb
      have hwa := i64_lo hwf.1
      have hwn := i64_lo hwf.2
      by_cases c1 : xa < least
      · have HN := Lib.hid (show r = false by rw [← HM.out]; exact HB.out (by omega))
        clear hwf hwa hwn
        go_wp2
        go_ret
        exact ⟨ret_bool HN.out.symm, HL2.out⟩
      · by_cases c2 : xn < 1
        · have HN := Lib.hid (show r = false by rw [← HM.out]; exact HB.out (by omega))
          clear hwf hwa hwn
          go_wp2
          go_ret
          exact ⟨ret_bool HN.out.symm, HL2.out⟩
        · have g0 : IntKind.i64.wrap (1073741824 - xa) = 1073741824 - xa := IntWalk.i64_in _ ⟨by omega, by omega⟩
          have HWR := Lib.hid g0
          by_cases c3 : 1073741824 - xa < xn
          · have HN := Lib.hid (show r = false by rw [← HM.out]; exact HB.out (by omega))
            clear hwf hwa hwn
            go_wp2
            go_ret
            exact ⟨ret_bool HN.out.symm, HL2.out⟩
          · have HN := Lib.hid (show spmayF (xa + xn + 1) (l.drop (k + 1)) = r by rw [← HM.out]; exact (HG.out (by omega)).symm)
            have b1 : 0 ≤ xa := by omega
            have b2 : xa ≤ 1073741823 := by omega
            have b3 : 1 ≤ xn := by omega
            have b4 : xn ≤ 1073741824 := by omega
            have b5 : xa + xn ≤ 1073741824 := by omega
            clear hwf hwa hwn HB HG HM
            go_wp2_with fail
            refine (spend_any (xa, xn) _ b1 (by omega) (by omega) (by omega)).mono ?_
            rintro e w2 ⟨rfl, hb2⟩
            have HL3 := Lib.hid (HL2.out.trans (hb2.mono HL2.out.size))
            clear hb2 k0 k1 hc0 hc1 HL2 g0
            dsimp only
            go_wp2
            go_roundw
            case rel => exact ⟨k + 1, xa + xn + 1, by omega, by go_num, rfl, by omega, by omega, HN.out, HL3.out⟩
            case measure => simp [intOf]; omega
    · obtain rfl : k = l.length := by omega
      have HT := Lib.hid (show r = true by rw [← HM.out, List.drop_length]; rfl)
      go_wp2
      go_ret
      exact ⟨ret_bool HT.out.symm, HL.out⟩
end Go.Proofs.YtphhnhldbajaoaaGreatDoor

namespace Go.Proofs.YtphhnhldbajaoaaGreatDoor
open Go.RowKit Go.ChangeShapes Go.WideShapes Go.ChangeAt

end Go.Proofs.YtphhnhldbajaoaaGreatDoor

namespace Go.Proofs.YtphhnhldbajaoaaGreatDoor
open Go.RowKit Go.ChangeShapes Go.WideShapes Go.ChangeAt

def sumN : List (Int × Int) → Int
  | [] => 0
  | x :: r => x.2 + sumN r
def totL (l : List (Int × Int)) : Int := if mayL l = true then sumN l else 0
/-- A run that may be. -/
def MayR (x : Int × Int) : Prop := 0 ≤ x.1 ∧ 1 ≤ x.2 ∧ x.1 + x.2 ≤ 1073741824
theorem sumN_snoc (l : List (Int × Int)) (x : Int × Int) : sumN (l ++ [x]) = sumN l + x.2 := by
  induction l with
  | nil => simp [sumN]
  | cons y r ih => simp only [List.cons_append, sumN, ih]; omega
theorem may_mem {l : List (Int × Int)} : ∀ {m : Int}, 0 ≤ m → spmayF m l = true → ∀ x ∈ l, MayR x ∧ m ≤ x.1 := by
  induction l with
  | nil => intro m _ _ x hx; cases hx
  | cons y r ih =>
    intro m hm h x hx
    rw [spmayF, Bool.and_eq_true, decide_eq_true_eq] at h
    rcases List.mem_cons.1 hx with rfl | hx
    · unfold MayR; omega
    · have := ih (m := y.1 + y.2 + 1) (by omega) h.2 x hx
      unfold MayR at *
      omega
theorem sumN_bd {l : List (Int × Int)} (h : ∀ x ∈ l, MayR x) : 0 ≤ sumN l ∧ sumN l ≤ l.length * 1073741824 := by
  induction l with
  | nil => simp [sumN]
  | cons y r ih =>
    have h1 := ih fun x hx => h x (List.mem_cons_of_mem _ hx)
    have h2 := h y (List.mem_cons_self ..)
    unfold MayR at h2
    simp only [sumN, List.length_cons]
    omega

set_option maxRecDepth 100000 in
set_option maxHeartbeats 1000000 in
theorem total_any (a : Option Addr) (cap : Nat) (l : List (Int × Int)) (w : World) (h : SlP w a l) (hl : l.length ≤ 1000) (hw : WfP l) :
    Calls Tryz.prog 45 #[.slice a l.length cap] w fun e w' => e = .returned (.int .i64 (totL l)) ∧ Below w.heap.size w w' := by
  have H := Lib.hid h
  have HW := Lib.hid hw
  clear h hw
  cases hm : mayL l
  · have HT := Lib.hid (show totL l = 0 by unfold totL; rw [hm]; rfl)
    go_enter Tryz.func45, Tryz.ntmps45
    go_wp2_with fail
    refine (may_any a cap l _ H.out hl HW.out).mono ?_
    rintro e w1 ⟨rfl, hb⟩
    rw [hm]
    have HB := Lib.hid hb
    clear hb hm
    go_wp2
    go_ret
    exact ⟨ret_int HT.out.symm, HB.out⟩
  · have HT := Lib.hid (show totL l = sumN l by unfold totL; rw [hm]; rfl)
    have HR := Lib.hid (fun x hx => (may_mem (l := l) (m := 0) (by omega) hm x hx).1)
    go_enter Tryz.func45, Tryz.ntmps45
    go_wp2_with fail
    refine (may_any a cap l _ H.out hl HW.out).mono ?_
    rintro e w1 ⟨rfl, hb⟩
    rw [hm]
    have HB := Lib.hid hb
    clear hb hm
    go_wp2
    go_loopw [3, 11] (fun s i wr => ∃ k : Nat, k ≤ l.length ∧ i = .int .i64 k ∧ s = .int .i64 (sumN (l.take k)) ∧ Hid (Below w.heap.size w wr)) (fun _ i _ => l.length - (intOf i).toNat)
    case atStart => exact ⟨0, Nat.zero_le _, rfl, rfl, HB⟩
    case round =>
      obtain ⟨k, hk, rfl, rfl, HL⟩ := hrel
      by_cases hlt : k < l.length
      · obtain ⟨b, off, rfl, hb, hc0, hc1⟩ := (H.out.keep HL.out).get k hlt
        have HX := Lib.hid (HR.out _ (List.getElem_mem hlt))
        have HS := Lib.hid (show sumN (l.take (k + 1)) = sumN (l.take k) + l[k].2 by rw [snoc_take l k hlt, sumN_snoc])
        have hsb := sumN_bd (l := l.take k) fun x hx => HR.out x (List.mem_of_mem_take hx)
        have hlk : (l.take k).length ≤ 1000 := by rw [List.length_take]; omega
        generalize l[k] = x at *
        obtain ⟨xa, xn⟩ := x
        generalize sumN (l.take k) = s at *
        have hx := HX.out
        unfold MayR at hx
        simp only at hx hc0 hc1
        obtain ⟨x0, x1, x2⟩ := hx
        obtain ⟨s0, s1⟩ := hsb
        have s2 : s ≤ 1073741824000 := by omega
        have BX := Box.new wr 139 #[.int .i64 xa, .int .i64 xn]
        have ha := (Below.refl wr.heap.size wr).alloc (Nat.le_refl _) (.cells #[.int .i64 xa, .int .i64 xn] 139 (0, 0))
        have HL2 := Lib.hid (HL.out.trans (ha.mono HL.out.size))
        have k0 := BX.cell 0 _ rfl
        have k1 := BX.cell 1 _ rfl
        have x3 : xn ≤ 1073741824 := by omega
        clear ha BX HL hb hlk s1 x2
        go_wp2
        go_roundw
        case rel => exact ⟨k + 1, by omega, by go_num, by rw [HS.out], HL2⟩
        case measure => simp [intOf]; omega
      · obtain rfl : k = l.length := by omega
        rw [List.take_length]
        go_wp2
        go_ret
        exact ⟨ret_int HT.out.symm, HL.out⟩

end Go.Proofs.YtphhnhldbajaoaaGreatDoor

namespace Go.Proofs.YtphhnhldbajaoaaGreatDoor
open Go Go.RowKit Go.ChangeShapes Go.WideShapes Go.ChangeAt

/-- Is a place no sector of the devices? -/
def nowhS (d : DevD) (l : Int × Int) : Bool := decide (l.2 < 0) || decide ((devSize d l.1 : Int) ≤ l.2)
section
variable {B : Nat} {P : List Nat → World → Prop} {s : Nat} {x : StoV} {d : DevD} {w : World}
set_option maxRecDepth 100000 in
set_option maxHeartbeats 2000000 in
theorem snowh_any (hP : Fixed P) (h : StoB w s x) (ho : One B P x.db d w) (l : Int × Int) : Calls Tryz.prog 58 #[.pointer (some ⟨s, 0, none⟩), locV l] w fun e w' => e = .returned (.bool (nowhS d l)) ∧ Below w.heap.size w w' := by
  obtain ⟨l1, l2⟩ := l
  obtain ⟨gb, hgb⟩ : ∃ gb, gb = w.heap.size := ⟨_, rfl⟩
  obtain ⟨wa, hwa⟩ : ∃ wa, wa = w.alloc (.cells #[.int .i64 l1, .int .i64 l2] 47 (0, 0)) := ⟨_, rfl⟩
  have hba : Below w.heap.size w wa := by rw [hwa]; exact (Below.refl _ _).alloc (Nat.le_refl _) _
  have HBX : Hid (Box wa gb 47 #[.int .i64 l1, .int .i64 l2]) := by show Box _ _ _ _; rw [hwa, hgb]; exact Box.new _ _ _
  have b0 : wa.cell? ⟨gb, 0, none⟩ = some (.int .i64 l1) := HBX.out.cell 0 _ rfl
  have b1 : wa.cell? ⟨gb, 1, none⟩ = some (.int .i64 l2) := HBX.out.cell 1 _ rfl
  have c0 : wa.cell? ⟨s, 0, none⟩ = some (.pointer (some ⟨x.db, 0, none⟩)) := (h.keep hba h.lt).cell 0 _ rfl
  have HD := Lib.hid (fun W (hb : Below w.heap.size w W) => one_size (ho.keep hP hb) l1)
  have HBD : Hid (Below w.heap.size w wa.drew) := hba.drew
  obtain ⟨R, hR⟩ : ∃ R, R = nowhS d (l1, l2) := ⟨_, rfl⟩
  rw [← hR]
  have HR := Lib.hid hR
  have hwa2 := hwa.symm
  have hgb2 := hgb.symm
  clear h ho hR hwa hgb hba
  by_cases h2 : l2 < 0
  · have HE : Hid (R = true) := by show _ = _; rw [HR.out]; unfold nowhS; simp [h2]
    have d2 : decide (l2 < 0) = true := decide_eq_true h2
    clear HR
    unfold locV
    go_enter Tryz.func58, Tryz.ntmps58
    go_wp2_with fail
    try rw [hwa2, hgb2]
    have e0 : wa.drew.cell? ⟨gb, 0, none⟩ = some (.int .i64 l1) := b0
    have e1 : wa.drew.cell? ⟨gb, 1, none⟩ = some (.int .i64 l2) := b1
    refine wp_region_tree (fun W => W.cell? ⟨gb, 0, none⟩ = some (.int .i64 l1) ∧ W.cell? ⟨gb, 1, none⟩ = some (.int .i64 l2)) 13 (.quiet 0 (.quiet 1 (.quiet 2 (.quiet 3 (.quiet 4 (.quiet 5 (.quiet 6 (.quiet 7 (.quiet 8 (.quiet 9 (.quiet 10 (.quiet 11 (.make 12 .nil))))))))))))) (by kernel_rfl) (by kernel_rfl) ⟨e0, e1⟩ ?_
    simp only [List.drop_succ_cons, List.drop_zero]
    iterate 12 (apply wpTr_step rfl; (intro W hS K hK; obtain ⟨y0, y1⟩ := hS; go_simp; exact hK _ rfl))
    refine wpTr_make rfl (fun K' hK => ?_)
    go_simp
    refine hK _ _ _ (fun _ h => h) ⟨e0, e1⟩ ?_
    clear hK K' e0 e1 b0 b1
    refine wpTr_nil ?_
    go_wp2
    go_ret
    rw [HE.out]
    exact ⟨rfl, HBD.out⟩
  · have HE : Hid (R = decide ((devSize d l1 : Int) ≤ l2)) := by show _ = _; rw [HR.out]; unfold nowhS; simp [h2]
    have d2 : decide (l2 < 0) = false := decide_eq_false h2
    clear HR
    unfold locV
    go_enter Tryz.func58, Tryz.ntmps58
    go_wp2_with fail
    try rw [hwa2, hgb2]
    have e0 : wa.drew.cell? ⟨gb, 0, none⟩ = some (.int .i64 l1) := b0
    have e1 : wa.drew.cell? ⟨gb, 1, none⟩ = some (.int .i64 l2) := b1
    have e2 : wa.drew.cell? ⟨s, 0, none⟩ = some (.pointer (some ⟨x.db, 0, none⟩)) := c0
    refine wp_region_tree (fun W => W.cell? ⟨gb, 0, none⟩ = some (.int .i64 l1) ∧ W.cell? ⟨gb, 1, none⟩ = some (.int .i64 l2) ∧ W.cell? ⟨s, 0, none⟩ = some (.pointer (some ⟨x.db, 0, none⟩))) 13 (.quiet 0 (.quiet 1 (.quiet 2 (.quiet 3 (.quiet 4 (.quiet 5 (.quiet 6 (.quiet 7 (.quiet 8 (.quiet 9 (.quiet 10 (.quiet 11 (.make 12 .nil))))))))))))) (by kernel_rfl) (by kernel_rfl) ⟨e0, e1, e2⟩ ?_
    simp only [List.drop_succ_cons, List.drop_zero]
    iterate 12 (apply wpTr_step rfl; (intro W hS K hK; obtain ⟨y0, y1, y2⟩ := hS; go_simp; exact hK _ rfl))
    refine wpTr_make rfl (fun K' hK => ?_)
    go_simp
    refine (HD.out _ HBD.out).mono ?_
    rintro e w2 ⟨rfl, rfl⟩
    refine hK _ _ _ (fun _ h => h) ⟨e0, e1, e2⟩ ?_
    clear hK K' e0 e1 e2 b0 b1 c0 HD
    refine wpTr_nil ?_
    obtain ⟨z, hz⟩ : ∃ z : Nat, z = devSize d l1 := ⟨_, rfl⟩
    rw [← hz] at HE ⊢
    clear hz
    go_wp2
    go_ret
    rw [HE.out]
    exact ⟨rfl, HBD.out⟩
/-- The free runs of a device. -/
def RunR (w : World) (v : Value) (l : List (Int × Int)) : Prop := ∃ a cap, v = .slice a l.length cap ∧ SlP w a l ∧ l.length ≤ 1000 ∧ WfP l
def StoV.v (x : StoV) (side : Int) : Value := if side = 0 then x.v0 else x.v1
set_option maxRecDepth 100000 in
theorem smay_nil (side : Int) (w : World) : Calls Tryz.prog 46 #[.pointer none, .int .i64 side] w fun e w' => e = .returned (.slice none 0 0) ∧ w = w' := by
  go_enter Tryz.func46, Tryz.ntmps46
  go_wp2_with fail
  refine (smade_nil _).mono ?_
  rintro e w1 ⟨rfl, rfl⟩
  go_wp2
  go_ret
  exact ⟨rfl, rfl⟩
/-- What may be taken of a device. -/
def mayS (x : StoV) (d : DevD) (side : Int) : Value := if devLost d side = true then .slice none 0 0 else x.v side
set_option maxRecDepth 100000 in
theorem smay_any (h : StoB w s x) (ho : One B P x.db d w) (side : Int) (hs : side = 0 ∨ side = 1) : Calls Tryz.prog 46 #[.pointer (some ⟨s, 0, none⟩), .int .i64 side] w fun e w' => e = .returned (mayS x d side) ∧ w = w' := by
  have c0 : w.cell? ⟨s, 0, none⟩ = some (.pointer (some ⟨x.db, 0, none⟩)) := h.cell 0 _ rfl
  have c7 : w.cell? ⟨s, 7, none⟩ = some x.v0 := h.cell 7 _ rfl
  have c8 : w.cell? ⟨s, 8, none⟩ = some x.v1 := h.cell 8 _ rfl
  have HM := Lib.hid (smade_any s x w h)
  have HD := Lib.hid (one_lost ho side)
  clear h ho
  cases hl : devLost d side
  · have HE : Hid (mayS x d side = x.v side) := by show mayS _ _ _ = _; unfold mayS; rw [hl]; rfl
    rcases hs with rfl | rfl
    · have HV : Hid (x.v 0 = x.v0) := rfl
      rw [HE.out, HV.out]
      go_enter Tryz.func46, Tryz.ntmps46
      go_wp2_with fail
      refine HM.out.mono ?_
      rintro e w1 ⟨rfl, rfl⟩
      go_wp2_with fail
      refine HD.out.mono ?_
      rintro e w1 ⟨rfl, rfl⟩
      rw [hl]
      go_wp2
      go_ret
      exact ⟨rfl, rfl⟩
    · have HV : Hid (x.v 1 = x.v1) := rfl
      rw [HE.out, HV.out]
      go_enter Tryz.func46, Tryz.ntmps46
      go_wp2_with fail
      refine HM.out.mono ?_
      rintro e w1 ⟨rfl, rfl⟩
      go_wp2_with fail
      refine HD.out.mono ?_
      rintro e w1 ⟨rfl, rfl⟩
      rw [hl]
      go_wp2
      go_ret
      exact ⟨rfl, rfl⟩
  · have HE : Hid (mayS x d side = .slice none 0 0) := by show mayS _ _ _ = _; unfold mayS; rw [hl]; rfl
    rw [HE.out]
    go_enter Tryz.func46, Tryz.ntmps46
    go_wp2_with fail
    refine HM.out.mono ?_
    rintro e w1 ⟨rfl, rfl⟩
    go_wp2_with fail
    refine HD.out.mono ?_
    rintro e w1 ⟨rfl, rfl⟩
    rw [hl]
    go_wp2
    go_ret
    exact ⟨rfl, rfl⟩
def frS (d : DevD) (side : Int) (l : List (Int × Int)) : List (Int × Int) := if devLost d side = true then [] else l
theorem may_run {side : Int} {l : List (Int × Int)} (h : RunR w (x.v side) l) : RunR w (mayS x d side) (frS d side l) := by
  unfold mayS frS
  cases devLost d side
  · exact h
  · exact ⟨none, 0, rfl, SlP.nil, Nat.zero_le _, fun y hy => by cases hy⟩
set_option maxRecDepth 100000 in
set_option maxHeartbeats 2000000 in
theorem sfree_nil (w : World) : Calls Tryz.prog 18 #[.pointer none] w fun e w' => e = .returned (.tuple #[.int .i64 0, .int .i64 0]) ∧ Below w.heap.size w w' := by
  have HB : Hid (Below w.heap.size w w) := Below.refl _ _
  go_enter Tryz.func18, Tryz.ntmps18
  go_wp2_with fail
  refine (smay_nil 0 _).mono ?_
  rintro e w1 ⟨rfl, rfl⟩
  go_wp2_with fail
  refine (total_any none 0 [] _ SlP.nil (Nat.zero_le _) (fun y hy => by cases hy)).mono ?_
  rintro e w2 ⟨rfl, hb2⟩
  have HB2 := Lib.hid (HB.out.trans hb2)
  clear hb2
  go_wp2_with fail
  refine (smay_nil 1 _).mono ?_
  rintro e w3 ⟨rfl, rfl⟩
  go_wp2_with fail
  refine (total_any none 0 [] _ SlP.nil (Nat.zero_le _) (fun y hy => by cases hy)).mono ?_
  rintro e w4 ⟨rfl, hb4⟩
  have HB4 := Lib.hid (HB2.out.trans (hb4.mono HB2.out.size))
  clear hb4
  go_wp2
  go_ret2
  exact ⟨rfl, HB4.out⟩
set_option maxRecDepth 100000 in
set_option maxHeartbeats 2000000 in
theorem sfree_any (hP : Fixed P) (h : StoB w s x) (ho : One B P x.db d w) (l0 l1 : List (Int × Int)) (h0 : RunR w x.v0 l0) (h1 : RunR w x.v1 l1) : Calls Tryz.prog 18 #[.pointer (some ⟨s, 0, none⟩)] w fun e w' => e = .returned (.tuple #[.int .i64 (totL (frS d 0 l0)), .int .i64 (totL (frS d 1 l1))]) ∧ Below w.heap.size w w' := by
  have HB : Hid (Below w.heap.size w w) := Below.refl _ _
  have HX : Hid (∀ W, Below w.heap.size w W → StoB W s x ∧ One B P x.db d W) := fun W hb => ⟨h.keep hb h.lt, ho.keep hP hb⟩
  have hr0 : RunR w (mayS x d 0) (frS d 0 l0) := may_run (d := d) (x := x) (side := 0) h0
  have hr1 : RunR w (mayS x d 1) (frS d 1 l1) := may_run (d := d) (x := x) (side := 1) h1
  obtain ⟨a0, k0, e0, s0, n0, f0⟩ := hr0
  obtain ⟨a1, k1, e1, s1, n1, f1⟩ := hr1
  have HE0 := Lib.hid e0
  have HE1 := Lib.hid e1
  have HS0 := Lib.hid s0
  have HS1 := Lib.hid s1
  have HN0 := Lib.hid n0
  have HN1 := Lib.hid n1
  have HF0 := Lib.hid f0
  have HF1 := Lib.hid f1
  generalize frS d 0 l0 = r0 at *
  generalize frS d 1 l1 = r1 at *
  clear h ho e0 e1 s0 s1 n0 n1 f0 f1 h0 h1
  go_enter Tryz.func18, Tryz.ntmps18
  go_wp2_with fail
  refine (smay_any (HX.out _ HB.out).1 (HX.out _ HB.out).2 0 (.inl rfl)).mono ?_
  rintro e w1 ⟨rfl, rfl⟩
  rw [HE0.out]
  go_wp2_with fail
  refine (total_any a0 k0 r0 _ (HS0.out.keep HB.out) HN0.out HF0.out).mono ?_
  rintro e w2 ⟨rfl, hb2⟩
  have HB2 := Lib.hid (HB.out.trans hb2)
  clear hb2
  go_wp2_with fail
  refine (smay_any (HX.out _ HB2.out).1 (HX.out _ HB2.out).2 1 (.inr rfl)).mono ?_
  rintro e w3 ⟨rfl, rfl⟩
  rw [HE1.out]
  go_wp2_with fail
  refine (total_any a1 k1 r1 _ (HS1.out.keep HB2.out) HN1.out HF1.out).mono ?_
  rintro e w4 ⟨rfl, hb4⟩
  have HB4 := Lib.hid (HB2.out.trans (hb4.mono HB2.out.size))
  clear hb4
  go_wp2
  go_ret2
  exact ⟨rfl, HB4.out⟩
end
end Go.Proofs.YtphhnhldbajaoaaGreatDoor
