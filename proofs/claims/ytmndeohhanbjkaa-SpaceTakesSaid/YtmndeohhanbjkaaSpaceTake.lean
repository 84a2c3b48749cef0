/-
  Contracts of package space: Take.
-/
import Derived.Test.YtmndeohhanbjkaaSpaceSwp
import Derived.Deep.RegionHeld3
import Derived.Deep.QuietTactic
import Derived.BigQuiet
namespace Go.Proofs.Ytmndeohhanbjkaa
open Go.RowKit Go.ChangeShapes Go.WideShapes Go.ChangeAt

def takeL (l : List (Int × Int)) (n : Int) : Int × List (Int × Int) × Bool :=
  if mayL l = true ∧ 1 ≤ n then
    match l.findIdx? (longB n) with
    | some i => ((l.getD i (0, 0)).1, l.take i ++ (if (l.getD i (0, 0)).2 = n then [] else [((l.getD i (0, 0)).1 + n, (l.getD i (0, 0)).2 - n)]) ++ l.drop (i + 1), true)
    | none => (0, [], false)
  else (0, [], false)
def TkRes (e : TypeId) (n : Nat) (w : World) (r : Int × List (Int × Int) × Bool) (en : Ending) (w' : World) : Prop :=
  ∃ v, en = .returned (.tuple #[.int .i64 r.1, v, .bool r.2.2]) ∧ Prs e w' n v r.2.1 ∧ Below n w w'
theorem TkRes.no {e : TypeId} {n : Nat} {w w' : World} {r : Int × List (Int × Int) × Bool} (h : r = (0, [], false)) (hb : Below n w w') : TkRes e n w r (.returned (.tuple #[.int .i64 0, .slice none 0 0, .bool false])) w' := by
  subst h
  exact ⟨_, rfl, Prs.nil _ _ _, hb⟩
theorem TkRes.mk {e : TypeId} {n : Nat} {w w' : World} {r : Int × List (Int × Int) × Bool} {a : Int} {l : List (Int × Int)} {v : Value} (h : r = (a, l, true)) (hp : Prs e w' n v l) (hb : Below n w w') : TkRes e n w r (.returned (.tuple #[.int .i64 a, v, .bool true])) w' := by
  subst h
  exact ⟨_, rfl, hp, hb⟩
theorem take_may {l : List (Int × Int)} {n : Int} (h : mayL l = false) : takeL l n = (0, [], false) := by unfold takeL; rw [if_neg (by rw [h]; simp)]
theorem take_low {l : List (Int × Int)} {n : Int} (h : n < 1) : takeL l n = (0, [], false) := by unfold takeL; rw [if_neg (by omega)]
theorem take_none {l : List (Int × Int)} {n : Int} (h : l.findIdx? (longB n) = none) : takeL l n = (0, [], false) := by unfold takeL; rw [h]; simp
theorem take_some {l : List (Int × Int)} {n : Int} {i : Nat} (h1 : mayL l = true) (h2 : 1 ≤ n) (h : l.findIdx? (longB n) = some i) :
    takeL l n = ((l.getD i (0, 0)).1, l.take i ++ (if (l.getD i (0, 0)).2 = n then [] else [((l.getD i (0, 0)).1 + n, (l.getD i (0, 0)).2 - n)]) ++ l.drop (i + 1), true) := by
  unfold takeL; rw [if_pos ⟨h1, h2⟩, h]
theorem Prs.slP' {e : TypeId} {w : World} {base : Nat} {v : Value} {l : List (Int × Int)} (h : Prs e w base v l) : ∃ a cap, v = .slice a l.length cap ∧ SlP w a l := by
  obtain ⟨a, cap, h1, _, _, h2⟩ := h.slP
  exact ⟨a, cap, h1, h2⟩

set_option maxRecDepth 100000 in
set_option maxHeartbeats 2000000 in
theorem take_any (lv : Value) (l : List (Int × Int)) (n : Int) (w : World) (b0 : Nat) (hl : Prs 46 w b0 lv l) (hlen : l.length ≤ 1000) (hw : WfP l) :
    Calls Try.prog 20 #[lv, .int .i64 n] w (TkRes 46 w.heap.size w (takeL l n)) := by
  obtain ⟨r, hr⟩ : ∃ r, takeL l n = r := ⟨_, rfl⟩
  rw [hr]
  have HR := Lib.hid hr
  clear hr
  have BX := Lib.hid (Box.new w 3 #[.int .i64 n])
  have HL0 := Lib.hid ((Below.refl w.heap.size w).alloc (Nat.le_refl _) (.cells #[.int .i64 n] 3 (0, 0)))
  have kn := BX.out.cell 0 _ rfl
  have HPR := Lib.hid hl
  obtain ⟨a, cap, rfl, hs⟩ := hl.slP'
  have H := Lib.hid hs
  have HW := Lib.hid hw
  clear hs hw hl
  cases hm : mayL l
  · have HN := Lib.hid (show r = (0, [], false) by rw [← HR.out]; exact take_may hm)
    go_enter Try.func20, Try.ntmps20
    go_wp2_with fail
    refine (may_any a cap l _ (H.out.keep HL0.out) hlen HW.out).mono ?_
    rintro e w1 ⟨rfl, hb⟩
    rw [hm]
    have HB := Lib.hid (HL0.out.trans (hb.mono HL0.out.size))
    have B1 := Lib.hid (BX.out.keep hb BX.out.lt)
    have kn := B1.out.cell 0 _ rfl
    clear hb hm
    go_wp2
    go_ret3
    exact TkRes.no HN.out HB.out
  have HM := Lib.hid hm
  by_cases hn : n < 1
  · have HN := Lib.hid (show r = (0, [], false) by rw [← HR.out]; exact take_low hn)
    go_enter Try.func20, Try.ntmps20
    go_wp2_with fail
    refine (may_any a cap l _ (H.out.keep HL0.out) hlen HW.out).mono ?_
    rintro e w1 ⟨rfl, hb⟩
    rw [hm]
    have HB := Lib.hid (HL0.out.trans (hb.mono HL0.out.size))
    have B1 := Lib.hid (BX.out.keep hb BX.out.lt)
    have kn := B1.out.cell 0 _ rfl
    clear hb
    go_wp2
    go_ret3
    exact TkRes.no HN.out HB.out
  have hd : decide (n < 1) = false := decide_eq_false hn
  cases hf : l.findIdx? (longB n) with
  | none =>
    have HN := Lib.hid (show r = (0, [], false) by rw [← HR.out]; exact take_none hf)
    have HI := Lib.hid (show idxP (longB n) l = -1 by unfold idxP; rw [hf])
    clear hf
    go_enter Try.func20, Try.ntmps20
    go_wp2_with fail
    refine (may_any a cap l _ (H.out.keep HL0.out) hlen HW.out).mono ?_
    rintro e w1 ⟨rfl, hb⟩
    rw [hm]
    have HB := Lib.hid (HL0.out.trans (hb.mono HL0.out.size))
    have B1 := Lib.hid (BX.out.keep hb BX.out.lt)
    have kn := B1.out.cell 0 _ rfl
    clear hb
    go_wp2_with fail
    refine (index_take a cap l w.heap.size n _ (H.out.keep HB.out) hlen kn).mono ?_
    rintro e w2 ⟨rfl, hb⟩
    rw [HI.out]
    have HB2 := Lib.hid (HB.out.trans (hb.mono HB.out.size))
    have B2 := Lib.hid (B1.out.keep hb B1.out.lt)
    clear hb kn B1 HB
    go_wp2
    go_ret3
    exact TkRes.no HN.out HB2.out
  | some i =>
    have HI := Lib.hid (show idxP (longB n) l = (i : Int) by unfold idxP; rw [hf])
    have HT := Lib.hid (take_some HM.out (show 1 ≤ n by omega) hf)
    obtain ⟨hi, hp, _⟩ := (List.findIdx?_eq_some_iff_getElem).1 hf
    have HMR := (may_mem (m := 0) (by omega) HM.out l[i] (List.getElem_mem hi)).1
    have hge : l.getD i (0, 0) = l[i] := by simp [List.getD, List.getElem?_eq_getElem hi]
    have HX : Hid (r = (l[i].1, l.take i ++ (if l[i].2 = n then [] else [(l[i].1 + n, l[i].2 - n)]) ++ l.drop (i + 1), true)) := by
      show r = _
      rw [← HR.out, HT.out, hge]
    obtain ⟨b, off, rfl, hb, hc0, hc1⟩ := H.out.get i hi
    have HAT : Hid (∀ W, Below w.heap.size w W → W.cell? ⟨b, off + i * 2, none⟩ = some (.int .i64 l[i].1) ∧ W.cell? ⟨b, off + i * 2 + 1, none⟩ = some (.int .i64 l[i].2)) := fun W hW => ⟨(hW.cell (p := ⟨b, _, none⟩) hb).trans hc0, (hW.cell (p := ⟨b, _, none⟩) hb).trans hc1⟩
    unfold longB at hp
    simp only [decide_eq_true_eq] at hp
    clear hf hge HT HR hb hc0 hc1
    generalize l[i] = x at *
    obtain ⟨xa, xn⟩ := x
    unfold MayR at HMR
    simp only at HMR hp HX HAT
    obtain ⟨x0, x1, x2⟩ := HMR
    have hi0 : (0 : Int) ≤ (i : Int) := by omega
    have hil : (i : Int) < (l.length : Int) := by omega
    have g0 : IntKind.i64.wrap (xa + n) = xa + n := IntWalk.i64_in _ ⟨by omega, by omega⟩
    have g1 : IntKind.i64.wrap (xn - n) = xn - n := IntWalk.i64_in _ ⟨by omega, by omega⟩
    by_cases he : xn = n
    · have hq : (xn == n) = true := by simp [he]
      have HY : Hid (r = (xa, l.take i ++ l.drop (i + 1), true)) := by show r = _; rw [HX.out, if_pos he]; simp
      clear he
      go_enter Try.func20, Try.ntmps20
      go_wp2_with fail
      refine (may_any _ cap l _ (H.out.keep HL0.out) hlen HW.out).mono ?_
      rintro e w1 ⟨rfl, hb⟩
      rw [hm]
      have HB := Lib.hid (HL0.out.trans (hb.mono HL0.out.size))
      have B1 := Lib.hid (BX.out.keep hb BX.out.lt)
      have kn := B1.out.cell 0 _ rfl
      clear hb
      go_wp2_with fail
      refine (index_take _ cap l w.heap.size n _ (H.out.keep HB.out) hlen kn).mono ?_
      rintro e w2 ⟨rfl, hb⟩
      rw [HI.out]
      have HB2 := Lib.hid (HB.out.trans (hb.mono HB.out.size))
      have B2 := Lib.hid (B1.out.keep hb B1.out.lt)
      clear hb kn B1 HB
      obtain ⟨q0, q1⟩ := HAT.out _ HB2.out
      have kn := B2.out.cell 0 _ rfl
      have HP2 := Lib.hid (HPR.out.keep HB2.out)
      go_wp2_with fail
      go_quiet (fail)
      have HP3 : Hid (Prs 46 (w2.drewN nq) b0 (.slice (some ⟨b, off, none⟩) l.length cap) l) := HP2.out
      have HB3 : Hid (Below w.heap.size w (w2.drewN nq)) := ⟨HB2.out.os, HB2.out.tape, HB2.out.output, HB2.out.size, HB2.out.block⟩
      clear q0 q1 kn HP2 g0 g1 hq
      go_wp2_with fail
      rw [show ((i : Int) + 1) = ((i + 1 : Nat) : Int) by omega]
      refine (swapped_none _ l i (i + 1) _ b0 HP3.out hlen (by omega) (by omega)).mono ?_
      rintro e w3 ⟨v3, rfl, hp3, hb3⟩
      have HP4 := Lib.hid (hp3.base HB3.out.size)
      have HB4 := Lib.hid (HB3.out.trans (hb3.mono HB3.out.size))
      clear hp3 hb3
      go_wp2
      go_ret3
      exact TkRes.mk HY.out HP4.out HB4.out
    · have hq : (xn == n) = false := by simp [he]
      have HY : Hid (r = (xa, l.take i ++ [(xa + n, xn - n)] ++ l.drop (i + 1), true)) := by show r = _; rw [HX.out, if_neg he]
      have g2 : IntKind.i64.wrap ((i : Int) + 1) = (i : Int) + 1 := IntWalk.i64_in _ ⟨by omega, by omega⟩
      clear he
      go_enter Try.func20, Try.ntmps20
      go_wp2_with fail
      refine (may_any _ cap l _ (H.out.keep HL0.out) hlen HW.out).mono ?_
      rintro e w1 ⟨rfl, hb⟩
      rw [hm]
      have HB := Lib.hid (HL0.out.trans (hb.mono HL0.out.size))
      have B1 := Lib.hid (BX.out.keep hb BX.out.lt)
      have kn := B1.out.cell 0 _ rfl
      clear hb
      go_wp2_with fail
      refine (index_take _ cap l w.heap.size n _ (H.out.keep HB.out) hlen kn).mono ?_
      rintro e w2 ⟨rfl, hb⟩
      rw [HI.out]
      have HB2 := Lib.hid (HB.out.trans (hb.mono HB.out.size))
      have B2 := Lib.hid (B1.out.keep hb B1.out.lt)
      clear hb kn B1 HB
      obtain ⟨q0, q1⟩ := HAT.out _ HB2.out
      have kn := B2.out.cell 0 _ rfl
      have HP2 := Lib.hid (HPR.out.keep HB2.out)
      go_wp2_with fail
      go_quiet (fail)
      have HP3 : Hid (Prs 46 (w2.drewN nq) b0 (.slice (some ⟨b, off, none⟩) l.length cap) l) := HP2.out
      have HB3 : Hid (Below w.heap.size w (w2.drewN nq)) := ⟨HB2.out.os, HB2.out.tape, HB2.out.output, HB2.out.size, HB2.out.block⟩
      have kn3 : (w2.drewN nq).cell? ⟨w.heap.size, 0, none⟩ = some (.int .i64 n) := kn
      have HSZ : Hid (w.heap.size ≤ (w2.drewN nq).heap.size) := HB3.out.size
      generalize w2.drewN nq = W at *
      have HKN : Hid (∀ V, Below W.heap.size W V → V.cell? ⟨w.heap.size, 0, none⟩ = some (.int .i64 n)) := fun V hV => (hV.cell (lt_of_cell kn3)).trans kn3
      have HALL : Hid (∀ V, Below w.heap.size w V → Below W.heap.size W V → V.cell? ⟨b, off + i * 2 + 1, none⟩ = some (.int .i64 xn) ∧ V.cell? ⟨w.heap.size, 0, none⟩ = some (.int .i64 n)) := fun V h1 h2 => ⟨(HAT.out V h1).2, HKN.out V h2⟩
      have hd : Below W.heap.size W W.drew := (Below.refl _ _).drew
      have ha : Below W.heap.size W (W.alloc (.cells #[.int .i64 (xa + n), .int .i64 (xn - n)] 46 (0, 0))).drew := ((Below.refl _ _).alloc (Nat.le_refl _) _).drew
      have BZ : Hid (Box (W.alloc (.cells #[.int .i64 (xa + n), .int .i64 (xn - n)] 46 (0, 0))).drew W.heap.size 46 #[.int .i64 (xa + n), .int .i64 (xn - n)]) := Box.new W 46 #[.int .i64 (xa + n), .int .i64 (xn - n)]
      have HS := Lib.hid (HALL.out _ (HB3.out.trans (hd.mono HB3.out.size)) hd)
      have HB5 := Lib.hid (HB3.out.trans (ha.mono HB3.out.size))
      have HS2 := Lib.hid (HALL.out _ HB5.out ha)
      have HP5 := Lib.hid (HP3.out.keep ha)
      have HBW := Lib.hid ha
      clear q0 q1 kn kn3 HP2 hd ha hq HP3
      go_wp2_with fail
      go_region_held3 (fun w' => w'.cell? ⟨b, off + i * 2 + 1, none⟩ = some (.int .i64 xn) ∧ w'.cell? ⟨w.heap.size, 0, none⟩ = some (.int .i64 n)) (first | with_reducible exact HS.out | with_reducible exact HS2.out)
        ((go_at_call 29; rw [show ((i : Int) + 1) = ((i + 1 : Nat) : Int) by omega]; refine (swapped_one _ l i (i + 1) W.heap.size (xa + n, xn - n) _ b0 HP5.out hlen (by omega) (by omega) BZ.out).mono ?_; rintro e w3 ⟨v3, rfl, hp3, hb3⟩; have HP4 := Lib.hid (hp3.base HB5.out.size); have HB4 := Lib.hid (HB5.out.trans (hb3.mono HB5.out.size)); have HS2 := Lib.hid (HALL.out _ HB4.out (HBW.out.trans (hb3.mono HBW.out.size))); clear hp3 hb3))
      go_wp2
      go_ret3
      exact TkRes.mk HY.out HP4.out HB4.out
end Go.Proofs.Ytmndeohhanbjkaa
