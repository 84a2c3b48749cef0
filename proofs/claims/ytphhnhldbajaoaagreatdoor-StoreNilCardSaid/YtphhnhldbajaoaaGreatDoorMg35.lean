/-
  Texts put together: SpaceTake, SpaceMeet, SpaceReach, SpaceGiveA, SpaceMath, SpaceMath2, SpaceMath3, SpaceMath4, SpaceMath5, SpaceMath6, StU.
-/
import Derived.Test.YtphhnhldbajaoaaGreatDoorMg34
import Derived.Deep.RegionHeld3
import Derived.Deep.QuietTactic
import Derived.BigQuiet
import Derived.Deep.RegionWith
import Derived.Deep.RegionLaw
import Derived.Test.YtphhnhldbajaoaaGreatDoorMg18
import Derived.Test.YtphhnhldbajaoaaGreatDoorMg11
namespace Go.Proofs.YtphhnhldbajaoaaGreatDoor
open Go.RowKit Go.ChangeShapes Go.WideShapes Go.ChangeAt

def takeL (l : List (Int × Int)) (n : Int) : Int × List (Int × Int) × Bool :=
  if mayL l = true ∧ 1 ≤ n then
    match l.findIdx? (longB n) with
    | some i => ((l.getD i (0, 0)).1, l.take i ++ (if (l.getD i (0, 0)).2 = n then [] else [((l.getD i (0, 0)).1 + n, (l.getD i (0, 0)).2 - n)]) ++ l.drop (i + 1), true)
    | none => (0, [], false)
  else (0, [], false)
def TkRes (e : TypeId) (n : Nat) (w : World) (r : Int × List (Int × Int) × Bool) (en : Ending) (w' : World) : Prop :=
  ∃ v, en = .returned (.tuple #[.int .i64 r.1, v, .bool r.2.2]) ∧ PrsS e w' n v r.2.1 ∧ Below n w w'
theorem TkRes.no {e : TypeId} {n : Nat} {w w' : World} {r : Int × List (Int × Int) × Bool} (h : r = (0, [], false)) (hb : Below n w w') : TkRes e n w r (.returned (.tuple #[.int .i64 0, .slice none 0 0, .bool false])) w' := by
  subst h
  exact ⟨_, rfl, PrsS.nil _ _ _, hb⟩
theorem TkRes.mk {e : TypeId} {n : Nat} {w w' : World} {r : Int × List (Int × Int) × Bool} {a : Int} {l : List (Int × Int)} {v : Value} (h : r = (a, l, true)) (hp : PrsS e w' n v l) (hb : Below n w w') : TkRes e n w r (.returned (.tuple #[.int .i64 a, v, .bool true])) w' := by
  subst h
  exact ⟨_, rfl, hp, hb⟩
theorem take_may {l : List (Int × Int)} {n : Int} (h : mayL l = false) : takeL l n = (0, [], false) := by unfold takeL; rw [if_neg (by rw [h]; simp)]
theorem take_low {l : List (Int × Int)} {n : Int} (h : n < 1) : takeL l n = (0, [], false) := by unfold takeL; rw [if_neg (by omega)]
theorem take_none {l : List (Int × Int)} {n : Int} (h : l.findIdx? (longB n) = none) : takeL l n = (0, [], false) := by unfold takeL; rw [h]; simp
theorem take_some {l : List (Int × Int)} {n : Int} {i : Nat} (h1 : mayL l = true) (h2 : 1 ≤ n) (h : l.findIdx? (longB n) = some i) :
    takeL l n = ((l.getD i (0, 0)).1, l.take i ++ (if (l.getD i (0, 0)).2 = n then [] else [((l.getD i (0, 0)).1 + n, (l.getD i (0, 0)).2 - n)]) ++ l.drop (i + 1), true) := by
  unfold takeL; rw [if_pos ⟨h1, h2⟩, h]
theorem PrsS.slP' {e : TypeId} {w : World} {base : Nat} {v : Value} {l : List (Int × Int)} (h : PrsS e w base v l) : ∃ a cap, v = .slice a l.length cap ∧ SlP w a l := by
  obtain ⟨a, cap, h1, _, _, h2⟩ := h.slP
  exact ⟨a, cap, h1, h2⟩

set_option maxRecDepth 100000 in
set_option maxHeartbeats 2000000 in
theorem take_any (lv : Value) (l : List (Int × Int)) (n : Int) (w : World) (b0 : Nat) (hl : PrsS 139 w b0 lv l) (hlen : l.length ≤ 1000) (hw : WfP l) :
    Calls Tryz.prog 63 #[lv, .int .i64 n] w (TkRes 139 w.heap.size w (takeL l n)) := by
  obtain ⟨r, hr⟩ : ∃ r, takeL l n = r := ⟨_, rfl⟩
  rw [hr]
  have HR := Lib.hid hr
  clear hr
  have BX := Lib.hid (Box.new w 3 #[.int .i64 n])
  have HL0 := Lib.hid ((Below.refl w.heap.size w).alloc (Nat.le_refl _) (.cells #[.int .i64 n] 3 (0, 0)))
  have kn := BX.out.cell 0 _ rfl
  have HPR := Lib.hid hl
  obtain ⟨a, cap, rfl, hs⟩ := hl.slP'
  have H := Lib.hid hs
  have HW := Lib.hid hw
  clear hs hw hl
  cases hm : mayL l
  · have HN := Lib.hid (show r = (0, [], false) by rw [← HR.out]; exact take_may hm)
    go_enter Tryz.func63, Tryz.ntmps63
    go_wp2_with fail
    refine (may_any a cap l _ (H.out.keep HL0.out) hlen HW.out).mono ?_
    rintro e w1 ⟨rfl, hb⟩
    rw [hm]
    have HB := Lib.hid (HL0.out.trans (hb.mono HL0.out.size))
    have B1 := Lib.hid (BX.out.keep hb BX.out.lt)
    have kn := B1.out.cell 0 _ rfl
    clear hb hm
    go_wp2
    go_ret3
    exact TkRes.no HN.out HB.out
  have HM := Lib.hid hm
  by_cases hn : n < 1
  · have HN := Lib.hid (show r = (0, [], false) by rw [← HR.out]; exact take_low hn)
    go_enter Tryz.func63, Tryz.ntmps63
    go_wp2_with fail
    refine (may_any a cap l _ (H.out.keep HL0.out) hlen HW.out).mono ?_
    rintro e w1 ⟨rfl, hb⟩
    rw [hm]
    have HB := Lib.hid (HL0.out.trans (hb.mono HL0.out.size))
    have B1 := Lib.hid (BX.out.keep hb BX.out.lt)
    have kn := B1.out.cell 0 _ rfl
    clear hb
    go_wp2
    go_ret3
    exact TkRes.no HN.out HB.out
  have hd : decide (n < 1) = false := decide_eq_false hn
  cases hf : l.findIdx? (longB n) with
  | none =>
    have HN := Lib.hid (show r = (0, [], false) by rw [← HR.out]; exact take_none hf)
    have HI := Lib.hid (show sidxP (longB n) l = -1 by unfold sidxP; rw [hf])
    clear hf
    go_enter Tryz.func63, Tryz.ntmps63
    go_wp2_with fail
    refine (may_any a cap l _ (H.out.keep HL0.out) hlen HW.out).mono ?_
    rintro e w1 ⟨rfl, hb⟩
    rw [hm]
    have HB := Lib.hid (HL0.out.trans (hb.mono HL0.out.size))
    have B1 := Lib.hid (BX.out.keep hb BX.out.lt)
    have kn := B1.out.cell 0 _ rfl
    clear hb
    go_wp2_with fail
    refine (index_take a cap l w.heap.size n _ (H.out.keep HB.out) hlen kn).mono ?_
    rintro e w2 ⟨rfl, hb⟩
    rw [HI.out]
    have HB2 := Lib.hid (HB.out.trans (hb.mono HB.out.size))
    have B2 := Lib.hid (B1.out.keep hb B1.out.lt)
    clear hb kn B1 HB
    go_wp2
    go_ret3
    exact TkRes.no HN.out HB2.out
  | some i =>
    have HI := Lib.hid (show sidxP (longB n) l = (i : Int) by unfold sidxP; rw [hf])
    have HT := Lib.hid (take_some HM.out (show 1 ≤ n by omega) hf)
    obtain ⟨hi, hp, _⟩ := (List.findIdx?_eq_some_iff_getElem).1 hf
    have HMR := (may_mem (m := 0) (by omega) HM.out l[i] (List.getElem_mem hi)).1
    have hge : l.getD i (0, 0) = l[i] := by simp [List.getD, List.getElem?_eq_getElem hi]
    have HX : Hid (r = (l[i].1, l.take i ++ (if l[i].2 = n then [] else [(l[i].1 + n, l[i].2 - n)]) ++ l.drop (i + 1), true)) := by
      show r = _
      rw [← HR.out, HT.out, hge]
    obtain ⟨b, off, rfl, hb, hc0, hc1⟩ := H.out.get i hi
    have HAT : Hid (∀ W, Below w.heap.size w W → W.cell? ⟨b, off + i * 2, none⟩ = some (.int .i64 l[i].1) ∧ W.cell? ⟨b, off + i * 2 + 1, none⟩ = some (.int .i64 l[i].2)) := fun W hW => ⟨(hW.cell (p := ⟨b, _, none⟩) hb).trans hc0, (hW.cell (p := ⟨b, _, none⟩) hb).trans hc1⟩
    unfold longB at hp
    simp only [decide_eq_true_eq] at hp
    clear hf hge HT HR hb hc0 hc1
    generalize l[i] = x at *
    obtain ⟨xa, xn⟩ := x
    unfold MayR at HMR
    simp only at HMR hp HX HAT
    obtain ⟨x0, x1, x2⟩ := HMR
    have hi0 : (0 : Int) ≤ (i : Int) := by omega
    have hil : (i : Int) < (l.length : Int) := by omega
    have g0 : IntKind.i64.wrap (xa + n) = xa + n := IntWalk.i64_in _ ⟨by omega, by omega⟩
    have g1 : IntKind.i64.wrap (xn - n) = xn - n := IntWalk.i64_in _ ⟨by omega, by omega⟩
    by_cases he : xn = n
    · have hq : (xn == n) = true := by simp [he]
      have HY : Hid (r = (xa, l.take i ++ l.drop (i + 1), true)) := by show r = _; rw [HX.out, if_pos he]; simp
      clear he
      go_enter Tryz.func63, Tryz.ntmps63
      go_wp2_with fail
      refine (may_any _ cap l _ (H.out.keep HL0.out) hlen HW.out).mono ?_
      rintro e w1 ⟨rfl, hb⟩
      rw [hm]
      have HB := Lib.hid (HL0.out.trans (hb.mono HL0.out.size))
      have B1 := Lib.hid (BX.out.keep hb BX.out.lt)
      have kn := B1.out.cell 0 _ rfl
      clear hb
      go_wp2_with fail
      refine (index_take _ cap l w.heap.size n _ (H.out.keep HB.out) hlen kn).mono ?_
      rintro e w2 ⟨rfl, hb⟩
      rw [HI.out]
      have HB2 := Lib.hid (HB.out.trans (hb.mono HB.out.size))
      have B2 := Lib.hid (B1.out.keep hb B1.out.lt)
      clear hb kn B1 HB
      obtain ⟨q0, q1⟩ := HAT.out _ HB2.out
      have kn := B2.out.cell 0 _ rfl
      have HP2 := Lib.hid (HPR.out.keep HB2.out)
      go_wp2_with fail
      go_quiet (fail)
      have HP3 : Hid (PrsS 139 (w2.drewN nq) b0 (.slice (some ⟨b, off, none⟩) l.length cap) l) := HP2.out
      have HB3 : Hid (Below w.heap.size w (w2.drewN nq)) := ⟨HB2.out.os, HB2.out.tape, HB2.out.output, HB2.out.size, HB2.out.block⟩
      clear q0 q1 kn HP2 g0 g1 hq
      go_wp2_with fail
      rw [show ((i : Int) + 1) = ((i + 1 : Nat) : Int) by omega]
      refine (swapped_none _ l i (i + 1) _ b0 HP3.out hlen (by omega) (by omega)).mono ?_
      rintro e w3 ⟨v3, rfl, hp3, hb3⟩
      have HP4 := Lib.hid (hp3.base HB3.out.size)
      have HB4 := Lib.hid (HB3.out.trans (hb3.mono HB3.out.size))
      clear hp3 hb3
      go_wp2
      go_ret3
      exact TkRes.mk HY.out HP4.out HB4.out
    · have hq : (xn == n) = false := by simp [he]
      have HY : Hid (r = (xa, l.take i ++ [(xa + n, xn - n)] ++ l.drop (i + 1), true)) := by show r = _; rw [HX.out, if_neg he]
      have g2 : IntKind.i64.wrap ((i : Int) + 1) = (i : Int) + 1 := IntWalk.i64_in _ ⟨by omega, by omega⟩
      clear he
      go_enter Tryz.func63, Tryz.ntmps63
      go_wp2_with fail
      refine (may_any _ cap l _ (H.out.keep HL0.out) hlen HW.out).mono ?_
      rintro e w1 ⟨rfl, hb⟩
      rw [hm]
      have HB := Lib.hid (HL0.out.trans (hb.mono HL0.out.size))
      have B1 := Lib.hid (BX.out.keep hb BX.out.lt)
      have kn := B1.out.cell 0 _ rfl
      clear hb
      go_wp2_with fail
      refine (index_take _ cap l w.heap.size n _ (H.out.keep HB.out) hlen kn).mono ?_
      rintro e w2 ⟨rfl, hb⟩
      rw [HI.out]
      have HB2 := Lib.hid (HB.out.trans (hb.mono HB.out.size))
      have B2 := Lib.hid (B1.out.keep hb B1.out.lt)
      clear hb kn B1 HB
      obtain ⟨q0, q1⟩ := HAT.out _ HB2.out
      have kn := B2.out.cell 0 _ rfl
      have HP2 := Lib.hid (HPR.out.keep HB2.out)
      go_wp2_with fail
      go_quiet (fail)
      have HP3 : Hid (PrsS 139 (w2.drewN nq) b0 (.slice (some ⟨b, off, none⟩) l.length cap) l) := HP2.out
      have HB3 : Hid (Below w.heap.size w (w2.drewN nq)) := ⟨HB2.out.os, HB2.out.tape, HB2.out.output, HB2.out.size, HB2.out.block⟩
      have kn3 : (w2.drewN nq).cell? ⟨w.heap.size, 0, none⟩ = some (.int .i64 n) := kn
      have HSZ : Hid (w.heap.size ≤ (w2.drewN nq).heap.size) := HB3.out.size
      generalize w2.drewN nq = W at *
      have HKN : Hid (∀ V, Below W.heap.size W V → V.cell? ⟨w.heap.size, 0, none⟩ = some (.int .i64 n)) := fun V hV => (hV.cell (lt_of_cell kn3)).trans kn3
      have HALL : Hid (∀ V, Below w.heap.size w V → Below W.heap.size W V → V.cell? ⟨b, off + i * 2 + 1, none⟩ = some (.int .i64 xn) ∧ V.cell? ⟨w.heap.size, 0, none⟩ = some (.int .i64 n)) := fun V h1 h2 => ⟨(HAT.out V h1).2, HKN.out V h2⟩
      have hd : Below W.heap.size W W.drew := (Below.refl _ _).drew
      have ha : Below W.heap.size W (W.alloc (.cells #[.int .i64 (xa + n), .int .i64 (xn - n)] 139 (0, 0))).drew := ((Below.refl _ _).alloc (Nat.le_refl _) _).drew
      have BZ : Hid (Box (W.alloc (.cells #[.int .i64 (xa + n), .int .i64 (xn - n)] 139 (0, 0))).drew W.heap.size 139 #[.int .i64 (xa + n), .int .i64 (xn - n)]) := Box.new W 139 #[.int .i64 (xa + n), .int .i64 (xn - n)]
      have HS := Lib.hid (HALL.out _ (HB3.out.trans (hd.mono HB3.out.size)) hd)
      have HB5 := Lib.hid (HB3.out.trans (ha.mono HB3.out.size))
      have HS2 := Lib.hid (HALL.out _ HB5.out ha)
      have HP5 := Lib.hid (HP3.out.keep ha)
      have HBW := Lib.hid ha
      clear q0 q1 kn kn3 HP2 hd ha hq HP3
      go_wp2_with fail
      go_region_held3 (fun w' => w'.cell? ⟨b, off + i * 2 + 1, none⟩ = some (.int .i64 xn) ∧ w'.cell? ⟨w.heap.size, 0, none⟩ = some (.int .i64 n)) (first | with_reducible exact HS.out | with_reducible exact HS2.out)
        ((go_at_call 101; rw [show ((i : Int) + 1) = ((i + 1 : Nat) : Int) by omega]; refine (swapped_one _ l i (i + 1) W.heap.size (xa + n, xn - n) _ b0 HP5.out hlen (by omega) (by omega) BZ.out).mono ?_; rintro e w3 ⟨v3, rfl, hp3, hb3⟩; have HP4 := Lib.hid (hp3.base HB5.out.size); have HB4 := Lib.hid (HB5.out.trans (hb3.mono HB5.out.size)); have HS2 := Lib.hid (HALL.out _ HB4.out (HBW.out.trans (hb3.mono HBW.out.size))); clear hp3 hb3))
      go_wp2
      go_ret3
      exact TkRes.mk HY.out HP4.out HB4.out
end Go.Proofs.YtphhnhldbajaoaaGreatDoor

namespace Go.Proofs.YtphhnhldbajaoaaGreatDoor
open Go.RowKit Go.ChangeShapes Go.WideShapes Go.ChangeAt

end Go.Proofs.YtphhnhldbajaoaaGreatDoor

namespace Go.Proofs.YtphhnhldbajaoaaGreatDoor
open Go.RowKit Go.ChangeShapes Go.WideShapes Go.ChangeAt

abbrev S5 (w : World) (b o : Nat) (xa xn ra rn : Int) (w' : World) : Prop := w'.cell? ⟨b, o, none⟩ = some (.int .i64 xa) ∧ w'.cell? ⟨b, o + 1, none⟩ = some (.int .i64 xn) ∧ w'.cell? ⟨w.heap.size, 0, none⟩ = some (.int .i64 ra) ∧ w'.cell? ⟨w.heap.size, 1, none⟩ = some (.int .i64 rn)
end Go.Proofs.YtphhnhldbajaoaaGreatDoor

namespace Go.Proofs.YtphhnhldbajaoaaGreatDoor
open Go.RowKit Go.ChangeShapes Go.WideShapes Go.ChangeAt

end Go.Proofs.YtphhnhldbajaoaaGreatDoor

namespace Go.Proofs.YtphhnhldbajaoaaGreatDoor
open Go.RowKit Go.ChangeShapes Go.WideShapes Go.ChangeAt

end Go.Proofs.YtphhnhldbajaoaaGreatDoor

namespace Go.Proofs.YtphhnhldbajaoaaGreatDoor
open Go.RowKit Go.ChangeShapes Go.WideShapes Go.ChangeAt

/-- Some run has p. -/
def Had (l : List (Int × Int)) (p : Int) : Prop := ∃ x ∈ l, x.1 ≤ p ∧ p < x.1 + x.2
theorem had_nil (p : Int) : ¬ Had [] p := fun ⟨_, h, _⟩ => by cases h
theorem had_cons (x : Int × Int) (l : List (Int × Int)) (p : Int) : Had (x :: l) p ↔ (x.1 ≤ p ∧ p < x.1 + x.2) ∨ Had l p := by
  unfold Had
  simp
theorem had_app (l m : List (Int × Int)) (p : Int) : Had (l ++ m) p ↔ Had l p ∨ Had m p := by
  unfold Had
  simp [or_and_right, exists_or]
theorem had_lo {l : List (Int × Int)} {m p : Int} (h0 : 0 ≤ m) (h : spmayF m l = true) (hp : Had l p) : m ≤ p := by
  obtain ⟨x, hx, h1, _⟩ := hp
  have := (may_mem h0 h x hx).2
  omega
/-- Runs that may be, and have the same places, are the same. -/
theorem may_uniq : ∀ {l m : List (Int × Int)} {a b : Int}, 0 ≤ a → 0 ≤ b → spmayF a l = true → spmayF b m = true → (∀ p, Had l p ↔ Had m p) → l = m := by
  intro l
  induction l with
  | nil =>
    intro m a b _ _ _ hm h
    cases m with
    | nil => rfl
    | cons y r =>
      rw [spmayF, Bool.and_eq_true, decide_eq_true_eq] at hm
      exact absurd ((h y.1).2 ((had_cons _ _ _).2 (.inl (by omega)))) (had_nil _)
  | cons x l ih =>
    intro m a b ha hb hl hm h
    cases m with
    | nil =>
      rw [spmayF, Bool.and_eq_true, decide_eq_true_eq] at hl
      exact absurd ((h x.1).1 ((had_cons _ _ _).2 (.inl (by omega)))) (had_nil _)
    | cons y r =>
      rw [spmayF, Bool.and_eq_true, decide_eq_true_eq] at hl hm
      obtain ⟨⟨l1, l2, l3⟩, l4⟩ := hl
      obtain ⟨⟨m1, m2, m3⟩, m4⟩ := hm
      have hx0 : 0 ≤ x.1 + x.2 + 1 := by omega
      have hy0 : 0 ≤ y.1 + y.2 + 1 := by omega
      have loL := fun p (hp : Had l p) => had_lo hx0 l4 hp
      have loR := fun p (hp : Had r p) => had_lo hy0 m4 hp
      have key := fun p => (show (x.1 ≤ p ∧ p < x.1 + x.2) ∨ Had l p ↔ (y.1 ≤ p ∧ p < y.1 + y.2) ∨ Had r p by rw [← had_cons, ← had_cons]; exact h p)
      have e1 : x.1 = y.1 := by
        have k1 := (key x.1).1 (.inl (by omega))
        have k2 := (key y.1).2 (.inl (by omega))
        rcases k1 with k1 | k1
        · rcases k2 with k2 | k2
          · omega
          · have := loL _ k2; omega
        · have := loR _ k1
          rcases k2 with k2 | k2
          · omega
          · have := loL _ k2; omega
      have e2 : x.1 + x.2 = y.1 + y.2 := by
        rcases Int.lt_trichotomy (x.1 + x.2) (y.1 + y.2) with h1 | h1 | h1
        · have k := (key (x.1 + x.2)).2 (.inl (by omega))
          rcases k with k | k
          · omega
          · have := loL _ k; omega
        · exact h1
        · have k := (key (y.1 + y.2)).1 (.inl (by omega))
          rcases k with k | k
          · omega
          · have := loR _ k; omega
      have hxy : x = y := Prod.ext e1 (by omega)
      subst hxy
      have htail : l = r := ih hx0 hy0 l4 m4 (fun p => by
        constructor
        · intro hp
          have := loL _ hp
          rcases (key p).1 (.inr hp) with k | k
          · omega
          · exact k
        · intro hp
          have := loR _ hp
          rcases (key p).2 (.inr hp) with k | k
          · omega
          · exact k)
      rw [htail]
/-- Where the last run ends, or m. -/
def lastEnd (m : Int) (l : List (Int × Int)) : Int := match l.getLast? with | some x => x.1 + x.2 + 1 | none => m
theorem may_app : ∀ {l r : List (Int × Int)} {m : Int}, spmayF m (l ++ r) = (spmayF m l && spmayF (lastEnd m l) r) := by
  intro l
  induction l with
  | nil => intro r m; simp [spmayF, lastEnd]
  | cons x l ih =>
    intro r m
    rw [List.cons_append, spmayF, spmayF, ih, Bool.and_assoc]
    congr 2
    unfold lastEnd
    cases l with
    | nil => rfl
    | cons y t => rw [List.getLast?_cons_cons]; rfl
theorem may_mono {l : List (Int × Int)} {m m' : Int} (h : spmayF m l = true) (hm : m' ≤ m) : spmayF m' l = true := by
  cases l with
  | nil => rfl
  | cons x r =>
    rw [spmayF, Bool.and_eq_true, decide_eq_true_eq] at h ⊢
    exact ⟨by omega, h.2⟩
end Go.Proofs.YtphhnhldbajaoaaGreatDoor

namespace Go.Proofs.YtphhnhldbajaoaaGreatDoor
open Go.RowKit Go.ChangeShapes Go.WideShapes Go.ChangeAt

end Go.Proofs.YtphhnhldbajaoaaGreatDoor

namespace Go.Proofs.YtphhnhldbajaoaaGreatDoor
open Go.RowKit Go.ChangeShapes Go.WideShapes Go.ChangeAt

end Go.Proofs.YtphhnhldbajaoaaGreatDoor

namespace Go.Proofs.YtphhnhldbajaoaaGreatDoor
open Go.RowKit Go.ChangeShapes Go.WideShapes Go.ChangeAt

theorem last_split {acc : List (Int × Int)} (h : 0 < acc.length) : acc = acc.take (acc.length - 1) ++ [lastR acc] := by
  conv => lhs; rw [← List.take_append_drop (acc.length - 1) acc]
  congr 1
  rw [List.drop_eq_getElem_cons (by omega), last_at h, show acc.length - 1 + 1 = acc.length by omega, List.drop_length]
theorem last_set {acc : List (Int × Int)} (h : 0 < acc.length) (y : Int × Int) : acc.set (acc.length - 1) y = acc.take (acc.length - 1) ++ [y] := by
  have e : acc.set (acc.length - 1) y = (acc.take (acc.length - 1) ++ [lastR acc]).set (acc.length - 1) y := by rw [← last_split h]
  rw [e, List.set_append_right _ _ (by rw [List.length_take]; omega)]
  congr 1
  rw [List.length_take, show acc.length - 1 - min (acc.length - 1) acc.length = 0 by omega]
  rfl
theorem last_q {acc : List (Int × Int)} (h : 0 < acc.length) : acc.getLast? = some (lastR acc) := by
  conv => lhs; rw [last_split h]
  simp
theorem of_spec (u : List Bool) : ∀ k, k ≤ 1000 → mayL (ofTo u k) = true ∧ ∀ p, Had (ofTo u k) p ↔ ∃ i : Nat, i < k ∧ p = (i : Int) ∧ u.getD i true = false
  | 0, _ => ⟨rfl, fun p => ⟨fun h => absurd h (had_nil _), fun ⟨i, h, _⟩ => by omega⟩⟩
  | k + 1, hk => by
    obtain ⟨h1, h2⟩ := of_spec u k (by omega)
    obtain ⟨hlow, hlen⟩ := ofTo_low u k
    have more : ∀ p : Int, (∃ i : Nat, i < k + 1 ∧ p = (i : Int) ∧ u.getD i true = false) ↔ (∃ i : Nat, i < k ∧ p = (i : Int) ∧ u.getD i true = false) ∨ (p = (k : Int) ∧ u.getD k true = false) := by
      intro p
      constructor
      · rintro ⟨i, hi, hp, hu⟩
        rcases Nat.lt_or_ge i k with h | h
        · exact .inl ⟨i, h, hp, hu⟩
        · obtain rfl : i = k := by omega
          exact .inr ⟨hp, hu⟩
      · rintro (⟨i, hi, hp, hu⟩ | ⟨hp, hu⟩)
        · exact ⟨i, by omega, hp, hu⟩
        · exact ⟨k, by omega, hp, hu⟩
    rw [ofTo]
    cases hb : u.getD k true
    · by_cases hj : 0 < (ofTo u k).length ∧ (lastR (ofTo u k)).1 + (lastR (ofTo u k)).2 = k
      · rw [ofStep_j hj.1 hj.2, last_set hj.1]
        have hsp := last_split hj.1
        have hm := hlow _ (last_mem hj.1)
        have hmay := h1
        unfold mayL at hmay ⊢
        rw [hsp, may_app, Bool.and_eq_true, spmayF, Bool.and_eq_true, decide_eq_true_eq] at hmay
        refine ⟨?_, fun p => ?_⟩
        · rw [may_app, hmay.1, Bool.true_and, spmayF, Bool.and_eq_true, decide_eq_true_eq]
          refine ⟨?_, rfl⟩
          have := hj.2
          simp only
          omega
        · rw [more, ← h2 p]
          conv => rhs; rw [hsp]
          simp only [had_app, had_cons, had_nil, or_false, hb, and_true]
          have := hj.2
          constructor
          · rintro (h | h)
            · exact .inl (.inl h)
            · rcases Int.lt_or_le p (k : Int) with hlt | hge
              · exact .inl (.inr (by omega))
              · exact .inr (by omega)
          · rintro ((h | h) | h)
            · exact .inl h
            · exact .inr (by omega)
            · exact .inr (by omega)
      · rw [ofStep_n hj]
        refine ⟨?_, fun p => ?_⟩
        · unfold mayL at h1 ⊢
          rw [may_app, h1, Bool.true_and, spmayF, Bool.and_eq_true, decide_eq_true_eq]
          refine ⟨⟨?_, by simp only; omega, by simp only; omega⟩, rfl⟩
          simp only
          rcases Nat.eq_zero_or_pos (ofTo u k).length with h0 | h0
          · rw [List.eq_nil_of_length_eq_zero h0]
            simp [lastEnd]
          · unfold lastEnd
            rw [last_q h0]
            have := hlow _ (last_mem h0)
            simp only
            have hne : ¬ ((lastR (ofTo u k)).1 + (lastR (ofTo u k)).2 = k) := fun h => hj ⟨h0, h⟩
            omega
        · rw [more, ← h2 p]
          simp only [had_app, had_cons, had_nil, or_false, hb, and_true]
          constructor
          · rintro (h | h)
            · exact .inl h
            · exact .inr (by omega)
          · rintro (h | h)
            · exact .inl h
            · exact .inr (by omega)
    · rw [ofStep_t]
      refine ⟨h1, fun p => ?_⟩
      rw [more, ← h2 p, hb]
      simp
end Go.Proofs.YtphhnhldbajaoaaGreatDoor

namespace Go.Proofs.YtphhnhldbajaoaaGreatDoor
open Go.RowKit Go.ChangeShapes Go.WideShapes Go.ChangeAt

theorem wf_may {l : List (Int × Int)} (h : mayL l = true) : WfP l := by
  intro x hx
  have := (may_mem (m := 0) (by omega) h x hx).1
  unfold MayR at this
  have key : ∀ n : Int, 0 ≤ n → n ≤ 1073741824 → (Lit.int .i64 n).wf = true := fun n h1 h2 => by
    have h3 : IntKind.i64.min ≤ n ∧ n ≤ IntKind.i64.max := by
      rw [show IntKind.i64.min = -9223372036854775808 from rfl, show IntKind.i64.max = 9223372036854775807 from rfl]
      omega
    simpa [Lit.wf] using h3
  exact ⟨key _ (by omega) (by omega), key _ (by omega) (by omega)⟩
end Go.Proofs.YtphhnhldbajaoaaGreatDoor

namespace Go.Proofs.YtphhnhldbajaoaaGreatDoor
open Go.RowKit Go.ChangeShapes Go.WideShapes Go.ChangeAt

/-- The first place that is free. -/
def fstF (u : List Bool) : Option Nat := u.findIdx? (fun b => !b)
/-- How many are free. -/
def cntF : List Bool → Nat
  | [] => 0
  | b :: r => (if b = true then 0 else 1) + cntF r
theorem cntF_app (a b : List Bool) : cntF (a ++ b) = cntF a + cntF b := by
  induction a with
  | nil => simp [cntF]
  | cons x r ih => simp only [List.cons_append, cntF, ih]; omega
theorem of_len (u : List Bool) : (ofL u).length ≤ u.length := (ofTo_low u u.length).2
theorem of_may {u : List Bool} (h : u.length ≤ 1000) : mayL (ofL u) = true := (of_spec u u.length h).1
theorem of_had {u : List Bool} (h : u.length ≤ 1000) (p : Int) : Had (ofL u) p ↔ ∃ i : Nat, i < u.length ∧ p = (i : Int) ∧ u.getD i true = false := (of_spec u u.length h).2 p
theorem of_wf {u : List Bool} (h : u.length ≤ 1000) : WfP (ofL u) := wf_may (of_may h)
theorem sumN_app (a b : List (Int × Int)) : sumN (a ++ b) = sumN a + sumN b := by
  induction a with
  | nil => simp [sumN]
  | cons x r ih => simp only [List.cons_append, sumN, ih]; omega
theorem sum_of (u : List Bool) : ∀ k, k ≤ u.length → sumN (ofTo u k) = (cntF (u.take k) : Nat)
  | 0, _ => rfl
  | k + 1, hk => by
    have ih := sum_of u k (by omega)
    have ht : u.take (k + 1) = u.take k ++ [u[k]'(by omega)] := List.take_succ_eq_append_getElem (by omega)
    have hg : u.getD k true = u[k]'(by omega) := by simp [List.getD, List.getElem?_eq_getElem (show k < u.length by omega)]
    rw [ht, cntF_app]
    show sumN (ofStep (ofTo u k) k (u.getD k true)) = _
    rw [hg]
    cases u[k]'(by omega)
    · unfold ofStep
      rw [if_neg (by simp)]
      split
      · next h =>
        rw [last_set h.1, sumN_app]
        have e := last_split h.1
        have e2 : sumN (ofTo u k) = sumN ((ofTo u k).take ((ofTo u k).length - 1)) + sumN [lastR (ofTo u k)] := by
          conv => lhs; rw [e]
          rw [sumN_app]
        simp only [sumN, cntF] at e2 ⊢
        simp
        omega
      · rw [sumN_app]
        simp only [sumN, cntF]
        simp
        omega
    · unfold ofStep
      rw [if_pos rfl]
      simp only [cntF]
      simp
      omega
theorem tot_of {u : List Bool} (h : u.length ≤ 1000) : totL (ofL u) = (cntF u : Nat) := by
  unfold totL
  rw [if_pos (of_may h)]
  have := sum_of u u.length (Nat.le_refl _)
  rw [List.take_length] at this
  exact this
theorem fst_some {u : List Bool} {i : Nat} (h : fstF u = some i) : i < u.length ∧ u.getD i true = false ∧ ∀ j, j < i → u.getD j true = true := by
  unfold fstF at h
  rw [List.findIdx?_eq_some_iff_getElem] at h
  obtain ⟨hi, h1, h2⟩ := h
  refine ⟨hi, ?_, fun j hj => ?_⟩
  · simp [List.getD, List.getElem?_eq_getElem hi] at h1 ⊢; exact h1
  · have := h2 j hj
    have hj2 : j < u.length := by omega
    simp [List.getD, List.getElem?_eq_getElem hj2] at this ⊢; exact this
theorem fst_none {u : List Bool} (h : fstF u = none) : ∀ j, u.getD j true = true := by
  intro j
  unfold fstF at h
  rw [List.findIdx?_eq_none_iff] at h
  by_cases hj : j < u.length
  · have := h u[j] (List.getElem_mem hj)
    simp [List.getD, List.getElem?_eq_getElem hj] at this ⊢; exact this
  · simp [List.getD, List.getElem?_eq_none (Nat.le_of_not_lt hj)]
theorem take_of {u : List Bool} (h : u.length ≤ 1000) : takeL (ofL u) 1 = match fstF u with | none => (0, [], false) | some i => ((i : Int), ofL (u.set i true), true) := by
  have hm := of_may h
  have hh := of_had h
  cases hl : ofL u with
  | nil =>
    rw [hl] at hh
    have : fstF u = none := by
      cases hf : fstF u with
      | none => rfl
      | some i =>
        obtain ⟨h1, h2, _⟩ := fst_some hf
        exact absurd ((hh i).2 ⟨i, h1, rfl, h2⟩) (had_nil _)
    rw [this]
    exact take_none rfl
  | cons x r =>
    rw [hl] at hh hm
    have hm0 := hm
    unfold mayL at hm
    rw [spmayF, Bool.and_eq_true, decide_eq_true_eq] at hm
    obtain ⟨⟨m1, m2, m3⟩, m4⟩ := hm
    have hlo := fun p (hp : Had r p) => had_lo (show (0 : Int) ≤ x.1 + x.2 + 1 by omega) m4 hp
    obtain ⟨i, hi, hxi, hui⟩ := (hh x.1).1 ((had_cons _ _ _).2 (.inl (by omega)))
    have hfst : fstF u = some i := by
      cases hf : fstF u with
      | none =>
        have := fst_none hf i
        rw [hui] at this; cases this
      | some j =>
        obtain ⟨h1, h2, h3⟩ := fst_some hf
        congr 1
        rcases Nat.lt_trichotomy i j with h4 | h4 | h4
        · have := h3 i h4
          rw [hui] at this; cases this
        · exact h4.symm
        · exfalso
          have := (hh j).2 ⟨j, h1, rfl, h2⟩
          rcases (had_cons _ _ _).1 this with h5 | h5
          · omega
          · have := hlo _ h5; omega
    rw [hfst]
    have hfi : (x :: r).findIdx? (longB 1) = some 0 := by
      rw [List.findIdx?_cons]
      have : longB 1 x = true := by unfold longB; exact decide_eq_true m2
      rw [this]; rfl
    rw [take_some hm0 (by omega) hfi]
    have e1 : (x :: r).getD 0 (0, 0) = x := rfl
    rw [e1]
    simp only [List.take_zero, List.nil_append, Nat.zero_add, List.drop_succ_cons, List.drop_zero]
    have hset : ∀ j, (u.set i true).getD j true = false ↔ j ≠ i ∧ u.getD j true = false := by
      intro j
      by_cases hji : j = i
      · subst hji
        simp [List.getD, List.getElem?_set_self hi]
      · simp [List.getD, List.getElem?_set_ne (Ne.symm hji), hji]
    have hlen : (u.set i true).length ≤ 1000 := by rw [List.length_set]; exact h
    have hres : (if x.2 = 1 then [] else [(x.1 + 1, x.2 - 1)]) ++ r = ofL (u.set i true) := by
      refine may_uniq (a := 0) (b := 0) (by omega) (by omega) ?_ (of_may hlen) fun p => ?_
      · split
        · exact may_mono m4 (by omega)
        · rw [List.singleton_append, spmayF, Bool.and_eq_true, decide_eq_true_eq]
          refine ⟨by simp only; omega, ?_⟩
          simp only
          rw [show x.1 + 1 + (x.2 - 1) + 1 = x.1 + x.2 + 1 by omega]
          exact m4
      · rw [of_had hlen, List.length_set]
        constructor
        · intro hp
          have h5 : Had (x :: r) p ∧ p ≠ x.1 := by
            split at hp
            · rw [List.nil_append] at hp
              exact ⟨(had_cons _ _ _).2 (.inr hp), by have := hlo _ hp; omega⟩
            · rw [List.singleton_append, had_cons] at hp
              rcases hp with hp | hp
              · exact ⟨(had_cons _ _ _).2 (.inl (by simp only at hp; omega)), by simp only at hp; omega⟩
              · exact ⟨(had_cons _ _ _).2 (.inr hp), by have := hlo _ hp; omega⟩
          obtain ⟨j, j1, j2, j3⟩ := (hh p).1 h5.1
          exact ⟨j, j1, j2, (hset j).2 ⟨fun e => h5.2 (by rw [j2, e, ← hxi]), j3⟩⟩
        · rintro ⟨j, j1, j2, j3⟩
          obtain ⟨k1, k2⟩ := (hset j).1 j3
          have h5 := (hh p).2 ⟨j, j1, j2, k2⟩
          have hne : p ≠ x.1 := by rw [j2, hxi]; omega
          rcases (had_cons _ _ _).1 h5 with h6 | h6
          · rw [had_app]
            left
            rw [if_neg (by omega)]
            exact ⟨(x.1 + 1, x.2 - 1), by simp, by simp only; omega, by simp only; omega⟩
          · rw [had_app]; exact .inr h6
    rw [hres, hxi]
end Go.Proofs.YtphhnhldbajaoaaGreatDoor
