/-
  Texts put together: Open, OpenTree, Tdi.
-/
import Derived.Test.YtbeldjijnjgbfaaMg0
import Derived.Test.YtbeldjijnjgbfaaTdh
import Derived.Test.YtbeldjijnjgbfaaMg13
namespace Go.Proofs.Ytbeldjijnjgbfaa
open Go.ChangeShapes Go.WideShapes Go.ChangeAt Go.RowKit

/-- A slice that came in, of elements of n cells each. -/
def SlE {α : Type} (w : World) (n : Nat) (E : List Value → α → Prop) (a : Option Addr) (l : List α) : Prop :=
  l ≠ [] → ∃ b off, a = some ⟨b, off, none⟩ ∧ b < w.heap.size ∧
    ∀ i x, l[i]? = some x → ∃ cs, cs.length = n ∧ E cs x ∧ ∀ j u, cs[j]? = some u → w.cell? ⟨b, off + i * n + j, none⟩ = some u

theorem SlE.nil {α : Type} {w : World} {n : Nat} {E : List Value → α → Prop} {a : Option Addr} : SlE w n E a ([] : List α) := fun h => absurd rfl h

section
variable {H : Type} {enc : TypeId × Value → H} {P : Program} {w : World}

theorem open_slE {α : Type} [Inhabited α] {t e : TypeId} {n : Nat} {spare : Nat → Bool} {held : Bool} {fuel : Nat} {cs : List Value} {x : DataW H × List MemPlace}
    (E : List Value → α → Prop) (ht : P.underlying t = some (.slice e)) (hn : P.cellsOf e = n) (h0 : 0 < n)
    (hE : ∀ fuel cs x, DataW.trod enc P w 0 spare held fuel e cs = some x → ∃ y, E cs y)
    (h : DataW.trod enc P w 0 spare held fuel t cs = some x) :
    ∃ a cap, ∃ l : List α, cs = [.slice a l.length cap] ∧ SlE w n E a l ∧ l.length ≤ maxLen := by
  rcases Go.Deep.open_slice ht h with ⟨rfl, _⟩ | ⟨a, len, cap, m, k, D, Pl, rfl, _, hl, hm, hmm, _, hx⟩
  · exact ⟨none, 0, [], rfl, SlE.nil, Nat.zero_le _⟩
  · have hlm : len ≤ m := by rw [hmm]; split <;> omega
    rw [hn] at hx
    have each : ∀ i, i < len → ∃ q : List Value × α, q.1.length = n ∧ E q.1 q.2 ∧ ∀ j u, q.1[j]? = some u → w.cell? (a.add (i * n + j)) = some u := by
      intro i hi
      obtain ⟨cs', h1, h2⟩ := hx i (by omega)
      obtain ⟨_, hlen, hcell⟩ := World.cells?_some h1
      obtain ⟨y, hy⟩ := hE _ _ _ h2
      refine ⟨(cs', y), hlen, hy, fun j u hj => ?_⟩
      have hjl : j < n := by
        rcases Nat.lt_or_ge j n with h | h
        · exact h
        · rw [List.getElem?_eq_none (by simp only; omega)] at hj; cases hj
      have := hcell j hjl
      rw [Go.Deep.add_add] at this
      rw [this]; exact hj
    haveI : Inhabited (List Value × α) := ⟨([], default)⟩
    obtain ⟨q, hq⟩ := Go.Deep.choose_lt each
    refine ⟨some a, cap, (List.range len).map fun i => (q i).2, by simp, fun hne => ?_, by simp; omega⟩
    have hpos : 0 < len := by
      rcases Nat.eq_zero_or_pos len with h | h
      · subst h; exact absurd rfl hne
      · exact h
    obtain ⟨b, off, spot⟩ := a
    have hc0 : ∃ u, w.cell? ((⟨b, off, spot⟩ : Addr).add (0 * n + 0)) = some u := by
      have h1 := (hq 0 hpos).1
      have h2 : 0 < (q 0).1.length := by omega
      exact ⟨_, (hq 0 hpos).2.2 0 _ (List.getElem?_eq_getElem h2)⟩
    obtain ⟨u, hu⟩ := hc0
    have hspot : spot = none := by simpa [Addr.add] using World.cell?_spot hu
    subst hspot
    refine ⟨b, off, rfl, ?_, fun i y hy => ?_⟩
    · rw [add_plain] at hu
      exact lt_of_cell hu
    · have hi : i < len := by
        rcases Nat.lt_or_ge i len with h | h
        · exact h
        · rw [List.getElem?_eq_none (by simp; omega)] at hy; cases hy
      rw [List.getElem?_map, List.getElem?_range hi] at hy
      simp only [Option.map_some, Option.some.injEq] at hy
      subst hy
      refine ⟨(q i).1, (hq i hi).1, (hq i hi).2.1, fun j u hj => ?_⟩
      rw [Nat.add_assoc, ← add_plain]
      exact (hq i hi).2.2 j u hj

/-- Two ints. -/
def PairI (cs : List Value) (x : Int × Int) : Prop := cs = [.int .i64 x.1, .int .i64 x.2] ∧ (Lit.int .i64 x.1).wf = true ∧ (Lit.int .i64 x.2).wf = true

theorem open_pairI {t t0 t1 : TypeId} {f0 f1 : Field} {spare : Nat → Bool} {held : Bool} {fuel : Nat} {cs : List Value} {x : DataW H × List MemPlace}
    (ht : P.underlying t = some (.struct #[f0, f1])) (hc : P.cellsOf t = 2) (o0 : f0.offset = 0) (o1 : f1.offset = 1) (e0 : f0.type = t0) (e1 : f1.type = t1)
    (c0 : P.cellsOf t0 = 1) (c1 : P.cellsOf t1 = 1) (u0 : P.underlying t0 = some (.int .i64)) (u1 : P.underlying t1 = some (.int .i64))
    (h : DataW.trod enc P w 0 spare held fuel t cs = some x) : ∃ y, PairI cs y := by
  obtain ⟨y0, y1, n, _, hl, h0, h1⟩ := trod_struct2 ht h
  rw [hc] at hl
  rw [o0, e0, c0] at h0
  rw [o1, e1, c1] at h1
  match cs, hl with
  | [v0, v1], _ =>
    obtain ⟨a, ha, _, wa⟩ := DataW.trod_int u0 h0
    obtain ⟨b, hb, _, wb⟩ := DataW.trod_int u1 h1
    simp at ha hb
    exact ⟨(a, b), by simp [ha, hb], wa, wb⟩
end
end Go.Proofs.Ytbeldjijnjgbfaa

namespace Go.Proofs.Ytbeldjijnjgbfaa
open Go.ChangeShapes Go.WideShapes Go.ChangeAt Go.RowKit

theorem cellsInt : Try.prog.cellsOf 3 = 1 := by kernel_rfl
theorem cellsStr : Try.prog.cellsOf 9 = 1 := by kernel_rfl
theorem cellsTOp : Try.prog.cellsOf 33 = 3 := by kernel_rfl
theorem cellsTOps : Try.prog.cellsOf 22 = 1 := by kernel_rfl

/-- A change, as data: what, the key, what goes with it. -/
abbrev OpT := Int × ByteArray × ByteArray
instance : Inhabited OpT := ⟨(0, ⟨#[]⟩, ⟨#[]⟩)⟩
def OpTK (cs : List Value) (x : OpT) : Prop := cs = [.int .i64 x.1, .string x.2.1, .string x.2.2] ∧ x.2.1.size ≤ maxLen ∧ x.2.2.size ≤ maxLen

section
variable {H : Type} {enc : TypeId × Value → H} {w : World}
set_option maxRecDepth 100000 in
theorem open_top1 {held : Bool} {fuel : Nat} {cs : List Value} {x : DataW H × List MemPlace} (h : DataW.trod enc Try.prog w 0 (fun _ => true) held fuel 33 cs = some x) : ∃ y, OpTK cs y := by
  obtain ⟨xs, n, _, _, hl, hlen, hfield⟩ := DataW.trod_struct Try.underlying33 h
  rw [cellsTOp] at hl
  have g0 : DataW.trod enc Try.prog w 0 _ _ n 3 ((cs.drop 0).take (Try.prog.cellsOf 3)) = xs[0]? := hfield 0 _ rfl
  have g1 : DataW.trod enc Try.prog w 0 _ _ n 9 ((cs.drop 1).take (Try.prog.cellsOf 9)) = xs[1]? := hfield 1 _ rfl
  have g2 : DataW.trod enc Try.prog w 0 _ _ n 9 ((cs.drop 2).take (Try.prog.cellsOf 9)) = xs[2]? := hfield 2 _ rfl
  rw [cellsInt] at g0
  rw [cellsStr] at g1 g2
  have hlen3 : xs.length = 3 := hlen
  match cs, hl, xs, hlen3 with
  | [v0, v1, v2], _, [x0, x1, x2], _ =>
    obtain ⟨b, e0, _, _⟩ := DataW.trod_int Try.underlying3 g0
    obtain ⟨t, e1, _, ht⟩ := DataW.trod_string Try.underlying9 g1
    obtain ⟨c, e2, _, hc⟩ := DataW.trod_string Try.underlying9 g2
    simp at e0 e1 e2
    exact ⟨(b, t, c), by rw [e0, e1, e2], ht, hc⟩

theorem open_trow {held : Bool} {fuel : Nat} {cs : List Value} {x : DataW H × List MemPlace} (h : DataW.trod enc Try.prog w 0 (fun _ => true) held fuel 22 cs = some x) : ∃ a cap, ∃ l : List OpT, cs = [.slice a l.length cap] ∧ SlE w 3 OpTK a l ∧ l.length ≤ maxLen :=
  open_slE (n := 3) OpTK Try.underlying22 cellsTOp (by decide) (fun _ _ _ h => open_top1 h) h
set_option maxRecDepth 100000 in
theorem open_tops {base : Nat} {v : Value} {d : DataW H} {ps : List MemPlace} (hw : Value.okWide Try.prog w .any base 22 v) (h : DataW.Trod enc Try.prog w 0 (fun _ => true) true 22 v d ps) :
    ∃ a cap, ∃ l : List OpT, v = .slice a l.length cap ∧ SlE w 3 OpTK a l ∧ l.length ≤ maxLen := by
  obtain ⟨a0, len, cap, rfl⟩ := okWide_slice Try.underlying22 hw
  obtain ⟨fuel, hf⟩ := h
  obtain ⟨a, cap', l, e, hs, hm⟩ := open_trow hf
  simp [Value.cells] at e
  obtain ⟨rfl, rfl, rfl⟩ := e
  exact ⟨_, _, l, rfl, hs, hm⟩
def topV (x : OpT) : Value := .agg #[.int .i64 x.1, .string x.2.1, .string x.2.2]
set_option maxRecDepth 100000 in
theorem open_top {base : Nat} {v : Value} {d : DataW H} {ps : List MemPlace} (hw : Value.okWide Try.prog w .any base 33 v) (h : DataW.Trod enc Try.prog w 0 (fun _ => true) true 33 v d ps) :
    ∃ x : OpT, v = topV x ∧ x.2.1.size ≤ maxLen ∧ x.2.2.size ≤ maxLen := by
  obtain ⟨cs, rfl, _⟩ := okWide_struct Try.underlying33 hw
  obtain ⟨fuel, hf⟩ := h
  obtain ⟨y, e, h1, h2⟩ := open_top1 hf
  refine ⟨y, ?_, h1, h2⟩
  obtain ⟨cl⟩ := cs
  have e : cl = [.int .i64 y.1, .string y.2.1, .string y.2.2] := e
  rw [e]
  rfl
end
/-- The cells of the i-th change, in any world behind. -/
theorem SlE.top {w w' : World} {a : Option Addr} {l : List OpT} (h : SlE w 3 OpTK a l) (hb : Below w.heap.size w w') (i : Nat) (hi : i < l.length) : ∃ b off, a = some ⟨b, off, none⟩ ∧ b < w.heap.size ∧
    w'.cell? ⟨b, off + i * 3, none⟩ = some (.int .i64 l[i].1) ∧ w'.cell? ⟨b, off + i * 3 + 1, none⟩ = some (.string l[i].2.1) ∧ w'.cell? ⟨b, off + i * 3 + 2, none⟩ = some (.string l[i].2.2) ∧
    l[i].2.1.size ≤ maxLen ∧ l[i].2.2.size ≤ maxLen := by
  obtain ⟨b, off, e, hl, hc⟩ := h (by intro h; rw [h] at hi; simp at hi)
  obtain ⟨cs, _, ⟨rfl, h1, h2⟩, hcell⟩ := hc i l[i] (List.getElem?_eq_getElem hi)
  exact ⟨b, off, e, hl, (hb.cell (p := ⟨b, off + i * 3, none⟩) hl).trans (hcell 0 _ rfl), (hb.cell (p := ⟨b, off + i * 3 + 1, none⟩) hl).trans (hcell 1 _ rfl), (hb.cell (p := ⟨b, off + i * 3 + 2, none⟩) hl).trans (hcell 2 _ rfl), h1, h2⟩
end Go.Proofs.Ytbeldjijnjgbfaa

namespace Go.Proofs.Ytbeldjijnjgbfaa
open Go Go.RowKit Go.ChangeShapes Go.WideShapes Go.ChangeAt

theorem eqPq (x1 x2 y1 y2 : ByteArray) (w : World) : (Op.equalIn 10000 68 (.agg #[.string x1, .string x2]) (.agg #[.string y1, .string y2])).run Try.prog w = .ok (decide (x1 = y1 ∧ x2 = y2)) w := by
  have u9 := Try.underlying9
  have a9 := Try.isAgg9
  have z9 := Try.sizeOf9
  have hS : Try.prog.underlying 68 = some (.struct (Try.prog.fieldsOf 68)) := by kernel_rfl
  have hp : Try.prog.stoodInHeld 68 = false := by kernel_rfl
  rw [show (10000 : Nat) = 9999 + 1 from rfl, run_equalIn_agg w 9999 68 _ _ hS hp]
  simp only [Program.fieldsOf, Try.underlying68]
  have e1 : (x1.toList == y1.toList) = decide (x1 = y1) := beq_key _ _
  have e2 : (x2.toList == y2.toList) = decide (x2 = y2) := beq_key _ _
  go_simp
  by_cases h1 : x1 = y1 <;> by_cases h2 : x2 = y2 <;> simp [h1, h2]
set_option maxRecDepth 100000 in
set_option maxHeartbeats 4000000 in
theorem rsame_any (Za Zb : Nat → Prop) (va vb : Value) (a b : List Ent) (w : World) (ha : PqZ Za w va a) (hb : PqZ Zb w vb b) :
    Calls Try.prog 15 #[va, vb] w fun e w' => e = .returned (.bool (decide (a = b))) ∧ Below w.heap.size w w' := by
  obtain ⟨x, cx, rfl⟩ := ha.form
  obtain ⟨y, cy, rfl⟩ := hb.form
  have HA := Lib.hid ha
  have HB := Lib.hid hb
  have hma : a.length ≤ maxLen := by obtain ⟨_, _, _, h1, h2⟩ := ha.row.form; omega
  unfold maxLen at hma
  clear ha hb
  by_cases hlen : a.length = b.length
  · have HLN := Lib.hid hlen
    have hq0 : ((a.length : Int) != (b.length : Int)) = false := by rw [hlen]; simp
    clear hlen
    go_enter Try.func15, Try.ntmps15
    go_wp2
    go_loopw [5] (fun i wr => ∃ k : Nat, k ≤ a.length ∧ i = .int .i64 k ∧ Hid (a.take k = b.take k) ∧ Hid (Below w.heap.size w wr)) (fun i _ => a.length - (RowKit.intOf i).toNat)
    case atStart => exact ⟨0, Nat.zero_le _, rfl, Lib.hid rfl, Below.refl _ _⟩
    case round =>
      obtain ⟨k, hk, rfl, HN, HL⟩ := hrel
      by_cases hlt : k < a.length
      · have hltb : k < b.length := by have := HLN.out; omega
        obtain ⟨g1, hga, hc0, hc1⟩ := (HA.out.keep HL.out).at k hlt
        obtain ⟨g2, hgb, hd0, hd1⟩ := (HB.out.keep HL.out).at k hltb
        have hga : x = some ⟨g1, 0, none⟩ := hga
        have hgb : y = some ⟨g2, 0, none⟩ := hgb
        subst hga hgb
        have T1 := Lib.hid (List.take_succ_eq_append_getElem hlt)
        have T2 := Lib.hid (List.take_succ_eq_append_getElem hltb)
        have h0 : (0 : Int) ≤ (k : Int) := by omega
        have h1 : (k : Int) < (a.length : Int) := by omega
        have h2 : (k : Int) < (b.length : Int) := by omega
        generalize a[k] = u at *
        generalize b[k] = v at *
        obtain ⟨u1, u2⟩ := u
        obtain ⟨v1, v2⟩ := v
        simp only at hc0 hc1 hd0 hd1
        by_cases huv : u1 = v1 ∧ u2 = v2
        · have hq : ∀ w, (Op.equalIn 10000 68 (.agg #[.string u1, .string u2]) (.agg #[.string v1, .string v2])).run Try.prog w = .ok true w := fun w => by rw [eqPq, decide_eq_true huv]
          have HE : Hid (a.take (k + 1) = b.take (k + 1)) := by show _ = _; rw [T1.out, T2.out, HN.out, huv.1, huv.2]
          clear huv T1 T2 HN
          go_wp2_with fail
          go_region
          clear hq hc0 hc1 hd0 hd1
          go_wp2
          go_roundw
          case rel => exact ⟨k + 1, by omega, by go_num, HE, HL.out.drew⟩
          case measure => simp [RowKit.intOf]; omega
        · have hq : ∀ w, (Op.equalIn 10000 68 (.agg #[.string u1, .string u2]) (.agg #[.string v1, .string v2])).run Try.prog w = .ok false w := fun w => by rw [eqPq, decide_eq_false huv]
          have HE : Hid (decide (a = b) = false) := by
            refine decide_eq_false fun h => huv ?_
            have h3 : a.take (k + 1) = b.take (k + 1) := by rw [h]
            rw [T1.out, T2.out, HN.out] at h3
            have h4 := List.append_cancel_left h3
            injection h4 with h4 _
            injection h4 with h4 h5
            exact ⟨h4, h5⟩
          clear huv T1 T2 HN
          go_wp2_with fail
          go_region
          clear hq hc0 hc1 hd0 hd1
          go_wp2
          go_ret
          exact ⟨ret_bool HE.out.symm, HL.out.drew⟩
      · have hkl : k = a.length := by omega
        subst hkl
        have HE : Hid (decide (a = b) = true) := by
          have := HN.out
          rw [List.take_length, HLN.out, List.take_length] at this
          exact decide_eq_true this
        go_wp2
        go_ret
        exact ⟨ret_bool HE.out.symm, HL.out⟩
  · have HE : Hid (decide (a = b) = false) := decide_eq_false fun h => hlen (by rw [h])
    have hq : ((a.length : Int) != (b.length : Int)) = true := by rw [bne_iff_ne]; omega
    rw [HE.out]
    clear HE hlen
    go_enter Try.func15, Try.ntmps15
    go_wp2
    go_ret
    exact ⟨rfl, Below.refl _ _⟩
theorem told_aux {C : (Ending → World → Prop) → Prop} {P : Ending → World → Prop} (h : ∀ PS : Ending → World → Prop, Hid (PS = P) → C PS) : C P := h P rfl
set_option maxRecDepth 100000 in
set_option maxHeartbeats 8000000 in
theorem told_any (Z : Nat → Prop) (v : Value) (l : List Ent) (w : World) (h : PrZ Z w v l) (hl : l.length ≤ 190000) :
    Calls Try.prog 16 #[v] w fun e w' => ∃ v', e = .returned v' ∧ PqZ (w.heap.size ≤ ·) w' v' l ∧ Below w.heap.size w w' := by
  obtain ⟨a, c, rfl⟩ := h.form
  have H := Lib.hid h
  have HL := Lib.hid hl
  clear h
  refine told_aux ?_
  intro PS HPS
  go_enter Try.func16, Try.ntmps16
  go_wp2_with fail
  go_loopw [3, 4] (fun lv i wr => ∃ (j : Nat) (acc : List Ent), j ≤ l.length ∧ Hid (acc.length = j) ∧ i = .int .i64 j ∧ Hid (acc = l.take j) ∧ Hid (Rw kPq wr w.heap.size lv acc) ∧ Hid (Below w.heap.size w wr)) (fun _ i _ => ((l.length : Int) - RowKit.intOf i).toNat)
  case atStart => exact ⟨0, [], Nat.zero_le _, rfl, rfl, rfl, Rw.nil _ _, Below.refl _ _⟩
  case round =>
    obtain ⟨j, acc, hj, HAL, rfl, HR, HP, HB⟩ := hrel
    obtain ⟨la, lc, rfl, _, _⟩ := HP.out.form
    by_cases hlt : j < l.length
    · obtain ⟨g, hga, c0, c1⟩ := (H.out.keep HB.out).at j hlt
      have hga : a = some ⟨g, 0, none⟩ := hga
      subst hga
      have h0j : (0 : Int) ≤ (j : Int) := by omega
      have h1j : (j : Int) < (l.length : Int) := by omega
      obtain ⟨k, hk⟩ : ∃ k, k = l[j].1 := ⟨_, rfl⟩
      obtain ⟨u, hu⟩ : ∃ u, u = l[j].2 := ⟨_, rfl⟩
      have hku : l[j] = (k, u) := by rw [hk, hu]
      have HCA : Hid (∀ W, Below w.heap.size w W → W.cell? ⟨g, j * 2, none⟩ = some (.string k) ∧ W.cell? ⟨g, j * 2 + 1, none⟩ = some (.string u)) := fun W hb => by
        obtain ⟨g2, hg2, d0, d1⟩ := (H.out.keep hb).at j hlt
        injection hg2 with hg2
        injection hg2 with hg2 _ _
        subst hg2
        rw [hk, hu]
        exact ⟨d0, d1⟩
      rw [← hk] at c0
      rw [← hu] at c1
      have HRN : Hid (acc ++ [(k, u)] = l.take (j + 1)) := by show _ = _; rw [List.take_succ_eq_append_getElem hlt, hku, HR.out]
      have hl1 : acc.length + 1 ≤ 200000 := by have := HL.out; have := HAL.out; omega
      have HAL2 : Hid ((acc ++ [(k, u)]).length = j + 1) := by show _ = _; rw [List.length_append, List.length_singleton, HAL.out]
      clear HAL
      clear hk hu hku HR
      go_wp2_with fail
      have d0 : wr.drew.cell? ⟨g, j * 2, none⟩ = some (.string k) := c0
      have d1 : wr.drew.cell? ⟨g, j * 2 + 1, none⟩ = some (.string u) := c1
      refine wp_region_tree (fun W => W.cell? ⟨g, j * 2, none⟩ = some (.string k) ∧ W.cell? ⟨g, j * 2 + 1, none⟩ = some (.string u)) 13 (.quiet 0 (.quiet 1 (.quiet 2 (.quiet 3 (.quiet 4 (.quiet 5 (.quiet 6 (.quiet 7 (.quiet 8 (.quiet 9 (.quiet 10 (.quiet 11 (.make 12 .nil))))))))))))) (by kernel_rfl) (by kernel_rfl) ⟨d0, d1⟩ ?_
      simp only [List.drop_succ_cons, List.drop_zero]
      iterate 12 (apply wpTr_step rfl; (intro W hS K hK; obtain ⟨q0, q1⟩ := hS; go_simp; exact hK _ rfl))
      refine wpTr_make rfl (fun K' hK => ?_)
      go_simp
      obtain ⟨W4a, hW4a⟩ : ∃ W, W = wr.drew.alloc (.cells #[.string k, .string u] 68 (0, 0)) := ⟨_, rfl⟩
      have BX4 : Hid (Box W4a wr.heap.size 68 #[.string k, .string u]) := by show Box _ _ _ _; rw [hW4a]; exact Box.new wr.drew _ _
      have hb4 : Below wr.heap.size wr W4a := by rw [hW4a]; exact ((Below.refl _ _).drew).alloc (Nat.le_refl _) _
      have hW4b : (wr.alloc (.cells #[.string k, .string u] 68 (0, 0))).drew = W4a := hW4a.symm
      have HW4 := Lib.hid hW4b
      have HP4a := Lib.hid (HP.out.keep hb4)
      have HB4a := Lib.hid (HB.out.trans (hb4.mono HB.out.size))
      refine hK _ _ _ (fun _ h => h) (by rw [hW4b]; exact ⟨HCA.out W4a HB4a.out |>.1, HCA.out W4a HB4a.out |>.2⟩) ?_
      clear hK K'
      refine wpTr_nil ?_
      clear hW4a hb4 hW4b
      go_wp2_with (at_builtin; go_loud (refine wp_rw_push kPq_ok Try.underlying29 _ rfl _ _ rfl w.heap.size _ acc rfl (by rw [HW4.out]; exact HP4a.out) wr.heap.size 1 (k, u) rfl ?c1 (by omega) (by rw [HW4.out]; exact HB4a.out.size) ?_))
      case c1 =>
        intro j2 uu hj2
        try rw [HW4.out]
        first | exact hj2 | exact BX4.out.cell j2 uu (by rw [← hj2]; show #[Value.string k, Value.string u][j2]? = [Value.string k, Value.string u][j2]?; simp)
      intro v4 W4 hk4 hg4 ho4
      rw [HW4.out] at hg4
      have hlb4 := HP4a.out.own_block
      have hc4 := Chg.grown hg4 (fun k (hk : _ = some k) => (by simpa using hk : k ∈ (Value.ownBlock _).toList))
      have HB4 := Lib.hid (HB4a.out.trans (hc4.below HB4a.out.size (fun k hk => hlb4 k (by simpa using hk))))
      have HP4 := Lib.hid hk4
      obtain ⟨la4, lc4, rfl, _, _⟩ := HP4.out.form
      clear hk4 hg4 ho4 hlb4 hc4 BX4 HW4 HP4a HB4a
      clear HP HB c0 c1 d0 d1
      go_wp2
      go_roundw
      case rel => exact ⟨j + 1, _, by omega, HAL2, by go_num, HRN, HP4, HB4⟩
      case measure => simp [RowKit.intOf]; omega
    · have hjl : j = l.length := by omega
      have HRE : Hid (acc = l) := by show _ = _; rw [HR.out, List.take_of_length_le (by omega)]
      subst hjl
      go_wp2
      rw [HPS.out, ← HRE.out]
      exact ⟨_, rfl, ⟨HP.out.low (Nat.zero_le _), HP.out.own_block⟩, HB.out⟩
end Go.Proofs.Ytbeldjijnjgbfaa
