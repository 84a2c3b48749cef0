/-
  Texts put together: Open, OpenPtr, BlkNilWalk, Door.
-/
import Derived.Test.YtonkmffipjdhkaaDoorMg0
import Derived.Test.YtonkmffipjdhkaaDoorMg9
import Derived.Test.YtonkmffipjdhkaaDoorBlkLive
import Derived.Test.YtonkmffipjdhkaaDoorRows
import Derived.Test.YtonkmffipjdhkaaDoorMix
import Derived.Lib.LaidTab
import Derived.LaidMore
import Derived.Stop.Joined
namespace Go.Proofs.YtonkmffipjdhkaaDoor
open Go.ChangeShapes Go.WideShapes Go.ChangeAt Go.RowKit

/-- A slice that came in, of elements of n cells each. -/
def SlE {α : Type} (w : World) (n : Nat) (E : List Value → α → Prop) (a : Option Addr) (l : List α) : Prop :=
  l ≠ [] → ∃ b off, a = some ⟨b, off, none⟩ ∧ b < w.heap.size ∧
    ∀ i x, l[i]? = some x → ∃ cs, cs.length = n ∧ E cs x ∧ ∀ j u, cs[j]? = some u → w.cell? ⟨b, off + i * n + j, none⟩ = some u

theorem SlE.nil {α : Type} {w : World} {n : Nat} {E : List Value → α → Prop} {a : Option Addr} : SlE w n E a ([] : List α) := fun h => absurd rfl h

section
variable {H : Type} {enc : TypeId × Value → H} {P : Program} {w : World}

theorem open_slE {α : Type} [Inhabited α] {t e : TypeId} {n : Nat} {spare : Nat → Bool} {held : Bool} {fuel : Nat} {cs : List Value} {x : DataW H × List MemPlace}
    (E : List Value → α → Prop) (ht : P.underlying t = some (.slice e)) (hn : P.cellsOf e = n) (h0 : 0 < n)
    (hE : ∀ fuel cs x, DataW.trod enc P w 0 spare held fuel e cs = some x → ∃ y, E cs y)
    (h : DataW.trod enc P w 0 spare held fuel t cs = some x) :
    ∃ a cap, ∃ l : List α, cs = [.slice a l.length cap] ∧ SlE w n E a l ∧ l.length ≤ maxLen := by
  rcases Go.Deep.open_slice ht h with ⟨rfl, _⟩ | ⟨a, len, cap, m, k, D, Pl, rfl, _, hl, hm, hmm, _, hx⟩
  · exact ⟨none, 0, [], rfl, SlE.nil, Nat.zero_le _⟩
  · have hlm : len ≤ m := by rw [hmm]; split <;> omega
    rw [hn] at hx
    have each : ∀ i, i < len → ∃ q : List Value × α, q.1.length = n ∧ E q.1 q.2 ∧ ∀ j u, q.1[j]? = some u → w.cell? (a.add (i * n + j)) = some u := by
      intro i hi
      obtain ⟨cs', h1, h2⟩ := hx i (by omega)
      obtain ⟨_, hlen, hcell⟩ := World.cells?_some h1
      obtain ⟨y, hy⟩ := hE _ _ _ h2
      refine ⟨(cs', y), hlen, hy, fun j u hj => ?_⟩
      have hjl : j < n := by
        rcases Nat.lt_or_ge j n with h | h
        · exact h
        · rw [List.getElem?_eq_none (by simp only; omega)] at hj; cases hj
      have := hcell j hjl
      rw [Go.Deep.add_add] at this
      rw [this]; exact hj
    haveI : Inhabited (List Value × α) := ⟨([], default)⟩
    obtain ⟨q, hq⟩ := Go.Deep.choose_lt each
    refine ⟨some a, cap, (List.range len).map fun i => (q i).2, by simp, fun hne => ?_, by simp; omega⟩
    have hpos : 0 < len := by
      rcases Nat.eq_zero_or_pos len with h | h
      · subst h; exact absurd rfl hne
      · exact h
    obtain ⟨b, off, spot⟩ := a
    have hc0 : ∃ u, w.cell? ((⟨b, off, spot⟩ : Addr).add (0 * n + 0)) = some u := by
      have h1 := (hq 0 hpos).1
      have h2 : 0 < (q 0).1.length := by omega
      exact ⟨_, (hq 0 hpos).2.2 0 _ (List.getElem?_eq_getElem h2)⟩
    obtain ⟨u, hu⟩ := hc0
    have hspot : spot = none := by simpa [Addr.add] using World.cell?_spot hu
    subst hspot
    refine ⟨b, off, rfl, ?_, fun i y hy => ?_⟩
    · rw [add_plain] at hu
      exact lt_of_cell hu
    · have hi : i < len := by
        rcases Nat.lt_or_ge i len with h | h
        · exact h
        · rw [List.getElem?_eq_none (by simp; omega)] at hy; cases hy
      rw [List.getElem?_map, List.getElem?_range hi] at hy
      simp only [Option.map_some, Option.some.injEq] at hy
      subst hy
      refine ⟨(q i).1, (hq i hi).1, (hq i hi).2.1, fun j u hj => ?_⟩
      rw [Nat.add_assoc, ← add_plain]
      exact (hq i hi).2.2 j u hj

/-- Two ints. -/
def PairI (cs : List Value) (x : Int × Int) : Prop := cs = [.int .i64 x.1, .int .i64 x.2] ∧ (Lit.int .i64 x.1).wf = true ∧ (Lit.int .i64 x.2).wf = true

theorem open_pairI {t t0 t1 : TypeId} {f0 f1 : Field} {spare : Nat → Bool} {held : Bool} {fuel : Nat} {cs : List Value} {x : DataW H × List MemPlace}
    (ht : P.underlying t = some (.struct #[f0, f1])) (hc : P.cellsOf t = 2) (o0 : f0.offset = 0) (o1 : f1.offset = 1) (e0 : f0.type = t0) (e1 : f1.type = t1)
    (c0 : P.cellsOf t0 = 1) (c1 : P.cellsOf t1 = 1) (u0 : P.underlying t0 = some (.int .i64)) (u1 : P.underlying t1 = some (.int .i64))
    (h : DataW.trod enc P w 0 spare held fuel t cs = some x) : ∃ y, PairI cs y := by
  obtain ⟨y0, y1, n, _, hl, h0, h1⟩ := trod_struct2 ht h
  rw [hc] at hl
  rw [o0, e0, c0] at h0
  rw [o1, e1, c1] at h1
  match cs, hl with
  | [v0, v1], _ =>
    obtain ⟨a, ha, _, wa⟩ := DataW.trod_int u0 h0
    obtain ⟨b, hb, _, wb⟩ := DataW.trod_int u1 h1
    simp at ha hb
    exact ⟨(a, b), by simp [ha, hb], wa, wb⟩
end
end Go.Proofs.YtonkmffipjdhkaaDoor

namespace Go.Proofs.YtonkmffipjdhkaaDoor
open Go.ChangeShapes Go.WideShapes Go.ChangeAt Go.RowKit

theorem cellsLoc : Tryd.prog.cellsOf 33 = 2 := by kernel_rfl
theorem cellsInt : Tryd.prog.cellsOf 3 = 1 := by kernel_rfl
theorem cellsStr : Tryd.prog.cellsOf 9 = 1 := by kernel_rfl
theorem cellsLocs : Tryd.prog.cellsOf 23 = 1 := by kernel_rfl
theorem cellsPtr : Tryd.prog.cellsOf 25 = 4 := by kernel_rfl

section
variable {H : Type} {enc : TypeId × Value → H} {w : World}

set_option maxRecDepth 100000 in
theorem open_loc {spare : Nat → Bool} {held : Bool} {fuel : Nat} {cs : List Value} {x : DataW H × List MemPlace} (h : DataW.trod enc Tryd.prog w 0 spare held fuel 33 cs = some x) : ∃ y, PairI cs y :=
  open_pairI Tryd.underlying33 cellsLoc rfl rfl rfl rfl cellsInt cellsInt Tryd.underlying3 Tryd.underlying3 h

theorem slP_of {a : Option Addr} {l : List (Int × Int)} (h : SlE w 2 PairI a l) : SlP w a l := by
  intro hne
  obtain ⟨b, off, e, hl, hc⟩ := h hne
  refine ⟨b, off, e, hl, fun i x hx => ?_⟩
  obtain ⟨cs, _, ⟨rfl, _, _⟩, hcell⟩ := hc i x hx
  exact ⟨by simpa using hcell 0 _ rfl, hcell 1 _ rfl⟩

set_option maxRecDepth 100000 in
theorem open_locs {spare : Nat → Bool} {held : Bool} {fuel : Nat} {cs : List Value} {x : DataW H × List MemPlace} (h : DataW.trod enc Tryd.prog w 0 spare held fuel 23 cs = some x) :
    ∃ a cap, ∃ l : List (Int × Int), cs = [.slice a l.length cap] ∧ SlP w a l ∧ l.length ≤ maxLen := by
  obtain ⟨a, cap, l, h1, h2, h3⟩ := open_slE (n := 2) PairI Tryd.underlying23 cellsLoc (by decide) (fun _ _ _ h => open_loc h) h
  exact ⟨a, cap, l, h1, slP_of h2, h3⟩

set_option maxRecDepth 100000 in
theorem open_ptr {base : Nat} {v : Value} {d : DataW H} {ps : List MemPlace} (hw : Value.okWide Tryd.prog w .any base 25 v) (h : DataW.Trod enc Tryd.prog w 0 (fun _ => true) true 25 v d ps) :
    ∃ a cap p, v = ptrV a cap p ∧ SlP w a p.locs ∧ p.locs.length ≤ maxLen ∧ p.sum.size ≤ maxLen := by
  obtain ⟨cs, rfl, _⟩ := okWide_struct Tryd.underlying25 hw
  obtain ⟨fuel, hf⟩ := h
  obtain ⟨xs, n, _, _, hl, hlen, hfield⟩ := DataW.trod_struct Tryd.underlying25 hf
  rw [cellsPtr] at hl
  have g0 : DataW.trod enc Tryd.prog w 0 _ _ n 23 (((Value.agg cs).cells.toList.drop 0).take (Tryd.prog.cellsOf 23)) = xs[0]? := hfield 0 _ rfl
  have g1 : DataW.trod enc Tryd.prog w 0 _ _ n 3 (((Value.agg cs).cells.toList.drop 1).take (Tryd.prog.cellsOf 3)) = xs[1]? := hfield 1 _ rfl
  have g2 : DataW.trod enc Tryd.prog w 0 _ _ n 3 (((Value.agg cs).cells.toList.drop 2).take (Tryd.prog.cellsOf 3)) = xs[2]? := hfield 2 _ rfl
  have g3 : DataW.trod enc Tryd.prog w 0 _ _ n 9 (((Value.agg cs).cells.toList.drop 3).take (Tryd.prog.cellsOf 9)) = xs[3]? := hfield 3 _ rfl
  rw [cellsLocs] at g0
  rw [cellsInt] at g1 g2
  rw [cellsStr] at g3
  obtain ⟨cl⟩ := cs
  have hlen4 : xs.length = 4 := hlen
  match cl, hl, xs, hlen4 with
  | [v0, v1, v2, v3], _, [x0, x1, x2, x3], _ =>
    obtain ⟨a, cap, l, e0, hs, hm⟩ := open_locs g0
    obtain ⟨b, e1, _, _⟩ := DataW.trod_int Tryd.underlying3 g1
    obtain ⟨c, e2, _, _⟩ := DataW.trod_int Tryd.underlying3 g2
    obtain ⟨t, e3, _, ht⟩ := DataW.trod_string Tryd.underlying9 g3
    simp [Value.cells] at e0 e1 e2 e3
    exact ⟨a, cap, ⟨l, b, c, t⟩, by rw [e0, e1, e2, e3]; rfl, hs, hm, ht⟩
end
end Go.Proofs.YtonkmffipjdhkaaDoor

namespace Go.Proofs.YtonkmffipjdhkaaDoor.blkNil
open Go.RowKit

theorem toldN_small : ∀ k, (toldN.T k).size ≤ 140737488355328 := fun _ => Nat.zero_le _
theorem nil_read (p : PtrD) : (readR toldN p).1 = ⟨#[]⟩ ∧ (readR toldN p).2.1 = 0 ∧ (readR toldN p).2.2 ≠ 0 := by
  by_cases h : badP p
  · rw [readR_bad h]; exact ⟨rfl, rfl, by decide⟩
  · rw [readR_no h (firstG_no (fun j _ => rfl))]; exact ⟨rfl, rfl, by decide⟩
theorem nil_rd1 (x0 : Option Addr) (c0 : Nat) (p : PtrD) (w : World) (h1 : p.locs.length ≤ 1000) (h2 : SlP w x0 p.locs) (h3 : Kt w) : Calls Tryd.prog 14 #[.pointer none, ptrV x0 c0 p] w fun e w' => e = .returned (.tuple #[.string ⟨#[]⟩, .int .i64 0, .int .i64 (readR toldN p).2.2]) ∧ Below w.heap.size w w' := by
  have hrd := bread_any none x0 c0 p toldN w h1 h2 h3 toldN_small (nil_rd _ _)
  obtain ⟨e1, e2, _⟩ := nil_read p
  rw [e1, e2] at hrd
  exact hrd
theorem nil_md1 (x0 : Option Addr) (c0 : Nat) (p : PtrD) (w : World) (h1 : p.locs.length ≤ 1000) (h2 : SlP w x0 p.locs) (h3 : Kt w) : Calls Tryd.prog 15 #[.pointer none, ptrV x0 c0 p] w fun e w' => e = .returned (.tuple #[.int .i64 0, .int .i64 (readR toldN p).2.2]) ∧ Below w.heap.size w w' :=
  bmend_no none x0 c0 p toldN w h1 h2 h3 toldN_small (nil_rd _ _) (nil_read p).2.2

set_option maxRecDepth 100000 in
set_option maxHeartbeats 2000000 in
theorem walk (w : World) (hK : Kt w) (x0 : Option Addr) (c0 : Nat) (y0 : PtrD) (s0 : SlP w x0 y0.locs) (m0 : y0.locs.length ≤ maxLen) (z0 : y0.sum.size ≤ maxLen) (a1 : ByteArray) (w1 : a1.size ≤ 140737488351232) :
    Calls Tryd.prog 7 #[ptrV x0 c0 y0, .string a1] w fun e w' => e = .returned (.bool true) ∧ Below w.heap.size w w' := by
  have HK := Lib.hid hK
  have HB := Lib.hid hK.pos
  obtain ⟨ll, ln, bi, su⟩ := y0
  have hx := (Below.refl w.heap.size w).alloc (Nat.le_refl _) (.cells #[.slice x0 ll.length c0, .int .i64 ln, .int .i64 bi, .string su] 25)
  have BX := Lib.hid (Box.new w 25 #[.slice x0 ll.length c0, .int .i64 ln, .int .i64 bi, .string su])
  have HX := Lib.hid hx
  have HS := Lib.hid (s0.keep hx)
  simp only at m0 z0
  unfold ptrV
  simp only
  have k0 := BX.out.cell 0 _ rfl
  have k1 := BX.out.cell 1 _ rfl
  have k2 := BX.out.cell 2 _ rfl
  have k3 := BX.out.cell 3 _ rfl
  clear hK hx s0
  by_cases hA : 6 < ll.length
  · have d0 : decide ((6 : Int) < (ll.length : Int)) = true := decide_eq_true (by omega)
    go_enter Tryd.func7, Tryd.ntmps7
    go_wp2_with fail
    generalize World.alloc w _ = wx at *
    refine (live_any _ (HK.out.below HX.out HB.out)).mono ?_
    rintro e wl ⟨rfl, hb⟩
    have HL := Lib.hid (HX.out.trans (hb.mono HX.out.size))
    clear hb k0 k1 k2 k3
    go_wp2
    go_ret
    exact ⟨rfl, HL.out⟩
  have d0 : decide ((6 : Int) < (ll.length : Int)) = false := decide_eq_false (by omega)
  by_cases hB : 100 < su.size
  · have d1 : decide ((100 : Int) < (su.size : Int)) = true := decide_eq_true (by omega)
    go_enter Tryd.func7, Tryd.ntmps7
    go_wp2_with fail
    generalize World.alloc w _ = wx at *
    refine (live_any _ (HK.out.below HX.out HB.out)).mono ?_
    rintro e wl ⟨rfl, hb⟩
    have HL := Lib.hid (HX.out.trans (hb.mono HX.out.size))
    clear hb k0 k1 k2 k3
    go_wp2
    go_ret
    exact ⟨rfl, HL.out⟩
  have d1 : decide ((100 : Int) < (su.size : Int)) = false := decide_eq_false (by omega)
  by_cases hC : 960 < a1.size
  · have d2 : decide ((960 : Int) < (a1.size : Int)) = true := decide_eq_true (by omega)
    go_enter Tryd.func7, Tryd.ntmps7
    go_wp2_with fail
    generalize World.alloc w _ = wx at *
    refine (live_any _ (HK.out.below HX.out HB.out)).mono ?_
    rintro e wl ⟨rfl, hb⟩
    have HL := Lib.hid (HX.out.trans (hb.mono HX.out.size))
    clear hb k0 k1 k2 k3
    go_wp2
    go_ret
    exact ⟨rfl, HL.out⟩
  have d2 : decide ((960 : Int) < (a1.size : Int)) = false := decide_eq_false (by omega)
  have hy := fun o : Obj => (Below.refl (w.alloc (.cells #[.slice x0 ll.length c0, .int .i64 ln, .int .i64 bi, .string su] 25)).heap.size (w.alloc (.cells #[.slice x0 ll.length c0, .int .i64 ln, .int .i64 bi, .string su] 25))).alloc (Nat.le_refl _) o
  have HLL : Hid (ll.length ≤ 1000 ∧ a1.size ≤ 960) := ⟨by omega, by omega⟩
  have HSZ := Lib.hid (size_alloc w (.cells #[.slice x0 ll.length c0, .int .i64 ln, .int .i64 bi, .string su] 25))
  have HNR := Lib.hid (nil_read ⟨ll, ln, bi, su⟩).2.2
  clear hA hB hC m0 z0
  go_enter Tryd.func7, Tryd.ntmps7
  go_wp2_with fail
  generalize World.alloc w _ = wx at *
  have BY := Lib.hid (Box.new wx 33 #[.int .i64 0, .int .i64 1])
  have HY := Lib.hid (hy (.cells #[.int .i64 0, .int .i64 1] 33))
  clear hy k0 k1 k2 k3
  have S1 : Hid (SlP (wx.alloc (.cells #[.int .i64 0, .int .i64 1] 33)) (some ⟨wx.heap.size, 0, none⟩) [(0, 1)]) := fun _ => ⟨wx.heap.size, 0, rfl, BY.out.lt, fun i x hi => by
    match i, hi with
    | 0, hi => simp at hi; subst hi; exact ⟨BY.out.cell 0 _ rfl, BY.out.cell 1 _ rfl⟩⟩
  have HX2 := Lib.hid (HX.out.trans (HY.out.mono HX.out.size))
  have BX2 := Lib.hid (BX.out.keep HY.out BX.out.lt)
  have HS2 := Lib.hid (HS.out.keep HY.out)
  clear HX BX HS BY HY
  generalize World.alloc wx _ = w2 at *
  rw [HSZ.out] at S1
  obtain ⟨g2, hg2⟩ : ∃ g2, g2 = w.heap.size + 1 := ⟨_, rfl⟩
  rw [← hg2] at S1 ⊢
  clear hg2
  have hwr : Calls Tryd.prog 10 #[.pointer none, .slice (some ⟨g2, 0, none⟩) 1 1, .string a1, .int .i64 0] w2 fun e w' => e = .returned (.tuple #[nilPV, .int .i64 1]) ∧ Below w2.heap.size w2 w' := by
    by_cases hb : badP (wrP [(0, 1)] a1 0)
    · exact bwrite_bad none (some ⟨g2, 0, none⟩) 1 [(0, 1)] a1 0 w2 (by decide) S1.out (by have := HLL.out; omega) (HK.out.below HX2.out HB.out) hb
    · exact bwrite_far none (fun _ => 0) (some ⟨g2, 0, none⟩) 1 [(0, 1)] a1 0 w2 (by decide) S1.out (by have := HLL.out; omega) (HK.out.below HX2.out HB.out) (nil_szf w2) hb (by decide)
  refine hwr.mono ?_
  rintro e w3 ⟨rfl, hb⟩
  rw [show nilPV = .agg #[.slice none 0 0, .int .i64 0, .int .i64 0, .string ⟨#[]⟩] from rfl]
  have hz := (Below.refl w3.heap.size w3).alloc (Nat.le_refl _) (.cells #[.slice none 0 0, .int .i64 0, .int .i64 0, .string ⟨#[]⟩] 25)
  have HX3 := Lib.hid ((HX2.out.trans (hb.mono HX2.out.size)).trans (hz.mono (Nat.le_trans HX2.out.size hb.size)))
  have BX3 := Lib.hid ((BX2.out.keep hb BX2.out.lt).keep hz (Nat.lt_of_lt_of_le BX2.out.lt hb.size))
  have HS3 := Lib.hid ((HS2.out.keep hb).keep hz)
  clear hb hz hwr S1 HX2 BX2 HS2
  have k0 := BX3.out.cell 0 _ rfl
  have k1 := BX3.out.cell 1 _ rfl
  have k2 := BX3.out.cell 2 _ rfl
  have k3 := BX3.out.cell 3 _ rfl
  have hrd := nil_rd1 x0 c0 ⟨ll, ln, bi, su⟩ _ HLL.out.1 HS3.out (HK.out.below HX3.out HB.out)
  unfold ptrV at hrd
  go_wp2_with fail
  generalize World.alloc w3 _ = w4 at *
  refine hrd.mono ?_
  rintro e w5 ⟨rfl, hb⟩
  have HX5 := Lib.hid (HX3.out.trans (hb.mono HX3.out.size))
  have BX5 := Lib.hid (BX3.out.keep hb BX3.out.lt)
  have HS5 := Lib.hid (HS3.out.keep hb)
  clear hb hrd k0 k1 k2 k3 HX3 BX3 HS3
  have k0 := BX5.out.cell 0 _ rfl
  have k1 := BX5.out.cell 1 _ rfl
  have k2 := BX5.out.cell 2 _ rfl
  have k3 := BX5.out.cell 3 _ rfl
  have hmd := nil_md1 x0 c0 ⟨ll, ln, bi, su⟩ _ HLL.out.1 HS5.out (HK.out.below HX5.out HB.out)
  have hq : ((readR toldN ⟨ll, ln, bi, su⟩).2.2 != 0) = true := by simpa using HNR.out
  generalize (readR toldN ⟨ll, ln, bi, su⟩).2.2 = ex at *
  unfold ptrV at hmd
  go_wp2_with fail
  refine hmd.mono ?_
  rintro e w6 ⟨rfl, hb⟩
  have HX6 := Lib.hid (HX5.out.trans (hb.mono HX5.out.size))
  clear hb hmd k0 k1 k2 k3 HX5 BX5 HS5
  go_wp2_with fail
  refine (live_any _ (HK.out.below HX6.out HB.out)).mono ?_
  rintro e wl ⟨rfl, hb⟩
  have HL := Lib.hid (HX6.out.trans (hb.mono HX6.out.size))
  clear hb
  go_wp2
  go_ret
  exact ⟨rfl, HL.out⟩
end Go.Proofs.YtonkmffipjdhkaaDoor.blkNil

namespace Go.Proofs.YtonkmffipjdhkaaDoor
open Go.ChangeShapes Go.WideShapes Go.ChangeAt Go.RowKit

theorem gRoots : Tryd.prog.globalNamed (Rows.blkNilRow.named.headD "") = some 0 := by kernel_rfl
theorem gRootsType : (Tryd.prog.globals[0]?).map (·.type) = some 107 := by kernel_rfl
theorem cells32 : Tryd.prog.cellsOf 83 = 1 := by kernel_rfl
theorem cells64 : Tryd.prog.cellsOf 107 = 64 := by kernel_rfl

def kInts : List Int := kTab.map Int.ofNat

theorem door_met (os : Os) (args : Array Value) : laidMetH Tryd.prog Rows.blkNilRow.laid ((World.doorLaid Tryd.prog 400 os).forCall (fun _ _ => 0) ⟨#[], args, []⟩).memory :=
  laidMetH_of_parts3 (fuel := 8) (laidMet_of_run' 8 (by kernel_rfl) (by kernel_rfl)) (by kernel_rfl) (by kernel_rfl)

theorem laid_tab : Rows.blkNilRow.laid = [(Rows.blkNilRow.named.headD "", Lib.tabData .u32 kInts)] := rfl

theorem kt_of_laid {W : World} (h : laidMetH Tryd.prog Rows.blkNilRow.laid W) : Kt W := by
  rw [MakeChecks.laidMetH_plain _ _ _ (by kernel_rfl), laid_tab] at h
  have hT := Lib.tabIs_of_head gRoots gRootsType Tryd.underlying107 Tryd.underlying83 cells32 cells64 h
  intro t ht
  have hl : t < kTab.length := by show t < 64; exact ht
  have hc := hT.cell gRoots t (by simpa [kInts] using hl)
  rw [hc]
  congr 2
  simp [kInts, List.getD, List.getElem?_eq_getElem hl]
end Go.Proofs.YtonkmffipjdhkaaDoor
