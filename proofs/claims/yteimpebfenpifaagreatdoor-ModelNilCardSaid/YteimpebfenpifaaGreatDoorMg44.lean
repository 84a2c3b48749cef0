/-
  Texts put together: Open, OpenMo, ModelNilWalk.
-/
import Derived.Test.YteimpebfenpifaaGreatDoorMg0
import Derived.Test.YteimpebfenpifaaGreatDoorMoLive
import Derived.LaidSub
import Derived.Lay
import Derived.LaidMore
namespace Go.Proofs.YteimpebfenpifaaGreatDoor
open Go.ChangeShapes Go.WideShapes Go.ChangeAt Go.RowKit

/-- A slice that came in, of elements of n cells each. -/
def SlE {α : Type} (w : World) (n : Nat) (E : List Value → α → Prop) (a : Option Addr) (l : List α) : Prop :=
  l ≠ [] → ∃ b off, a = some ⟨b, off, none⟩ ∧ b < w.heap.size ∧
    ∀ i x, l[i]? = some x → ∃ cs, cs.length = n ∧ E cs x ∧ ∀ j u, cs[j]? = some u → w.cell? ⟨b, off + i * n + j, none⟩ = some u

theorem SlE.nil {α : Type} {w : World} {n : Nat} {E : List Value → α → Prop} {a : Option Addr} : SlE w n E a ([] : List α) := fun h => absurd rfl h

section
variable {H : Type} {enc : TypeId × Value → H} {P : Program} {w : World}

theorem open_slE {α : Type} [Inhabited α] {t e : TypeId} {n : Nat} {spare : Nat → Bool} {held : Bool} {fuel : Nat} {cs : List Value} {x : DataW H × List MemPlace}
    (E : List Value → α → Prop) (ht : P.underlying t = some (.slice e)) (hn : P.cellsOf e = n) (h0 : 0 < n)
    (hE : ∀ fuel cs x, DataW.trod enc P w 0 spare held fuel e cs = some x → ∃ y, E cs y)
    (h : DataW.trod enc P w 0 spare held fuel t cs = some x) :
    ∃ a cap, ∃ l : List α, cs = [.slice a l.length cap] ∧ SlE w n E a l ∧ l.length ≤ maxLen := by
  rcases Go.Deep.open_slice ht h with ⟨rfl, _⟩ | ⟨a, len, cap, m, k, D, Pl, rfl, _, hl, hm, hmm, _, hx⟩
  · exact ⟨none, 0, [], rfl, SlE.nil, Nat.zero_le _⟩
  · have hlm : len ≤ m := by rw [hmm]; split <;> omega
    rw [hn] at hx
    have each : ∀ i, i < len → ∃ q : List Value × α, q.1.length = n ∧ E q.1 q.2 ∧ ∀ j u, q.1[j]? = some u → w.cell? (a.add (i * n + j)) = some u := by
      intro i hi
      obtain ⟨cs', h1, h2⟩ := hx i (by omega)
      obtain ⟨_, hlen, hcell⟩ := World.cells?_some h1
      obtain ⟨y, hy⟩ := hE _ _ _ h2
      refine ⟨(cs', y), hlen, hy, fun j u hj => ?_⟩
      have hjl : j < n := by
        rcases Nat.lt_or_ge j n with h | h
        · exact h
        · rw [List.getElem?_eq_none (by simp only; omega)] at hj; cases hj
      have := hcell j hjl
      rw [Go.Deep.add_add] at this
      rw [this]; exact hj
    haveI : Inhabited (List Value × α) := ⟨([], default)⟩
    obtain ⟨q, hq⟩ := Go.Deep.choose_lt each
    refine ⟨some a, cap, (List.range len).map fun i => (q i).2, by simp, fun hne => ?_, by simp; omega⟩
    have hpos : 0 < len := by
      rcases Nat.eq_zero_or_pos len with h | h
      · subst h; exact absurd rfl hne
      · exact h
    obtain ⟨b, off, spot⟩ := a
    have hc0 : ∃ u, w.cell? ((⟨b, off, spot⟩ : Addr).add (0 * n + 0)) = some u := by
      have h1 := (hq 0 hpos).1
      have h2 : 0 < (q 0).1.length := by omega
      exact ⟨_, (hq 0 hpos).2.2 0 _ (List.getElem?_eq_getElem h2)⟩
    obtain ⟨u, hu⟩ := hc0
    have hspot : spot = none := by simpa [Addr.add] using World.cell?_spot hu
    subst hspot
    refine ⟨b, off, rfl, ?_, fun i y hy => ?_⟩
    · rw [add_plain] at hu
      exact lt_of_cell hu
    · have hi : i < len := by
        rcases Nat.lt_or_ge i len with h | h
        · exact h
        · rw [List.getElem?_eq_none (by simp; omega)] at hy; cases hy
      rw [List.getElem?_map, List.getElem?_range hi] at hy
      simp only [Option.map_some, Option.some.injEq] at hy
      subst hy
      refine ⟨(q i).1, (hq i hi).1, (hq i hi).2.1, fun j u hj => ?_⟩
      rw [Nat.add_assoc, ← add_plain]
      exact (hq i hi).2.2 j u hj

/-- Two ints. -/
def PairI (cs : List Value) (x : Int × Int) : Prop := cs = [.int .i64 x.1, .int .i64 x.2] ∧ (Lit.int .i64 x.1).wf = true ∧ (Lit.int .i64 x.2).wf = true

theorem open_pairI {t t0 t1 : TypeId} {f0 f1 : Field} {spare : Nat → Bool} {held : Bool} {fuel : Nat} {cs : List Value} {x : DataW H × List MemPlace}
    (ht : P.underlying t = some (.struct #[f0, f1])) (hc : P.cellsOf t = 2) (o0 : f0.offset = 0) (o1 : f1.offset = 1) (e0 : f0.type = t0) (e1 : f1.type = t1)
    (c0 : P.cellsOf t0 = 1) (c1 : P.cellsOf t1 = 1) (u0 : P.underlying t0 = some (.int .i64)) (u1 : P.underlying t1 = some (.int .i64))
    (h : DataW.trod enc P w 0 spare held fuel t cs = some x) : ∃ y, PairI cs y := by
  obtain ⟨y0, y1, n, _, hl, h0, h1⟩ := trod_struct2 ht h
  rw [hc] at hl
  rw [o0, e0, c0] at h0
  rw [o1, e1, c1] at h1
  match cs, hl with
  | [v0, v1], _ =>
    obtain ⟨a, ha, _, wa⟩ := DataW.trod_int u0 h0
    obtain ⟨b, hb, _, wb⟩ := DataW.trod_int u1 h1
    simp at ha hb
    exact ⟨(a, b), by simp [ha, hb], wa, wb⟩
end
end Go.Proofs.YteimpebfenpifaaGreatDoor

namespace Go.Proofs.YteimpebfenpifaaGreatDoor
open Go.ChangeShapes Go.WideShapes Go.ChangeAt Go.RowKit

theorem cellsint_open_mop : Tryz.prog.cellsOf 3 = 1 := by kernel_rfl
theorem cellsstring_open_mop : Tryz.prog.cellsOf 9 = 1 := by kernel_rfl
theorem cells_open_mop : Tryz.prog.cellsOf 36 = 6 := by kernel_rfl
section
variable {H : Type} {enc : TypeId × Value → H} {w : World}
set_option maxRecDepth 100000 in
theorem open_mop {base : Nat} {v : Value} {d : DataW H} {ps : List MemPlace} (hw : Value.okWide Tryz.prog w .any base 36 v) (h : DataW.Trod enc Tryz.prog w 0 (fun _ => true) true 36 v d ps) :
    ∃ x0 : Int, ∃ x1 : ByteArray, ∃ x2 : ByteArray, ∃ x3 : Int, ∃ x4 : Int, ∃ x5 : ByteArray, v = .agg #[.int .i64 x0, .string x1, .string x2, .int .i64 x3, .int .i64 x4, .string x5] ∧ x1.size ≤ maxLen ∧ x2.size ≤ maxLen ∧ x5.size ≤ maxLen ∧ (Lit.int .i64 x0).wf = true ∧ (Lit.int .i64 x3).wf = true ∧ (Lit.int .i64 x4).wf = true := by
  obtain ⟨cs, rfl, _⟩ := okWide_struct Tryz.underlying36 hw
  obtain ⟨fuel, hf⟩ := h
  obtain ⟨xs, n, _, _, hl, hlen, hfield⟩ := DataW.trod_struct Tryz.underlying36 hf
  rw [cells_open_mop] at hl
  have g0 : DataW.trod enc Tryz.prog w 0 _ _ n 3 (((Value.agg cs).cells.toList.drop 0).take (Tryz.prog.cellsOf 3)) = xs[0]? := hfield 0 _ rfl
  rw [cellsint_open_mop] at g0
  have g1 : DataW.trod enc Tryz.prog w 0 _ _ n 9 (((Value.agg cs).cells.toList.drop 1).take (Tryz.prog.cellsOf 9)) = xs[1]? := hfield 1 _ rfl
  rw [cellsstring_open_mop] at g1
  have g2 : DataW.trod enc Tryz.prog w 0 _ _ n 9 (((Value.agg cs).cells.toList.drop 2).take (Tryz.prog.cellsOf 9)) = xs[2]? := hfield 2 _ rfl
  rw [cellsstring_open_mop] at g2
  have g3 : DataW.trod enc Tryz.prog w 0 _ _ n 3 (((Value.agg cs).cells.toList.drop 3).take (Tryz.prog.cellsOf 3)) = xs[3]? := hfield 3 _ rfl
  rw [cellsint_open_mop] at g3
  have g4 : DataW.trod enc Tryz.prog w 0 _ _ n 3 (((Value.agg cs).cells.toList.drop 4).take (Tryz.prog.cellsOf 3)) = xs[4]? := hfield 4 _ rfl
  rw [cellsint_open_mop] at g4
  have g5 : DataW.trod enc Tryz.prog w 0 _ _ n 9 (((Value.agg cs).cells.toList.drop 5).take (Tryz.prog.cellsOf 9)) = xs[5]? := hfield 5 _ rfl
  rw [cellsstring_open_mop] at g5
  obtain ⟨cl⟩ := cs
  have hlenN : xs.length = 6 := hlen
  match cl, hl, xs, hlenN with
  | [v0, v1, v2, v3, v4, v5], _, [y0, y1, y2, y3, y4, y5], _ =>
    obtain ⟨t0, e0, _, q0⟩ := DataW.trod_int Tryz.underlying3 g0
    obtain ⟨t1, e1, _, q1⟩ := DataW.trod_string Tryz.underlying9 g1
    obtain ⟨t2, e2, _, q2⟩ := DataW.trod_string Tryz.underlying9 g2
    obtain ⟨t3, e3, _, q3⟩ := DataW.trod_int Tryz.underlying3 g3
    obtain ⟨t4, e4, _, q4⟩ := DataW.trod_int Tryz.underlying3 g4
    obtain ⟨t5, e5, _, q5⟩ := DataW.trod_string Tryz.underlying9 g5
    simp [Value.cells] at e0 e1 e2 e3 e4 e5
    exact ⟨t0, t1, t2, t3, t4, t5, by rw [e0, e1, e2, e3, e4, e5], q1, q2, q5, q0, q3, q4⟩

/-- The i-th op's cells. -/
def MopK (cs : List Value) (o : OpD) : Prop := cs = (opA o).toList
instance : Inhabited OpD := ⟨⟨0, ⟨#[]⟩, ⟨#[]⟩, 0, 0, ⟨#[]⟩⟩⟩
set_option maxRecDepth 100000 in
theorem open_mopk {held : Bool} {fuel : Nat} {cs : List Value} {x : DataW H × List MemPlace} (h : DataW.trod enc Tryz.prog w 0 (fun _ => true) held fuel 36 cs = some x) : ∃ y, MopK cs y := by
  obtain ⟨xs, n, _, _, hl, hlen, hfield⟩ := DataW.trod_struct Tryz.underlying36 h
  rw [cells_open_mop] at hl
  have g0 : DataW.trod enc Tryz.prog w 0 _ _ n 3 ((cs.drop 0).take (Tryz.prog.cellsOf 3)) = xs[0]? := hfield 0 _ rfl
  rw [cellsint_open_mop] at g0
  have g1 : DataW.trod enc Tryz.prog w 0 _ _ n 9 ((cs.drop 1).take (Tryz.prog.cellsOf 9)) = xs[1]? := hfield 1 _ rfl
  rw [cellsstring_open_mop] at g1
  have g2 : DataW.trod enc Tryz.prog w 0 _ _ n 9 ((cs.drop 2).take (Tryz.prog.cellsOf 9)) = xs[2]? := hfield 2 _ rfl
  rw [cellsstring_open_mop] at g2
  have g3 : DataW.trod enc Tryz.prog w 0 _ _ n 3 ((cs.drop 3).take (Tryz.prog.cellsOf 3)) = xs[3]? := hfield 3 _ rfl
  rw [cellsint_open_mop] at g3
  have g4 : DataW.trod enc Tryz.prog w 0 _ _ n 3 ((cs.drop 4).take (Tryz.prog.cellsOf 3)) = xs[4]? := hfield 4 _ rfl
  rw [cellsint_open_mop] at g4
  have g5 : DataW.trod enc Tryz.prog w 0 _ _ n 9 ((cs.drop 5).take (Tryz.prog.cellsOf 9)) = xs[5]? := hfield 5 _ rfl
  rw [cellsstring_open_mop] at g5
  have hlenN : xs.length = 6 := hlen
  match cs, hl, xs, hlenN with
  | [v0, v1, v2, v3, v4, v5], _, [y0, y1, y2, y3, y4, y5], _ =>
    obtain ⟨t0, e0, _, q0⟩ := DataW.trod_int Tryz.underlying3 g0
    obtain ⟨t1, e1, _, q1⟩ := DataW.trod_string Tryz.underlying9 g1
    obtain ⟨t2, e2, _, q2⟩ := DataW.trod_string Tryz.underlying9 g2
    obtain ⟨t3, e3, _, q3⟩ := DataW.trod_int Tryz.underlying3 g3
    obtain ⟨t4, e4, _, q4⟩ := DataW.trod_int Tryz.underlying3 g4
    obtain ⟨t5, e5, _, q5⟩ := DataW.trod_string Tryz.underlying9 g5
    simp at e0 e1 e2 e3 e4 e5
    exact ⟨⟨t0, t1, t2, t3, t4, t5⟩, by simp [MopK, e0, e1, e2, e3, e4, e5]⟩
set_option maxRecDepth 100000 in
theorem open_mops {base : Nat} {v : Value} {d : DataW H} {ps : List MemPlace} (hw : Value.okWide Tryz.prog w .any base 22 v) (h : DataW.Trod enc Tryz.prog w 0 (fun _ => true) true 22 v d ps) :
    ∃ a cap, ∃ l : List OpD, v = .slice a l.length cap ∧ SlE w 6 MopK a l ∧ l.length ≤ maxLen := by
  obtain ⟨a0, len, cap, rfl⟩ := okWide_slice Tryz.underlying22 hw
  obtain ⟨fuel, hf⟩ := h
  obtain ⟨a, cap', l, e, hs, hm⟩ := open_slE (n := 6) MopK Tryz.underlying22 cells_open_mop (by decide) (fun _ _ _ h => open_mopk h) hf
  simp [Value.cells] at e
  obtain ⟨rfl, rfl, rfl⟩ := e
  exact ⟨_, _, l, rfl, hs, hm⟩
end
/-- The cells of the i-th op, in any world behind. -/
theorem SlE.mop {w w' : World} {a : Option Addr} {l : List OpD} (h : SlE w 6 MopK a l) (hb : Below w.heap.size w w') (i : Nat) (hi : i < l.length) : ∃ b off, a = some ⟨b, off, none⟩ ∧ b < w.heap.size ∧
    w'.cell? ⟨b, off + i * 6, none⟩ = some (.int .i64 l[i].do_) ∧ w'.cell? ⟨b, off + i * 6 + 1, none⟩ = some (.string l[i].path) ∧ w'.cell? ⟨b, off + i * 6 + 2, none⟩ = some (.string l[i].dst) ∧
    w'.cell? ⟨b, off + i * 6 + 3, none⟩ = some (.int .i64 l[i].off) ∧ w'.cell? ⟨b, off + i * 6 + 4, none⟩ = some (.int .i64 l[i].len) ∧ w'.cell? ⟨b, off + i * 6 + 5, none⟩ = some (.string l[i].data) := by
  obtain ⟨b, off, e, hl, hc⟩ := h (by intro h; rw [h] at hi; simp at hi)
  obtain ⟨cs, _, hk, hcell⟩ := hc i l[i] (List.getElem?_eq_getElem hi)
  unfold MopK at hk
  subst hk
  exact ⟨b, off, e, hl, (hb.cell (p := ⟨b, off + i * 6, none⟩) hl).trans (hcell 0 _ rfl), (hb.cell (p := ⟨b, off + i * 6 + 1, none⟩) hl).trans (hcell 1 _ rfl), (hb.cell (p := ⟨b, off + i * 6 + 2, none⟩) hl).trans (hcell 2 _ rfl),
    (hb.cell (p := ⟨b, off + i * 6 + 3, none⟩) hl).trans (hcell 3 _ rfl), (hb.cell (p := ⟨b, off + i * 6 + 4, none⟩) hl).trans (hcell 4 _ rfl), (hb.cell (p := ⟨b, off + i * 6 + 5, none⟩) hl).trans (hcell 5 _ rfl)⟩

/-! ### the table of powers, by the row's own condition -/
theorem cellsU64 : Tryz.prog.cellsOf 141 = 1 := by kernel_rfl
theorem cellsTab : Tryz.prog.cellsOf 159 = 20 := by kernel_rfl
def tabL : List (String × DataW Unit) := [("internal/strconv.uint64pow10", Lib.tabData .u64 Lib.pow10Tab)]
theorem it_of_laid {W : World} {l : List (String × DataW Unit)} (hf : l.filter (fun x => x.1 == "internal/strconv.uint64pow10") = tabL) (hp : (tabL.all fun x => x.2.handleName?.isNone) = true) (h : laidMetH Tryz.prog l W) : It W := by
  have h2 := h.filter (fun x => x.1 == "internal/strconv.uint64pow10")
  rw [hf, MakeChecks.laidMetH_plain _ _ _ hp] at h2
  exact Lib.tabIs_of_head (g := 3) (by kernel_rfl) (by kernel_rfl) Tryz.underlying159 Tryz.underlying141 cellsU64 cellsTab h2
theorem tabL_plain : (tabL.all fun x => x.2.handleName?.isNone) = true := by kernel_rfl
end Go.Proofs.YteimpebfenpifaaGreatDoor

namespace Go.Proofs.YteimpebfenpifaaGreatDoor.modelNil
open Go Go.RowKit

set_option maxRecDepth 100000 in
set_option maxHeartbeats 4000000 in
theorem walk (w : World) (hI : It w) (o0 : OpD) (_ : o0.path.size ≤ maxLen) (_ : o0.dst.size ≤ maxLen) (_ : o0.data.size ≤ maxLen) :
    Calls Tryz.prog 7 #[opV o0] w fun e w' => e = .returned (.bool true) ∧ Below w.heap.size w w' := by
  have HI := Lib.hid hI
  clear hI
  have hb := (Below.refl w.heap.size w).alloc (Nat.le_refl _) (.cells (opA o0) 36 (0, 0))
  have hx := Box.new w 36 (opA o0)
  have HB := Lib.hid hb
  have HX := Lib.hid hx
  clear hb hx
  unfold opA at HB HX
  unfold opV opA
  go_enter Tryz.func7, Tryz.ntmps7
  go_wp2_with fail
  generalize World.alloc w _ = w1 at *
  refine (count_nil _).mono ?_
  rintro e w1' ⟨rfl, rfl⟩
  have c0 := HX.out.cell 0 _ rfl
  have c1 := HX.out.cell 1 _ rfl
  have c2 := HX.out.cell 2 _ rfl
  have c3 := HX.out.cell 3 _ rfl
  have c4 := HX.out.cell 4 _ rfl
  have c5 := HX.out.cell 5 _ rfl
  have HD := Lib.hid (do_nil o0 w1')
  unfold opV opA at HD
  go_wp2_with fail
  refine HD.out.mono ?_
  rintro e w2 ⟨rfl, hb⟩
  have HB2 := Lib.hid (HB.out.trans (hb.mono HB.out.size))
  clear hb HB HD c0 c1 c2 c3 c4 c5 HX
  have hss := (same_ans (noA 1) (noA 1) none none 0 0 w2 Sl.nil Sl.nil (by decide))
  rw [decide_eq_true (rfl : (noA 1 : AnsD) = _)] at hss
  have HSS := Lib.hid hss
  clear hss
  go_wp2_with fail
  refine HSS.out.mono ?_
  rintro e w3 ⟨rfl, hb⟩
  have HB3 := Lib.hid (HB2.out.trans (hb.mono HB2.out.size))
  clear hb HB2 HSS
  go_wp2_with fail
  refine (copy_nil _).mono ?_
  rintro e w3' ⟨rfl, rfl⟩
  have HL := Lib.hid (live_any w3' (HI.out.keep HB3.out))
  go_wp2_with fail
  refine HL.out.mono ?_
  rintro e w4 ⟨rfl, hb⟩
  have HB4 := Lib.hid (HB3.out.trans (hb.mono HB3.out.size))
  clear hb HB3 HL
  go_wp2
  go_ret
  exact ⟨rfl, HB4.out⟩
end Go.Proofs.YteimpebfenpifaaGreatDoor.modelNil
