/-
  Texts put together: Open, OpenClog, ClogBackWalk, Door.
-/
import Derived.Test.YtljjcchdhnficaaDoorMg0
import Derived.Test.YtljjcchdhnficaaDoorMg4
import Derived.Test.YtljjcchdhnficaaDoorClogLive
import Derived.Test.YtljjcchdhnficaaDoorClogH
import Derived.Test.YtljjcchdhnficaaDoorRows
import Derived.Test.YtljjcchdhnficaaDoorMix
import Derived.Lib.LaidTab
import Derived.LaidMore
import Derived.Stop.Joined
namespace Go.Proofs.YtljjcchdhnficaaDoor
open Go.ChangeShapes Go.WideShapes Go.ChangeAt Go.RowKit

/-- A slice that came in, of elements of n cells each. -/
def SlE {α : Type} (w : World) (n : Nat) (E : List Value → α → Prop) (a : Option Addr) (l : List α) : Prop :=
  l ≠ [] → ∃ b off, a = some ⟨b, off, none⟩ ∧ b < w.heap.size ∧
    ∀ i x, l[i]? = some x → ∃ cs, cs.length = n ∧ E cs x ∧ ∀ j u, cs[j]? = some u → w.cell? ⟨b, off + i * n + j, none⟩ = some u

theorem SlE.nil {α : Type} {w : World} {n : Nat} {E : List Value → α → Prop} {a : Option Addr} : SlE w n E a ([] : List α) := fun h => absurd rfl h

section
variable {H : Type} {enc : TypeId × Value → H} {P : Program} {w : World}

theorem open_slE {α : Type} [Inhabited α] {t e : TypeId} {n : Nat} {spare : Nat → Bool} {held : Bool} {fuel : Nat} {cs : List Value} {x : DataW H × List MemPlace}
    (E : List Value → α → Prop) (ht : P.underlying t = some (.slice e)) (hn : P.cellsOf e = n) (h0 : 0 < n)
    (hE : ∀ fuel cs x, DataW.trod enc P w 0 spare held fuel e cs = some x → ∃ y, E cs y)
    (h : DataW.trod enc P w 0 spare held fuel t cs = some x) :
    ∃ a cap, ∃ l : List α, cs = [.slice a l.length cap] ∧ SlE w n E a l ∧ l.length ≤ maxLen := by
  rcases Go.Deep.open_slice ht h with ⟨rfl, _⟩ | ⟨a, len, cap, m, k, D, Pl, rfl, _, hl, hm, hmm, _, hx⟩
  · exact ⟨none, 0, [], rfl, SlE.nil, Nat.zero_le _⟩
  · have hlm : len ≤ m := by rw [hmm]; split <;> omega
    rw [hn] at hx
    have each : ∀ i, i < len → ∃ q : List Value × α, q.1.length = n ∧ E q.1 q.2 ∧ ∀ j u, q.1[j]? = some u → w.cell? (a.add (i * n + j)) = some u := by
      intro i hi
      obtain ⟨cs', h1, h2⟩ := hx i (by omega)
      obtain ⟨_, hlen, hcell⟩ := World.cells?_some h1
      obtain ⟨y, hy⟩ := hE _ _ _ h2
      refine ⟨(cs', y), hlen, hy, fun j u hj => ?_⟩
      have hjl : j < n := by
        rcases Nat.lt_or_ge j n with h | h
        · exact h
        · rw [List.getElem?_eq_none (by simp only; omega)] at hj; cases hj
      have := hcell j hjl
      rw [Go.Deep.add_add] at this
      rw [this]; exact hj
    haveI : Inhabited (List Value × α) := ⟨([], default)⟩
    obtain ⟨q, hq⟩ := Go.Deep.choose_lt each
    refine ⟨some a, cap, (List.range len).map fun i => (q i).2, by simp, fun hne => ?_, by simp; omega⟩
    have hpos : 0 < len := by
      rcases Nat.eq_zero_or_pos len with h | h
      · subst h; exact absurd rfl hne
      · exact h
    obtain ⟨b, off, spot⟩ := a
    have hc0 : ∃ u, w.cell? ((⟨b, off, spot⟩ : Addr).add (0 * n + 0)) = some u := by
      have h1 := (hq 0 hpos).1
      have h2 : 0 < (q 0).1.length := by omega
      exact ⟨_, (hq 0 hpos).2.2 0 _ (List.getElem?_eq_getElem h2)⟩
    obtain ⟨u, hu⟩ := hc0
    have hspot : spot = none := by simpa [Addr.add] using World.cell?_spot hu
    subst hspot
    refine ⟨b, off, rfl, ?_, fun i y hy => ?_⟩
    · rw [add_plain] at hu
      exact lt_of_cell hu
    · have hi : i < len := by
        rcases Nat.lt_or_ge i len with h | h
        · exact h
        · rw [List.getElem?_eq_none (by simp; omega)] at hy; cases hy
      rw [List.getElem?_map, List.getElem?_range hi] at hy
      simp only [Option.map_some, Option.some.injEq] at hy
      subst hy
      refine ⟨(q i).1, (hq i hi).1, (hq i hi).2.1, fun j u hj => ?_⟩
      rw [Nat.add_assoc, ← add_plain]
      exact (hq i hi).2.2 j u hj

/-- Two ints. -/
def PairI (cs : List Value) (x : Int × Int) : Prop := cs = [.int .i64 x.1, .int .i64 x.2] ∧ (Lit.int .i64 x.1).wf = true ∧ (Lit.int .i64 x.2).wf = true

theorem open_pairI {t t0 t1 : TypeId} {f0 f1 : Field} {spare : Nat → Bool} {held : Bool} {fuel : Nat} {cs : List Value} {x : DataW H × List MemPlace}
    (ht : P.underlying t = some (.struct #[f0, f1])) (hc : P.cellsOf t = 2) (o0 : f0.offset = 0) (o1 : f1.offset = 1) (e0 : f0.type = t0) (e1 : f1.type = t1)
    (c0 : P.cellsOf t0 = 1) (c1 : P.cellsOf t1 = 1) (u0 : P.underlying t0 = some (.int .i64)) (u1 : P.underlying t1 = some (.int .i64))
    (h : DataW.trod enc P w 0 spare held fuel t cs = some x) : ∃ y, PairI cs y := by
  obtain ⟨y0, y1, n, _, hl, h0, h1⟩ := trod_struct2 ht h
  rw [hc] at hl
  rw [o0, e0, c0] at h0
  rw [o1, e1, c1] at h1
  match cs, hl with
  | [v0, v1], _ =>
    obtain ⟨a, ha, _, wa⟩ := DataW.trod_int u0 h0
    obtain ⟨b, hb, _, wb⟩ := DataW.trod_int u1 h1
    simp at ha hb
    exact ⟨(a, b), by simp [ha, hb], wa, wb⟩
end
end Go.Proofs.YtljjcchdhnficaaDoor

namespace Go.Proofs.YtljjcchdhnficaaDoor
open Go.ChangeShapes Go.WideShapes Go.ChangeAt Go.RowKit

theorem cellsIntC : Tryd.prog.cellsOf 3 = 1 := by kernel_rfl
theorem cellsStrC : Tryd.prog.cellsOf 9 = 1 := by kernel_rfl
theorem cellsEntC : Tryd.prog.cellsOf 53 = 4 := by kernel_rfl
theorem cellsEnsC : Tryd.prog.cellsOf 22 = 1 := by kernel_rfl
theorem cellsBlkC : Tryd.prog.cellsOf 24 = 2 := by kernel_rfl
def EnE (cs : List Value) (x : CgE) : Prop := cs = cgL x
theorem SlC.ofE {w : World} {a : Option Addr} {l : List CgE} (h : SlE w 4 EnE a l) : SlC w a l := fun hne => by
  obtain ⟨b, off, e, hlt, hc⟩ := h hne
  refine ⟨b, off, e, hlt, fun i x hx j u hj => ?_⟩
  obtain ⟨cs, _, rfl, h2⟩ := hc i x hx
  exact h2 j u hj
def BkE (w : World) (cs : List Value) (x : BkD) : Prop := cs = [.int .i64 x.seq, .slice x.a x.ents.length x.cap] ∧ SlC w x.a x.ents ∧ x.ents.length ≤ maxLen
theorem SlBk.ofE {w : World} {a : Option Addr} {l : List BkD} (h : SlE w 2 (BkE w) a l) : SlBk w a l := fun hne => by
  obtain ⟨b, off, e, hlt, hc⟩ := h hne
  refine ⟨b, off, e, hlt, fun i x hx => ?_⟩
  obtain ⟨cs, _, ⟨rfl, hs, _⟩, h2⟩ := hc i x hx
  exact ⟨h2 0 _ rfl, h2 1 _ rfl, hs⟩
instance : Inhabited BkD := ⟨⟨0, none, 0, []⟩⟩

section
variable {H : Type} {enc : TypeId × Value → H} {w : World}
set_option maxRecDepth 100000 in
theorem open_ent {held : Bool} {fuel : Nat} {cs : List Value} {x : DataW H × List MemPlace} (h : DataW.trod enc Tryd.prog w 0 (fun _ => true) held fuel 53 cs = some x) : ∃ y, EnE cs y := by
  obtain ⟨xs, n, _, _, hl, hlen, hfield⟩ := DataW.trod_struct Tryd.underlying53 h
  rw [cellsEntC] at hl
  have g0 : DataW.trod enc Tryd.prog w 0 _ _ n 9 ((cs.drop 0).take (Tryd.prog.cellsOf 9)) = xs[0]? := hfield 0 _ rfl
  have g1 : DataW.trod enc Tryd.prog w 0 _ _ n 9 ((cs.drop 1).take (Tryd.prog.cellsOf 9)) = xs[1]? := hfield 1 _ rfl
  have g2 : DataW.trod enc Tryd.prog w 0 _ _ n 3 ((cs.drop 2).take (Tryd.prog.cellsOf 3)) = xs[2]? := hfield 2 _ rfl
  have g3 : DataW.trod enc Tryd.prog w 0 _ _ n 3 ((cs.drop 3).take (Tryd.prog.cellsOf 3)) = xs[3]? := hfield 3 _ rfl
  rw [cellsStrC] at g0 g1
  rw [cellsIntC] at g2 g3
  have hlen4 : xs.length = 4 := hlen
  match cs, hl, xs, hlen4 with
  | [v0, v1, v2, v3], _, [x0, x1, x2, x3], _ =>
    obtain ⟨k, e0, _, _⟩ := DataW.trod_string Tryd.underlying9 g0
    obtain ⟨s, e1, _, _⟩ := DataW.trod_string Tryd.underlying9 g1
    obtain ⟨a, e2, _, _⟩ := DataW.trod_int Tryd.underlying3 g2
    obtain ⟨b, e3, _, _⟩ := DataW.trod_int Tryd.underlying3 g3
    simp at e0 e1 e2 e3
    exact ⟨⟨k, s, a, b⟩, by simp [EnE, cgL, e0, e1, e2, e3]⟩

set_option maxRecDepth 100000 in
theorem open_bk {held : Bool} {fuel : Nat} {cs : List Value} {x : DataW H × List MemPlace} (h : DataW.trod enc Tryd.prog w 0 (fun _ => true) held fuel 24 cs = some x) : ∃ y, BkE w cs y := by
  obtain ⟨xs, n, _, _, hl, hlen, hfield⟩ := DataW.trod_struct Tryd.underlying24 h
  rw [cellsBlkC] at hl
  have g0 : DataW.trod enc Tryd.prog w 0 _ _ n 3 ((cs.drop 0).take (Tryd.prog.cellsOf 3)) = xs[0]? := hfield 0 _ rfl
  have g1 : DataW.trod enc Tryd.prog w 0 _ _ n 22 ((cs.drop 1).take (Tryd.prog.cellsOf 22)) = xs[1]? := hfield 1 _ rfl
  rw [cellsIntC] at g0
  rw [cellsEnsC] at g1
  have hlen2 : xs.length = 2 := hlen
  match cs, hl, xs, hlen2 with
  | [v0, v1], _, [x0, x1], _ =>
    obtain ⟨q, e0, _, _⟩ := DataW.trod_int Tryd.underlying3 g0
    obtain ⟨a, cap, l, e1, hs, hm⟩ := open_slE (n := 4) EnE Tryd.underlying22 cellsEntC (by decide) (fun _ _ _ h => open_ent h) g1
    simp at e0 e1
    exact ⟨⟨q, a, cap, l⟩, by rw [e0, e1], SlC.ofE hs, hm⟩

set_option maxRecDepth 100000 in
theorem open_blk {base : Nat} {v : Value} {d : DataW H} {ps : List MemPlace} (hw : Value.okWide Tryd.prog w .any base 24 v) (h : DataW.Trod enc Tryd.prog w 0 (fun _ => true) true 24 v d ps) :
    ∃ q a cap, ∃ l : List CgE, v = .agg #[.int .i64 q, .slice a l.length cap] ∧ SlC w a l ∧ l.length ≤ maxLen := by
  obtain ⟨cs, rfl, _⟩ := okWide_struct Tryd.underlying24 hw
  obtain ⟨fuel, hf⟩ := h
  obtain ⟨⟨q, a, cap, l⟩, hy, hs, hm⟩ := open_bk hf
  obtain ⟨cl⟩ := cs
  simp [Value.cells] at hy
  exact ⟨q, a, cap, l, by rw [hy], hs, hm⟩

set_option maxRecDepth 100000 in
theorem open_blks {base : Nat} {v : Value} {d : DataW H} {ps : List MemPlace} (hw : Value.okWide Tryd.prog w .any base 45 v) (h : DataW.Trod enc Tryd.prog w 0 (fun _ => true) true 45 v d ps) :
    ∃ a cap, ∃ l : List BkD, v = .slice a l.length cap ∧ SlE w 2 (BkE w) a l ∧ l.length ≤ maxLen := by
  obtain ⟨a0, len, cap, rfl⟩ := okWide_slice Tryd.underlying45 hw
  obtain ⟨fuel, hf⟩ := h
  obtain ⟨a, cap', l, e, hs, hm⟩ := open_slE (n := 2) (BkE w) Tryd.underlying45 cellsBlkC (by decide) (fun _ _ _ h => open_bk h) hf
  simp [Value.cells] at e
  obtain ⟨rfl, rfl, rfl⟩ := e
  exact ⟨_, _, l, rfl, hs, hm⟩
end
end Go.Proofs.YtljjcchdhnficaaDoor

namespace Go.Proofs.YtljjcchdhnficaaDoor.clogBack
open Go.RowKit

theorem flat_ge : ∀ (l : List CgE), (∀ x ∈ l, MayC x) → 38 * l.length ≤ (l.flatMap entL).length ∧ (l.flatMap entL).length ≤ 97 * l.length
  | [], _ => ⟨Nat.le_refl _, Nat.le_refl _⟩
  | x :: r, h => by
    have h1 := flat_ge r (fun y hy => h y (List.mem_cons_of_mem _ hy))
    have hx := h x List.mem_cons_self
    have h2 := entL_len hx
    obtain ⟨g1, g2, _⟩ := hx
    rw [List.flatMap_cons, List.length_append, List.length_cons]
    omega
set_option maxRecDepth 100000 in
set_option maxHeartbeats 2000000 in
theorem walk (w : World) (hK : Kt w) (q0 : Int) (x0 : Option Addr) (c0 : Nat) (l0 : List CgE) (s0 : SlC w x0 l0) (m0 : l0.length ≤ maxLen) :
    Calls Tryd.prog 7 #[.agg #[.int .i64 q0, .slice x0 l0.length c0]] w fun e w' => e = .returned (.bool true) ∧ Below w.heap.size w w' := by
  have HK := Lib.hid hK
  have HP := Lib.hid hK.pos
  have BX := Lib.hid (Box.new w 24 #[.int .i64 q0, .slice x0 l0.length c0])
  have L0 := Lib.hid ((Below.refl w.heap.size w).alloc (Nat.le_refl _) (.cells #[.int .i64 q0, .slice x0 l0.length c0] 24))
  have S0 := Lib.hid (s0.keep ((Below.refl w.heap.size w).alloc (Nat.le_refl _) (.cells #[.int .i64 q0, .slice x0 l0.length c0] 24)))
  clear hK s0
  go_enter Tryd.func7, Tryd.ntmps7
  go_wp2_with fail
  generalize World.alloc w _ = v0 at *
  obtain ⟨g, hg⟩ : ∃ g, g = w.heap.size := ⟨_, rfl⟩
  rw [← hg] at BX ⊢
  clear hg
  have k0 := BX.out.cell 0 _ rfl
  have k1 := BX.out.cell 1 _ rfl
  go_wp2_with fail
  refine (csmall_any q0 x0 c0 l0 v0 S0.out m0).mono ?_
  rintro e v1 ⟨rfl, hb⟩
  have B1 := Lib.hid (BX.out.keep hb BX.out.lt)
  have L1 := Lib.hid (L0.out.trans (hb.mono L0.out.size))
  have S1 := Lib.hid (S0.out.keep hb)
  clear hb BX L0 S0 k0 k1
  by_cases hs : SmC l0
  rotate_left
  · rw [decide_eq_false hs]
    clear hs
    go_wp2_with fail
    refine (clive_any _ (HK.out.below L1.out HP.out)).mono ?_
    rintro e vz ⟨rfl, hb⟩
    have LZ := Lib.hid (L1.out.trans (hb.mono L1.out.size))
    clear hb
    go_wp2
    go_ret
    exact ⟨rfl, LZ.out⟩
  rw [decide_eq_true hs]
  have hl40 : l0.length ≤ 40 := hs.2
  have k0 := B1.out.cell 0 _ rfl
  have k1 := B1.out.cell 1 _ rfl
  go_wp2_with fail
  refine (cown_any q0 x0 c0 l0 v1 S1.out (by omega)).mono ?_
  rintro e v2 ⟨v, rfl, hp, hb⟩
  obtain ⟨oa, oc, rfl, ho⟩ := hp.view
  have B2 := Lib.hid (B1.out.keep hb B1.out.lt)
  have L2 := Lib.hid (L1.out.trans (hb.mono L1.out.size))
  have S2 := Lib.hid (S1.out.keep hb)
  have O2 := Lib.hid ho
  clear hb hp ho B1 L1 S1 k0 k1
  go_wp2_with fail
  refine (cencode_any q0 oa oc l0 v2 O2.out (HK.out.below L2.out HP.out)).mono ?_
  rintro e v3 ⟨rfl, hb⟩
  have B3 := Lib.hid (B2.out.keep hb B2.out.lt)
  have L3 := Lib.hid (L2.out.trans (hb.mono L2.out.size))
  have S3 := Lib.hid (S2.out.keep hb)
  clear hb B2 L2 S2 O2
  by_cases hc : chkC q0 l0 = 0
  rotate_left
  · have e1 : encC q0 l0 = (⟨#[]⟩, chkC q0 l0) := if_neg hc
    have e2 : chkC q0 l0 = 1 := (chkC_or q0 l0).resolve_left hc
    rw [e1, e2]
    clear hc e1 e2 hs
    go_wp2_with fail
    refine (clive_any _ (HK.out.below L3.out HP.out)).mono ?_
    rintro e vz ⟨rfl, hb⟩
    have LZ := Lib.hid (L3.out.trans (hb.mono L3.out.size))
    clear hb
    go_wp2
    go_ret
    exact ⟨rfl, LZ.out⟩
  obtain ⟨y1, y2, y3⟩ := enc_back hc
  obtain ⟨z1, z2, z3, z4⟩ := chkC_zero hc
  obtain ⟨g1, g2⟩ := flat_ge l0 z4
  rw [y2]
  generalize (encC q0 l0).1 = s at *
  have Y1 := Lib.hid y1
  have hlow : 41 + 38 * l0.length ≤ s.size := by omega
  have hhi : s.size ≤ 1000000 := by omega
  have HLOW := Lib.hid hlow
  have Z3 := Lib.hid z3
  clear y1 y2 y3 z1 z2 z3 z4 g1 g2 hc
  go_wp2_with fail
  refine (cdecode_long s v3 (by omega) hhi (HK.out.below L3.out HP.out)).mono ?_
  rintro e v4 ⟨v, rfl, hp, hb⟩
  rw [Y1.out] at hp ⊢
  simp only at hp ⊢
  obtain ⟨ka, kc, rfl, hk⟩ := hp.view
  have hx := (Below.refl v4.heap.size v4).alloc (Nat.le_refl _) (.cells #[.int .i64 q0, .slice ka l0.length kc] 32)
  have B4 := Lib.hid (Box.new v4 32 #[.int .i64 q0, .slice ka l0.length kc])
  have hbx := hb.trans (hx.mono hb.size)
  have B5 := Lib.hid (B3.out.keep hbx B3.out.lt)
  have L5 := Lib.hid (L3.out.trans (hbx.mono L3.out.size))
  have S5 := Lib.hid (S3.out.keep hbx)
  have K5 := Lib.hid (hk.keep hx)
  clear hb hp hx hbx hk B3 L3 S3 hlow hhi hs
  go_wp2_with fail
  generalize World.alloc v4 _ = v5 at *
  generalize v4.heap.size = gk at *
  have k0 := B4.out.cell 0 _ rfl
  have k1 := B4.out.cell 1 _ rfl
  have k2 := B5.out.cell 0 _ rfl
  have k3 := B5.out.cell 1 _ rfl
  have hd := (Below.refl v5.heap.size v5).drew
  have B6 := Lib.hid (B4.out.keep hd B4.out.lt)
  have B7 := Lib.hid (B5.out.keep hd B5.out.lt)
  have L7 := Lib.hid (L5.out.trans (hd.mono L5.out.size))
  have S7 := Lib.hid (S5.out.keep hd)
  have K7 := Lib.hid (K5.out.keep hd)
  have f1 : IntKind.i64.wrap (38 * (l0.length : Int)) = 38 * (l0.length : Int) := i64_small _ (by omega) (by have := Z3.out; omega)
  have f2 : IntKind.i64.wrap (41 + 38 * (l0.length : Int)) = 41 + 38 * (l0.length : Int) := i64_small _ (by omega) (by have := Z3.out; omega)
  have f3 : 41 + 38 * (l0.length : Int) ≤ (s.size : Int) := by have := HLOW.out; omega
  have F3 := Lib.hid f3
  clear hd B4 B5 L5 S5 K5 f3
  refine wp_region_tree (fun W => W.cell? ⟨gk, 0, none⟩ = some (.int .i64 q0) ∧ W.cell? ⟨gk, 1, none⟩ = some (.slice ka l0.length kc) ∧ W.cell? ⟨g, 0, none⟩ = some (.int .i64 q0) ∧ W.cell? ⟨g, 1, none⟩ = some (.slice x0 l0.length c0)) 25 (.quiet 0 (.quiet 1 (.quiet 2 (.quiet 3 (.quiet 4 (.quiet 5 (.quiet 6 (.quiet 7 (.quiet 9 (.quiet 10 (.make 8 (.make 11 (.quiet 12 (.quiet 13 (.quiet 14 (.quiet 15 (.quiet 16 (.quiet 17 (.quiet 18 (.quiet 19 (.quiet 20 (.quiet 21 (.quiet 22 (.quiet 23 (.quiet 24 .nil))))))))))))))))))))))))) (by kernel_rfl) (by kernel_rfl) ⟨k0, k1, k2, k3⟩ ?_
  simp only [List.drop_succ_cons, List.drop_zero]
  clear k0 k1 k2 k3
  iterate 10 (apply wpTr_step rfl; (intro W hS K hK; obtain ⟨z0, z1, z2, z3⟩ := hS; go_simp; exact hK _ rfl))
  refine wpTr_make rfl (fun K' hK => ?_)
  go_simp
  refine (ctold_any ka kc l0 _ K7.out (by omega)).mono ?_
  rintro e v8 ⟨v, rfl, hp, hb⟩
  obtain ⟨ta, tc, rfl, ht⟩ := hp.view
  have B8 := Lib.hid (B6.out.keep hb B6.out.lt)
  have B9 := Lib.hid (B7.out.keep hb B7.out.lt)
  have L9 := Lib.hid (L7.out.trans (hb.mono L7.out.size))
  have S9 := Lib.hid (S7.out.keep hb)
  have T9 := Lib.hid ht
  clear ht hp hb B6 B7 L7 S7 K7
  refine hK _ _ _ (fun _ h => h) ⟨B8.out.cell 0 _ rfl, B8.out.cell 1 _ rfl, B9.out.cell 0 _ rfl, B9.out.cell 1 _ rfl⟩ ?_
  clear hK K'
  refine wpTr_make rfl (fun K' hK => ?_)
  go_simp
  refine (csame_any ta x0 tc c0 l0 l0 _ (by omega) (by omega) T9.out S9.out).mono ?_
  rintro e v10 ⟨rfl, hb⟩
  rw [decide_eq_true rfl]
  have B10 := Lib.hid (B8.out.keep hb B8.out.lt)
  have B11 := Lib.hid (B9.out.keep hb B9.out.lt)
  have L11 := Lib.hid (L9.out.trans (hb.mono L9.out.size))
  clear hb B8 B9 L9 S9 T9
  refine hK _ _ _ (fun _ h => h) ⟨B10.out.cell 0 _ rfl, B10.out.cell 1 _ rfl, B11.out.cell 0 _ rfl, B11.out.cell 1 _ rfl⟩ ?_
  clear hK K' B10 B11
  have f3 : decide (41 + 38 * (l0.length : Int) ≤ (s.size : Int)) = true := decide_eq_true F3.out
  iterate 13 (apply wpTr_step rfl; (intro W hS K hK; obtain ⟨z0, z1, z2, z3⟩ := hS; go_simp; exact hK _ rfl))
  refine wpTr_nil ?_
  go_wp2_with fail
  refine (clive_any _ (HK.out.below L11.out HP.out)).mono ?_
  rintro e vz ⟨rfl, hb⟩
  have LZ := Lib.hid (L11.out.trans (hb.mono L11.out.size))
  clear hb
  go_wp2
  go_ret
  exact ⟨rfl, LZ.out⟩
end Go.Proofs.YtljjcchdhnficaaDoor.clogBack

namespace Go.Proofs.YtljjcchdhnficaaDoor
open Go.ChangeShapes Go.WideShapes Go.ChangeAt Go.RowKit

theorem gRoots : Tryd.prog.globalNamed (Rows.clogEncodesRow.named.headD "") = some 0 := by kernel_rfl
theorem gRootsType : (Tryd.prog.globals[0]?).map (·.type) = some 111 := by kernel_rfl
theorem cells32 : Tryd.prog.cellsOf 92 = 1 := by kernel_rfl
theorem cells64 : Tryd.prog.cellsOf 111 = 64 := by kernel_rfl

def kInts : List Int := kTab.map Int.ofNat

theorem door_met (os : Os) (args : Array Value) : laidMetH Tryd.prog Rows.clogEncodesRow.laid ((World.doorLaid Tryd.prog 400 os).forCall (fun _ _ => 0) ⟨#[], args, []⟩).memory :=
  laidMetH_of_parts3 (fuel := 8) (laidMet_of_run' 8 (by kernel_rfl) (by kernel_rfl)) (by kernel_rfl) (by kernel_rfl)

theorem laid_tab : Rows.clogEncodesRow.laid = [(Rows.clogEncodesRow.named.headD "", Lib.tabData .u32 kInts)] := rfl

theorem kt_of_laid {W : World} (h : laidMetH Tryd.prog Rows.clogEncodesRow.laid W) : Kt W := by
  rw [MakeChecks.laidMetH_plain _ _ _ (by kernel_rfl), laid_tab] at h
  have hT := Lib.tabIs_of_head gRoots gRootsType Tryd.underlying111 Tryd.underlying92 cells32 cells64 h
  intro t ht
  have hl : t < kTab.length := by show t < 64; exact ht
  have hc := hT.cell gRoots t (by simpa [kInts] using hl)
  rw [hc]
  congr 2
  simp [kInts, List.getD, List.getElem?_eq_getElem hl]
end Go.Proofs.YtljjcchdhnficaaDoor
