/-
  Texts put together: Open, OpenFed, SePlain.
-/
import Derived.Test.YtopinlnjdgedeaaDoorMg0
import Derived.Test.YtopinlnjdgedeaaDoorMg39
namespace Go.Proofs.YtopinlnjdgedeaaDoor
open Go.ChangeShapes Go.WideShapes Go.ChangeAt Go.RowKit

/-- A slice that came in, of elements of n cells each. -/
def SlE {α : Type} (w : World) (n : Nat) (E : List Value → α → Prop) (a : Option Addr) (l : List α) : Prop :=
  l ≠ [] → ∃ b off, a = some ⟨b, off, none⟩ ∧ b < w.heap.size ∧
    ∀ i x, l[i]? = some x → ∃ cs, cs.length = n ∧ E cs x ∧ ∀ j u, cs[j]? = some u → w.cell? ⟨b, off + i * n + j, none⟩ = some u

theorem SlE.nil {α : Type} {w : World} {n : Nat} {E : List Value → α → Prop} {a : Option Addr} : SlE w n E a ([] : List α) := fun h => absurd rfl h

section
variable {H : Type} {enc : TypeId × Value → H} {P : Program} {w : World}

theorem open_slE {α : Type} [Inhabited α] {t e : TypeId} {n : Nat} {spare : Nat → Bool} {held : Bool} {fuel : Nat} {cs : List Value} {x : DataW H × List MemPlace}
    (E : List Value → α → Prop) (ht : P.underlying t = some (.slice e)) (hn : P.cellsOf e = n) (h0 : 0 < n)
    (hE : ∀ fuel cs x, DataW.trod enc P w 0 spare held fuel e cs = some x → ∃ y, E cs y)
    (h : DataW.trod enc P w 0 spare held fuel t cs = some x) :
    ∃ a cap, ∃ l : List α, cs = [.slice a l.length cap] ∧ SlE w n E a l ∧ l.length ≤ maxLen := by
  rcases Go.Deep.open_slice ht h with ⟨rfl, _⟩ | ⟨a, len, cap, m, k, D, Pl, rfl, _, hl, hm, hmm, _, hx⟩
  · exact ⟨none, 0, [], rfl, SlE.nil, Nat.zero_le _⟩
  · have hlm : len ≤ m := by rw [hmm]; split <;> omega
    rw [hn] at hx
    have each : ∀ i, i < len → ∃ q : List Value × α, q.1.length = n ∧ E q.1 q.2 ∧ ∀ j u, q.1[j]? = some u → w.cell? (a.add (i * n + j)) = some u := by
      intro i hi
      obtain ⟨cs', h1, h2⟩ := hx i (by omega)
      obtain ⟨_, hlen, hcell⟩ := World.cells?_some h1
      obtain ⟨y, hy⟩ := hE _ _ _ h2
      refine ⟨(cs', y), hlen, hy, fun j u hj => ?_⟩
      have hjl : j < n := by
        rcases Nat.lt_or_ge j n with h | h
        · exact h
        · rw [List.getElem?_eq_none (by simp only; omega)] at hj; cases hj
      have := hcell j hjl
      rw [Go.Deep.add_add] at this
      rw [this]; exact hj
    haveI : Inhabited (List Value × α) := ⟨([], default)⟩
    obtain ⟨q, hq⟩ := Go.Deep.choose_lt each
    refine ⟨some a, cap, (List.range len).map fun i => (q i).2, by simp, fun hne => ?_, by simp; omega⟩
    have hpos : 0 < len := by
      rcases Nat.eq_zero_or_pos len with h | h
      · subst h; exact absurd rfl hne
      · exact h
    obtain ⟨b, off, spot⟩ := a
    have hc0 : ∃ u, w.cell? ((⟨b, off, spot⟩ : Addr).add (0 * n + 0)) = some u := by
      have h1 := (hq 0 hpos).1
      have h2 : 0 < (q 0).1.length := by omega
      exact ⟨_, (hq 0 hpos).2.2 0 _ (List.getElem?_eq_getElem h2)⟩
    obtain ⟨u, hu⟩ := hc0
    have hspot : spot = none := by simpa [Addr.add] using World.cell?_spot hu
    subst hspot
    refine ⟨b, off, rfl, ?_, fun i y hy => ?_⟩
    · rw [add_plain] at hu
      exact lt_of_cell hu
    · have hi : i < len := by
        rcases Nat.lt_or_ge i len with h | h
        · exact h
        · rw [List.getElem?_eq_none (by simp; omega)] at hy; cases hy
      rw [List.getElem?_map, List.getElem?_range hi] at hy
      simp only [Option.map_some, Option.some.injEq] at hy
      subst hy
      refine ⟨(q i).1, (hq i hi).1, (hq i hi).2.1, fun j u hj => ?_⟩
      rw [Nat.add_assoc, ← add_plain]
      exact (hq i hi).2.2 j u hj

/-- Two ints. -/
def PairI (cs : List Value) (x : Int × Int) : Prop := cs = [.int .i64 x.1, .int .i64 x.2] ∧ (Lit.int .i64 x.1).wf = true ∧ (Lit.int .i64 x.2).wf = true

theorem open_pairI {t t0 t1 : TypeId} {f0 f1 : Field} {spare : Nat → Bool} {held : Bool} {fuel : Nat} {cs : List Value} {x : DataW H × List MemPlace}
    (ht : P.underlying t = some (.struct #[f0, f1])) (hc : P.cellsOf t = 2) (o0 : f0.offset = 0) (o1 : f1.offset = 1) (e0 : f0.type = t0) (e1 : f1.type = t1)
    (c0 : P.cellsOf t0 = 1) (c1 : P.cellsOf t1 = 1) (u0 : P.underlying t0 = some (.int .i64)) (u1 : P.underlying t1 = some (.int .i64))
    (h : DataW.trod enc P w 0 spare held fuel t cs = some x) : ∃ y, PairI cs y := by
  obtain ⟨y0, y1, n, _, hl, h0, h1⟩ := trod_struct2 ht h
  rw [hc] at hl
  rw [o0, e0, c0] at h0
  rw [o1, e1, c1] at h1
  match cs, hl with
  | [v0, v1], _ =>
    obtain ⟨a, ha, _, wa⟩ := DataW.trod_int u0 h0
    obtain ⟨b, hb, _, wb⟩ := DataW.trod_int u1 h1
    simp at ha hb
    exact ⟨(a, b), by simp [ha, hb], wa, wb⟩
end
end Go.Proofs.YtopinlnjdgedeaaDoor

namespace Go.Proofs.YtopinlnjdgedeaaDoor
open Go.ChangeShapes Go.WideShapes Go.ChangeAt Go.RowKit

theorem cellsStr : Tryd.prog.cellsOf 9 = 1 := by kernel_rfl
theorem cellsFed : Tryd.prog.cellsOf 31 = 2 := by kernel_rfl

/-- A key, and a text. -/
abbrev FdD := ByteArray × ByteArray
def FdK (cs : List Value) (x : FdD) : Prop := cs = [.string x.1, .string x.2]

section
variable {H : Type} {enc : TypeId × Value → H} {w : World}
set_option maxRecDepth 100000 in
theorem open_fed {held : Bool} {fuel : Nat} {cs : List Value} {x : DataW H × List MemPlace} (h : DataW.trod enc Tryd.prog w 0 (fun _ => true) held fuel 31 cs = some x) : ∃ y, FdK cs y := by
  obtain ⟨xs, n, _, _, hl, hlen, hfield⟩ := DataW.trod_struct Tryd.underlying31 h
  rw [cellsFed] at hl
  have g0 : DataW.trod enc Tryd.prog w 0 _ _ n 9 ((cs.drop 0).take (Tryd.prog.cellsOf 9)) = xs[0]? := hfield 0 _ rfl
  have g1 : DataW.trod enc Tryd.prog w 0 _ _ n 9 ((cs.drop 1).take (Tryd.prog.cellsOf 9)) = xs[1]? := hfield 1 _ rfl
  rw [cellsStr] at g0
  rw [cellsStr] at g1
  have hlen2 : xs.length = 2 := hlen
  match cs, hl, xs, hlen2 with
  | [v0, v1], _, [x0, x1], _ =>
    obtain ⟨b, e0, _, _⟩ := DataW.trod_string Tryd.underlying9 g0
    obtain ⟨t, e1, _, _⟩ := DataW.trod_string Tryd.underlying9 g1
    simp at e0 e1
    exact ⟨(b, t), by simp [FdK, e0, e1]⟩

set_option maxRecDepth 100000 in
theorem open_feds {base : Nat} {v : Value} {d : DataW H} {ps : List MemPlace} (hw : Value.okWide Tryd.prog w .any base 22 v) (h : DataW.Trod enc Tryd.prog w 0 (fun _ => true) true 22 v d ps) :
    ∃ a cap, ∃ l : List FdD, v = .slice a l.length cap ∧ SlE w 2 FdK a l ∧ l.length ≤ maxLen := by
  obtain ⟨a0, len, cap, rfl⟩ := okWide_slice Tryd.underlying22 hw
  obtain ⟨fuel, hf⟩ := h
  obtain ⟨a, cap', l, e, hs, hm⟩ := open_slE (n := 2) FdK Tryd.underlying22 cellsFed (by decide) (fun _ _ _ h => open_fed h) hf
  simp [Value.cells] at e
  obtain ⟨rfl, rfl, rfl⟩ := e
  exact ⟨_, _, l, rfl, hs, hm⟩
end
/-- The cells of the i-th call, in any world behind. -/
theorem SlE.fed {w w' : World} {a : Option Addr} {l : List FdD} (h : SlE w 2 FdK a l) (hb : Below w.heap.size w w') (i : Nat) (hi : i < l.length) : ∃ b off, a = some ⟨b, off, none⟩ ∧ b < w.heap.size ∧
    w'.cell? ⟨b, off + i * 2, none⟩ = some (.string l[i].1) ∧ w'.cell? ⟨b, off + i * 2 + 1, none⟩ = some (.string l[i].2) := by
  obtain ⟨b, off, e, hl, hc⟩ := h (by intro h; rw [h] at hi; simp at hi)
  obtain ⟨cs, _, hk, hcell⟩ := hc i l[i] (List.getElem?_eq_getElem hi)
  unfold FdK at hk
  subst hk
  exact ⟨b, off, e, hl, (hb.cell (p := ⟨b, off + i * 2, none⟩) hl).trans (hcell 0 _ rfl), (hb.cell (p := ⟨b, off + i * 2 + 1, none⟩) hl).trans (hcell 1 _ rfl)⟩
end Go.Proofs.YtopinlnjdgedeaaDoor

namespace Go.Proofs.YtopinlnjdgedeaaDoor
open Go Go.RowKit Go.ChangeShapes Go.WideShapes Go.ChangeAt

theorem keyF_at {l : List FdD} {i : Nat} (h : i < l.length) : keyF l i = (l[i]).1 ∧ txtF l i = (l[i]).2 := by
  unfold keyF txtF
  rw [List.getD, List.getElem?_eq_getElem h]
  exact ⟨rfl, rfl⟩
/-- The first i may be fed, and have keys of their own. -/
def PlK (l : List FdD) (i : Nat) : Prop := ∀ a, a < i → mayF (keyF l a) (txtF l a) ∧ ∀ b, b < a → keyF l b ≠ keyF l a
theorem plk_ok {l : List FdD} (h : PlK l l.length) (hl : l.length ≤ 30) : FedOk l := by
  refine ⟨fun i hi => (h i hi).1, fun i j hi hj e => ?_, by omega⟩
  rcases Nat.lt_trichotomy i j with h1 | h1 | h1
  · exact absurd e ((h j hj).2 i h1)
  · exact h1
  · exact absurd e.symm ((h i hi).2 j h1)
def PlRes (l : List FdD) (e : Ending) : Prop := ∃ r : Bool, e = .returned (.bool r) ∧ (r = true → FedOk l ∧ l.length ≤ 30)
theorem list_eqF {a b : ByteArray} (h : a ≠ b) : (a.toList == b.toList) = false := by
  rw [beq_eq_false_iff_ne]
  intro e
  apply h
  rw [ByteArray.toList_eq, ByteArray.toList_eq] at e
  exact ByteArray.ext (Array.toList_inj.1 e)
theorem wrap_next {i n : Nat} (h : i < n) (hn : n ≤ maxLen) : wrap64 ((i : Int) + 1) = i + 1 := IntWalk.wrap64_in _ (by unfold maxLen at hn; omega)

set_option maxRecDepth 100000 in
set_option maxHeartbeats 2000000 in
theorem plain_any (x : Option Addr) (c : Nat) (l : List FdD) (w : World) (hs : SlE w 2 FdK x l) (hm : l.length ≤ maxLen) :
    Calls Tryd.prog 7 #[.slice x l.length c] w fun e w' => PlRes l e ∧ Below w.heap.size w w' := by
  have HS := Lib.hid hs
  have HM := Lib.hid hm
  clear hs hm
  go_enter Tryd.func7, Tryd.ntmps7
  go_wp2
  go_loopw [3] (fun iv wr => ∃ i : Nat, i ≤ l.length ∧ iv = .int .i64 i ∧ Hid (Below w.heap.size w wr) ∧ Hid (PlK l i)) (fun iv _ => l.length - (RowKit.intOf iv).toNat)
  case atStart => exact ⟨0, Nat.zero_le _, rfl, Below.refl _ _, fun a h => absurd h (Nat.not_lt_zero a)⟩
  case round =>
    obtain ⟨i, hi, rfl, HB, HP⟩ := hrel
    by_cases hlt : i < l.length
    · obtain ⟨b, off, rfl, hb, c0, c1⟩ := HS.out.fed HB.out i hlt
      have hw1 := wrap_next hlt HM.out
      have hki := keyF_at hlt
      have HLT := Lib.hid hlt
      have hi0 : (0 : Int) ≤ (i : Int) := by omega
      have hil : (i : Int) < (l.length : Int) := by omega
      rw [← hki.1] at c0
      rw [← hki.2] at c1
      clear hki hlt hb
      by_cases k1 : (keyF l i).size < 1
      · have d1 : ((keyF l i).size : Int) < 1 := by omega
        clear k1
        go_wp2
        go_ret
        exact ⟨⟨_, rfl, fun h => by cases h⟩, HB.out⟩
      · by_cases k2 : 60 < (keyF l i).size
        · have d1 : ¬ ((keyF l i).size : Int) < 1 := by omega
          have d2 : (60 : Int) < ((keyF l i).size : Int) := by omega
          clear k1 k2
          go_wp2
          go_ret
          exact ⟨⟨_, rfl, fun h => by cases h⟩, HB.out⟩
        · by_cases k3 : 960 < (txtF l i).size
          · have d1 : ¬ ((keyF l i).size : Int) < 1 := by omega
            have d2 : ¬ (60 : Int) < ((keyF l i).size : Int) := by omega
            have d3 : (960 : Int) < ((txtF l i).size : Int) := by omega
            clear k1 k2 k3
            go_wp2
            go_ret
            exact ⟨⟨_, rfl, fun h => by cases h⟩, HB.out⟩
          · have d1 : ¬ ((keyF l i).size : Int) < 1 := by omega
            have d2 : ¬ (60 : Int) < ((keyF l i).size : Int) := by omega
            have d3 : ¬ (960 : Int) < ((txtF l i).size : Int) := by omega
            have HMAY : Hid (mayF (keyF l i) (txtF l i)) := ⟨by omega, by omega, by omega⟩
            clear k1 k2 k3
            go_wp2
            rename_i hj hK hc
            clear d1 d2 d3
            go_loopw [4] (fun kv wr => ∃ k : Nat, k ≤ i ∧ kv = .int .i64 k ∧ Hid (Below w.heap.size w wr) ∧ Hid (∀ b, b < k → keyF l b ≠ keyF l i)) (fun kv _ => i - (RowKit.intOf kv).toNat)
            case atStart => exact ⟨0, Nat.zero_le _, rfl, HB, fun a h => absurd h (Nat.not_lt_zero a)⟩
            case round =>
              clear HB
              obtain ⟨k, hk, rfl, HB, HN⟩ := hrel
              by_cases hkl : k < i
              · obtain ⟨bk, offk, ek, hbk, ck0, ck1⟩ := HS.out.fed HB.out k (by have := HLT.out; omega)
                injection ek with ek
                injection ek with ek1 ek2 _
                subst ek1
                subst ek2
                have hkk := keyF_at (l := l) (i := k) (by have := HLT.out; omega)
                rw [← hkk.1] at ck0
                have hw2 : wrap64 ((k : Int) + 1) = k + 1 := wrap_next hkl (Nat.le_trans hi HM.out)
                have HKL := Lib.hid hkl
                have hk0 : (0 : Int) ≤ (k : Int) := by omega
                have hkI : (k : Int) < (i : Int) := by omega
                have hkl2 : (k : Int) < (l.length : Int) := by have := HLT.out; omega
                have ci0 : wr.cell? ⟨b, off + i * 2, none⟩ = some (.string (keyF l i)) := by
                  obtain ⟨b3, off3, e3, _, c3, _⟩ := HS.out.fed HB.out i HLT.out
                  injection e3 with e3
                  injection e3 with e31 e32 _
                  subst e31
                  subst e32
                  rw [(keyF_at HLT.out).1]
                  exact c3
                have HBD : Hid (Below w.heap.size w wr.drew) := HB.out.drew
                clear hkk ck1 hbk c0 c1 hkl
                by_cases he : keyF l k = keyF l i
                · have d1 : ((keyF l k).toList == (keyF l i).toList) = true := by rw [he]; exact beq_self_eq_true _
                  clear he
                  go_wp2_with fail
                  refine wp_region_tree (fun W => W.cell? ⟨b, off + k * 2, none⟩ = some (.string (keyF l k)) ∧ W.cell? ⟨b, off + i * 2, none⟩ = some (.string (keyF l i))) 10 (.quiet 0 (.quiet 1 (.quiet 2 (.quiet 3 (.quiet 4 (.quiet 5 (.quiet 6 (.quiet 7 (.quiet 8 (.quiet 9 .nil)))))))))) (by kernel_rfl) (by kernel_rfl) ⟨ck0, ci0⟩ ?_
                  simp only [List.drop_succ_cons, List.drop_zero]
                  iterate 10 (apply wpTr_step rfl; (intro W hS K hK; obtain ⟨r1, r2⟩ := hS; go_simp; exact hK _ rfl))
                  refine wpTr_nil ?_
                  go_wp2
                  go_ret
                  exact ⟨⟨_, rfl, fun h => by cases h⟩, HBD.out⟩
                · have d1 := list_eqF he
                  have HNX : Hid (∀ b, b < k + 1 → keyF l b ≠ keyF l i) := fun a ha => by
                    by_cases e : a = k
                    · rw [e]; exact he
                    · exact HN.out a (by omega)
                  clear he
                  go_wp2_with fail
                  refine wp_region_tree (fun W => W.cell? ⟨b, off + k * 2, none⟩ = some (.string (keyF l k)) ∧ W.cell? ⟨b, off + i * 2, none⟩ = some (.string (keyF l i))) 10 (.quiet 0 (.quiet 1 (.quiet 2 (.quiet 3 (.quiet 4 (.quiet 5 (.quiet 6 (.quiet 7 (.quiet 8 (.quiet 9 .nil)))))))))) (by kernel_rfl) (by kernel_rfl) ⟨ck0, ci0⟩ ?_
                  simp only [List.drop_succ_cons, List.drop_zero]
                  iterate 10 (apply wpTr_step rfl; (intro W hS K hK; obtain ⟨r1, r2⟩ := hS; go_simp; exact hK _ rfl))
                  refine wpTr_nil ?_
                  go_wp2
                  go_roundw
                  case rel => exact ⟨k + 1, HKL.out, by rw [hw2]; rfl, HBD, HNX⟩
                  case measure => exact meas_lt HKL.out hw2
              · obtain rfl : k = i := by omega
                have HPX : Hid (PlK l (k + 1)) := fun a ha => by
                  by_cases e : a = k
                  · subst e; exact ⟨HMAY.out, HN.out⟩
                  · exact HP.out a (by omega)
                clear c0 c1
                go_wp2
                go_roundw
                case rel => exact ⟨k + 1, HLT.out, by rw [hw1]; rfl, HB, HPX⟩
                case measure => exact meas_lt HLT.out hw1
    · obtain rfl : i = l.length := by omega
      by_cases hl : l.length ≤ 30
      · have d1 : ((l.length : Nat) : Int) ≤ 30 := by omega
        have HOK := Lib.hid (And.intro (plk_ok HP.out hl) hl)
        clear hl
        go_wp2
        go_ret
        exact ⟨⟨_, rfl, fun _ => HOK.out⟩, HB.out⟩
      · have d1 : ¬ ((l.length : Nat) : Int) ≤ 30 := by omega
        clear hl
        go_wp2
        go_ret
        exact ⟨⟨_, rfl, fun h => by simp at h⟩, HB.out⟩
end Go.Proofs.YtopinlnjdgedeaaDoor
