/-
  Texts put together: PairsT, PairsMore, PairsIdx, BlkA.
-/
import Derived.Test.YtonkmffipjdhkaaDoorMg9
import Derived.Test.YtonkmffipjdhkaaDoorMg0
import Derived.Test.YtonkmffipjdhkaaDoorMg2
import Derived.Deep.RegionLaw
import Derived.Maps.AppendAt
import Derived.Deep.Upon
import Derived.Lib.AppendZeros
import Derived.Deep.Onto
import Derived.Deep.AppendSrc
import Derived.Test.YtonkmffipjdhkaaDoorPtrCheck2
import Derived.Lib.SliceRun
import Derived.Test.YtonkmffipjdhkaaDoorFinish
namespace Go.Proofs.YtonkmffipjdhkaaDoor
open Go.RowKit

def PrVT (x : Int × Int) : List Value := [.int .i64 x.1, .int .i64 x.2]
/-- A type of two ints. -/
def TwoT (e : TypeId) : Prop := (Tryd.prog.info? e).map (fun i => (i.zero, i.size, i.bytes)) = some (some (.agg #[.int .i64 0, .int .i64 0]), 2, 16)

/-- The value v is a slice of the call's own that holds the pairs l. -/
def PrsT (e : TypeId) (w : World) (base : Nat) (v : Value) (l : List (Int × Int)) : Prop := w.ownsRow base e 2 v l.length (l.flatMap PrVT)
theorem PrsT.nil (e : TypeId) (w : World) (base : Nat) : PrsT e w base (.slice none 0 0) [] := World.ownsRow_nil _ _ _ _
theorem PrsT.base {e : TypeId} {w : World} {b b' : Nat} {v : Value} {l : List (Int × Int)} (h : PrsT e w b v l) (hb : b' ≤ b) : PrsT e w b' v l := by
  refine ⟨h.1, ?_⟩
  rcases h.2 with h | ⟨g, cap, cur, h1, h2, h3⟩
  · exact .inl h
  · exact .inr ⟨g, cap, cur, h1, Nat.le_trans hb h2, h3⟩
theorem PrsT.keep {e : TypeId} {w w' : World} {base : Nat} {v : Value} {l : List (Int × Int)} (h : PrsT e w base v l) (hb : Below w.heap.size w w') : PrsT e w' base v l :=
  ownsRow_of h fun k _ hlt => hb.block k hlt
theorem PrsT.view {e : TypeId} {w : World} {base : Nat} {v : Value} {l : List (Int × Int)} (h : PrsT e w base v l) :
    (v = .slice none 0 0 ∧ l = []) ∨ ∃ g cap, v = .slice (some ⟨g, 0, none⟩) l.length cap ∧ l.length ≤ cap ∧ cap ≤ maxLen ∧ base ≤ g ∧ g < w.heap.size ∧ ∀ j u, (l.flatMap PrVT)[j]? = some u → w.cell? ⟨g, j, none⟩ = some u := by
  have h' := h
  rcases h.2 with ⟨rfl, h0⟩ | ⟨g, cap, cur, rfl, hg, hh, hc, hm, _⟩
  · exact .inl ⟨rfl, List.eq_nil_of_length_eq_zero h0⟩
  · refine .inr ⟨g, cap, rfl, hc, hm, hg, lt_of_block hh, fun j u hj => ?_⟩
    have hlt : j < (l.flatMap PrVT).length := (List.getElem?_eq_some_iff.1 hj).1
    rw [World.ownsRow.cellAt h' j (by rw [h.1] at hlt; exact hlt)]
    exact hj
theorem slP_flatT {w : World} {g : Nat} {l : List (Int × Int)} (hlt : g < w.heap.size) (h : ∀ j u, (l.flatMap PrVT)[j]? = some u → w.cell? ⟨g, j, none⟩ = some u) : SlP w (some ⟨g, 0, none⟩) l := by
  intro _
  refine ⟨g, 0, rfl, hlt, fun i x hx => ?_⟩
  have h0 := flat_get PrVT 2 (fun _ => rfl) l i x hx 0 (by decide)
  have h1 := flat_get PrVT 2 (fun _ => rfl) l i x hx 1 (by decide)
  constructor
  · rw [Nat.zero_add]; exact h _ _ h0
  · rw [Nat.zero_add]; exact h _ _ h1
theorem PrsT.slP {e : TypeId} {w : World} {base : Nat} {v : Value} {l : List (Int × Int)} (h : PrsT e w base v l) : ∃ a cap, v = .slice a l.length cap ∧ l.length ≤ cap ∧ cap ≤ maxLen ∧ SlP w a l := by
  rcases h.view with ⟨rfl, rfl⟩ | ⟨g, cap, rfl, hc, hm, _, hlt, hcell⟩
  · exact ⟨none, 0, rfl, Nat.le_refl _, Nat.zero_le _, SlP.nil⟩
  · exact ⟨some ⟨g, 0, none⟩, cap, rfl, hc, hm, slP_flatT hlt hcell⟩
/-- A slice's cells, from its k-th element on. -/
theorem SlP.cells {w : World} {a : Option Addr} {l : List (Int × Int)} (h : SlP w a l) (hne : l ≠ []) : ∃ b off, a = some ⟨b, off, none⟩ ∧ b < w.heap.size ∧ ∀ j u, (l.flatMap PrVT)[j]? = some u → w.cell? ⟨b, off + j, none⟩ = some u := by
  obtain ⟨b, off, rfl, hlt, hc⟩ := h hne
  refine ⟨b, off, rfl, hlt, fun j u hj => ?_⟩
  have hlen := flat_len PrVT 2 (fun _ => rfl) l
  have hj' : j < l.length * 2 := by rw [← hlen]; exact (List.getElem?_eq_some_iff.1 hj).1
  have hi : j / 2 < l.length := by omega
  have hx := List.getElem?_eq_getElem hi
  have hm : j = j / 2 * 2 + j % 2 := by omega
  have hf := flat_get PrVT 2 (fun _ => rfl) l (j / 2) _ hx (j % 2) (by omega)
  rw [← hm, hj] at hf
  have h2 := hc (j / 2) _ hx
  rcases (show j % 2 = 0 ∨ j % 2 = 1 by omega) with e | e
  · rw [e] at hf hm
    simp [PrVT] at hf
    rw [hm, hf, Nat.add_zero, h2.1]
  · rw [e] at hf hm
    simp [PrVT] at hf
    rw [hm, hf, ← Nat.add_assoc, h2.2]
/-- A box of pairs is a row. -/
theorem PrsT.box {e : TypeId} {w : World} {g : Nat} {l : List (Int × Int)} (base : Nat) (h : Box w g e (l.flatMap PrVT).toArray) (hb : base ≤ g) (hm : l.length ≤ maxLen) : PrsT e w base (.slice (some ⟨g, 0, none⟩) l.length l.length) l := by
  have hlen := flat_len PrVT 2 (fun _ => rfl) l
  refine ⟨hlen, .inr ⟨g, l.length, _, rfl, hb, h, Nat.le_refl _, hm, by simpa using hlen, ?_⟩⟩
  rw [← hlen]
  exact List.take_of_length_le (Nat.le_refl _)

/-- 'append(out, x...)' of pairs. -/
theorem wp_prsT_app {t e : TypeId} (ht : Tryd.prog.underlying t = some (.slice e)) (he : TwoT e) {ops : Array Oper} {rest : List Oper} {o : Oper} {a : Act} {Q : Exit → Act → World → Prop} (W : World) (hgd : o.guard = none) (s x : Operand)
    (ho : o.op = .call { callee := .builtin .append, args := #[s, x], argTypes := #[t, t] })
    (base : Nat) (v : Value) (l : List (Int × Int)) (hs : a.eval s = v) (hb : PrsT e W base v l)
    (ad : Addr) (c : Nat) (ps : List (Int × Int)) (hx : a.eval x = .slice (some ad) ps.length c) (hcell : ∀ j u, (ps.flatMap PrVT)[j]? = some u → W.cell? (ad.add j) = some u)
    (hbytes : l.length + ps.length ≤ 100000) (hbase : base ≤ W.heap.size)
    (h : ∀ v' w', PrsT e w' base v' (l ++ ps) → W.grownBy w' v.ownBlock → wpList Tryd.prog ops Q rest (a.put o.dst v') w') : wpList Tryd.prog ops Q (o :: rest) a W := by
  obtain ⟨i0, hi, hz0, hz1, hz2⟩ := info_parts he
  refine wpList_append_own W hgd s x t ho base e i0 (.agg #[.int .i64 0, .int .i64 0]) 2 16 ht hi hz0 hz1 hz2 rfl (by decide) v l.length _ hs hb ad ps.length c (ps.flatMap PrVT) hx (flat_len PrVT 2 (fun _ => rfl) ps) hcell ?_ (by unfold maxLen; omega) (by omega) hbase ?_
  · intro u hu
    simp only [List.mem_flatMap] at hu
    obtain ⟨y, _, hy⟩ := hu
    simp [PrVT] at hy
    rcases hy with rfl | rfl <;> rfl
  · intro v' w' h1 h2 _
    refine h v' w' ?_ h2
    unfold PrsT
    rw [List.flatMap_append, List.length_append]
    exact h1
theorem step_prsT_app {t e : TypeId} (ht : Tryd.prog.underlying t = some (.slice e)) (he : TwoT e) {ops : Array Oper} {o : Oper} {a : Act} {W : World} {K : Act → World → Prop} {Q : Exit → Act → World → Prop} {E : Prop} (hgd : o.guard = none) (s x : Operand)
    (ho : o.op = .call { callee := .builtin .append, args := #[s, x], argTypes := #[t, t] })
    (base : Nat) (v : Value) (l : List (Int × Int)) (hs : a.eval s = v) (hb : PrsT e W base v l)
    (ad : Addr) (c : Nat) (ps : List (Int × Int)) (hx : a.eval x = .slice (some ad) ps.length c) (hcell : ∀ j u, (ps.flatMap PrVT)[j]? = some u → W.cell? (ad.add j) = some u)
    (hbytes : l.length + ps.length ≤ 100000) (hbase : base ≤ W.heap.size)
    (h : ∀ v' w', PrsT e w' base v' (l ++ ps) → W.grownBy w' v.ownBlock → K (a.put o.dst v') w') :
    if Region.wanted o (yielded ops a.tmps) = true then Oper.wp Tryd.prog o a W K Q else E := by
  have hw : Region.wanted o (yielded ops a.tmps) = true := by simp [Region.wanted, hgd]
  rw [if_pos hw]
  obtain ⟨i0, hi, hz0, hz1, hz2⟩ := info_parts he
  refine wp_append_own W s x t ho base e i0 (.agg #[.int .i64 0, .int .i64 0]) 2 16 ht hi hz0 hz1 hz2 rfl (by decide) v l.length _ hs hb ad ps.length c (ps.flatMap PrVT) hx (flat_len PrVT 2 (fun _ => rfl) ps) hcell ?_ (by unfold maxLen; omega) (by omega) hbase ?_
  · intro u hu
    simp only [List.mem_flatMap] at hu
    obtain ⟨y, _, hy⟩ := hu
    simp [PrVT] at hy
    rcases hy with rfl | rfl <;> rfl
  · intro v' w' h1 h2 _
    refine h v' w' ?_ h2
    unfold PrsT
    rw [List.flatMap_append, List.length_append]
    exact h1
theorem below_growT {w w' : World} {base : Nat} {e : TypeId} {v : Value} {l : List (Int × Int)} {a : World} (h : Below base a w) (hg : w.grownBy w' v.ownBlock) (hr : PrsT e w base v l) (hb : base ≤ w.heap.size) : Below base a w' :=
  h.grown hg hb fun k hk => (World.ownsRow.lt hr k hk).1
end Go.Proofs.YtonkmffipjdhkaaDoor

namespace Go.Proofs.YtonkmffipjdhkaaDoor
open Go.RowKit Go.ChangeShapes Go.WideShapes Go.ChangeAt

/-- 'append(v, x...)', x any row that lies in memory, an empty one too. -/
theorem wp_prsT_more {t e : TypeId} (ht : Tryd.prog.underlying t = some (.slice e)) (he : TwoT e) {ops : Array Oper} {rest : List Oper} {o : Oper} {a : Act} {Q : Exit → Act → World → Prop} (W : World) (hgd : o.guard = none) (s x : Operand)
    (ho : o.op = .call { callee := .builtin .append, args := #[s, x], argTypes := #[t, t] })
    (base : Nat) (v : Value) (l : List (Int × Int)) (hs : a.eval s = v) (hb : PrsT e W base v l)
    (xa : Option Addr) (c : Nat) (ps : List (Int × Int)) (hx : a.eval x = .slice xa ps.length c) (hsl : SlP W xa ps)
    (hbytes : l.length + ps.length ≤ 100000) (hbase : base ≤ W.heap.size)
    (h : ∀ v' w', PrsT e w' base v' (l ++ ps) → W.grownBy w' v.ownBlock → wpList Tryd.prog ops Q rest (a.put o.dst v') w') : wpList Tryd.prog ops Q (o :: rest) a W := by
  by_cases hne : ps = []
  · subst hne
    have hsrc : Src Tryd.prog 2 t (.slice xa 0 c) 0 [] W := by
      cases xa with
      | none => exact Src.ofNil W ht c
      | some ad => exact Src.ofSlice W ht ad 0 c [] rfl (fun j u hj => by simp at hj) (fun u hu => by cases hu)
    obtain ⟨i0, hi, hz0, hz1, hz2⟩ := info_parts he
    have hv : ∃ ba n cp, v = .slice ba n cp ∧ n ≤ cp := by
      rcases hb.view with ⟨rfl, _⟩ | ⟨g, cap, rfl, hc, _⟩
      · exact ⟨none, 0, 0, rfl, Nat.le_refl _⟩
      · exact ⟨_, _, _, rfl, hc⟩
    obtain ⟨ba, n, cp, rfl, hcp⟩ := hv
    have hr := run_append_nothing (P := Tryd.prog) W t t o.type e i0 ht hi ba n cp hcp (.slice xa 0 c) (by rw [hz1]; exact hsrc)
    refine wpList_plain hgd fun K hK => ?_
    unfold Oper.wp execOp
    have hx' : a.eval x = .slice xa 0 c := hx
    simp only [ho, resolve, invoke, builtin, Sem.run_bind, Sem.run_pure, Result.andThen_ok, List.map_toArray, List.map_cons, List.map_nil, hs, hx', hr]
    exact hK _ _ (h _ _ (by rw [List.append_nil]; exact hb) ⟨rfl, rfl, rfl, Nat.le_refl _, fun _ _ _ => rfl⟩)
  · obtain ⟨b, off, rfl, _, hcell⟩ := hsl.cells hne
    exact wp_prsT_app ht he W hgd s x ho base v l hs hb ⟨b, off, none⟩ c ps hx (fun j u hj => by rw [add_plain]; exact hcell j u hj) hbytes hbase h
end Go.Proofs.YtonkmffipjdhkaaDoor

namespace Go.Proofs.YtonkmffipjdhkaaDoor
open Go.RowKit

def idxP (P : Int × Int → Bool) (l : List (Int × Int)) : Int := match l.findIdx? P with | some i => (i : Int) | none => -1
theorem idx_at {P : Int × Int → Bool} {l : List (Int × Int)} {k : Nat} (h : ∀ x ∈ l.take k, P x = false) (hk : k < l.length) (hp : P l[k] = true) : idxP P l = k := by
  unfold idxP
  have : l.findIdx? P = some k := by
    rw [List.findIdx?_eq_some_iff_getElem]
    refine ⟨hk, hp, fun j hj => ?_⟩
    have := h l[j] (by rw [List.mem_take_iff_getElem]; exact ⟨j, by omega, rfl⟩)
    simp [this]
  rw [this]
theorem idx_no {P : Int × Int → Bool} {l : List (Int × Int)} (h : ∀ x ∈ l, P x = false) : idxP P l = -1 := by
  unfold idxP
  have : l.findIdx? P = none := by rw [List.findIdx?_eq_none_iff]; exact h
  rw [this]
theorem idx_any (P : Int × Int → Bool) (l : List (Int × Int)) : decide (0 ≤ idxP P l) = l.any P := by
  unfold idxP
  cases h : l.findIdx? P with
  | none =>
    rw [List.findIdx?_eq_none_iff] at h
    have : l.any P = false := by rw [List.any_eq_false]; intro x hx; simp [h x hx]
    rw [this]
    decide
  | some i =>
    rw [List.findIdx?_eq_some_iff_getElem] at h
    obtain ⟨hi, hp, _⟩ := h
    have : l.any P = true := List.any_eq_true.2 ⟨l[i], List.getElem_mem hi, hp⟩
    rw [this]
    simp
theorem step_no {P : Int × Int → Bool} {l : List (Int × Int)} {k : Nat} (h : ∀ x ∈ l.take k, P x = false) (hk : k < l.length) (hp : P l[k] = false) : ∀ x ∈ l.take (k + 1), P x = false := by
  rw [List.take_succ_eq_append_getElem hk]
  intro x hx
  rcases List.mem_append.1 hx with hx | hx
  · exact h x hx
  · rw [List.mem_singleton.1 hx]; exact hp
end Go.Proofs.YtonkmffipjdhkaaDoor

namespace Go.Proofs.YtonkmffipjdhkaaDoor
open Go.RowKit Go.ChangeShapes Go.WideShapes Go.ChangeAt

/-- A row of Locs that the call made, its block told. -/
def LocP (a : Option Addr) (l : List (Int × Int)) (G : List Nat) (w : World) : Prop :=
  (l = [] ∧ G = []) ∨ ∃ b off, a = some ⟨b, off, none⟩ ∧ G = [b] ∧ b < w.heap.size ∧ ∀ i x, l[i]? = some x → w.cell? ⟨b, off + i * 2, none⟩ = some (.int .i64 x.1) ∧ w.cell? ⟨b, off + i * 2 + 1, none⟩ = some (.int .i64 x.2)
theorem fixed_loc (a : Option Addr) (l : List (Int × Int)) : Fixed (LocP a l) := by
  refine ⟨?_, ?_⟩
  · rintro G S w1 w2 h hc hn
    rcases h with h | ⟨b, off, rfl, rfl, hlt, hx⟩
    · exact .inl h
    · have hb := hc.block b hlt (hn b (by simp))
      refine .inr ⟨b, off, rfl, rfl, Nat.lt_of_lt_of_le hlt hc.size, fun i x hi => ?_⟩
      rw [World.cell?_of_block (a := ⟨b, off + i * 2, none⟩) hb, World.cell?_of_block (a := ⟨b, off + i * 2 + 1, none⟩) hb]
      exact hx i x hi
  · rintro G w (⟨_, rfl⟩ | ⟨b, off, _, rfl, hlt, _⟩) k hk
    · cases hk
    · rw [List.mem_singleton] at hk; rw [hk]; exact hlt
theorem LocP.slP {a : Option Addr} {l : List (Int × Int)} {G : List Nat} {w : World} (h : LocP a l G w) : SlP w a l := by
  intro hne
  rcases h with ⟨h, _⟩ | ⟨b, off, e, _, hlt, hx⟩
  · exact absurd h hne
  · exact ⟨b, off, e, hlt, hx⟩
/-- What a call made joins. -/
theorem One.add {B : Nat} {P Q : List Nat → World → Prop} {b : Nat} {d : DevD} {w w' : World} (hP : Fixed P) (h : One B P b d w) (hb : Below w.heap.size w w') (hq : ∃ G, Q G w' ∧ ∀ k ∈ G, w.heap.size ≤ k) : One B (Both P Q) b d w' := by
  obtain ⟨G2, hq, hg⟩ := hq
  obtain ⟨hz, F, G, h1, h2, h3, h4⟩ := h.keep hP hb
  obtain ⟨hz0, F0, G0, g1, g2, g3, g4⟩ := h
  have hc : Chg [] w w' := Chg.of hb (Nat.le_refl _)
  have hFl := (fixed_dev b d).lt _ _ g1
  have hGl := hP.lt _ _ g2
  refine ⟨hz, F0, G0 ++ G2, (fixed_dev b d).keep _ _ _ _ g1 hc (fun _ _ h => by cases h), ⟨G0, G2, rfl, hP.keep _ _ _ _ g2 hc (fun _ _ h => by cases h), hq, fun k hk hm => ?_⟩, fun k hk => ⟨(g3 k hk).1, fun hm => ?_⟩, fun k hk => ?_⟩
  · have := hGl k hk; have := hg k hm; omega
  · rcases List.mem_append.1 hm with h5 | h5
    · exact (g3 k hk).2 h5
    · have := hFl k hk; have := hg k h5; omega
  · rcases List.mem_append.1 hk with h5 | h5
    · exact g4 k h5
    · exact Nat.le_trans hz0 (hg k h5)
theorem One.row {B : Nat} {P : List Nat → World → Prop} {b : Nat} {d : DevD} {w : World} {a : Option Addr} {l : List (Int × Int)} (h : One B (Both P (LocP a l)) b d w) : SlP w a l := by
  obtain ⟨_, _, _, _, ⟨_, _, _, _, hl, _⟩, _⟩ := h
  exact hl.slP

theorem eq_nil_loc (a : Option Addr) (n c : Nat) (b : Bool) (hb : a.isNone = b) (w : World) : (binOp .eql 23 (.slice a n c) (.slice none 0 0)).run Tryd.prog w = .ok (.bool b) w := by
  rw [← hb]; exact Go.Lib.run_eql_slice_nil w _ _ a n c 0 0 Tryd.underlying23
theorem two_L : TwoT 33 := by unfold TwoT; kernel_rfl

theorem clone_locs (a : Option Addr) (cap : Nat) (l : List (Int × Int)) (w : World) (h : SlP w a l) (hl : l.length ≤ 1000) : Calls Tryd.prog 24 #[.slice a l.length cap] w fun e w' =>
    ∃ a' c', e = .returned (.slice a' l.length c') ∧ (∃ G, LocP a' l G w' ∧ ∀ k ∈ G, w.heap.size ≤ k) ∧ Below w.heap.size w w' := by
  cases a with
  | none =>
    have hn : l = [] := by
      by_cases hne : l = []
      · exact hne
      · obtain ⟨b, off, e, _⟩ := h hne; cases e
    subst hn
    have hq := fun W => eq_nil_loc none 0 cap true rfl W
    go_enter Tryd.func24, Tryd.ntmps24
    go_wp2
    go_ret
    exact ⟨_, _, rfl, ⟨[], .inl ⟨rfl, rfl⟩, fun _ h => by cases h⟩, Below.refl _ _⟩
  | some ad =>
    have HV := Lib.hid h
    have hq := fun W => eq_nil_loc (some ad) l.length cap false rfl W
    clear h
    go_enter Tryd.func24, Tryd.ntmps24
    go_wp2_with (with_reducible refine wp_prsT_more Tryd.underlying23 two_L _ rfl (.tmp 5) (.tmp 6) rfl w.heap.size (.slice (some ⟨w.heap.size, 0, none⟩) 0 0) [] rfl ?c1 (some ad) cap l rfl ?c2 ?c3 ?c4 ?c5)
    case c1 => exact World.ownsRow_made w #[] 0 (Nat.le_refl _) (Nat.zero_le _) (by simp)
    case c2 => exact HV.out.keep ((Below.refl _ _).alloc (Nat.le_refl _) _)
    case c3 => simp; omega
    case c4 => rw [size_alloc]; omega
    intro v' w2 hp hg
    have hb := below_growT ((Below.refl w.heap.size w).alloc (Nat.le_refl _) (.cells #[] 33 (0, 0))) hg (l := []) (show PrsT 33 _ _ _ _ from World.ownsRow_made w #[] 0 (Nat.le_refl _) (Nat.zero_le _) (by simp)) (by rw [size_alloc]; omega)
    have HB := Lib.hid hb
    have HX : Hid (∃ a' c', v' = .slice a' l.length c' ∧ ∃ G, LocP a' l G w2 ∧ ∀ k ∈ G, w.heap.size ≤ k) := by
      rcases hp.view with ⟨rfl, rfl⟩ | ⟨g, c', rfl, _, _, hg0, hgl, hcell⟩
      · exact ⟨none, 0, rfl, [], .inl ⟨rfl, rfl⟩, fun _ h => by cases h⟩
      · by_cases hne : l = []
        · exact ⟨_, _, rfl, [], .inl ⟨hne, rfl⟩, fun _ h => by cases h⟩
        · obtain ⟨b, off, e, hlt, hx⟩ := slP_flatT hgl hcell hne
          exact ⟨_, _, rfl, [g], .inr ⟨g, 0, rfl, rfl, hgl, by injection e with e; injection e with e1 e2; subst e1 e2; exact hx⟩, fun k hk => by rw [List.mem_singleton] at hk; omega⟩
    clear hp hg hb hq
    go_wp2
    go_ret
    obtain ⟨a', c', rfl, hG⟩ := HX.out
    exact ⟨_, _, rfl, hG, HB.out⟩
end Go.Proofs.YtonkmffipjdhkaaDoor
