/-
  Rows of pairs of ints (of whatever struct type) that the call itself made.
-/
import Derived.Test.YtmndeohhanbjkaaSlP
import Derived.Test.YtmndeohhanbjkaaRows2
import Derived.Test.YtmndeohhanbjkaaBox
import Derived.Test.YtmndeohhanbjkaaPlain
import Derived.Deep.RegionLaw
import Derived.Maps.AppendAt
import Derived.Deep.Upon
namespace Go.Proofs.Ytmndeohhanbjkaa
open Go.RowKit

def PrV (x : Int × Int) : List Value := [.int .i64 x.1, .int .i64 x.2]
/-- A type of two ints. -/
def Two (e : TypeId) : Prop := (Try.prog.info? e).map (fun i => (i.zero, i.size, i.bytes)) = some (some (.agg #[.int .i64 0, .int .i64 0]), 2, 16)

/-- The value v is a slice of the call's own that holds the pairs l. -/
def Prs (e : TypeId) (w : World) (base : Nat) (v : Value) (l : List (Int × Int)) : Prop := w.ownsRow base e 2 v l.length (l.flatMap PrV)
theorem Prs.nil (e : TypeId) (w : World) (base : Nat) : Prs e w base (.slice none 0 0) [] := World.ownsRow_nil _ _ _ _
theorem Prs.base {e : TypeId} {w : World} {b b' : Nat} {v : Value} {l : List (Int × Int)} (h : Prs e w b v l) (hb : b' ≤ b) : Prs e w b' v l := by
  refine ⟨h.1, ?_⟩
  rcases h.2 with h | ⟨g, cap, cur, h1, h2, h3⟩
  · exact .inl h
  · exact .inr ⟨g, cap, cur, h1, Nat.le_trans hb h2, h3⟩
theorem Prs.keep {e : TypeId} {w w' : World} {base : Nat} {v : Value} {l : List (Int × Int)} (h : Prs e w base v l) (hb : Below w.heap.size w w') : Prs e w' base v l :=
  ownsRow_of h fun k _ hlt => hb.block k hlt
theorem Prs.view {e : TypeId} {w : World} {base : Nat} {v : Value} {l : List (Int × Int)} (h : Prs e w base v l) :
    (v = .slice none 0 0 ∧ l = []) ∨ ∃ g cap, v = .slice (some ⟨g, 0, none⟩) l.length cap ∧ l.length ≤ cap ∧ cap ≤ maxLen ∧ base ≤ g ∧ g < w.heap.size ∧ ∀ j u, (l.flatMap PrV)[j]? = some u → w.cell? ⟨g, j, none⟩ = some u := by
  have h' := h
  rcases h.2 with ⟨rfl, h0⟩ | ⟨g, cap, cur, rfl, hg, hh, hc, hm, _⟩
  · exact .inl ⟨rfl, List.eq_nil_of_length_eq_zero h0⟩
  · refine .inr ⟨g, cap, rfl, hc, hm, hg, lt_of_block hh, fun j u hj => ?_⟩
    have hlt : j < (l.flatMap PrV).length := (List.getElem?_eq_some_iff.1 hj).1
    rw [World.ownsRow.cellAt h' j (by rw [h.1] at hlt; exact hlt)]
    exact hj
theorem slP_flat {w : World} {g : Nat} {l : List (Int × Int)} (hlt : g < w.heap.size) (h : ∀ j u, (l.flatMap PrV)[j]? = some u → w.cell? ⟨g, j, none⟩ = some u) : SlP w (some ⟨g, 0, none⟩) l := by
  intro _
  refine ⟨g, 0, rfl, hlt, fun i x hx => ?_⟩
  have h0 := flat_get PrV 2 (fun _ => rfl) l i x hx 0 (by decide)
  have h1 := flat_get PrV 2 (fun _ => rfl) l i x hx 1 (by decide)
  constructor
  · rw [Nat.zero_add]; exact h _ _ h0
  · rw [Nat.zero_add]; exact h _ _ h1
theorem Prs.slP {e : TypeId} {w : World} {base : Nat} {v : Value} {l : List (Int × Int)} (h : Prs e w base v l) : ∃ a cap, v = .slice a l.length cap ∧ l.length ≤ cap ∧ cap ≤ maxLen ∧ SlP w a l := by
  rcases h.view with ⟨rfl, rfl⟩ | ⟨g, cap, rfl, hc, hm, _, hlt, hcell⟩
  · exact ⟨none, 0, rfl, Nat.le_refl _, Nat.zero_le _, SlP.nil⟩
  · exact ⟨some ⟨g, 0, none⟩, cap, rfl, hc, hm, slP_flat hlt hcell⟩
/-- A slice's cells, from its k-th element on. -/
theorem SlP.cells {w : World} {a : Option Addr} {l : List (Int × Int)} (h : SlP w a l) (hne : l ≠ []) : ∃ b off, a = some ⟨b, off, none⟩ ∧ b < w.heap.size ∧ ∀ j u, (l.flatMap PrV)[j]? = some u → w.cell? ⟨b, off + j, none⟩ = some u := by
  obtain ⟨b, off, rfl, hlt, hc⟩ := h hne
  refine ⟨b, off, rfl, hlt, fun j u hj => ?_⟩
  have hlen := flat_len PrV 2 (fun _ => rfl) l
  have hj' : j < l.length * 2 := by rw [← hlen]; exact (List.getElem?_eq_some_iff.1 hj).1
  have hi : j / 2 < l.length := by omega
  have hx := List.getElem?_eq_getElem hi
  have hm : j = j / 2 * 2 + j % 2 := by omega
  have hf := flat_get PrV 2 (fun _ => rfl) l (j / 2) _ hx (j % 2) (by omega)
  rw [← hm, hj] at hf
  have h2 := hc (j / 2) _ hx
  rcases (show j % 2 = 0 ∨ j % 2 = 1 by omega) with e | e
  · rw [e] at hf hm
    simp [PrV] at hf
    rw [hm, hf, Nat.add_zero, h2.1]
  · rw [e] at hf hm
    simp [PrV] at hf
    rw [hm, hf, ← Nat.add_assoc, h2.2]
/-- A box of pairs is a row. -/
theorem Prs.box {e : TypeId} {w : World} {g : Nat} {l : List (Int × Int)} (base : Nat) (h : Box w g e (l.flatMap PrV).toArray) (hb : base ≤ g) (hm : l.length ≤ maxLen) : Prs e w base (.slice (some ⟨g, 0, none⟩) l.length l.length) l := by
  have hlen := flat_len PrV 2 (fun _ => rfl) l
  refine ⟨hlen, .inr ⟨g, l.length, _, rfl, hb, h, Nat.le_refl _, hm, by simpa using hlen, ?_⟩⟩
  rw [← hlen]
  exact List.take_of_length_le (Nat.le_refl _)

/-- 'append(out, x...)' of pairs. -/
theorem wp_prs_app {t e : TypeId} (ht : Try.prog.underlying t = some (.slice e)) (he : Two e) {ops : Array Oper} {rest : List Oper} {o : Oper} {a : Act} {Q : Exit → Act → World → Prop} (W : World) (hgd : o.guard = none) (s x : Operand)
    (ho : o.op = .call { callee := .builtin .append, args := #[s, x], argTypes := #[t, t] })
    (base : Nat) (v : Value) (l : List (Int × Int)) (hs : a.eval s = v) (hb : Prs e W base v l)
    (ad : Addr) (c : Nat) (ps : List (Int × Int)) (hx : a.eval x = .slice (some ad) ps.length c) (hcell : ∀ j u, (ps.flatMap PrV)[j]? = some u → W.cell? (ad.add j) = some u)
    (hbytes : l.length + ps.length ≤ 100000) (hbase : base ≤ W.heap.size)
    (h : ∀ v' w', Prs e w' base v' (l ++ ps) → W.grownBy w' v.ownBlock → wpList Try.prog ops Q rest (a.put o.dst v') w') : wpList Try.prog ops Q (o :: rest) a W := by
  obtain ⟨i0, hi, hz0, hz1, hz2⟩ := info_parts he
  refine wpList_append_own W hgd s x t ho base e i0 (.agg #[.int .i64 0, .int .i64 0]) 2 16 ht hi hz0 hz1 hz2 rfl (by decide) v l.length _ hs hb ad ps.length c (ps.flatMap PrV) hx (flat_len PrV 2 (fun _ => rfl) ps) hcell ?_ (by unfold maxLen; omega) (by omega) hbase ?_
  · intro u hu
    simp only [List.mem_flatMap] at hu
    obtain ⟨y, _, hy⟩ := hu
    simp [PrV] at hy
    rcases hy with rfl | rfl <;> rfl
  · intro v' w' h1 h2 _
    refine h v' w' ?_ h2
    unfold Prs
    rw [List.flatMap_append, List.length_append]
    exact h1
theorem step_prs_app {t e : TypeId} (ht : Try.prog.underlying t = some (.slice e)) (he : Two e) {ops : Array Oper} {o : Oper} {a : Act} {W : World} {K : Act → World → Prop} {Q : Exit → Act → World → Prop} {E : Prop} (hgd : o.guard = none) (s x : Operand)
    (ho : o.op = .call { callee := .builtin .append, args := #[s, x], argTypes := #[t, t] })
    (base : Nat) (v : Value) (l : List (Int × Int)) (hs : a.eval s = v) (hb : Prs e W base v l)
    (ad : Addr) (c : Nat) (ps : List (Int × Int)) (hx : a.eval x = .slice (some ad) ps.length c) (hcell : ∀ j u, (ps.flatMap PrV)[j]? = some u → W.cell? (ad.add j) = some u)
    (hbytes : l.length + ps.length ≤ 100000) (hbase : base ≤ W.heap.size)
    (h : ∀ v' w', Prs e w' base v' (l ++ ps) → W.grownBy w' v.ownBlock → K (a.put o.dst v') w') :
    if Region.wanted o (yielded ops a.tmps) = true then Oper.wp Try.prog o a W K Q else E := by
  have hw : Region.wanted o (yielded ops a.tmps) = true := by simp [Region.wanted, hgd]
  rw [if_pos hw]
  obtain ⟨i0, hi, hz0, hz1, hz2⟩ := info_parts he
  refine wp_append_own W s x t ho base e i0 (.agg #[.int .i64 0, .int .i64 0]) 2 16 ht hi hz0 hz1 hz2 rfl (by decide) v l.length _ hs hb ad ps.length c (ps.flatMap PrV) hx (flat_len PrV 2 (fun _ => rfl) ps) hcell ?_ (by unfold maxLen; omega) (by omega) hbase ?_
  · intro u hu
    simp only [List.mem_flatMap] at hu
    obtain ⟨y, _, hy⟩ := hu
    simp [PrV] at hy
    rcases hy with rfl | rfl <;> rfl
  · intro v' w' h1 h2 _
    refine h v' w' ?_ h2
    unfold Prs
    rw [List.flatMap_append, List.length_append]
    exact h1
theorem below_grow {w w' : World} {base : Nat} {e : TypeId} {v : Value} {l : List (Int × Int)} {a : World} (h : Below base a w) (hg : w.grownBy w' v.ownBlock) (hr : Prs e w base v l) (hb : base ≤ w.heap.size) : Below base a w' :=
  h.grown hg hb fun k hk => (World.ownsRow.lt hr k hk).1
end Go.Proofs.Ytmndeohhanbjkaa
