/-
  Slices of structs that the call itself made; pairs of ints.
-/
import Derived.Test.YtflobdhhjfpcdaaSlP
import Derived.Test.YtflobdhhjfpcdaaRows2
import Derived.Deep.RegionLaw
import Derived.Maps.AppendAt
namespace Go.Proofs.Ytflobdhhjfpcdaa
open Go.RowKit

def PrV (x : Int × Int) : List Value := [.int .i64 x.1, .int .i64 x.2]
theorem infoLoc : (Try.prog.info? 29).map (fun i => (i.zero, i.size, i.bytes)) = some (some (.agg #[.int .i64 0, .int .i64 0]), 2, 16) := by kernel_rfl

/-- The value v is a slice of the call's own that holds the pairs l. -/
def Prs (w : World) (base : Nat) (v : Value) (l : List (Int × Int)) : Prop := w.ownsRow base 29 2 v l.length (l.flatMap PrV)
theorem Prs.nil (w : World) (base : Nat) : Prs w base (.slice none 0 0) [] := World.ownsRow_nil _ _ _ _
theorem Prs.own_block {w : World} {base : Nat} {v : Value} {l : List (Int × Int)} (h : Prs w base v l) : ∀ k, v.ownBlock = some k → base ≤ k := by
  intro k hk
  rcases h.2 with ⟨rfl, _⟩ | ⟨g, cap, cur, rfl, hg, _⟩
  · cases hk
  · simp [Value.ownBlock] at hk; omega
theorem Prs.keep {w w' : World} {base : Nat} {v : Value} {l : List (Int × Int)} (h : Prs w base v l) (hb : Below w.heap.size w w') : Prs w' base v l :=
  ownsRow_of h fun k _ hlt => hb.block k hlt
theorem Prs.alloc {w : World} {base : Nat} {v : Value} {l : List (Int × Int)} (h : Prs w base v l) (o : Obj) : Prs (w.alloc o) base v l := World.ownsRow.alloc h o
theorem Prs.view {w : World} {base : Nat} {v : Value} {l : List (Int × Int)} (h : Prs w base v l) : ∃ a cap, v = .slice a l.length cap ∧ SlP w a l := by
  have h' := h
  rcases h.2 with ⟨rfl, h0⟩ | ⟨g, cap, cur, rfl, hg, hh, _⟩
  · have : l = [] := List.eq_nil_of_length_eq_zero h0
    subst this
    exact ⟨none, 0, rfl, SlP.nil⟩
  · refine ⟨some ⟨g, 0, none⟩, cap, rfl, fun _ => ⟨g, 0, rfl, lt_of_block hh, fun i x hx => ?_⟩⟩
    have hi : i < l.length := (List.getElem?_eq_some_iff.1 hx).1
    have h0 := flat_get PrV 2 (fun _ => rfl) l i x hx 0 (by decide)
    have h1 := flat_get PrV 2 (fun _ => rfl) l i x hx 1 (by decide)
    constructor
    · rw [Nat.zero_add, World.ownsRow.cellAt h' (i * 2) (by omega)]; exact h0
    · rw [Nat.zero_add, World.ownsRow.cellAt h' (i * 2 + 1) (by omega)]; exact h1

/-- 'append(out, x)' of one pair, at a step of a region. -/
theorem step_prs_push {ops : Array Oper} {o : Oper} {a : Act} {W : World} {K : Act → World → Prop} {Q : Exit → Act → World → Prop} {E : Prop} (hgd : o.guard = none) (s x : Operand)
    (ho : o.op = .call { callee := .builtin .append, args := #[s, x], argTypes := #[35, 35] })
    (base : Nat) (v : Value) (l : List (Int × Int)) (hs : a.eval s = v) (hb : Prs W base v l)
    (ad : Addr) (c : Nat) (p : Int × Int) (hx : a.eval x = .slice (some ad) 1 c) (hcell : ∀ j u, (PrV p)[j]? = some u → W.cell? (ad.add j) = some u)
    (hbytes : l.length ≤ 100000) (hbase : base ≤ W.heap.size)
    (h : ∀ v' w', Prs w' base v' (l ++ [p]) → W.grownBy w' v.ownBlock → K (a.put o.dst v') w') :
    if Region.wanted o (yielded ops a.tmps) = true then Oper.wp Try.prog o a W K Q else E := by
  have hw : Region.wanted o (yielded ops a.tmps) = true := by simp [Region.wanted, hgd]
  rw [if_pos hw]
  obtain ⟨i0, hi, hz0, hz1, hz2⟩ := info_parts infoLoc
  refine wp_append_own W s x 35 ho base 29 i0 (.agg #[.int .i64 0, .int .i64 0]) 2 16 Try.underlying35 hi hz0 hz1 hz2 rfl (by decide) v l.length _ hs hb ad 1 c (PrV p) hx rfl hcell ?_ (by unfold maxLen; omega) (by omega) hbase ?_
  · intro u hu
    simp [PrV] at hu
    rcases hu with rfl | rfl <;> rfl
  · intro v' w' h1 h2 _
    refine h v' w' ?_ h2
    unfold Prs
    rw [List.flatMap_append, List.length_append]
    exact h1
theorem wp_prs_push {ops : Array Oper} {rest : List Oper} {o : Oper} {a : Act} {Q : Exit → Act → World → Prop} (W : World) (hgd : o.guard = none) (s x : Operand)
    (ho : o.op = .call { callee := .builtin .append, args := #[s, x], argTypes := #[35, 35] })
    (base : Nat) (v : Value) (l : List (Int × Int)) (hs : a.eval s = v) (hb : Prs W base v l)
    (ad : Addr) (c : Nat) (p : Int × Int) (hx : a.eval x = .slice (some ad) 1 c) (hcell : ∀ j u, (PrV p)[j]? = some u → W.cell? (ad.add j) = some u)
    (hbytes : l.length ≤ 100000) (hbase : base ≤ W.heap.size)
    (h : ∀ v' w', Prs w' base v' (l ++ [p]) → W.grownBy w' v.ownBlock → wpList Try.prog ops Q rest (a.put o.dst v') w') : wpList Try.prog ops Q (o :: rest) a W := by
  obtain ⟨i0, hi, hz0, hz1, hz2⟩ := info_parts infoLoc
  refine wpList_append_own W hgd s x 35 ho base 29 i0 (.agg #[.int .i64 0, .int .i64 0]) 2 16 Try.underlying35 hi hz0 hz1 hz2 rfl (by decide) v l.length _ hs hb ad 1 c (PrV p) hx rfl hcell ?_ (by unfold maxLen; omega) (by omega) hbase ?_
  · intro u hu
    simp [PrV] at hu
    rcases hu with rfl | rfl <;> rfl
  · intro v' w' h1 h2 _
    refine h v' w' ?_ h2
    unfold Prs
    rw [List.flatMap_append, List.length_append]
    exact h1
end Go.Proofs.Ytflobdhhjfpcdaa
