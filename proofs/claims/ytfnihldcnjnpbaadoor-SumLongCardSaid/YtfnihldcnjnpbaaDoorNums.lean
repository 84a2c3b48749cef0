/-
  A slice of ints that the call itself made: what it holds, told by a list of numbers.
-/
import Derived.Test.YtfnihldcnjnpbaaDoorRows
import Derived.Test.YtfnihldcnjnpbaaDoorPlain
import Derived.Test.YtfnihldcnjnpbaaDoorFrame
namespace Go.Proofs.YtfnihldcnjnpbaaDoor
open Go.RowKit

theorem infoInt : (Tryd.prog.info? 3).map (fun i => (i.zero, i.size, i.bytes)) = some (some (.int .i64 0), 1, 8) := by kernel_rfl

def nV (n : Nat) : Value := .int .i64 (n : Int)

/-- The value v is a slice of the call's own that holds the numbers l. -/
def Nums (w : World) (base : Nat) (v : Value) (l : List Nat) : Prop := w.ownsRow base 3 1 v l.length (l.map nV)

theorem Nums.nil (w : World) (base : Nat) : Nums w base (.slice none 0 0) [] := World.ownsRow_nil _ _ _ _
theorem Nums.alloc {w : World} {base : Nat} {v : Value} {l : List Nat} (h : Nums w base v l) (o : Obj) : Nums (w.alloc o) base v l := World.ownsRow.alloc h o
theorem Nums.own_block {w : World} {base : Nat} {v : Value} {l : List Nat} (h : Nums w base v l) : ∀ k, v.ownBlock = some k → base ≤ k := by
  intro k hk
  rcases h.2 with ⟨rfl, _⟩ | ⟨g, cap, cur, rfl, hg, _⟩
  · cases hk
  · simp [Value.ownBlock] at hk; omega

/-- Its shape, and its cells. -/
theorem Nums.view {w : World} {base : Nat} {v : Value} {l : List Nat} (h : Nums w base v l) : ∃ a cap, v = .slice a l.length cap ∧ Sl w nV a l := by
  have h' := h
  rcases h.2 with ⟨rfl, h0⟩ | ⟨g, cap, cur, rfl, hg, hh, _⟩
  · have : l = [] := List.eq_nil_of_length_eq_zero h0
    subst this
    exact ⟨none, 0, rfl, Sl.nil⟩
  · refine ⟨some ⟨g, 0, none⟩, cap, rfl, fun _ => ⟨g, 0, rfl, lt_of_block hh, fun i x hx => ?_⟩⟩
    have hi : i < l.length := (List.getElem?_eq_some_iff.1 hx).1
    rw [Nat.zero_add, World.ownsRow.cellAt h' i (by omega), List.getElem?_map, hx]
    rfl

/-- 'append(out, n)' on such a slice. -/
theorem wp_nums_push {ops : Array Oper} {rest : List Oper} {o : Oper} {a : Act} {Q : Exit → Act → World → Prop} (W : World) (hgd : o.guard = none) (s x : Operand)
    (ho : o.op = .call { callee := .builtin .append, args := #[s, x], argTypes := #[51, 51] })
    (base : Nat) (v : Value) (l : List Nat) (hs : a.eval s = v) (hb : Nums W base v l)
    (ad : Addr) (m c : Nat) (cs : List Nat) (hx : a.eval x = .slice (some ad) m c) (hm : cs.length = m) (hcell : ∀ j u, cs[j]? = some u → W.cell? (ad.add j) = some (nV u))
    (hbytes : l.length + m ≤ 17592186044416) (hbase : base ≤ W.heap.size)
    (h : ∀ v' w', Nums w' base v' (l ++ cs) → Below base W w' → wpList Tryd.prog ops Q rest (a.put o.dst v') w') : wpList Tryd.prog ops Q (o :: rest) a W := by
  obtain ⟨i0, hi, hz0, hz1, hz2⟩ := info_parts infoInt
  subst hm
  refine wpList_append_own W hgd s x 51 ho base 3 i0 (.int .i64 0) 1 8 Tryd.underlying51 hi hz0 hz1 hz2 rfl (by decide) v l.length _ hs hb ad cs.length c (cs.map nV) hx (by simp) ?_ ?_ (by unfold maxLen; omega) (by omega) hbase ?_
  · intro j u hu
    rw [List.getElem?_map] at hu
    obtain ⟨y, hy, rfl⟩ := Option.map_eq_some_iff.1 hu
    exact hcell j y hy
  · intro u hu
    obtain ⟨y, _, rfl⟩ := List.mem_map.1 hu
    rfl
  · intro v' w' h1 h2 _
    refine h v' w' ?_ ((Below.refl base W).grown h2 hbase hb.own_block)
    unfold Nums
    rw [List.map_append, List.length_append]
    exact h1
end Go.Proofs.YtfnihldcnjnpbaaDoor
