/-
  A row of strings appended to another row (as in XKeysR, which wants more of its seat).
-/
import Derived.Test.YtlkkgboaicjaiaaKeys
import Derived.Laws.AppendOwnNone
namespace Go.Proofs.Ytlkkgboaicjaiaa
open Go.RowKit Go.ChangeShapes Go.WideShapes Go.ChangeAt

theorem wp_keys_rows {ops : Array Oper} {rest : List Oper} {o : Oper} {a : Act} {Q : Exit → Act → World → Prop} (W : World) (hgd : o.guard = none) (s x : Operand)
    (ho : o.op = .call { callee := .builtin .append, args := #[s, x], argTypes := #[22, 22] })
    (base b2 : Nat) (v xv : Value) (l cs : List ByteArray) (hs : a.eval s = v) (hb : Ks W base v l) (hx : a.eval x = xv) (hc : Ks W b2 xv cs)
    (hbytes : l.length + cs.length ≤ 2000000) (hbase : base ≤ W.heap.size)
    (h : ∀ v' w', Ks w' base v' (l ++ cs) → W.grownBy w' v.ownBlock → wpList Try.prog ops Q rest (a.put o.dst v') w') : wpList Try.prog ops Q (o :: rest) a W := by
  rcases hc.form with ⟨rfl, rfl⟩ | ⟨g, cap, rfl, _, _, _, _⟩
  · obtain ⟨i0, hi, _⟩ := info_parts infoKey
    refine wpList_append_own_none hgd s x 22 ho base 9 i0 1 Try.underlying22 hi v l.length _ hs hb hx (h v W (by rw [List.append_nil]; exact hb) ⟨rfl, rfl, rfl, Nat.le_refl _, fun _ _ _ => rfl⟩)
  · refine wp_keys_push W hgd s x ho base v l hs hb ⟨g, 0, none⟩ cs.length cap cs hx rfl (fun j u hu => ?_) hbytes hbase (fun v' w' h1 h2 _ => h v' w' h1 h2)
    have := World.ownsRow.cells hc (g := g) rfl j (.string u) (by rw [List.getElem?_map, hu]; rfl)
    exact this
end Go.Proofs.Ytlkkgboaicjaiaa
