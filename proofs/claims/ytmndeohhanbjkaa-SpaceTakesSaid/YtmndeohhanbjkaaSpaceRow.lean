/-
  Rows of pairs: zeros appended to nothing; a row cut off, grown.
-/
import Derived.Test.YtmndeohhanbjkaaSpaceFun
import Derived.Lib.AppendZeros
import Derived.Deep.Onto
namespace Go.Proofs.Ytmndeohhanbjkaa
open Go.RowKit Go.ChangeShapes Go.WideShapes Go.ChangeAt

/-- 'append([]S(nil), make([]S, n)...)'. -/
theorem wp_prs_zeros {t tn e : TypeId} (ht : Try.prog.underlying t = some (.slice e)) (htn : Try.prog.underlying tn = some (.int .i64)) (he : Two e) {ops : Array Oper} {rest : List Oper} {o : Oper} {a : Act} {Q : Exit → Act → World → Prop} (W : World) (hgd : o.guard = none) (s x : Operand)
    (ho : o.op = .call { callee := .builtin .append, args := #[s, x], argTypes := #[t, tn] })
    (hs : a.eval s = .slice none 0 0) (n : Nat) (hx : a.eval x = .int .i64 n) (h0 : 0 < n) (hn : n ≤ 100000)
    (h : ∀ g c w', n ≤ c → c ≤ maxLen → Prs e w' W.heap.size (.slice (some ⟨g, 0, none⟩) 0 c) [] → Below W.heap.size W w' → wpList Try.prog ops Q rest (a.put o.dst (.slice (some ⟨g, 0, none⟩) n c)) w') : wpList Try.prog ops Q (o :: rest) a W := by
  obtain ⟨i0, hi, hz0, hz1, hz2⟩ := info_parts he
  have hr := Go.Lib.run_append_nil_zeros W t tn o.type e i0 (.agg #[.int .i64 0, .int .i64 0]) .i64 .i64 ht htn hi hz0 n h0 (by rw [hz1]; decide) (by omega) (by rw [hz2]; omega)
  have hge := grownCap_ge W n 0 e
  have hcm := grownCap_le_maxLen W n 0 e (by unfold maxLen; omega)
  refine wpList_plain hgd fun K hK => ?_
  unfold Oper.wp execOp
  simp only [ho, resolve, invoke, builtin, Sem.run_bind, Sem.run_pure, Result.andThen_ok, List.map_toArray, List.map_cons, List.map_nil, hs, hx, hr]
  refine hK _ _ (h W.heap.size (grownCap W n 0 e) _ hge hcm ⟨by simp, .inr ⟨W.heap.size, grownCap W n 0 e, _, rfl, Nat.le_refl _, heap_alloc_new W.drew _, Nat.zero_le _, hcm, ?_, by simp⟩⟩ ((Below.refl _ _).drew.alloc (Nat.le_refl _) _))
  simp only [Array.size_append, size_zeroCells]
  rw [show (Value.agg #[.int .i64 0, .int .i64 0]).cells.size = 2 from rfl, ← Nat.add_mul]
  congr 1
  omega

/-- 'append(s[:k:k], x...)', x not empty. -/
theorem wp_prs_grow {t e : TypeId} (ht : Try.prog.underlying t = some (.slice e)) (he : Two e) {ops : Array Oper} {rest : List Oper} {o : Oper} {a : Act} {Q : Exit → Act → World → Prop} (W : World) (hgd : o.guard = none) (s x : Operand)
    (ho : o.op = .call { callee := .builtin .append, args := #[s, x], argTypes := #[t, t] })
    (b : Addr) (l : List (Int × Int)) (hs : a.eval s = .slice (some b) l.length l.length) (hold : ∀ j u, (l.flatMap PrV)[j]? = some u → W.cell? (b.add j) = some u)
    (ad : Addr) (c : Nat) (ps : List (Int × Int)) (hx : a.eval x = .slice (some ad) ps.length c) (hcell : ∀ j u, (ps.flatMap PrV)[j]? = some u → W.cell? (ad.add j) = some u)
    (hpos : 0 < ps.length) (hbytes : l.length + ps.length ≤ 100000)
    (h : ∀ v' w', Prs e w' W.heap.size v' (l ++ ps) → Below W.heap.size W w' → wpList Try.prog ops Q rest (a.put o.dst v') w') : wpList Try.prog ops Q (o :: rest) a W := by
  obtain ⟨i0, hi, hz0, hz1, hz2⟩ := info_parts he
  have hl := flat_len PrV 2 (fun _ => rfl) l
  have hp := flat_len PrV 2 (fun _ => rfl) ps
  have hr := run_append_grow (P := Try.prog) (w := W) t o.type e i0 (.agg #[.int .i64 0, .int .i64 0]) ht hi hz0 b l.length l.length (l.flatMap PrV) (by rw [hz1]; exact hl) hold ad ps.length c (ps.flatMap PrV) (by rw [hz1]; exact hp) hcell (by omega) (by omega) (growslice_fits (by omega) (by rw [hz2]; omega))
  have hge := grownCap_ge W (l.length + ps.length) l.length e
  have hcm := grownCap_le_maxLen W (l.length + ps.length) l.length e (by unfold maxLen; omega)
  refine wpList_plain hgd fun K hK => ?_
  unfold Oper.wp execOp
  simp only [ho, resolve, invoke, builtin, Sem.run_bind, Sem.run_pure, Result.andThen_ok, List.map_toArray, List.map_cons, List.map_nil, hs, hx, hr]
  refine hK _ _ (h _ _ ⟨?_, .inr ⟨W.heap.size, grownCap W (l.length + ps.length) l.length e, _, by rw [List.length_append], Nat.le_refl _, heap_alloc_new W.drew _, by rw [List.length_append]; exact hge, hcm, ?_, ?_⟩⟩ ((Below.refl _ _).drew.alloc (Nat.le_refl _) _))
  · rw [List.flatMap_append, List.length_append, hl, hp, List.length_append, Nat.add_mul]
  · simp only [Array.size_append, size_zeroCells, List.size_toArray, hl, hp]
    rw [show (Value.agg #[.int .i64 0, .int .i64 0]).cells.size = 2 from rfl, ← Nat.add_mul, ← Nat.add_mul]
    congr 1
    omega
  · simp only [Array.toList_append, List.append_assoc]
    rw [List.flatMap_append, ← List.append_assoc]
    have e2 : (l ++ ps).length * 2 = (l.flatMap PrV ++ ps.flatMap PrV).length := by rw [List.length_append, List.length_append, hl, hp, Nat.add_mul]
    rw [e2]
    exact List.take_left
end Go.Proofs.Ytmndeohhanbjkaa
