/-
  A part of a row (of strings, of ints) appended to a row of the call's own.
-/
import Derived.Test.YtgdlnifncmiebaaKeysS
import Derived.Laws.AppendOwnNone
namespace Go.Proofs.Ytgdlnifncmiebaa
open Go.RowKit Go.ChangeShapes Go.WideShapes Go.ChangeAt

/-- The value x is a slice whose cells are cs. -/
def PartV (W : World) (x : Value) (cs : List Value) : Prop := (x = .slice none 0 0 ∧ cs = []) ∨ ∃ ad c, x = .slice (some ad) cs.length c ∧ ∀ j u, cs[j]? = some u → W.cell? (ad.add j) = some u
theorem wp_keys_part {ops : Array Oper} {rest : List Oper} {o : Oper} {a : Act} {Q : Exit → Act → World → Prop} (W : World) (hgd : o.guard = none) (s x : Operand)
    (ho : o.op = .call { callee := .builtin .append, args := #[s, x], argTypes := #[37, 37] })
    (base : Nat) (v xv : Value) (l cs : List ByteArray) (hs : a.eval s = v) (hb : Ks W base v l) (hx : a.eval x = xv) (hc : PartV W xv (cs.map Value.string))
    (hbytes : l.length + cs.length ≤ 100000) (hbase : base ≤ W.heap.size)
    (h : ∀ v' w', Ks w' base v' (l ++ cs) → W.grownBy w' v.ownBlock → wpList Try.prog ops Q rest (a.put o.dst v') w') : wpList Try.prog ops Q (o :: rest) a W := by
  rcases hc with ⟨rfl, h0⟩ | ⟨ad, c, rfl, hcell⟩
  · obtain rfl : cs = [] := by simpa using h0
    obtain ⟨i0, hi, _⟩ := info_parts infoKey
    refine wpList_append_own_none hgd s x 37 ho base 9 i0 1 Try.underlying37 hi v l.length _ hs hb hx (h v W (by rw [List.append_nil]; exact hb) ⟨rfl, rfl, rfl, Nat.le_refl _, fun _ _ _ => rfl⟩)
  · refine wp_keys_push W hgd s x ho base v l hs hb ad cs.length c cs (by rw [hx]; simp) rfl (fun j u hu => hcell j _ (by rw [List.getElem?_map, hu]; rfl)) hbytes hbase (fun v' w' h1 h2 _ => h v' w' h1 h2)

/-- The value v is a slice of the call's own that holds the ints l. -/
def Is (w : World) (base : Nat) (v : Value) (l : List Int) : Prop := w.ownsRow base 3 1 v l.length (l.map (Value.int .i64))
theorem infoI : (Try.prog.info? 3).map (fun i => (i.zero, i.size, i.bytes)) = some (some (.int .i64 0), 1, 8) := by kernel_rfl
section
variable {w w' : World} {base : Nat} {v : Value} {l : List Int}
theorem Is.nil (w : World) (base : Nat) : Is w base (.slice none 0 0) [] := World.ownsRow_nil _ _ _ _
theorem Is.own_block (h : Is w base v l) : ∀ k, v.ownBlock = some k → base ≤ k := fun k hk => (World.ownsRow.lt h k hk).1
theorem Is.lt (h : Is w base v l) : ∀ k, v.ownBlock = some k → k < w.heap.size := fun k hk => (World.ownsRow.lt h k hk).2
theorem Is.keep (h : Is w base v l) (hb : Below w.heap.size w w') : Is w' base v l := ownsRow_of h fun k _ hlt => hb.block k hlt
theorem Is.chg {S : List Nat} (h : Is w base v l) (hc : Chg S w w') (hn : ∀ k, v.ownBlock = some k → k ∉ S) : Is w' base v l := ownsRow_of h fun k hk hlt => hc.block k hlt (hn k hk)
theorem Is.alloc (h : Is w base v l) (o : Obj) : Is (w.alloc o) base v l := World.ownsRow.alloc h o
theorem Is.form (h : Is w base v l) : (v = .slice none 0 0 ∧ l = []) ∨ ∃ g cap, v = .slice (some ⟨g, 0, none⟩) l.length cap ∧ base ≤ g ∧ g < w.heap.size ∧ l.length ≤ cap ∧ cap ≤ maxLen := by
  rcases h.2 with ⟨rfl, h0⟩ | ⟨g, cap, cur, rfl, hg, hh, h1, h2, _⟩
  · exact .inl ⟨rfl, List.eq_nil_of_length_eq_zero h0⟩
  · exact .inr ⟨g, cap, rfl, hg, lt_of_block hh, h1, h2⟩
theorem Is.cells {g cap n : Nat} (h : Is w base (.slice (some ⟨g, 0, none⟩) n cap) l) {i : Nat} {x : Int} (hx : l[i]? = some x) : w.cell? ⟨g, i, none⟩ = some (.int .i64 x) := by
  have := World.ownsRow.cells h (g := g) rfl i (.int .i64 x) (by rw [List.getElem?_map, hx]; rfl)
  rw [add_plain, Nat.zero_add] at this
  exact this
theorem Ks.cells {l : List ByteArray} {g cap n : Nat} (h : Ks w base (.slice (some ⟨g, 0, none⟩) n cap) l) {i : Nat} {x : ByteArray} (hx : l[i]? = some x) : w.cell? ⟨g, i, none⟩ = some (.string x) := by
  have := World.ownsRow.cells h (g := g) rfl i (.string x) (by rw [List.getElem?_map, hx]; rfl)
  rw [add_plain, Nat.zero_add] at this
  exact this
end
theorem wp_ints_part {ops : Array Oper} {rest : List Oper} {o : Oper} {a : Act} {Q : Exit → Act → World → Prop} (W : World) (hgd : o.guard = none) (s x : Operand)
    (ho : o.op = .call { callee := .builtin .append, args := #[s, x], argTypes := #[64, 64] })
    (base : Nat) (v xv : Value) (l cs : List Int) (hs : a.eval s = v) (hb : Is W base v l) (hx : a.eval x = xv) (hc : PartV W xv (cs.map (Value.int .i64)))
    (hbytes : l.length + cs.length ≤ 100000) (hbase : base ≤ W.heap.size)
    (h : ∀ v' w', Is w' base v' (l ++ cs) → W.grownBy w' v.ownBlock → wpList Try.prog ops Q rest (a.put o.dst v') w') : wpList Try.prog ops Q (o :: rest) a W := by
  obtain ⟨i0, hi, hz0, hz1, hz2⟩ := info_parts infoI
  rcases hc with ⟨rfl, h0⟩ | ⟨ad, c, rfl, hcell⟩
  · obtain rfl : cs = [] := by simpa using h0
    refine wpList_append_own_none hgd s x 64 ho base 3 i0 1 Try.underlying64 hi v l.length _ hs hb hx (h v W (by rw [List.append_nil]; exact hb) ⟨rfl, rfl, rfl, Nat.le_refl _, fun _ _ _ => rfl⟩)
  · refine wpList_append_own W hgd s x 64 ho base 3 i0 (.int .i64 0) 1 8 Try.underlying64 hi hz0 hz1 hz2 rfl (by decide) v l.length _ hs hb ad cs.length c (cs.map (Value.int .i64)) (by rw [hx]; simp) (by simp) hcell ?_ (by unfold maxLen; omega) (by omega) hbase ?_
    · intro u hu
      obtain ⟨y, _, rfl⟩ := List.mem_map.1 hu
      rfl
    · intro v' w' h1 h2 _
      refine h v' w' ?_ h2
      unfold Is
      rw [List.map_append, List.length_append]
      exact h1
theorem ks_is_ne {w : World} {B B2 : Nat} {v u : Value} {l : List ByteArray} {m : List Int} (h : Ks w B v l) (k : Is w B2 u m) : ∀ i, v.ownBlock = some i → u.ownBlock ≠ some i := by
  intro i hi hj
  rcases h.2 with ⟨rfl, _⟩ | ⟨g, cap, cur, rfl, _, hh, _⟩
  · cases hi
  · rcases k.2 with ⟨rfl, _⟩ | ⟨g2, cap2, cur2, rfl, _, hh2, _⟩
    · cases hj
    · simp only [Value.ownBlock, Option.some.injEq] at hi hj
      subst hi
      subst hj
      rw [hh] at hh2
      simp only [Option.some.injEq, Obj.cells.injEq] at hh2
      exact absurd hh2.2.1 (by decide)
theorem part_one (w : World) (t : TypeId) (u : Value) : PartV (w.alloc (.cells #[u] t)) (.slice (some ⟨w.heap.size, 0, none⟩) 1 1) [u] := by
  refine .inr ⟨⟨w.heap.size, 0, none⟩, 1, rfl, fun j x hx => ?_⟩
  match j, hx with
  | 0, hx =>
    simp only [List.getElem?_cons_zero, Option.some.injEq] at hx
    subst hx
    exact boxed0 _ _ _ _ 0 _ rfl
theorem Ks.apart {w w' : World} {B B2 : Nat} {v u : Value} {l : List ByteArray} {m : List Int} (h : Ks w B v l) (k : Is w B2 u m) (hg : w.grownBy w' u.ownBlock) : Ks w' B v l :=
  h.chg (S := u.ownBlock.toList) (Chg.grown hg (fun i hi => by simp [hi])) (fun i hi hm => ks_is_ne h k i hi (by simpa using hm))

theorem part_none {w : World} {ad : Addr} {cs : List Value} {n c : Nat} (h : n = cs.length) (h0 : n = 0) : PartV w (.slice (some ad) n c) cs := by
  refine .inr ⟨ad, c, by rw [h], fun j u hu => ?_⟩
  have : cs = [] := List.eq_nil_of_length_eq_zero (by omega)
  rw [this] at hu
  simp at hu

/-- The front part, and the other one, of such rows. -/
theorem part_front {α : Type} {w : World} {f : α → Value} {g cap : Nat} {l : List α} (hc : ∀ i x, l[i]? = some x → w.cell? ⟨g, i, none⟩ = some (f x)) {n : Nat} (hn : n ≤ l.length) : PartV w (.slice (some ⟨g, 0, none⟩) n cap) ((l.take n).map f) := by
  refine .inr ⟨⟨g, 0, none⟩, cap, by rw [List.length_map, List.length_take, Nat.min_eq_left hn], fun j u hu => ?_⟩
  rw [List.getElem?_map] at hu
  obtain ⟨y, hy, rfl⟩ := Option.map_eq_some_iff.1 hu
  rw [add_plain, Nat.zero_add]
  refine hc j y ?_
  rw [List.getElem?_take] at hy
  split at hy
  · exact hy
  · cases hy
theorem part_back {α : Type} {w : World} {f : α → Value} {g cap : Nat} {l : List α} (hc : ∀ i x, l[i]? = some x → w.cell? ⟨g, i, none⟩ = some (f x)) {n m : Nat} (hm : m = l.length - n) : PartV w (.slice (some ⟨g, n, none⟩) m cap) ((l.drop n).map f) := by
  refine .inr ⟨⟨g, n, none⟩, cap, by rw [List.length_map, List.length_drop, hm], fun j u hu => ?_⟩
  rw [List.getElem?_map] at hu
  obtain ⟨y, hy, rfl⟩ := Option.map_eq_some_iff.1 hu
  rw [add_plain]
  refine hc (n + j) y ?_
  rw [List.getElem?_drop] at hy
  exact hy
end Go.Proofs.Ytgdlnifncmiebaa
