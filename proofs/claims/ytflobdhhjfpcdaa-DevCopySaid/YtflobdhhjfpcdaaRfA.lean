/-
  The reference's devices, as the same plain data as the program's (what sectors tell is of no moment here).
-/
import Derived.Test.YtflobdhhjfpcdaaDevOne
import Derived.Test.YtflobdhhjfpcdaaSched3
namespace Go.Proofs.Ytflobdhhjfpcdaa
open Go.RowKit Go.ChangeShapes Go.WideShapes Go.ChangeAt

theorem infoRw : (Try.prog.info? 64).map (fun i => (i.zero, i.size, i.bytes)) = some (some (.agg #[.int .i64 0, .int .i64 0, .string ⟨#[]⟩]), 3, 32) := by kernel_rfl
/-- The value v is a slice of the call's own that holds the writes l. -/
def Rws (w : World) (v : Value) (l : List WrD) : Prop := w.ownsRow 0 64 3 v l.length (l.flatMap WrV)
theorem Rws.nil (w : World) : Rws w (.slice none 0 0) [] := World.ownsRow_nil _ _ _ _
theorem Rws.lt {w : World} {v : Value} {l : List WrD} (h : Rws w v l) (k : Nat) (hk : v.ownBlock = some k) : k < w.heap.size := ownsRow_lt h k hk
theorem Rws.of {w w' : World} {v : Value} {l : List WrD} (h : Rws w v l) (hb : ∀ k, v.ownBlock = some k → k < w.heap.size → w'.heap[k]? = w.heap[k]?) : Rws w' v l := ownsRow_of h hb
theorem Rws.keep {w w' : World} {v : Value} {l : List WrD} (h : Rws w v l) (hb : Below w.heap.size w w') : Rws w' v l := h.of fun k _ hlt => hb.block k hlt
theorem Rws.view {w : World} {v : Value} {l : List WrD} (h : Rws w v l) : ∃ a cap, v = .slice a l.length cap ∧ ∀ i (hi : i < l.length), ∃ g, a = some ⟨g, 0, none⟩ ∧ g < w.heap.size ∧ w.cell? ⟨g, i * 3, none⟩ = some (.int .i64 l[i].1.1) ∧ w.cell? ⟨g, i * 3 + 1, none⟩ = some (.int .i64 l[i].1.2) ∧ w.cell? ⟨g, i * 3 + 2, none⟩ = some (.string l[i].2) := by
  have h' := h
  rcases h.2 with ⟨rfl, h0⟩ | ⟨g, cap, cur, rfl, hg, hh, _⟩
  · exact ⟨none, 0, by rw [h0], fun i hi => by omega⟩
  · refine ⟨some ⟨g, 0, none⟩, cap, rfl, fun i hi => ⟨g, rfl, lt_of_block hh, ?_, ?_, ?_⟩⟩
    · have := flat_get WrV 3 wrV_len l i _ (List.getElem?_eq_getElem hi) 0 (by decide)
      rw [World.ownsRow.cellAt h' (i * 3) (by omega)]; exact this
    · have := flat_get WrV 3 wrV_len l i _ (List.getElem?_eq_getElem hi) 1 (by decide)
      rw [World.ownsRow.cellAt h' (i * 3 + 1) (by omega)]; exact this
    · have := flat_get WrV 3 wrV_len l i _ (List.getElem?_eq_getElem hi) 2 (by decide)
      rw [World.ownsRow.cellAt h' (i * 3 + 2) (by omega)]; exact this
/-- 'append(out, x)' of one write. -/
theorem wp_rws_push {ops : Array Oper} {rest : List Oper} {o : Oper} {a : Act} {Q : Exit → Act → World → Prop} (W : World) (hgd : o.guard = none) (s x : Operand)
    (ho : o.op = .call { callee := .builtin .append, args := #[s, x], argTypes := #[43, 43] })
    (v : Value) (l : List WrD) (hs : a.eval s = v) (hb : Rws W v l)
    (g c : Nat) (p : WrD) (hx : a.eval x = .slice (some ⟨g, 0, none⟩) 1 c) (hcell : ∀ j u, (WrV p)[j]? = some u → W.cell? ⟨g, j, none⟩ = some u)
    (hbytes : l.length ≤ 100000)
    (h : ∀ v' w', Rws w' v' (l ++ [p]) → W.grownBy w' v.ownBlock → (v'.ownBlock = v.ownBlock ∨ v'.ownBlock = some W.heap.size) → wpList Try.prog ops Q rest (a.put o.dst v') w') : wpList Try.prog ops Q (o :: rest) a W := by
  obtain ⟨i0, hi, hz0, hz1, hz2⟩ := info_parts infoRw
  obtain ⟨v', w', hr, hown, hg, _, hob⟩ := run_append_own_at (P := Try.prog) W 0 43 o.type 64 i0 (.agg #[.int .i64 0, .int .i64 0, .string ⟨#[]⟩]) 3 32 Try.underlying43 hi hz0 hz1 hz2 rfl (by decide) v l.length _ hb ⟨g, 0, none⟩ 1 c (WrV p) rfl
    (fun j u hj => by
      rw [add_plain, Nat.zero_add]
      exact hcell j u hj) (wrV_one p) (by unfold maxLen; omega) (by omega) (Nat.zero_le _)
  refine wpList_plain hgd fun K hK => ?_
  unfold Oper.wp execOp
  simp only [ho, resolve, invoke, builtin, Sem.run_bind, Sem.run_pure, Result.andThen_ok, List.map_toArray, List.map_cons, List.map_nil, hs, hx, hr]
  refine hK _ _ (h v' w' ?_ hg hob)
  unfold Rws
  rw [List.flatMap_append, List.length_append, List.flatMap_cons, List.flatMap_nil, List.append_nil]
  exact hown

/-- Where the reference's devices lie. -/
structure RefP where
  b : Nat
  sb : Nat
  gb : Nat
  r0 : Nat
  r1 : Nat
  c0 : Nat
  c1 : Nat
  wv : Value
def RefP.fp (p : RefP) : List Nat := [p.b, p.sb, p.gb, p.r0, p.r1] ++ p.wv.ownBlock.toList
structure RefAt (w : World) (p : RefP) (d : DevD) : Prop where
  box : Box w p.b 45 #[.slice (some ⟨p.sb, 0, none⟩) 2 2, .slice (some ⟨p.gb, 0, none⟩) 2 2, p.wv]
  s : Box w p.sb 53 #[.slice (some ⟨p.r0, 0, none⟩) d.s0.has.length p.c0, .slice (some ⟨p.r1, 0, none⟩) d.s1.has.length p.c1]
  g : Box w p.gb 4 #[.bool d.s0.lost, .bool d.s1.lost]
  h0 : Strs w p.r0 p.c0 d.s0.has
  h1 : Strs w p.r1 p.c1 d.s1.has
  wt : Rws w p.wv d.waits
  nd : p.fp.Nodup
  n0 : 1 ≤ d.s0.has.length ∧ d.s0.has.length ≤ 512
  n1 : 1 ≤ d.s1.has.length ∧ d.s1.has.length ≤ 512
  wok : ∀ x ∈ d.waits, locOk d x.1
theorem RefAt.ne {w : World} {p : RefP} {d : DevD} (h : RefAt w p d) : p.b ≠ p.sb ∧ p.b ≠ p.gb ∧ p.b ≠ p.r0 ∧ p.b ≠ p.r1 ∧ p.sb ≠ p.gb ∧ p.sb ≠ p.r0 ∧ p.sb ≠ p.r1 ∧ p.gb ≠ p.r0 ∧ p.gb ≠ p.r1 ∧ p.r0 ≠ p.r1 ∧
    ∀ k, p.wv.ownBlock = some k → p.b ≠ k ∧ p.sb ≠ k ∧ p.gb ≠ k ∧ p.r0 ≠ k ∧ p.r1 ≠ k := by
  have hn := h.nd
  simp only [RefP.fp, List.cons_append, List.nil_append, List.nodup_cons, List.mem_cons, not_or, Option.mem_toList] at hn
  obtain ⟨⟨a1, a2, a3, a4, a5⟩, ⟨b2, b3, b4, b5⟩, ⟨c3, c4, c5⟩, ⟨d4, d5⟩, e5, _⟩ := hn
  exact ⟨a1, a2, a3, a4, b2, b3, b4, c3, c4, d4, fun k hk => ⟨fun e => a5 (e ▸ hk), fun e => b5 (e ▸ hk), fun e => c5 (e ▸ hk), fun e => d5 (e ▸ hk), fun e => e5 (e ▸ hk)⟩⟩
theorem RefAt.lt {w : World} {p : RefP} {d : DevD} (h : RefAt w p d) : ∀ k ∈ p.fp, k < w.heap.size := by
  intro k hk
  simp only [RefP.fp, List.mem_append, List.mem_cons, List.not_mem_nil, or_false, Option.mem_toList] at hk
  rcases hk with (rfl | rfl | rfl | rfl | rfl) | h1
  · exact h.box.lt
  · exact h.s.lt
  · exact h.g.lt
  · exact h.h0.lt
  · exact h.h1.lt
  · exact h.wt.lt k h1
theorem RefAt.chg {S : List Nat} {w w' : World} {p : RefP} {d : DevD} (h : RefAt w p d) (hc : Chg S w w') (hd : ∀ k ∈ p.fp, k ∉ S) : RefAt w' p d :=
  ⟨h.box.of (hc.block p.b h.box.lt (hd _ (by simp [RefP.fp]))), h.s.of (hc.block p.sb h.s.lt (hd _ (by simp [RefP.fp]))), h.g.of (hc.block p.gb h.g.lt (hd _ (by simp [RefP.fp]))), h.h0.chg hc (hd _ (by simp [RefP.fp])), h.h1.chg hc (hd _ (by simp [RefP.fp])),
    h.wt.of fun k hk hlt => hc.block k hlt (hd _ (by simp [RefP.fp, hk])), h.nd, h.n0, h.n1, h.wok⟩
theorem RefAt.keep {w w' : World} {p : RefP} {d : DevD} (h : RefAt w p d) (hb : Below w.heap.size w w') : RefAt w' p d := h.chg (Chg.of (S := []) hb (Nat.le_refl _)) (fun _ _ h => by cases h)
/-- Block b is the reference's devices d, whose blocks are F. -/
def RefF (b : Nat) (d : DevD) (F : List Nat) (w : World) : Prop := ∃ p, p.b = b ∧ RefAt w p d ∧ F = p.fp
theorem fixed_ref (b : Nat) (d : DevD) : Fixed (RefF b d) := by
  refine ⟨?_, ?_⟩
  · rintro G S w1 w2 ⟨p, e, h, rfl⟩ hc hn
    exact ⟨p, e, h.chg hc hn, rfl⟩
  · rintro G w ⟨p, e, h, rfl⟩
    exact h.lt
/-- From p's blocks: what changed lies in them; behind it there are the devices d'. -/
def RefTo (p : RefP) (d' : DevD) (w w' : World) : Prop := ∃ p', p'.b = p.b ∧ RefAt w' p' d' ∧ Chg p.fp w w' ∧ ∀ k ∈ p'.fp, k ∈ p.fp ∨ w.heap.size ≤ k
theorem RefTo.same {p : RefP} {d : DevD} {w w' : World} (h : RefAt w p d) (hb : Below w.heap.size w w') : RefTo p d w w' := ⟨p, rfl, h.keep hb, Chg.of hb (Nat.le_refl _), fun _ h => .inl h⟩
theorem RefTo.ahead {p : RefP} {d' : DevD} {w w1 w' : World} (hb : Below w.heap.size w w1) (h : RefTo p d' w1 w') : RefTo p d' w w' := by
  obtain ⟨p', e, h1, h2, h3⟩ := h
  refine ⟨p', e, h1, (Chg.of (S := p.fp) hb (Nat.le_refl _)).trans h2, fun k hk => ?_⟩
  rcases h3 k hk with h | h
  · exact .inl h
  · exact .inr (Nat.le_trans hb.size h)
theorem RefTo.behind {p : RefP} {d' : DevD} {w w1 w' : World} (h : RefTo p d' w w1) (hb : Below w1.heap.size w1 w') : RefTo p d' w w' := by
  obtain ⟨p', e, h1, h2, h3⟩ := h
  exact ⟨p', e, h1.keep hb, h2.trans (Chg.of hb (Nat.le_refl _)), h3⟩
end Go.Proofs.Ytflobdhhjfpcdaa
