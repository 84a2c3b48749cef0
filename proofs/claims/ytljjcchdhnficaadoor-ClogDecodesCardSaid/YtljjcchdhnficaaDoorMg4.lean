/-
  Texts put together: Rows2, CgRows, ClogO, Builder.
-/
import Derived.Test.YtljjcchdhnficaaDoorMg0
import Derived.Deep.RegionLaw
import Derived.Maps.AppendAt
import Derived.Test.YtljjcchdhnficaaDoorMg2
import Derived.Deep.Upon
import Derived.Test.YtljjcchdhnficaaDoorClogN
import Derived.Test.YtljjcchdhnficaaDoorMg1
import Derived.Shelf.Strings.Builder1
namespace Go.Proofs.YtljjcchdhnficaaDoor
open Go.RowKit

theorem flat_len {α : Type} (f : α → List Value) (n : Nat) (hn : ∀ x, (f x).length = n) : ∀ l : List α, (l.flatMap f).length = l.length * n
  | [] => by simp
  | x :: r => by rw [List.flatMap_cons, List.length_append, hn, flat_len f n hn r, List.length_cons, Nat.add_mul]; omega

theorem flat_get {α : Type} (f : α → List Value) (n : Nat) (hn : ∀ x, (f x).length = n) : ∀ (l : List α) (i : Nat) (x : α), l[i]? = some x → ∀ j, j < n → (l.flatMap f)[i * n + j]? = (f x)[j]?
  | [], i, x, h, _, _ => by simp at h
  | y :: r, 0, x, h, j, hj => by
    simp only [List.getElem?_cons_zero, Option.some.injEq] at h
    subst h
    rw [List.flatMap_cons, Nat.zero_mul, Nat.zero_add, List.getElem?_append_left (by rw [hn]; exact hj)]
  | y :: r, i + 1, x, h, j, hj => by
    simp only [List.getElem?_cons_succ] at h
    have h1 := flat_get f n hn r i x h j hj
    rw [List.flatMap_cons, List.getElem?_append_right (by rw [hn, Nat.add_mul]; omega), hn, ← h1]
    congr 1
    rw [Nat.add_mul]; omega

/-- Whatever holds of the row's block holds of the row. -/
theorem ownsRow_of {w w' : World} {base : Nat} {e : TypeId} {sz : Nat} {v : Value} {n : Nat} {xs : List Value} (h : w.ownsRow base e sz v n xs) (hb : ∀ k, v.ownBlock = some k → k < w.heap.size → w'.heap[k]? = w.heap[k]?) : w'.ownsRow base e sz v n xs := by
  refine ⟨h.1, ?_⟩
  rcases h.2 with ⟨rfl, h0⟩ | ⟨g, cap, cur, rfl, hg, hh, h3⟩
  · exact .inl ⟨rfl, h0⟩
  · exact .inr ⟨g, cap, cur, rfl, hg, by rw [hb g rfl (lt_of_block hh)]; exact hh, h3⟩
theorem ownsRow_lt {w : World} {base : Nat} {e : TypeId} {sz : Nat} {v : Value} {n : Nat} {xs : List Value} (h : w.ownsRow base e sz v n xs) (k : Nat) (hk : v.ownBlock = some k) : k < w.heap.size := by
  rcases h.2 with ⟨rfl, h0⟩ | ⟨g, cap, cur, rfl, hg, hh, h3⟩
  · cases hk
  · simp [Value.ownBlock] at hk; subst hk; exact lt_of_block hh
end Go.Proofs.YtljjcchdhnficaaDoor

namespace Go.Proofs.YtljjcchdhnficaaDoor
open Go.RowKit Go.ChangeShapes Go.WideShapes Go.ChangeAt

/-- A type of entries. -/
def Four (e : TypeId) : Prop := (Tryd.prog.info? e).map (fun i => (i.zero, i.size, i.bytes)) = some (some (.agg #[.string ⟨#[]⟩, .string ⟨#[]⟩, .int .i64 0, .int .i64 0]), 4, 48)
theorem four_C : Four 54 := by unfold Four; kernel_rfl
theorem four_R : Four 53 := by unfold Four; kernel_rfl
theorem SlC.nil {w : World} : SlC w none [] := fun h => absurd rfl h

/-- The value v is a slice of the call's own that holds the entries l. -/
def Cgs (e : TypeId) (w : World) (base : Nat) (v : Value) (l : List CgE) : Prop := w.ownsRow base e 4 v l.length (l.flatMap cgL)
theorem Cgs.nil (e : TypeId) (w : World) (base : Nat) : Cgs e w base (.slice none 0 0) [] := World.ownsRow_nil _ _ _ _
theorem Cgs.base {e : TypeId} {w : World} {b b' : Nat} {v : Value} {l : List CgE} (h : Cgs e w b v l) (hb : b' ≤ b) : Cgs e w b' v l := by
  refine ⟨h.1, ?_⟩
  rcases h.2 with h | ⟨g, cap, cur, h1, h2, h3⟩
  · exact .inl h
  · exact .inr ⟨g, cap, cur, h1, Nat.le_trans hb h2, h3⟩
theorem Cgs.keep {e : TypeId} {w w' : World} {base : Nat} {v : Value} {l : List CgE} (h : Cgs e w base v l) (hb : Below w.heap.size w w') : Cgs e w' base v l :=
  ownsRow_of h fun k _ hlt => hb.block k hlt
theorem Cgs.view {e : TypeId} {w : World} {base : Nat} {v : Value} {l : List CgE} (h : Cgs e w base v l) : ∃ a cap, v = .slice a l.length cap ∧ SlC w a l := by
  have h' := h
  rcases h.2 with ⟨rfl, h0⟩ | ⟨g, cap, cur, rfl, hg, hh, _⟩
  · have : l = [] := List.eq_nil_of_length_eq_zero h0
    subst this
    exact ⟨none, 0, rfl, SlC.nil⟩
  · refine ⟨some ⟨g, 0, none⟩, cap, rfl, fun _ => ⟨g, 0, rfl, lt_of_block hh, fun i x hx j u hj => ?_⟩⟩
    have hi : i < l.length := (List.getElem?_eq_some_iff.1 hx).1
    have hj4 : j < 4 := (List.getElem?_eq_some_iff.1 hj).1
    have h0 := flat_get cgL 4 (fun _ => rfl) l i x hx j hj4
    rw [Nat.zero_add, World.ownsRow.cellAt h' (i * 4 + j) (by omega), h0]
    exact hj
theorem Cgs.own_blk {e : TypeId} {w : World} {base : Nat} {v : Value} {l : List CgE} (h : Cgs e w base v l) : ∀ k, v.ownBlock = some k → base ≤ k ∧ k < w.heap.size := fun k hk => World.ownsRow.lt h k hk
theorem Cgs.grown {e : TypeId} {w w' : World} {base : Nat} {v : Value} {l : List CgE} {r : Option Nat} (h : Cgs e w base v l) (hg : w.grownBy w' r) (hn : ∀ k, v.ownBlock = some k → r ≠ some k) : Cgs e w' base v l :=
  ownsRow_of h fun k hk hlt => hg.block k hlt (fun e => hn k hk e.symm)

/-- 'append(out, x)' of an entry that lies in a box of its own. -/
theorem wp_cgs_push {t e : TypeId} (ht : Tryd.prog.underlying t = some (.slice e)) (he : Four e) {ops : Array Oper} {rest : List Oper} {o : Oper} {a : Act} {Q : Exit → Act → World → Prop} (W : World) (hgd : o.guard = none) (s x : Operand)
    (ho : o.op = .call { callee := .builtin .append, args := #[s, x], argTypes := #[t, t] })
    (base : Nat) (v : Value) (l : List CgE) (hs : a.eval s = v) (hb : Cgs e W base v l)
    (g c : Nat) (p : CgE) (hx : a.eval x = .slice (some ⟨g, 0, none⟩) 1 c) (hcell : ∀ j u, (cgL p)[j]? = some u → W.cell? ⟨g, j, none⟩ = some u)
    (hbytes : l.length + 1 ≤ 100000) (hbase : base ≤ W.heap.size)
    (h : ∀ v' w', Cgs e w' base v' (l ++ [p]) → W.grownBy w' v.ownBlock → (v'.ownBlock = v.ownBlock ∨ v'.ownBlock = some W.heap.size) → wpList Tryd.prog ops Q rest (a.put o.dst v') w') : wpList Tryd.prog ops Q (o :: rest) a W := by
  obtain ⟨i0, hi, hz0, hz1, hz2⟩ := info_parts he
  obtain ⟨v', w', hr, hown, hg, _, hob⟩ := run_append_own_at (P := Tryd.prog) W base t o.type e i0 (.agg #[.string ⟨#[]⟩, .string ⟨#[]⟩, .int .i64 0, .int .i64 0]) 4 48 ht hi hz0 hz1 hz2 rfl (by decide) v l.length _ hb ⟨g, 0, none⟩ 1 c (cgL p) rfl
    (fun j u hj => by
      rw [add_plain, Nat.zero_add]
      exact hcell j u hj) (by
      intro u hu
      simp only [cgL, List.mem_cons, List.not_mem_nil, or_false] at hu
      rcases hu with rfl | rfl | rfl | rfl <;> rfl) (by unfold maxLen; omega) (by omega) hbase
  refine wpList_plain hgd fun K hK => ?_
  unfold Oper.wp execOp
  simp only [ho, resolve, invoke, builtin, Sem.run_bind, Sem.run_pure, Result.andThen_ok, List.map_toArray, List.map_cons, List.map_nil, hs, hx, hr]
  refine hK _ _ (h v' w' ?_ hg hob)
  unfold Cgs
  rw [List.flatMap_append, List.length_append, List.flatMap_cons, List.flatMap_nil, List.append_nil]
  exact hown
theorem below_cgs {w w' : World} {base : Nat} {e : TypeId} {v : Value} {l : List CgE} {a : World} (h : Below base a w) (hg : w.grownBy w' v.ownBlock) (hr : Cgs e w base v l) (hb : base ≤ w.heap.size) : Below base a w' :=
  h.grown hg hb fun k hk => (World.ownsRow.lt hr k hk).1
end Go.Proofs.YtljjcchdhnficaaDoor

namespace Go.Proofs.YtljjcchdhnficaaDoor
open Go.RowKit Go.ChangeShapes Go.WideShapes Go.ChangeAt

/-- A block, as it lies in a row. -/
structure BkD where
  seq : Int
  a : Option Addr
  cap : Nat
  ents : List CgE
def bkM (x : BkD) : Int × List CgE := (x.seq, x.ents)
def SlBk (w : World) (a : Option Addr) (l : List BkD) : Prop := l ≠ [] → ∃ b off, a = some ⟨b, off, none⟩ ∧ b < w.heap.size ∧ ∀ i x, l[i]? = some x → w.cell? ⟨b, off + i * 2, none⟩ = some (.int .i64 x.seq) ∧ w.cell? ⟨b, off + i * 2 + 1, none⟩ = some (.slice x.a x.ents.length x.cap) ∧ SlC w x.a x.ents
theorem SlBk.keep {w w' : World} {a : Option Addr} {l : List BkD} (h : SlBk w a l) (hb : Below w.heap.size w w') : SlBk w' a l := fun hne => by
  obtain ⟨b, off, e, hlt, hc⟩ := h hne
  exact ⟨b, off, e, Nat.lt_of_lt_of_le hlt hb.size, fun i x hx => ⟨(hb.cell (p := ⟨b, off + i * 2, none⟩) hlt).trans (hc i x hx).1, (hb.cell (p := ⟨b, off + i * 2 + 1, none⟩) hlt).trans (hc i x hx).2.1, (hc i x hx).2.2.keep hb⟩⟩
theorem SlBk.get {w : World} {a : Option Addr} {l : List BkD} (h : SlBk w a l) (k : Nat) (hk : k < l.length) :
    ∃ b off, a = some ⟨b, off, none⟩ ∧ b < w.heap.size ∧ w.cell? ⟨b, off + k * 2, none⟩ = some (.int .i64 (l[k]).seq) ∧ w.cell? ⟨b, off + k * 2 + 1, none⟩ = some (.slice (l[k]).a (l[k]).ents.length (l[k]).cap) ∧ SlC w (l[k]).a (l[k]).ents := by
  obtain ⟨b, off, e, hlt, hc⟩ := h (by intro e; rw [e] at hk; simp at hk)
  exact ⟨b, off, e, hlt, hc k _ (List.getElem?_eq_getElem hk)⟩

theorem foldE_len (q : Int) : ∀ (l : List CgE) (m : List DtD), (l.foldl (stepE q) m).length ≤ m.length + l.length
  | [], _ => Nat.le_refl _
  | x :: r, m => by
    have h1 := foldE_len q r (stepE q m x)
    have h2 := stepE_len q m x
    simp only [List.foldl_cons, List.length_cons]
    omega
theorem stepB_len (m : List DtD) (b : Int × List CgE) : (stepB m b).length ≤ m.length + 7 := by
  unfold stepB
  split
  · next h =>
    have h1 := foldE_len b.1 b.2 m
    unfold chkC at h
    split at h
    · next h2 => have := h2.2.2.1; omega
    · cases h
  · omega
theorem foldB_len : ∀ (l : List (Int × List CgE)) (m : List DtD), (l.foldl stepB m).length ≤ m.length + 7 * l.length
  | [], _ => Nat.le_refl _
  | x :: r, m => by
    have h1 := foldB_len r (stepB m x)
    have h2 := stepB_len m x
    simp only [List.foldl_cons, List.length_cons]
    omega
theorem newD_len (l : List (Int × List CgE)) : (newD l).length ≤ 7 * l.length := by
  have := foldB_len l []
  simpa [newD] using this
theorem foldE_snoc (q : Int) (m : List DtD) (l : List CgE) (k : Nat) (h : k < l.length) : (l.take (k + 1)).foldl (stepE q) m = stepE q ((l.take k).foldl (stepE q) m) l[k] := by
  rw [List.take_succ_eq_append_getElem h, List.foldl_append]
  rfl
theorem newD_snoc (l : List BkD) (k : Nat) (h : k < l.length) : newD ((l.take (k + 1)).map bkM) = stepB (newD ((l.take k).map bkM)) (bkM l[k]) := by
  rw [List.take_succ_eq_append_getElem h, List.map_append]
  unfold newD
  rw [List.foldl_append]
  rfl
theorem pos_wf {x : CgE} (h : MayC x) : (Lit.int .i64 x.pos).wf = true := by
  obtain ⟨_, _, _, _, _, h1, h2⟩ := h
  have h3 : IntKind.i64.min ≤ x.pos ∧ x.pos ≤ IntKind.i64.max := by
    rw [show IntKind.i64.min = -9223372036854775808 from rfl, show IntKind.i64.max = 9223372036854775807 from rfl]
    omega
  simpa [Lit.wf] using h3

/-- What lies in the map: entries that may be, each at its own place. -/
def GoodD (m : List DtD) : Prop := NoDupD m ∧ ∀ x ∈ m, MayC x.2.1 ∧ x.1 = x.2.1.pos
theorem GoodD.step {m : List DtD} (h : GoodD m) {q : Int} {x : CgE} (hx : MayC x) : GoodD (stepE q m x) := by
  refine ⟨stepE_nodup h.1, fun y hy => ?_⟩
  unfold stepE at hy
  split at hy
  · unfold putD at hy
    rcases List.mem_append.1 hy with hy | hy
    · exact h.2 y (List.mem_filter.1 hy).1
    · rw [List.mem_singleton.1 hy]; exact ⟨hx, rfl⟩
  · exact h.2 y hy
theorem GoodD.fold {q : Int} : ∀ (l : List CgE) {m : List DtD}, GoodD m → (∀ x ∈ l, MayC x) → GoodD (l.foldl (stepE q) m)
  | [], _, h, _ => h
  | x :: r, _, h, ha => GoodD.fold r (h.step (ha x List.mem_cons_self)) (fun y hy => ha y (List.mem_cons_of_mem _ hy))
theorem GoodD.block {m : List DtD} (h : GoodD m) (b : Int × List CgE) : GoodD (stepB m b) := by
  unfold stepB
  split
  · next h0 =>
    unfold chkC at h0
    split at h0
    · next h2 => exact h.fold b.2 h2.2.2.2
    · cases h0
  · exact h
theorem good_fold : ∀ (l : List (Int × List CgE)) {m : List DtD}, GoodD m → GoodD (l.foldl stepB m)
  | [], _, h => h
  | x :: r, _, h => good_fold r (h.block x)
theorem good_new (l : List (Int × List CgE)) : GoodD (newD l) := good_fold l ⟨List.Pairwise.nil, fun x hx => by cases hx⟩
/-- A row of ints that the call made. -/
theorem ints_view {w : World} {base : Nat} {v : Value} {l : List Int} (h : w.ownsRow base 3 1 v l.length (l.map (Value.int .i64))) :
    ∃ a cap, v = .slice a l.length cap ∧ ∀ j (hj : j < l.length), ∃ g, a = some ⟨g, 0, none⟩ ∧ g < w.heap.size ∧ w.cell? ⟨g, j, none⟩ = some (.int .i64 l[j]) := by
  have h' := h
  rcases h.2 with ⟨rfl, h0⟩ | ⟨g, cap, cur, rfl, hg, hh, _⟩
  · exact ⟨none, 0, by rw [h0], fun j hj => by omega⟩
  · refine ⟨some ⟨g, 0, none⟩, cap, rfl, fun j hj => ⟨g, rfl, lt_of_block hh, ?_⟩⟩
    rw [World.ownsRow.cellAt h' j (by omega), List.getElem?_map, List.getElem?_eq_getElem hj]
    rfl
/-- The keys in their order; what is merged of each. -/
def keysD (m : List DtD) : List Int := (m.map (·.1)).mergeSort (fun x y => decide (x ≤ y))
def pickD (m : List DtD) (k : Int) : CgE := match findD m k with | none => default | some x => x.1
theorem keysD_find {m : List DtD} (h : GoodD m) (j : Nat) (hj : j < (keysD m).length) : ∃ x, findD m (keysD m)[j] = some x ∧ (Lit.int .i64 (keysD m)[j]).wf = true := by
  have h1 : (keysD m)[j] ∈ m.map (·.1) := List.mem_mergeSort.1 (List.getElem_mem hj)
  obtain ⟨y, hy, he⟩ := List.mem_map.1 h1
  have h2 := dfind_of_mem h.1 hy
  have h3 := h.2 y hy
  refine ⟨y.2, by rw [← he]; exact h2, ?_⟩
  rw [← he]
  show (Lit.int .i64 y.1).wf = true
  rw [h3.2]
  exact pos_wf h3.1
theorem keysD_len (m : List DtD) : (keysD m).length = m.length := by
  unfold keysD
  rw [List.length_mergeSort, List.length_map]
theorem mergeL_eq (l : List (Int × List CgE)) : mergeL l = (keysD (newD l)).map (pickD (newD l)) := rfl
end Go.Proofs.YtljjcchdhnficaaDoor

namespace Go.Proofs.YtljjcchdhnficaaDoor
open Go.RowKit

/-- The builder in block b holds the bytes l; its buffer and itself are the call's own from B on. -/
def IsBd (w : World) (B b : Nat) (l : List UInt8) : Prop := Lib.IsBuilder 57 5 B b (Lib.byteCells l) w
theorem sizeBd : (Tryd.prog.info? 57).map (·.size) = some 2 := by kernel_rfl
theorem liesBd : liesAt Tryd.prog Tryd.prog.depth 57 (2 / Tryd.prog.cellsOf 57) 0 57 1 = true := by kernel_rfl
theorem infoBd : (Tryd.prog.info? 5).map (fun i => (i.zero, i.size, i.bytes)) = some (some (.int .u8 0), 1, 1) := by kernel_rfl

theorem IsBd.new (w : World) (B : Nat) (hB : B ≤ w.heap.size) : IsBd (w.alloc (.cells #[.pointer none, .slice none 0 0] 57)) B w.heap.size [] :=
  .inl ⟨hB, .slice none 0 0, heap_alloc_new w _, World.ownsRow_nil _ _ _ _, by simp [Value.ownBlock]⟩

set_option maxRecDepth 100000 in
set_option maxHeartbeats 1000000 in
theorem bdcheck_fresh (b : Nat) (w : World) (h0 : w.cell? ⟨b, 0, none⟩ = some (.pointer none)) (hsh : w.shape? b = some (57, 2)) (hfz : w.frozen? ⟨b, 0, none⟩ = false) :
    Calls Tryd.prog 46 #[.pointer (some ⟨b, 0, none⟩)] w fun e w' => e = .returned (.tuple #[]) ∧ w' = w.setCell ⟨b, 0, none⟩ (.pointer (some ⟨b, 0, none⟩)) := by
  obtain ⟨j, hj, hjs⟩ := Option.map_eq_some_iff.1 sizeBd
  go_enter Tryd.func46, Tryd.ntmps46
  go_wp2
  rw [Lib.run_to_unsafe w ⟨b, 0, none⟩ Tryd.underlying55 Tryd.underlying104 hj (by rw [hjs]; decide) hsh (Nat.zero_lt_succ 1)]
  simp only [Result.andThen]
  rw [Oper.upon_value]
  go_wp2
  rw [run_callFunc_extern Tryd.func61 (by kernel_rfl) (by kernel_rfl) (by kernel_rfl) (e := Extern.AbiNoEscape.same) (by kernel_rfl)]
  rw [Lib.run_noEscape]
  simp only [Result.andThen]
  rw [Oper.upon_value]
  go_wp2
  rw [Lib.run_from_unsafe w ⟨b, 0, none⟩ Tryd.underlying104 Tryd.underlying55 hj hsh liesBd]
  simp only [Result.andThen]
  rw [Oper.upon_value]
  go_wp2
  go_end0
  exact ⟨rfl, rfl⟩

set_option maxRecDepth 100000 in
set_option maxHeartbeats 1000000 in
theorem bdcheck_used (b : Nat) (w : World) (h0 : w.cell? ⟨b, 0, none⟩ = some (.pointer (some ⟨b, 0, none⟩))) :
    Calls Tryd.prog 46 #[.pointer (some ⟨b, 0, none⟩)] w fun e w' => e = .returned (.tuple #[]) ∧ w' = w := by
  obtain ⟨j, hj, _⟩ := Option.map_eq_some_iff.1 sizeBd
  go_enter Tryd.func46, Tryd.ntmps46
  go_wp2
  rw [Lib.run_neq_ptr_same w _ Tryd.underlying55 hj]
  go_wp2
  go_end0
  exact ⟨rfl, rfl⟩

theorem bdcheck_any (B b : Nat) (l : List UInt8) (w : World) (h : IsBd w B b l) :
    Calls Tryd.prog 46 #[.pointer (some ⟨b, 0, none⟩)] w fun e w' => e = .returned (.tuple #[]) ∧ Lib.BuilderAt 57 5 B b (.pointer (some ⟨b, 0, none⟩)) (Lib.byteCells l) w' ∧ Below B w w' := by
  rcases h with h | h
  · refine (bdcheck_fresh b w h.cell0 h.shape h.frozen0).mono ?_
    rintro e w' ⟨rfl, rfl⟩
    exact ⟨rfl, h.used _, (Below.refl B w).setCell (p := ⟨b, 0, none⟩) h.1 _⟩
  · refine (bdcheck_used b w h.cell0).mono ?_
    rintro e w' ⟨rfl, rfl⟩
    exact ⟨rfl, h, Below.refl B _⟩

set_option maxRecDepth 100000 in
set_option maxHeartbeats 2000000 in
/-- 'b.WriteString(s)'. -/
theorem wstr_any (B b : Nat) (l : List UInt8) (s : ByteArray) (w : World) (h : IsBd w B b l) (hlen : l.length + s.size ≤ 1000000) (hBw : B ≤ w.heap.size) :
    Calls Tryd.prog 22 #[.pointer (some ⟨b, 0, none⟩), .string s] w fun e w' => e = .returned (.tuple #[.int .i64 s.size, .nilIface]) ∧ IsBd w' B b (l ++ s.data.toList) ∧ Below B w w' := by
  obtain ⟨i0, hi, hz0, hz1, hz2⟩ := info_parts infoBd
  have hll : (Lib.byteCells l).length = l.length := Lib.byteCells_length l
  go_enter Tryd.func22, Tryd.ntmps22
  go_wp2_with fail
  refine (bdcheck_any B b l _ h).mono ?_
  rintro e w1 ⟨rfl, h1, hb1⟩
  obtain ⟨hB, v, hbk, hown, hne⟩ := h1
  have c0 : w1.cell? ⟨b, 0, none⟩ = some (.pointer (some ⟨b, 0, none⟩)) := by rw [Lib.cell_of_heap hbk]; rfl
  have c1 : w1.cell? ⟨b, 1, none⟩ = some v := by rw [Lib.cell_of_heap hbk]; rfl
  go_wp2_with (at_builtin; refine Lib.wpList_append_own_string _ rfl _ _ 50 9 rfl B 5 i0 Tryd.underlying50 Tryd.underlying9 hi hz0 hz1 hz2 _ _ _ rfl hown s rfl ?c3 ?c4 ?c5 ?_)
  case c3 => rw [hll]; unfold maxLen; omega
  case c4 => rw [hll]; omega
  case c5 => have := hb1.size; omega
  intro v' w2 hown' hgrow _
  have hlt : b < w1.heap.size := lt_of_block hbk
  have hb2 : w2.heap[b]? = some (.cells #[.pointer (some ⟨b, 0, none⟩), v] 57 (0, 0)) := by
    rw [hgrow.block b hlt (fun e => hne e.symm)]
    exact hbk
  have d0 : w2.cell? ⟨b, 0, none⟩ = some (.pointer (some ⟨b, 0, none⟩)) := by rw [Lib.cell_of_heap hb2]; rfl
  have d1 : w2.cell? ⟨b, 1, none⟩ = some v := by rw [Lib.cell_of_heap hb2]; rfl
  have f1 : w2.frozen? ⟨b, 1, none⟩ = false := Lib.frozen_of_heap hb2 1
  obtain ⟨ao, n', cap, rfl⟩ : ∃ ao n' cap, v' = .slice ao n' cap := by
    rcases hown'.2 with ⟨hv, _⟩ | ⟨g, cap, cur, hv, _⟩
    · exact ⟨_, _, _, hv⟩
    · exact ⟨_, _, _, hv⟩
  go_wp2
  go_ret2
  refine ⟨rfl, .inr ?_, ?_⟩
  · rw [Lib.byteCells_append, ← Lib.strCells_eq]
    exact Lib.BuilderAt.put (T := 57) (e := 5) hB hb2 (bs' := Lib.byteCells l ++ Lib.strCells s) (by rw [List.length_append, Lib.strCells_length, hll]; exact hown') (by decide)
  · exact (hb1.grown hgrow (by have := hb1.size; omega) (fun k hk => (hown.lt k hk).1)).setCell (p := ⟨b, 1, none⟩) hB _

/-! String: the shelf's contract, laid by names. -/
def bdRen : Go.Shelf.Ren := ⟨fun | 169 => 25 | n => n, fun | 70 => 55 | 9 => 9 | 0 => 0 | 72 => 57 | 37 => 50 | 127 => 90 | 3 => 3 | 5 => 5 | n => n, fun | n => n⟩
theorem bdLays : Go.Proofs.Lays.n169 Tryd.prog bdRen := {
  mixed := by kernel_rfl
  f169 := Tryd.func25.trans (congrArg some (by kernel_rfl))
  t0 := Tryd.underlying0
  a0 := Tryd.isAgg0
  z0 := Tryd.sizeOf0
  v0 := Tryd.zeroValue0
  t3 := Tryd.underlying3
  a3 := Tryd.isAgg3
  z3 := Tryd.sizeOf3
  v3 := Tryd.zeroValue3
  t9 := Tryd.underlying9
  a9 := Tryd.isAgg9
  z9 := Tryd.sizeOf9
  v9 := Tryd.zeroValue9
  t37 := Tryd.underlying50
  a37 := Tryd.isAgg50
  z37 := Tryd.sizeOf50
  v37 := Tryd.zeroValue50
  t70 := Tryd.underlying55
  a70 := Tryd.isAgg55
  z70 := Tryd.sizeOf55
  v70 := Tryd.zeroValue55
  t72 := Tryd.underlying57
  a72 := Tryd.isAgg57
  z72 := Tryd.sizeOf57
  v72 := Tryd.zeroValue57
  t127 := Tryd.underlying90
  a127 := Tryd.isAgg90
  z127 := Tryd.sizeOf90
  v127 := Tryd.zeroValue90 }
theorem bdExtra : Builder.Extra Tryd.prog bdRen := {
  sizeBuilder := by kernel_rfl
  liesBuilder := by kernel_rfl
  t5 := Tryd.underlying5
  a5 := Tryd.isAgg5
  z5 := Tryd.sizeOf5
  v5 := Tryd.zeroValue5
  infoByte := by kernel_rfl
  cellsByte := by kernel_rfl
  sizeByte := by kernel_rfl
  neB5 := by decide }
theorem bstr_any (B b : Nat) (l : List UInt8) (w : World) (h : IsBd w B b l) (hBw : B ≤ w.heap.size) :
    Calls Tryd.prog 25 #[.pointer (some ⟨b, 0, none⟩)] w fun e w' => e = .returned (.string ⟨l.toArray⟩) ∧ Below B w w' := Any.Builder_String_any bdLays bdExtra B b l w h hBw
end Go.Proofs.YtljjcchdhnficaaDoor
