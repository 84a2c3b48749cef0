/-
  Texts put together: ClogR, ClogY, SeL.
-/
import Derived.Test.YtopinlnjdgedeaaDoorClogP
import Derived.Test.YtopinlnjdgedeaaDoorMg34
import Derived.Shelf.SlIterI.Sorted
import Derived.Test.YtopinlnjdgedeaaDoorMg32
import Derived.Test.YtopinlnjdgedeaaDoorMg18
import Derived.Test.YtopinlnjdgedeaaDoorSeK
namespace Go.Proofs.YtopinlnjdgedeaaDoor
open Go.RowKit Go.Maps Go.Sort Go.Shelf

theorem sortsZ (m : Nat) : AnyZI.SortsIn Tryd.prog Tryd.sortedA_ren Fence.wide m :=
  ⟨fun blk off cap ss W hH hblk hsz => callsIn_wide.2 (Tryd.slices_Sort_int blk off cap ss W hH hblk hsz),
   fun p cap W => callsIn_wide.2 (Tryd.slices_Sort_int_none p cap W)⟩
theorem keys_perm {w : World} {m n : Nat} {D : DataW Unit} {M : List DtD} (hown : w.ownsMap Tryd.prog 3 dtR m n D) (h : DtIs D M) : (M.map (·.1)).Perm (intKeys D) := by
  refine CollectedI.perm (left := fun _ => false) ⟨?_, fun x => ?_⟩ hown keyedZ Tryd.underlying3 (fun _ => rfl)
  · exact List.pairwise_map.2 h.nodup
  · have h1 := h.has x
    unfold kz at h1
    rw [h1]
    constructor
    · intro hx
      obtain ⟨y, hy, rfl⟩ := List.mem_map.1 hx
      rw [dfind_of_mem h.nodup hy]
      exact ⟨rfl, rfl⟩
    · rintro ⟨hx, _⟩
      cases e : findD M x with
      | none => rw [e] at hx; cases hx
      | some v => exact List.mem_map.2 ⟨_, dfind_mem e, rfl⟩

set_option maxHeartbeats 1000000 in
theorem keys_sorted : KeysSorted := by
  intro w m M hM hlen
  obtain ⟨D, hown, hDI⟩ := hM
  have hsize : Maps.size D = M.length := hDI.size
  have hbl := hown.lt
  have cK : CallsIn Fence.wide 5 Tryd.prog 52 #[.map (some m)] w fun e w' => e = .returned (.func (.func 69) #[] #[.pointer (some ⟨w.heap.size, 0, none⟩)]) ∧ w' = w.alloc (.cells #[.map (some m)] 97) := AnyZI.keys_in Tryd.keysA Fence.wide 5 trivial rfl (some m) w
  refine ((callsIn_wide (n := 5)).1 cK).mono ?_
  rintro e w1 ⟨rfl, rfl⟩
  refine ⟨_, rfl, (Below.refl _ w).alloc (Nat.le_refl _) _, ?_⟩
  have hseq : SeqGives Fence.wide 2 Tryd.prog 69 #[.pointer (some ⟨w.heap.size, 0, none⟩)] encZ (fun ss => ss.Perm (intKeys D)) (Maps.size D) (w.alloc (.cells #[.map (some m)] 97)) :=
    AnyZI.keys_gives (ρ := Tryd.keysA_ren) { Tryd.keysA with } Fence.wide _ trivial rfl (by omega) w.heap.size m _ D _ (by simp) (by simp) (by
      obtain ⟨es, clock, hb, Ft, hs, hD⟩ := hown
      exact ⟨es, clock, (Below.heap_alloc _ _ m hbl).trans hb, Ft, hs, hD⟩)
  have cS := AnyZI.sorted_in Tryd.sortedA Fence.wide 5 trivial trivial trivial trivial rfl (by omega) (sortsZ _) (enters_of Tryd.func68 (by kernel_rfl) rfl) 69 #[.pointer (some ⟨w.heap.size, 0, none⟩)] trivial (enters_of Tryd.func69 (by kernel_rfl) rfl) _ _ (by rw [hsize]; unfold maxLen; omega) (by rw [hsize]; omega) _ hseq
  change CallsIn _ _ Tryd.prog 51 _ _ _ at cS
  refine ((callsIn_wide (n := 5)).1 cS).mono ?_
  rintro e w2 ⟨v, ss, rfl, hS, hrow, _, hb⟩
  refine ⟨v, rfl, ?_, hb⟩
  have hp : ss.Perm (M.map (·.1)) := hS.trans (keys_perm hown hDI).symm
  have hk : ss.mergeSort (fun x y => decide (x ≤ y)) = keysD M := mergeSort_of_perm_i hp
  rw [← hk, List.length_mergeSort]
  exact hrow

theorem cmerge_ok (a : Option Addr) (cap : Nat) (l : List BkD) (w : World) (h : SlBk w a l) (hl : l.length ≤ 100) :
    Calls Tryd.prog 40 #[.slice a l.length cap] w fun e w' => ∃ v, e = .returned v ∧ Cgs 64 w' w.heap.size v (mergeL (l.map bkM)) ∧ Below w.heap.size w w' := cmerge_any keys_sorted a cap l w h hl
end Go.Proofs.YtopinlnjdgedeaaDoor

namespace Go.Proofs.YtopinlnjdgedeaaDoor
open Go.RowKit Go.ChangeShapes Go.WideShapes Go.ChangeAt

def bkL (x : BkD) : List Value := [.int .i64 x.seq, .slice x.a x.ents.length x.cap]
theorem two_B : (Tryd.prog.info? 77).map (fun i => (i.zero, i.size, i.bytes)) = some (some (.agg #[.int .i64 0, .slice none 0 0]), 2, 32) := by kernel_rfl
/-- The value v is a slice of the call's own that holds the blocks l; their entries lie anywhere. -/
structure Bks (w : World) (base : Nat) (v : Value) (l : List BkD) : Prop where
  row : w.ownsRow base 77 2 v l.length (l.flatMap bkL)
  ents : ∀ x ∈ l, SlC w x.a x.ents
theorem Bks.nil (w : World) (base : Nat) : Bks w base (.slice none 0 0) [] := ⟨World.ownsRow_nil _ _ _ _, fun _ h => by cases h⟩
theorem Bks.keep {w w' : World} {base : Nat} {v : Value} {l : List BkD} (h : Bks w base v l) (hb : Below w.heap.size w w') : Bks w' base v l :=
  ⟨ownsRow_of h.row fun k _ hlt => hb.block k hlt, fun x hx => (h.ents x hx).keep hb⟩
theorem Bks.view {w : World} {base : Nat} {v : Value} {l : List BkD} (h : Bks w base v l) : ∃ a cap, v = .slice a l.length cap ∧ SlBk w a l := by
  have h' := h.row
  rcases h.row.2 with ⟨rfl, h0⟩ | ⟨g, cap, cur, rfl, hg, hh, _⟩
  · have : l = [] := List.eq_nil_of_length_eq_zero h0
    subst this
    exact ⟨none, 0, rfl, fun h => absurd rfl h⟩
  · refine ⟨some ⟨g, 0, none⟩, cap, rfl, fun _ => ⟨g, 0, rfl, lt_of_block hh, fun i x hx => ?_⟩⟩
    have hi : i < l.length := (List.getElem?_eq_some_iff.1 hx).1
    have hc : ∀ j u, j < 2 → (bkL x)[j]? = some u → w.cell? ⟨g, 0 + i * 2 + j, none⟩ = some u := fun j u hj hu => by
      have h0 := flat_get bkL 2 (fun _ => rfl) l i x hx j hj
      rw [Nat.zero_add, World.ownsRow.cellAt h' (i * 2 + j) (by omega), h0]
      exact hu
    exact ⟨hc 0 _ (by decide) rfl, hc 1 _ (by decide) rfl, h.ents x (List.mem_of_getElem? hx)⟩
theorem wp_bks_push {t : TypeId} (ht : Tryd.prog.underlying t = some (.slice 77)) {ops : Array Oper} {rest : List Oper} {o : Oper} {a : Act} {Q : Exit → Act → World → Prop} (W : World) (hgd : o.guard = none) (s x : Operand)
    (ho : o.op = .call { callee := .builtin .append, args := #[s, x], argTypes := #[t, t] })
    (base : Nat) (v : Value) (l : List BkD) (hs : a.eval s = v) (hb : Bks W base v l)
    (g c : Nat) (p : BkD) (hx : a.eval x = .slice (some ⟨g, 0, none⟩) 1 c) (hcell : ∀ j u, (bkL p)[j]? = some u → W.cell? ⟨g, j, none⟩ = some u) (hp : SlC W p.a p.ents)
    (hown : ∀ x ∈ l ++ [p], ∀ b off, x.a = some ⟨b, off, none⟩ → v.ownBlock ≠ some b)
    (hbytes : l.length + 1 ≤ 100000) (hbase : base ≤ W.heap.size)
    (h : ∀ v' w', Bks w' base v' (l ++ [p]) → W.grownBy w' v.ownBlock → (v'.ownBlock = v.ownBlock ∨ v'.ownBlock = some W.heap.size) → wpList Tryd.prog ops Q rest (a.put o.dst v') w') : wpList Tryd.prog ops Q (o :: rest) a W := by
  obtain ⟨i0, hi, hz0, hz1, hz2⟩ := info_parts two_B
  obtain ⟨v', w', hr, hown', hg, _, hob⟩ := run_append_own_at (P := Tryd.prog) W base t o.type 77 i0 (.agg #[.int .i64 0, .slice none 0 0]) 2 32 ht hi hz0 hz1 hz2 rfl (by decide) v l.length _ hb.row ⟨g, 0, none⟩ 1 c (bkL p) rfl
    (fun j u hj => by
      rw [add_plain, Nat.zero_add]
      exact hcell j u hj) (by
      intro u hu
      simp only [bkL, List.mem_cons, List.not_mem_nil, or_false] at hu
      rcases hu with rfl | rfl <;> rfl) (by unfold maxLen; omega) (by omega) hbase
  refine wpList_plain hgd fun K hK => ?_
  unfold Oper.wp execOp
  simp only [ho, resolve, invoke, builtin, Sem.run_bind, Sem.run_pure, Result.andThen_ok, List.map_toArray, List.map_cons, List.map_nil, hs, hx, hr]
  refine hK _ _ (h v' w' ⟨?_, ?_⟩ hg hob)
  · rw [List.flatMap_append, List.length_append, List.flatMap_cons, List.flatMap_nil, List.append_nil]
    exact hown'
  · intro y hy
    have hyw : SlC W y.a y.ents := by
      rcases List.mem_append.1 hy with h | h
      · exact hb.ents y h
      · rw [List.mem_singleton.1 h]
        exact hp
    intro hne
    obtain ⟨b, off, e, hlt, hc⟩ := hyw hne
    refine ⟨b, off, e, Nat.lt_of_lt_of_le hlt hg.size, fun i z hz j u hu => ?_⟩
    have hblk := hg.block b hlt (fun e2 => hown y hy b off e e2.symm)
    rw [show w'.cell? ⟨b, off + i * 4 + j, none⟩ = W.cell? ⟨b, off + i * 4 + j, none⟩ by simp only [World.cell?, hblk]]
    exact hc i z hz j u hu
theorem below_bks {w w' : World} {base : Nat} {v : Value} {l : List BkD} {a : World} (h : Below base a w) (hg : w.grownBy w' v.ownBlock) (hr : Bks w base v l) (hb : base ≤ w.heap.size) : Below base a w' :=
  h.grown hg hb fun k hk => (World.ownsRow.lt hr.row k hk).1
end Go.Proofs.YtopinlnjdgedeaaDoor

namespace Go.Proofs.YtopinlnjdgedeaaDoor
open Go Go.RowKit Go.ChangeShapes Go.WideShapes Go.ChangeAt

def behX (x : SecD) (fi : Nat) : Nat := if roomN x.n ≤ fi + 7 then 0 else fi + 7
def recS (d : DevD) (x : SecD) (st : List (Int × List CgE) × SecD) (fi : Nat) : List (Int × List CgE) × SecD :=
  if (readX d x fi).1 = true then (st.1 ++ [(readX d x fi).2], if (st.2.num : Int) ≤ (readX d x fi).2.1 then { st.2 with num := (readX d x fi).2.1.toNat, hand := behX x fi } else st.2) else st
def recT (d : DevD) (x : SecD) : Nat → List (Int × List CgE) × SecD
  | 0 => ([], x)
  | i + 1 => recS d x (recT d x i) (7 * i)
theorem recT_succ (d : DevD) (x : SecD) (i : Nat) : recT d x (i + 1) = recS d x (recT d x i) (7 * i) := rfl
theorem recS_no {d : DevD} {x : SecD} {st : List (Int × List CgE) × SecD} {fi : Nat} (h : (readX d x fi).1 = false) : recS d x st fi = st := by unfold recS; rw [h]; exact if_neg (by simp)
theorem recS_new {d : DevD} {x : SecD} {st : List (Int × List CgE) × SecD} {fi : Nat} {q : Nat} (h : (readX d x fi).1 = true) (hq : (readX d x fi).2.1 = q) (hn : st.2.num ≤ q) : recS d x st fi = (st.1 ++ [(readX d x fi).2], { st.2 with num := q, hand := behX x fi }) := by
  unfold recS
  rw [if_pos h, if_pos (by rw [hq]; omega), hq]
  rfl
theorem recS_old {d : DevD} {x : SecD} {st : List (Int × List CgE) × SecD} {fi : Nat} {q : Nat} (h : (readX d x fi).1 = true) (hq : (readX d x fi).2.1 = q) (hn : ¬ st.2.num ≤ q) : recS d x st fi = (st.1 ++ [(readX d x fi).2], st.2) := by
  unfold recS
  rw [if_pos h, if_neg (by rw [hq]; omega)]
structure RecOk (x : SecD) (i : Nat) (st : List (Int × List CgE) × SecD) : Prop where
  f : st.2.f = x.f
  n : st.2.n = x.n
  e : st.2.e = x.e
  len : st.1.length ≤ i
theorem recT_ok (d : DevD) (x : SecD) : ∀ i, RecOk x i (recT d x i)
  | 0 => ⟨rfl, rfl, rfl, Nat.le_refl _⟩
  | i + 1 => by
    obtain ⟨h1, h2, h3, h4⟩ := recT_ok d x i
    rw [recT_succ]
    unfold recS
    split
    · refine ⟨?_, ?_, ?_, ?_⟩
      · show (if _ then _ else _ : SecD).f = _
        split
        · exact h1
        · exact h1
      · show (if _ then _ else _ : SecD).n = _
        split
        · exact h2
        · exact h2
      · show (if _ then _ else _ : SecD).e = _
        split
        · exact h3
        · exact h3
      · rw [List.length_append, List.length_singleton]
        omega
    · exact ⟨h1, h2, h3, Nat.le_succ_of_le h4⟩
theorem readX_eq {d : DevD} {x y : SecD} (hf : y.f = x.f) (hn : y.n = x.n) (fi : Nat) : readX d y fi = readX d x fi := by
  unfold readX
  rw [hf, hn]
theorem readX_seq (d : DevD) (x : SecD) (fi : Nat) : ∃ q : Nat, (readX d x fi).2.1 = q ∧ q ≤ 1099511627776 := by
  rcases decC_cases (tellD d (1, ((secN x.f fi - 1 : Nat) : Int))) with ⟨e, h, he⟩ | ⟨q, l, h, hc⟩
  · rw [readX_err h he]
    exact ⟨0, rfl, by decide⟩
  · obtain ⟨h0, h1, _⟩ := chkC_zero hc
    have hz : ∃ n : Nat, q = n ∧ n ≤ 1099511627776 := ⟨q.toNat, by omega, by omega⟩
    unfold readX
    rw [h]
    split
    · exact hz
    · exact ⟨0, rfl, by decide⟩
theorem readX_len (d : DevD) (x : SecD) (fi : Nat) : (readX d x fi).2.2.length ≤ 7 := by
  have h := decC_len (tellD d (1, ((secN x.f fi - 1 : Nat) : Int)))
  unfold readX
  split
  · exact h
  · exact Nat.zero_le _
def putAll (e : List EnD) (l : List CgE) : List EnD := l.foldl (fun e y => putS e y.pos y) e
theorem putAll_snoc (e : List EnD) (l : List CgE) (k : Nat) (h : k < l.length) : putAll e (l.take (k + 1)) = putS (putAll e (l.take k)) (l[k]).pos l[k] := by
  unfold putAll
  rw [List.take_succ_eq_append_getElem h, List.foldl_append]
  rfl
theorem putAll_len (l : List CgE) : ∀ e : List EnD, (putAll e l).length ≤ e.length + l.length := by
  induction l with
  | nil => intro e; exact Nat.le_refl _
  | cons y l ih =>
    intro e
    have h1 := ih (putS e y.pos y)
    have h2 := sput_len (l := e) y.pos y
    show (putAll (putS e y.pos y) l).length ≤ _
    rw [List.length_cons]
    omega
def groups (n : Nat) : Nat := (roomN n + 6) / 7
def recX (d : DevD) (x : SecD) : SecD := { (recT d x (groups x.n)).2 with e := putAll x.e (mergeL (recT d x (groups x.n)).1) }
theorem mergeL_may (l : List (Int × List CgE)) (j : Nat) (hj : j < (mergeL l).length) : (Lit.int .i64 ((mergeL l)[j]).pos).wf = true := by
  have hg := good_new l
  have e := mergeL_eq l
  have hj2 : j < (keysD (newDt l)).length := by rw [e, List.length_map] at hj; exact hj
  obtain ⟨x, hx, hw⟩ := keysD_find hg j hj2
  have e2 : (mergeL l)[j] = pickD (newDt l) (keysD (newDt l))[j] := by simp only [e, List.getElem_map]
  rw [e2]
  unfold pickD
  rw [hx]
  have h3 := hg.2 _ (dfind_mem hx)
  exact pos_wf h3.1
theorem mergeL_len (l : List (Int × List CgE)) : (mergeL l).length ≤ 7 * l.length := by
  rw [mergeL_eq, List.length_map, keysD_len]
  exact newD_len l
end Go.Proofs.YtopinlnjdgedeaaDoor
