/-
  path.Split: the names, or that there are none.
-/
import Derived.Test.YteimpebfenpifaaGreatDoorMg4
namespace Go.Proofs.YteimpebfenpifaaGreatDoor
open Go Go.RowKit Go.Shelf

attribute [local go_sem] Oper.semAt_some

/-- Two results that lie in cells. -/
theorem results_cc {P : Program} {fn : Func} {p q : Tmp} {t1 t2 : TypeId} (h : fn.results = #[.cell p t1, .cell q t2]) (tmps : Array Value) (w : World) (a1 a2 : Addr) (v1 v2 : Value)
    (hp : tmps.getD p undef = .pointer (some a1)) (hq : tmps.getD q undef = .pointer (some a2)) (g1 : (isAgg t1).run P w = .ok false w) (g2 : (isAgg t2).run P w = .ok false w)
    (h1 : w.cell? a1 = some v1) (h2 : w.cell? a2 = some v2) : (results fn tmps).run P w = .ok (.tuple #[v1, v2]) w := by
  have hp' : tmps[p]?.getD undef = .pointer (some a1) := by simpa using hp
  have hq' : tmps[q]?.getD undef = .pointer (some a2) := by simpa using hq
  simp [results, h, hp', hq', asAddr, loadVar, Sem.run_bind, g1, g2, h1, h2, go_sem]

theorem split_none {s : ByteArray} (h : (pb s).head? ≠ some 47) : splitD s = ([], 12) := if_pos h
theorem split_root {s : ByteArray} (h : (pb s).head? = some 47) (h2 : (restP s).size = 0) : splitD s = ([], 0) := by
  unfold splitD; rw [if_neg (fun e => e h), if_pos h2]
theorem split_ok {s : ByteArray} (h : (pb s).head? = some 47) (h2 : (restP s).size ≠ 0) (h3 : ∀ x ∈ piecesB (restP s), okN x) : splitD s = (piecesB (restP s), 0) := by
  unfold splitD; rw [if_neg (fun e => e h), if_neg h2, if_pos h3]
theorem split_bad {s : ByteArray} (h : (pb s).head? = some 47) (h2 : (restP s).size ≠ 0) (h3 : ∃ x ∈ piecesB (restP s), ¬ okN x) : splitD s = ([], 12) := by
  unfold splitD; rw [if_neg (fun e => e h), if_neg h2, if_neg (fun e => by obtain ⟨x, hx, hn⟩ := h3; exact hn (e x hx))]

theorem seq_any (n : Nat) (hn : 1 ≤ n) (s : ByteArray) (W : World) : CallsIn Fence.wide n Tryz.prog 40 #[.string s, .string ⟨#[47]⟩] W fun e w' =>
    e = .returned (.func (.func 85) #[] #[.pointer (some ⟨W.heap.size + 1, 0, none⟩), .pointer (some ⟨W.heap.size, 0, none⟩), .pointer (some ⟨W.heap.size + 2, 0, none⟩)]) ∧
    w' = ((W.alloc (.cells #[.string s] 9)).alloc (.cells #[.string ⟨#[47]⟩] 9)).alloc (.cells #[.int .i64 0] 3) := by
  refine callsIn_of_wp Tryz.func40 rfl trivial ?_ rfl
  simp only [Tryz.ntmps40, List.size_toArray, List.length_cons, List.length_nil, Nat.reduceAdd, Nat.reduceSub, Array.replicate_succ, Array.replicate_zero, List.push_toArray, List.append_toArray, List.nil_append, List.cons_append]
  gi_wp2_with fail
  refine ⟨trivial, ?_⟩
  refine CallsIn.mono (R := fun e w' => e = .returned (.func (.func 85) #[] #[.pointer (some ⟨W.heap.size + 1, 0, none⟩), .pointer (some ⟨W.heap.size, 0, none⟩), .pointer (some ⟨W.heap.size + 2, 0, none⟩)]) ∧
    w' = ((W.alloc (.cells #[.string s] 9)).alloc (.cells #[.string ⟨#[47]⟩] 9)).alloc (.cells #[.int .i64 0] 3)) ?_ ?_
  · refine callsIn_of_wp Tryz.func63 rfl trivial ?_ rfl
    simp only [Tryz.ntmps63, List.size_toArray, List.length_cons, List.length_nil, Nat.reduceAdd, Nat.reduceSub, Array.replicate_succ, Array.replicate_zero, List.push_toArray, List.append_toArray, List.nil_append, List.cons_append]
    gi_wp2
    go_ret
    exact ⟨rfl, rfl⟩
  · rintro e w' ⟨rfl, rfl⟩
    gi_wp2
    go_ret
    exact ⟨rfl, rfl⟩

/-- The blocks of Split that the loop leaves alone: the results', the iterator's own, the loop's. -/
def SpLow (g : Nat) (rec : Loop) (X : World) : Prop :=
  X.heap[g]? = some (.cells #[.slice none 0 0] 31 (0, 0)) ∧ X.heap[g + 1]? = some (.cells #[.int .i64 0] 30 (0, 0)) ∧ X.heap[g + 4]? = some (.cells #[.string ⟨#[47]⟩] 9 (0, 0)) ∧
  X.heap[g + 5]? = some (.cells #[.int .i64 0] 3 (0, 0)) ∧ X.heap[g + 6]? = some (.deferred (some [])) ∧ X.heap[g + 7]? = some (.loop rec)
theorem SpLow.of {g : Nat} {rec : Loop} {X X' : World} (h : SpLow g rec X) (e : ∀ k, k < g + 8 → k ≠ g + 2 → k ≠ g + 3 → X'.heap[k]? = X.heap[k]?) : SpLow g rec X' := by
  obtain ⟨h1, h2, h3, h4, h5, h6⟩ := h
  exact ⟨(e _ (by omega) (by omega) (by omega)).trans h1, (e _ (by omega) (by omega) (by omega)).trans h2, (e _ (by omega) (by omega) (by omega)).trans h3, (e _ (by omega) (by omega) (by omega)).trans h4, (e _ (by omega) (by omega) (by omega)).trans h5, (e _ (by omega) (by omega) (by omega)).trans h6⟩
theorem SpLow.turn {g : Nat} {rec rec' : Loop} {X : World} (h : SpLow g rec X) : SpLow g rec' (X.putObj (g + 7) (.loop rec')) := by
  obtain ⟨h1, h2, h3, h4, h5, h6⟩ := h
  have e := fun k (hk : k ≠ g + 7) => World.putObj_heap_other (w := X) (r := g + 7) (o := .loop rec') hk
  exact ⟨(e _ (by omega)).trans h1, (e _ (by omega)).trans h2, (e _ (by omega)).trans h3, (e _ (by omega)).trans h4, (e _ (by omega)).trans h5, World.putObj_heap_same (Array.getElem?_eq_some_iff.1 h6).1⟩
/-- What stands between two rounds. -/
structure SpJ (w : World) (g : Nat) (rec : Loop) (pre : List ByteArray) (X : World) : Prop where
  low : SpLow g rec X
  st : ∃ u, Boxed X (g + 3) 9 u
  nm : ∃ v, Boxed X (g + 2) 31 v ∧ Ks X (g + 8) v pre
  sz : g + 8 ≤ X.heap.size
  ok : ∀ x ∈ pre, okN x
  bel : Below g w X
theorem SpJ.turn {w X : World} {g : Nat} {rec rec' : Loop} {pre : List ByteArray} (h : SpJ w g rec pre X) : SpJ w g rec' pre (X.putObj (g + 7) (.loop rec')) := by
  obtain ⟨u, hu⟩ := h.st
  obtain ⟨v, hv, hk⟩ := h.nm
  have e := fun k (hk : k ≠ g + 7) => World.putObj_heap_other (w := X) (r := g + 7) (o := .loop rec') hk
  refine ⟨h.low.turn, ⟨u, (e _ (by omega)).trans hu⟩, ⟨v, (e _ (by omega)).trans hv, ?_⟩, by rw [World.putObj_size]; exact h.sz, h.ok, ?_⟩
  · exact ownsRow_of hk fun k hk2 _ => e k (by have := hk.own_block k hk2; omega)
  · exact h.bel.grown (grownBy_putObj' X _ _) (by have := h.sz; omega) (fun k e => by cases e; omega)
theorem SpJ.set {w X : World} {g : Nat} {rec : Loop} {pre : List ByteArray} (h : SpJ w g rec pre X) (u : Value) : SpJ w g rec pre (X.setCell ⟨g + 3, 0, none⟩ u) := by
  obtain ⟨u0, hu⟩ := h.st
  obtain ⟨v, hv, hk⟩ := h.nm
  have e := fun k (hk : k ≠ g + 3) => heap_setCell_other X ⟨g + 3, 0, none⟩ k u hk
  refine ⟨h.low.of fun k _ _ hk => e k hk, ⟨u, hu.set u⟩, ⟨v, (e _ (by omega)).trans hv, ?_⟩, ?_, h.ok, h.bel.setCell (p := ⟨g + 3, 0, none⟩) (by show g ≤ g + 3; omega) _⟩
  · exact ownsRow_of hk fun k hk2 _ => e k (by have := hk.own_block k hk2; omega)
  · have := (Below.refl 0 X).setCell (p := ⟨g + 3, 0, none⟩) (Nat.zero_le _) u
    exact Nat.le_trans h.sz this.size
/-- A name more. -/
theorem SpJ.push {w X w1 : World} {g : Nat} {rec : Loop} {pre : List ByteArray} {x : ByteArray} {v v' : Value} {o : Obj} (h : SpJ w g rec pre X) (hv : Boxed X (g + 2) 31 v) (hk : Ks X (g + 8) v pre) (hx : okN x)
    (hown : Ks w1 (g + 8) v' (pre ++ [x])) (hg : (X.alloc o).grownBy w1 v.ownBlock) :
    Boxed w1 (g + 2) 31 v ∧ SpJ w g rec (pre ++ [x]) (w1.setCell ⟨g + 2, 0, none⟩ v') ∧ ∀ k, k < g + 8 → k ≠ g + 2 → (w1.setCell ⟨g + 2, 0, none⟩ v').heap[k]? = X.heap[k]? := by
  have hsz := h.sz
  have hob := hk.own_block
  have h1 : ∀ k, k < g + 8 → w1.heap[k]? = X.heap[k]? := fun k hk => by
    rw [hg.block k (by rw [size_alloc]; omega) (fun e => by have := hob k e.symm; omega)]
    exact Below.heap_alloc X o k (by omega)
  have e := fun k (hk : k ≠ g + 2) => heap_setCell_other w1 ⟨g + 2, 0, none⟩ k v' hk
  have h2 : ∀ k, k < g + 8 → k ≠ g + 2 → (w1.setCell ⟨g + 2, 0, none⟩ v').heap[k]? = X.heap[k]? := fun k hk hn => (e k hn).trans (h1 k hk)
  have hv1 : Boxed w1 (g + 2) 31 v := (h1 _ (by omega)).trans hv
  obtain ⟨u, hu⟩ := h.st
  refine ⟨hv1, ⟨h.low.of fun k hk hn _ => h2 k hk hn, ⟨u, (h2 _ (by omega) (by omega)).trans hu⟩, ⟨v', hv1.set v', ?_⟩, ?_, ?_, ?_⟩, h2⟩
  · exact ownsRow_of hown fun k hk2 _ => e k (by have := hown.own_block k hk2; omega)
  · have h3 := hg.size
    rw [size_alloc] at h3
    have := ((Below.refl 0 w1).setCell (p := ⟨g + 2, 0, none⟩) (Nat.zero_le _) v').size
    omega
  · intro y hy
    rcases List.mem_append.1 hy with hy | hy
    · exact h.ok y hy
    · rw [List.mem_singleton.1 hy]; exact hx
  · have h4 : Below g w w1 := (h.bel.alloc (by omega) o).grown hg (by rw [size_alloc]; omega) (fun k hk => by have := hob k hk; omega)
    exact h4.setCell (p := ⟨g + 2, 0, none⟩) (by show g ≤ g + 2; omega) _
/-- What stands behind a name that may not be. -/
def SpX (w : World) (g : Nat) (rec : Loop) (pre : List ByteArray) (X : World) : Prop :=
  X.heap[g]? = some (.cells #[.slice none 0 0] 31 (0, 0)) ∧ X.heap[g + 1]? = some (.cells #[.int .i64 12] 30 (0, 0)) ∧ X.heap[g + 6]? = some (.deferred (some [])) ∧ X.heap[g + 7]? = some (.loop rec) ∧ Below g w X ∧ ∃ x ∈ pre, ¬ okN x

set_option maxRecDepth 100000 in
set_option maxHeartbeats 2000000 in
theorem split_in (s : ByteArray) (hs : s.size ≤ 1100000) (w : World) : CallsIn Fence.wide 6 Tryz.prog 24 #[.string s] w fun e w' => ∃ v, e = .returned (.tuple #[v, .int .i64 (splitD s).2]) ∧ Ks w' w.heap.size v (splitD s).1 ∧ Below w.heap.size w w' := by
  have B0 := Box.new w 31 #[.slice none 0 0]
  have B1 := Box.new (w.alloc (.cells #[.slice none 0 0] 31)) 30 #[.int .i64 0]
  rw [size_alloc] at B1
  have HB : Hid (Below w.heap.size w ((w.alloc (.cells #[.slice none 0 0] 31)).alloc (.cells #[.int .i64 0] 30))) := ((Below.refl _ w).alloc (Nat.le_refl _) _).alloc (by rw [size_alloc]; omega) _
  refine callsIn_of_wp_marks Tryz.func24 rfl trivial ?_ rfl
  simp only [Tryz.ntmps24, List.size_toArray, List.length_cons, List.length_nil, Nat.reduceAdd, Nat.reduceSub, Array.replicate_succ, Array.replicate_zero, List.push_toArray, List.append_toArray, List.nil_append, List.cons_append]
  gi_wp2_with fail
  refine ⟨trivial, ?_⟩
  refine (callsIn_wide.2 (Tryz.strings_CutPrefix s ⟨#[47]⟩ _)).mono ?_
  rintro e w' ⟨rfl, rfl⟩
  rw [show (⟨#[47]⟩ : ByteArray).data.toList = [47] from rfl]
  by_cases hp : (pb s).head? = some 47
  · obtain ⟨e1, e2⟩ := cut_yes hp
    rw [e1, e2]
    clear e1 e2
    by_cases hz : (restP s).size = 0
    · have HE := Lib.hid (split_root hp hz)
      have e0 : restP s = ⟨#[]⟩ := by
        apply ByteArray.ext
        exact Array.eq_empty_of_size_eq_zero hz
      rw [e0]
      clear hp hz
      gi_wp2
      refine ⟨_, results_cc rfl _ _ ⟨w.heap.size, 0, none⟩ ⟨w.heap.size + 1, 0, none⟩ (.slice none 0 0) (.int .i64 0) rfl rfl (Tryz.isAgg31 _) (Tryz.isAgg30 _) ((B0.alloc _).cell 0 _ rfl) (B1.cell 0 _ rfl), ?_⟩
      exact ⟨_, by rw [HE.out], by rw [HE.out]; exact Ks.nil _ _, HB.out⟩
    · obtain ⟨g1, g2⟩ := str_some (restP s) (by omega)
      have HP := Lib.hid hp
      have HZ := Lib.hid hz
      have hrz : (restP s).size ≤ 1100000 := by unfold restP; rw [ByteArray.size_extract]; omega
      obtain ⟨W5, hW5⟩ : ∃ W5, W5 = (((((w.alloc (.cells #[.slice none 0 0] 31)).alloc (.cells #[.int .i64 0] 30)).alloc (.cells #[.slice none 0 0] 31)).alloc (.cells #[.string (restP s)] 9)).alloc (.cells #[.string ⟨#[47]⟩] 9)).alloc (.cells #[.int .i64 0] 3) := ⟨_, rfl⟩
      have hsz : W5.heap.size = w.heap.size + 6 := by rw [hW5]; simp only [size_alloc]
      have hbel : Below w.heap.size w W5 := by
        rw [hW5]
        exact ((((((Below.refl _ w).alloc (Nat.le_refl _) _).alloc (by simp only [size_alloc]; omega) _).alloc (by simp only [size_alloc]; omega) _).alloc (by simp only [size_alloc]; omega) _).alloc (by simp only [size_alloc]; omega) _).alloc (by simp only [size_alloc]; omega) _
      have hblk : W5.heap[w.heap.size]? = some (.cells #[.slice none 0 0] 31 (0, 0)) ∧ W5.heap[w.heap.size + 1]? = some (.cells #[.int .i64 0] 30 (0, 0)) ∧ W5.heap[w.heap.size + 2]? = some (.cells #[.slice none 0 0] 31 (0, 0)) ∧
          W5.heap[w.heap.size + 3]? = some (.cells #[.string (restP s)] 9 (0, 0)) ∧ W5.heap[w.heap.size + 4]? = some (.cells #[.string ⟨#[47]⟩] 9 (0, 0)) ∧ W5.heap[w.heap.size + 5]? = some (.cells #[.int .i64 0] 3 (0, 0)) := by
        rw [hW5]
        have hnew := fun (W : World) (o : Obj) (k : Nat) (h : k = W.heap.size) => (show (W.alloc o).heap[k]? = some o from h ▸ World.alloc_heap_new W o)
        have hold := fun (W : World) (o : Obj) (k : Nat) (h : k < W.heap.size) => Below.heap_alloc W o k h
        refine ⟨?_, ?_, ?_, ?_, ?_, ?_⟩
        · exact (hold _ _ _ (by simp only [size_alloc]; omega)).trans ((hold _ _ _ (by simp only [size_alloc]; omega)).trans ((hold _ _ _ (by simp only [size_alloc]; omega)).trans ((hold _ _ _ (by simp only [size_alloc]; omega)).trans ((hold _ _ _ (by simp only [size_alloc]; omega)).trans (hnew _ _ _ (by rfl))))))
        · exact (hold _ _ _ (by simp only [size_alloc]; omega)).trans ((hold _ _ _ (by simp only [size_alloc]; omega)).trans ((hold _ _ _ (by simp only [size_alloc]; omega)).trans ((hold _ _ _ (by simp only [size_alloc]; omega)).trans (hnew _ _ _ (by simp only [size_alloc])))))
        · exact (hold _ _ _ (by simp only [size_alloc]; omega)).trans ((hold _ _ _ (by simp only [size_alloc]; omega)).trans ((hold _ _ _ (by simp only [size_alloc]; omega)).trans (hnew _ _ _ (by simp only [size_alloc]))))
        · exact (hold _ _ _ (by simp only [size_alloc]; omega)).trans ((hold _ _ _ (by simp only [size_alloc]; omega)).trans (hnew _ _ _ (by simp only [size_alloc])))
        · exact (hold _ _ _ (by simp only [size_alloc]; omega)).trans (hnew _ _ _ (by simp only [size_alloc]))
        · exact hnew _ _ _ (by simp only [size_alloc])
      have HSZ := Lib.hid hsz
      have HBEL := Lib.hid hbel
      have HBLK := Lib.hid hblk
      clear hp hz B0 B1 HB hsz hbel hblk
      gi_wp2_with fail
      refine ⟨trivial, ?_⟩
      refine (seq_any 5 (by decide) (restP s) _).mono ?_
      rintro e w' ⟨rfl, rfl⟩
      rw [← hW5]
      simp only [size_alloc]
      have HW5 := Lib.hid hW5
      clear hW5
      gi_wp2_with fail
      refine range_enter rfl (by decide) (gf := 85) (lb := #[.pointer (some ⟨w.heap.size + 1 + 1 + 1 + 1, 0, none⟩), .pointer (some ⟨w.heap.size + 1 + 1 + 1, 0, none⟩), .pointer (some ⟨w.heap.size + 1 + 1 + 1 + 2, 0, none⟩)]) rfl trivial (enters_of Tryz.func85 (by kernel_rfl) rfl) ?_
      intro fn hfn RC hRC
      rw [HSZ.out]
      simp only [Nat.add_assoc, Nat.reduceAdd, Nat.reduceSub, List.append_toArray, List.cons_append, List.nil_append]
      obtain ⟨g, hgw⟩ : ∃ g, g = w.heap.size := ⟨_, rfl⟩
      have HG := Lib.hid hgw
      obtain ⟨X0, hX0⟩ : ∃ X0, X0 = (W5.alloc (.deferred (some []))).alloc (.loop (RC .ready none)) := ⟨_, rfl⟩
      rw [← hX0]
      have hzd : (W5.alloc (.deferred (some []))).heap.size = g + 7 := by rw [size_alloc, HSZ.out, hgw]
      have hz0 : X0.heap.size = g + 8 := by rw [hX0, size_alloc, hzd]
      have hl0 : X0.heap[g + 7]? = some (.loop (RC .ready none)) := by
        have := World.alloc_heap_new (W5.alloc (.deferred (some []))) (.loop (RC .ready none))
        rw [hzd] at this
        rw [hX0]; exact this
      have hd0 : X0.heap[g + 6]? = some (.deferred (some [])) := by
        rw [hX0, Below.heap_alloc _ _ _ (by rw [hzd]; omega)]
        have := World.alloc_heap_new W5 (.deferred (some []))
        rw [HSZ.out, ← hgw] at this
        exact this
      have ho0 : ∀ k, k < g + 6 → X0.heap[k]? = W5.heap[k]? := fun k hk => by
        rw [hX0, Below.heap_alloc _ _ _ (by rw [hzd]; omega), Below.heap_alloc _ _ _ (by rw [HSZ.out, ← hgw]; omega)]
      obtain ⟨b0, b1, b2, b3, b4, b5⟩ := HBLK.out
      rw [← hgw] at b0 b1 b2 b3 b4 b5 ⊢
      have hlow : SpLow g (RC .ready none) X0 := ⟨(ho0 _ (by omega)).trans b0, (ho0 _ (by omega)).trans b1, (ho0 _ (by omega)).trans b4, (ho0 _ (by omega)).trans b5, hd0, hl0⟩
      have hJ0 : SpJ w g (RC .ready none) [] X0 := ⟨hlow, ⟨_, (ho0 _ (by omega)).trans b3⟩, ⟨_, (ho0 _ (by omega)).trans b2, Ks.nil _ _⟩, by omega, fun x hx => (by cases hx), by
        rw [hX0, hgw]
        exact (HBEL.out.alloc (by rw [HSZ.out]; omega) _).alloc (by rw [size_alloc, HSZ.out]; omega) _⟩
      have hs0 : X0.cell? ⟨g + 3, 0, none⟩ = some (.string (restP s)) := Boxed.cell (t := 9) ((ho0 _ (by omega)).trans b3)
      clear hgw hX0 hzd hz0 hl0 hd0 ho0 b0 b1 b2 b3 b4 b5 hlow
      refine CallsIn.mono (iter_any 5 (g + 7) (g + 3) (g + 4) (g + 5) (by decide) (restP s) hrz (SpJ w g (RC .ready none)) (SpX w g (RC .done (some .ret))) ?js (fun pre W u h => h.set (.string u)) ?yy X0 hs0 hJ0) ?post
      case js =>
        intro pre W h
        obtain ⟨u, hu⟩ := h.st
        exact ⟨Boxed.cell (t := 9) h.low.2.2.1, Boxed.cell (t := 3) h.low.2.2.2.1, hu.frozen⟩
      case yy =>
        intro pre x X u hJ hu hpre
        have HL : Hid (pre.length ≤ 2000000) := by
          have h1 := hpre.length_le
          have h2 : (piecesB (restP s)).length ≤ (restP s).size + 1 := by
            unfold piecesB
            rw [List.length_map, ← pb_size]
            exact pieces_len _
          rw [List.length_append] at h1
          show _ ≤ _
          omega
        have hlp := hJ.low.2.2.2.2.2
        refine yield_round (r := RC .ready none) hlp (by rw [hRC]; rfl) (by rw [hRC]; exact hfn) (by rw [hRC]; rfl) ?_
        have hJb : SpJ w g (busyL (RC .ready none)) pre (X.putObj (g + 7) (.loop (busyL (RC .ready none)))) := hJ.turn
        have hu1 : (X.putObj (g + 7) (.loop (busyL (RC .ready none)))).cell? ⟨g + 3, 0, none⟩ = some (.string u) := (World.cell?_of_block (a := ⟨g + 3, 0, none⟩) (World.putObj_heap_other (by show g + 3 ≠ g + 7; omega))).trans hu
        have HJb := Lib.hid hJb
        have HU := Lib.hid hu1
        have HLP := Lib.hid hlp
        have HRC := Lib.hid hRC
        clear hJ hJb hu hu1 hlp
        rw [show (RC .ready none).assign = _ from by rw [hRC], show (RC .ready none).body = _ from by rw [hRC], show (RC .ready none).params = _ from by rw [hRC], show (RC .ready none).tmps = _ from by rw [hRC]]
        clear hRC
        dsimp only [recL]
        gi_wp2_with fail
        refine ⟨HLP.out, ?_⟩
        generalize X.putObj (g + 7) (.loop (busyL (RC .ready none))) = X1 at *
        have r0 : Boxed X1 g 31 (.slice none 0 0) := HJb.out.low.1
        have r1 : Boxed X1 (g + 1) 30 (.int .i64 0) := HJb.out.low.2.1
        have R0 := Lib.hid r0
        have R1 := Lib.hid r1
        clear r0 r1
        rw [← HG.out]
        gi_wp2_with fail
        refine ⟨trivial, ?_⟩
        refine (CallsIn.inRound (g + 7) (callsIn_wide.2 (isname_any x _))).mono ?_
        rintro e X2 ⟨rfl, rfl⟩
        by_cases hx : okN x
        · rw [decide_eq_true hx]
          obtain ⟨v, hv, hk⟩ := HJb.out.nm
          obtain ⟨i0, hi, hz0, hz1, hz2⟩ := info_parts infoKey
          have hc := hv.cell
          have HX := Lib.hid hx
          have hpl := HL.out
          have hbz := HJb.out.sz
          clear hx
          gi_wp2_with (gi_at_builtin; refine wpListIn_append_own _ rfl _ _ 31 rfl (g + 8) 9 i0 (.string ⟨#[]⟩) 1 16 Tryz.underlying31 hi hz0 hz1 hz2 rfl (by decide) _ _ _ rfl (World.ownsRow.alloc hk _) ⟨X1.heap.size, 0, none⟩ 1 1 [.string x] rfl rfl (cell_one_new _ _ _) (by simp [Value.oneCell']) (by unfold maxLen; omega) (by omega) (by rw [size_alloc]; omega) ?_; intro v' w1 hown' hgrow _; obtain ⟨g', cap', rfl⟩ := ownsRow_succ hown'; obtain ⟨hv1, hJ2, hlow2⟩ := HJb.out.push hv hk HX.out (by unfold Ks; rw [List.map_append, List.length_append]; exact hown') hgrow; have hc1 := hv1.cell; have hf1 := hv1.frozen)
          refine ⟨(hlow2 (g + 7) (by omega) (by omega)).trans HJb.out.low.2.2.2.2.2, .inl ⟨rfl, ?_, ?_⟩⟩
          · have h := hJ2.turn (rec' := readyL (RC .ready none))
            rw [show readyL (RC .ready none) = RC .ready none from by rw [HRC.out]; rfl] at h ⊢
            exact h
          · refine (World.cell?_of_block (a := ⟨g + 3, 0, none⟩) ((World.putObj_heap_other (by show g + 3 ≠ g + 7; omega)).trans (hlow2 (g + 3) (by omega) (by omega)))).trans HU.out
        · rw [decide_eq_false hx]
          have HN := Lib.hid hx
          clear hx
          have c0 := R0.out.cell
          have c1 := R1.out.cell
          have f0 := R0.out.frozen
          have f1 := R1.out.frozen
          gi_wp2
          have hb0 := R0.out.set (.slice none 0 0)
          have hb1 : Boxed (X1.setCell ⟨g, 0, none⟩ (.slice none 0 0)) (g + 1) 30 (.int .i64 0) := (heap_setCell_other X1 ⟨g, 0, none⟩ (g + 1) _ (by show g + 1 ≠ g; omega)).trans R1.out
          have hb2 := hb1.set (.int .i64 12)
          have ho : ∀ k, k ≠ g → k ≠ g + 1 → ((X1.setCell ⟨g, 0, none⟩ (.slice none 0 0)).setCell ⟨g + 1, 0, none⟩ (.int .i64 12)).heap[k]? = X1.heap[k]? := fun k h1 h2 =>
            (heap_setCell_other _ ⟨g + 1, 0, none⟩ k _ h2).trans (heap_setCell_other _ ⟨g, 0, none⟩ k _ h1)
          have hb3 : Boxed ((X1.setCell ⟨g, 0, none⟩ (.slice none 0 0)).setCell ⟨g + 1, 0, none⟩ (.int .i64 12)) g 31 (.slice none 0 0) := (heap_setCell_other _ ⟨g + 1, 0, none⟩ g _ (by show g ≠ g + 1; omega)).trans hb0
          have hbl : Below g w ((X1.setCell ⟨g, 0, none⟩ (.slice none 0 0)).setCell ⟨g + 1, 0, none⟩ (.int .i64 12)) := (HJb.out.bel.setCell (p := ⟨g, 0, none⟩) (Nat.le_refl _) _).setCell (p := ⟨g + 1, 0, none⟩) (Nat.le_succ _) _
          generalize (X1.setCell ⟨g, 0, none⟩ (.slice none 0 0)).setCell ⟨g + 1, 0, none⟩ (.int .i64 12) = X3 at *
          have hl3 := (ho (g + 7) (by omega) (by omega)).trans HJb.out.low.2.2.2.2.2
          have hd3 := (ho (g + 6) (by omega) (by omega)).trans HJb.out.low.2.2.2.2.1
          refine ⟨hl3, .inr ⟨rfl, ?_⟩⟩
          rw [show doneL (RC .ready none) .ret = RC .done (some .ret) from by rw [HRC.out]; rfl]
          have e := fun k (hk : k ≠ g + 7) => World.putObj_heap_other (w := X3) (r := g + 7) (o := .loop (RC .done (some .ret))) hk
          exact ⟨(e _ (by omega)).trans hb3, (e _ (by omega)).trans hb2, (e _ (by omega)).trans hd3, World.putObj_heap_same (Array.getElem?_eq_some_iff.1 hl3).1, hbl.grown (grownBy_putObj' X3 _ _) (by rw [HG.out]; exact (HG.out ▸ hbl.size)) (fun k e => by cases e; omega), x, by simp, HN.out⟩
      case post =>
        rintro e W2 ⟨⟨v, rfl⟩, hJ | ⟨pre, hpre, hX⟩⟩
        · refine ⟨⟨_, rfl⟩, .ready, none, by simp, hJ.low.2.2.2.2.2, ?_⟩
          have hJe := hJ.turn (rec' := RC .exhausted none)
          have HSP := Lib.hid (split_ok HP.out HZ.out hJ.ok)
          clear hJ
          dsimp only [leaveL]
          generalize W2.putObj (g + 7) (.loop (RC .exhausted none)) = W3 at *
          have HJ := Lib.hid hJe
          obtain ⟨v, hv, hk⟩ := hJe.nm
          obtain ⟨a, cap, rfl, _⟩ := hk.view
          have r0 : Boxed W3 g 31 (.slice none 0 0) := hJe.low.1
          have r1 : Boxed W3 (g + 1) 30 (.int .i64 0) := hJe.low.2.1
          have R0 := Lib.hid r0
          have R1 := Lib.hid r1
          have HK := Lib.hid hk
          have c0 := r0.cell
          have c1 := r1.cell
          have f0 := r0.frozen
          have f1 := r1.frozen
          have c2 := hv.cell
          clear hJe hk hv r0 r1
          gi_wp2
          have hb0 := R0.out.set (.slice a (piecesB (restP s)).length cap)
          have hb1 : Boxed (W3.setCell ⟨g, 0, none⟩ (.slice a (piecesB (restP s)).length cap)) (g + 1) 30 (.int .i64 0) := (heap_setCell_other W3 ⟨g, 0, none⟩ (g + 1) _ (by show g + 1 ≠ g; omega)).trans R1.out
          have hb2 := hb1.set (.int .i64 0)
          have hb3 : Boxed ((W3.setCell ⟨g, 0, none⟩ (.slice a (piecesB (restP s)).length cap)).setCell ⟨g + 1, 0, none⟩ (.int .i64 0)) g 31 (.slice a (piecesB (restP s)).length cap) := (heap_setCell_other _ ⟨g + 1, 0, none⟩ g _ (by show g ≠ g + 1; omega)).trans hb0
          have ho : ∀ k, k ≠ g → k ≠ g + 1 → ((W3.setCell ⟨g, 0, none⟩ (.slice a (piecesB (restP s)).length cap)).setCell ⟨g + 1, 0, none⟩ (.int .i64 0)).heap[k]? = W3.heap[k]? := fun k h1 h2 =>
            (heap_setCell_other _ ⟨g + 1, 0, none⟩ k _ h2).trans (heap_setCell_other _ ⟨g, 0, none⟩ k _ h1)
          have hbl : Below g w ((W3.setCell ⟨g, 0, none⟩ (.slice a (piecesB (restP s)).length cap)).setCell ⟨g + 1, 0, none⟩ (.int .i64 0)) := (HJ.out.bel.setCell (p := ⟨g, 0, none⟩) (Nat.le_refl _) _).setCell (p := ⟨g + 1, 0, none⟩) (Nat.le_succ _) _
          generalize (W3.setCell ⟨g, 0, none⟩ (.slice a (piecesB (restP s)).length cap)).setCell ⟨g + 1, 0, none⟩ (.int .i64 0) = X3 at *
          have hd3 := (ho (g + 6) (by omega) (by omega)).trans HJ.out.low.2.2.2.2.1
          have e := fun k (hk : k ≠ g + 6) => World.putObj_heap_other (w := X3) (r := g + 6) (o := .deferred none) hk
          refine ⟨by simp, .inl ⟨_, _, rfl, run_takeDeferred hd3, ?_⟩⟩
          refine ⟨_, results_cc rfl _ _ ⟨g, 0, none⟩ ⟨g + 1, 0, none⟩ (.slice a (piecesB (restP s)).length cap) (.int .i64 0) rfl rfl (Tryz.isAgg31 _) (Tryz.isAgg30 _) (Boxed.cell ((e _ (by omega)).trans hb3)) (Boxed.cell ((e _ (by omega)).trans hb2)), ?_⟩
          refine ⟨_, by rw [HSP.out], ?_, ?_⟩
          · rw [HSP.out, ← HG.out]
            exact Ks.low (b := g) (ownsRow_of HK.out fun k hk2 _ => (e k (by have := HK.out.own_block k hk2; omega)).trans (ho k (by have := HK.out.own_block k hk2; omega) (by have := HK.out.own_block k hk2; omega))) (by omega)
          · rw [← HG.out]
            exact hbl.grown (grownBy_putObj' X3 _ _) (by have := hbl.size; rw [HG.out]; exact this) (fun k e => by cases e; omega)
        · obtain ⟨x0, x1, x6, x7, hbl, x, hx, hn⟩ := hX
          have HSP := Lib.hid (split_bad HP.out HZ.out ⟨x, hpre.subset hx, hn⟩)
          refine ⟨⟨_, rfl⟩, .done, some .ret, by simp, x7, ?_⟩
          have e := fun k (hk : k ≠ g + 7) => World.putObj_heap_other (w := W2) (r := g + 7) (o := .loop (RC .exhausted (some .ret))) hk
          have hb0 := (e g (by omega)).trans x0
          have hb1 := (e (g + 1) (by omega)).trans x1
          have hd3 := (e (g + 6) (by omega)).trans x6
          have hbl3 : Below g w (W2.putObj (g + 7) (.loop (RC .exhausted (some .ret)))) := hbl.grown (grownBy_putObj' W2 _ _) (by have := hbl.size; rw [HG.out]; exact this) (fun k e => by cases e; omega)
          clear e x0 x1 x6 x7 hbl hx hn
          dsimp only [leaveL]
          generalize W2.putObj (g + 7) (.loop (RC .exhausted (some .ret))) = X3 at *
          gi_wp2
          have e := fun k (hk : k ≠ g + 6) => World.putObj_heap_other (w := X3) (r := g + 6) (o := .deferred none) hk
          refine ⟨by simp, .inl ⟨_, _, rfl, run_takeDeferred hd3, ?_⟩⟩
          refine ⟨_, results_cc rfl _ _ ⟨g, 0, none⟩ ⟨g + 1, 0, none⟩ (.slice none 0 0) (.int .i64 12) rfl rfl (Tryz.isAgg31 _) (Tryz.isAgg30 _) (Boxed.cell ((e _ (by omega)).trans hb0)) (Boxed.cell ((e _ (by omega)).trans hb1)), ?_⟩
          refine ⟨_, by rw [HSP.out], by rw [HSP.out]; exact Ks.nil _ _, ?_⟩
          rw [← HG.out]
          exact hbl3.grown (grownBy_putObj' X3 _ _) (by have := hbl3.size; rw [HG.out]; exact this) (fun k e => by cases e; omega)
  · obtain ⟨e1, e2⟩ := cut_no hp
    rw [e1, e2]
    have HE := Lib.hid (split_none hp)
    clear e1 e2 hp
    gi_wp2
    have B2 := Box.new (w.alloc (.cells #[.slice none 0 0] 31)) 30 #[.int .i64 12]
    rw [size_alloc] at B2
    refine ⟨_, results_cc rfl _ _ ⟨w.heap.size, 0, none⟩ ⟨w.heap.size + 1, 0, none⟩ (.slice none 0 0) (.int .i64 12) rfl rfl (Tryz.isAgg31 _) (Tryz.isAgg30 _) ((B0.alloc _).cell 0 _ rfl) (B2.cell 0 _ rfl), ?_⟩
    exact ⟨_, by rw [HE.out], by rw [HE.out]; exact Ks.nil _ _, ((Below.refl _ w).alloc (Nat.le_refl _) _).alloc (by rw [size_alloc]; omega) _⟩
end Go.Proofs.YteimpebfenpifaaGreatDoor
