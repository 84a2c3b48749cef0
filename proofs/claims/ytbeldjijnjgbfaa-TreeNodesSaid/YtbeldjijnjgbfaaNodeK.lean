/-
  slices.Insert of one string into a row of the call's own.
-/
import Derived.Test.YtbeldjijnjgbfaaMg15
import Derived.Test.YtbeldjijnjgbfaaMg10
import Derived.Test.YtbeldjijnjgbfaaMg17
import Derived.Lib.Overlaps
import Derived.Lib.AppendZerosOnto
namespace Go.Proofs.Ytbeldjijnjgbfaa
open Go.RowKit Go.ChangeShapes Go.WideShapes Go.ChangeAt

theorem sizeStrN : (Try.prog.info? 9).map (·.size) = some 1 := by kernel_rfl
def splA (cur : Array Value) (o : Nat) (cs : List Value) : Array Value := (cur.toList.take o ++ cs ++ cur.toList.drop (o + cs.length)).toArray
theorem splA_size (cur : Array Value) (o : Nat) (cs : List Value) (h : o + cs.length ≤ cur.size) : (splA cur o cs).size = cur.size := by
  unfold splA; simp; omega
theorem copy_box (W : World) (ty : TypeId) (g o dLen dCap : Nat) (a : Addr) (sLen sCap : Nat) (cur : Array Value) (cs : List Value) (hg : Box W g 9 cur) (hn : cs.length = Nat.min sLen dLen)
    (hsrc : ∀ j v, cs[j]? = some v → W.cell? (a.add j) = some v) (hfit : o + cs.length ≤ cur.size) (h1 : ∀ v ∈ cs, v.oneCell' = true) :
    (Builtin.copy_ #[26, 26] ty #[.slice (some ⟨g, o, none⟩) dLen dCap, .slice (some a) sLen sCap]).run Try.prog W = .ok (goInt cs.length) (W.setRow g (splA cur o cs)) :=
  run_copy_row (P := Try.prog) W 26 26 ty 9 g o dLen dCap a sLen sCap cur 9 cs Try.underlying26 sizeStrN hg hn hsrc hfit h1
theorem box_setRow {W : World} {g : Nat} {cur c2 : Array Value} (hg : Box W g 9 cur) : Box (W.setRow g c2) g 9 c2 := setRow_heap W g cur _ _ _ hg
theorem chg_setRow (W : World) (g : Nat) (c2 : Array Value) : Chg [g] W (W.setRow g c2) := ⟨rfl, rfl, rfl, by simp [World.setRow], fun k _ hk => setRow_other W g k _ (fun e => hk (by simp [e]))⟩
theorem wp_copy_eq (W : World) {ops : Array Oper} {rest : List Oper} {o : Oper} {a : Act} {Q : Exit → Act → World → Prop} (hgd : o.guard = none) (d s : Operand)
    (ho : o.op = .call { callee := .builtin .copy, args := #[d, s], argTypes := #[26, 26] }) (v u : Value) (hd : a.eval d = v) (hs : a.eval s = u) {v' : Value} {w' : World}
    (hr : (Builtin.copy_ #[26, 26] o.type #[v, u]).run Try.prog W = .ok v' w') (h : wpList Try.prog ops Q rest (a.put o.dst v') w') : wpList Try.prog ops Q (o :: rest) a W := by
  refine wpList_plain hgd fun K hK => ?_
  unfold Oper.wp execOp
  simp only [ho, resolve, invoke, builtin, Sem.run_bind, Sem.run_pure, Result.andThen_ok, List.map_toArray, List.map_cons, List.map_nil, hd, hs, hr]
  exact hK _ _ h
theorem ins_split (l : List ByteArray) (i : Nat) (x : ByteArray) (hi : i ≤ l.length) : l.insertIdx i x = l.take i ++ x :: l.drop i := by
  have := insertIdx_mid x (l.take i) (l.drop i)
  rw [List.take_append_drop, List.length_take, Nat.min_eq_left hi] at this
  exact this
/-- In place: what stands behind is moved, then the one is laid. -/
theorem lay_shift (C L : List Value) (n i : Nat) (x : Value) (hC : C.take n = L) (hL : L.length = n) (hi : i < n) (hc : n + 1 ≤ C.length) :
    ((C.take (i + 1) ++ L.drop i ++ C.drop (i + 1 + (L.drop i).length)).take i ++ [x] ++ (C.take (i + 1) ++ L.drop i ++ C.drop (i + 1 + (L.drop i).length)).drop (i + 1)).take (n + 1) = L.take i ++ x :: L.drop i := by
  have e1 : (C.take (i + 1)).length = i + 1 := by rw [List.length_take]; omega
  have e2 : (C.take (i + 1) ++ L.drop i ++ C.drop (i + 1 + (L.drop i).length)).take i = L.take i := by
    rw [List.append_assoc, List.take_append_of_le_length (by omega), List.take_take, Nat.min_eq_left (by omega), ← hC, List.take_take, Nat.min_eq_left (by omega)]
  have e3 : (C.take (i + 1) ++ L.drop i ++ C.drop (i + 1 + (L.drop i).length)).drop (i + 1) = L.drop i ++ C.drop (i + 1 + (L.drop i).length) := by
    rw [List.append_assoc, List.drop_left' e1]
  rw [e2, e3]
  have e4 : L.take i ++ [x] ++ (L.drop i ++ C.drop (i + 1 + (L.drop i).length)) = (L.take i ++ x :: L.drop i) ++ C.drop (i + 1 + (L.drop i).length) := by simp
  rw [e4, List.take_left']
  simp; omega
/-- In a new row: the one is laid, then what stands behind. -/
theorem lay_grow (R L : List Value) (n i : Nat) (x : Value) (hR : R.take i = L.take i) (hL : L.length = n) (hi : i < n) (hc : n + 1 ≤ R.length) :
    ((R.take i ++ [x] ++ R.drop (i + 1)).take (i + 1) ++ L.drop i ++ (R.take i ++ [x] ++ R.drop (i + 1)).drop (i + 1 + (L.drop i).length)).take (n + 1) = L.take i ++ x :: L.drop i := by
  have e1 : (R.take i ++ [x]).length = i + 1 := by rw [List.length_append, List.length_take]; simp; omega
  rw [List.take_left' e1, hR]
  have e4 : ∀ Z : List Value, L.take i ++ [x] ++ L.drop i ++ Z = (L.take i ++ x :: L.drop i) ++ Z := by intro Z; simp
  rw [e4, List.take_left']
  simp; omega
/-- What Insert makes of a row. -/
def InsTo (base : Nat) (v : Value) (l : List ByteArray) (w : World) (e : Ending) (w' : World) : Prop :=
  ∃ v', e = .returned v' ∧ Ks w' base v' l ∧ (∃ S, Chg S w w' ∧ ∀ k ∈ S, v.ownBlock = some k) ∧ ∀ k, v'.ownBlock = some k → v.ownBlock = some k ∨ w.heap.size ≤ k

set_option maxRecDepth 100000 in
set_option maxHeartbeats 2000000 in
theorem insert_end (base : Nat) (v : Value) (l : List ByteArray) (x : ByteArray) (vb : Nat) (w : World) (h : Ks w base v l) (hbase : base ≤ w.heap.size) (hlen : l.length ≤ 100000) (hb : w.cell? ⟨vb, 0, none⟩ = some (.string x)) :
    Calls Try.prog 52 #[v, .int .i64 (l.length : Int), .slice (some ⟨vb, 0, none⟩) 1 1] w (InsTo base v (l ++ [x]) w) := by
  obtain ⟨P, hP⟩ : ∃ P, P = InsTo base v (l ++ [x]) w := ⟨_, rfl⟩
  rw [← hP]
  have HP := Lib.hid hP
  have HK := Lib.hid h
  have HB := Lib.hid hbase
  clear hP hbase
  rcases h.form with ⟨rfl, rfl⟩ | ⟨g, cap, rfl, hg, hgl, hlc, hcm⟩
  · clear h
    go_enter Try.func52, Try.ntmps52
    go_wp2_with (at_builtin; refine wp_keys_push _ rfl _ _ rfl base _ [] rfl HK.out ⟨vb, 0, none⟩ 1 1 [x] rfl rfl (by intro j u hj; cases j with | zero => simp at hj; subst hj; exact hb | succ j => simp at hj) (by simp) HB.out ?_)
    intro v' w' hk hgr hob
    have HE : Hid (InsTo base (.slice none 0 0) ([] ++ [x]) w (.returned v') w') := ⟨v', rfl, hk, ⟨[], Chg.grown hgr (fun k hk => by cases hk), fun k hk => by cases hk⟩, fun k h1 => by
      rcases hob with h2 | h2
      · rw [h2] at h1; cases h1
      · rw [h2] at h1; injection h1 with h1; exact .inr (by omega)⟩
    clear hk hgr hob
    go_wp2
    rw [HP.out]; exact HE.out
  · clear h
    unfold maxLen at hcm
    by_cases hcl : cap = l.length
    · subst hcl
      have hq1 : (l.length : Int) ≤ (l.length : Int) := Int.le_refl _
      go_enter Try.func52, Try.ntmps52
      go_wp2_with (at_builtin; refine wp_keys_push _ rfl _ _ rfl base _ l rfl HK.out ⟨vb, 0, none⟩ 1 1 [x] rfl rfl (by intro j u hj; cases j with | zero => simp at hj; subst hj; exact hb | succ j => simp at hj) (by simp; omega) HB.out ?_)
      intro v' w' hk hgr hob
      have HE : Hid (InsTo base (.slice (some ⟨g, 0, none⟩) l.length l.length) (l ++ [x]) w (.returned v') w') := ⟨v', rfl, hk, ⟨[g], Chg.grown hgr (fun k hk => by simp [Value.ownBlock] at hk; simp [hk]), fun k hk => by simp at hk; simp [Value.ownBlock, hk]⟩, fun k h1 => by
        rcases hob with h2 | h2
        · rw [h2] at h1; exact .inl h1
        · rw [h2] at h1; injection h1 with h1; exact .inr (by omega)⟩
      clear hk hgr hob
      go_wp2
      rw [HP.out]; exact HE.out
    · have hcl2 : ¬ (cap = l.length) := hcl
      have hq1 : (l.length : Int) ≤ (l.length : Int) := Int.le_refl _
      go_enter Try.func52, Try.ntmps52
      go_wp2_with (at_builtin; refine wp_keys_push _ rfl _ _ rfl base _ l rfl HK.out ⟨vb, 0, none⟩ 1 1 [x] rfl rfl (by intro j u hj; cases j with | zero => simp at hj; subst hj; exact hb | succ j => simp at hj) (by simp; omega) HB.out ?_)
      intro v' w' hk hgr hob
      have HE : Hid (InsTo base (.slice (some ⟨g, 0, none⟩) l.length cap) (l ++ [x]) w (.returned v') w') := ⟨v', rfl, hk, ⟨[g], Chg.grown hgr (fun k hk => by simp [Value.ownBlock] at hk; simp [hk]), fun k hk => by simp at hk; simp [Value.ownBlock, hk]⟩, fun k h1 => by
        rcases hob with h2 | h2
        · rw [h2] at h1; exact .inl h1
        · rw [h2] at h1; injection h1 with h1; exact .inr (by omega)⟩
      clear hk hgr hob
      go_wp2
      rw [HP.out]; exact HE.out

theorem cells_str (l : List ByteArray) : ∀ v ∈ l.map Value.string, v.oneCell' = true := key_one l
set_option maxRecDepth 100000 in
set_option maxHeartbeats 4000000 in
theorem insert_room (base g cap : Nat) (l : List ByteArray) (i : Nat) (x : ByteArray) (vb : Nat) (w : World) (h : Ks w base (.slice (some ⟨g, 0, none⟩) l.length cap) l) (hlen : l.length ≤ 100000) (hi : i < l.length) (hr : l.length + 1 ≤ cap) (hb : Box w vb 9 #[.string x]) (hvg : vb ≠ g) :
    Calls Try.prog 52 #[.slice (some ⟨g, 0, none⟩) l.length cap, .int .i64 (i : Int), .slice (some ⟨vb, 0, none⟩) 1 1] w (InsTo base (.slice (some ⟨g, 0, none⟩) l.length cap) (l.insertIdx i x) w) := by
  obtain ⟨P, hP⟩ : ∃ P, P = InsTo base (.slice (some ⟨g, 0, none⟩) l.length cap) (l.insertIdx i x) w := ⟨_, rfl⟩
  rw [← hP]
  have HP := Lib.hid hP
  clear hP
  rcases h.2 with ⟨h', _⟩ | ⟨g', cap', cur, h', hbg, hg, hnc, hcm, hcs, htake⟩
  · simp at h'
  · simp only [Value.slice.injEq, Option.some.injEq, Addr.mk.injEq, and_true, true_and] at h'
    obtain ⟨rfl, rfl⟩ := h'
    rw [Nat.mul_one] at htake hcs
    have hG : Box w g 9 cur := hg
    have hcl : cur.toList.length = cap := by rw [Array.length_toList]; exact hcs
    have hcells : ∀ j u, ((l.drop i).map Value.string)[j]? = some u → w.drew.cell? ((⟨g, i, none⟩ : Addr).add j) = some u := by
      intro j u hj
      have h1 : j < l.length - i := by have := (List.getElem?_eq_some_iff.1 hj).1; simpa using this
      have h2 := World.ownsRow.cellAt h (i + j) (by omega)
      rw [add_plain]
      show w.cell? _ = _
      rw [h2]
      rw [List.getElem?_map, List.getElem?_drop] at hj
      rw [List.getElem?_map]
      exact hj
    have hdl : ((l.drop i).map Value.string).length = l.length - i := by simp
    have hcp1 : ∀ ty dl dc sl sc, dl = l.length - i → sl = l.length + 1 - i → (Builtin.copy_ #[26, 26] ty #[.slice (some ⟨g, i + 1, none⟩) dl dc, .slice (some ⟨g, i, none⟩) sl sc]).run Try.prog w.drew = .ok (goInt ((l.drop i).map Value.string).length) (w.drew.setRow g (splA cur (i + 1) ((l.drop i).map Value.string))) := fun ty dl dc sl sc hdl1 hsl1 =>
      copy_box w.drew ty g (i + 1) dl dc ⟨g, i, none⟩ sl sc cur _ hG (by rw [hdl]; simp only [Nat.min_def]; split <;> omega) hcells (by rw [hdl, hcs]; omega) (cells_str _)
    obtain ⟨C1, hC1⟩ : ∃ C1, C1 = splA cur (i + 1) ((l.drop i).map Value.string) := ⟨_, rfl⟩
    obtain ⟨W1, hW1⟩ : ∃ W1, W1 = w.drew.setRow g (splA cur (i + 1) ((l.drop i).map Value.string)) := ⟨_, rfl⟩
    rw [← hW1] at hcp1
    have hB1 : Box W1 g 9 C1 := by rw [hW1, hC1]; exact box_setRow (W := w.drew) (cur := cur) hG
    have hCh1 : Chg [g] w W1 := by rw [hW1]; exact (Chg.refl [g] w).drew.trans (chg_setRow _ _ _)
    have hV1 : W1.cell? ⟨vb, 0, none⟩ = some (.string x) := (hb.of (hCh1.block vb hb.lt (by simpa using hvg))).cell 0 _ rfl
    have hC1s : C1.size = cap := by rw [hC1, splA_size _ _ _ (by rw [hdl, hcs]; omega), hcs]
    have hcp2 : ∀ ty dl dc, dl = l.length + 1 - i → (Builtin.copy_ #[26, 26] ty #[.slice (some ⟨g, i, none⟩) dl dc, .slice (some ⟨vb, 0, none⟩) 1 1]).run Try.prog W1 = .ok (goInt 1) (W1.setRow g (splA C1 i [.string x])) := fun ty dl dc hdl1 =>
      copy_box W1 ty g i dl dc ⟨vb, 0, none⟩ 1 1 C1 [.string x] hB1 (by simp only [Nat.min_def, List.length_singleton]; split <;> omega) (by intro j u hj; cases j with | zero => simp at hj; subst hj; exact hV1 | succ j => simp at hj) (by rw [hC1s]; simp; omega) (by intro v hv; simp at hv; subst hv; rfl)
    obtain ⟨W2, hW2⟩ : ∃ W2, W2 = W1.setRow g (splA C1 i [.string x]) := ⟨_, rfl⟩
    rw [← hW2] at hcp2
    have hB2 : Box W2 g 9 (splA C1 i [.string x]) := by rw [hW2]; exact box_setRow hB1
    have hCh2 : Chg [g] w W2 := by rw [hW2]; exact hCh1.trans (chg_setRow _ _ _)
    have HE : Hid (InsTo base (.slice (some ⟨g, 0, none⟩) l.length cap) (l.insertIdx i x) w (.returned (.slice (some ⟨g, 0, none⟩) (l.length + 1) cap)) W2) := by
      refine ⟨_, rfl, ⟨by simp, .inr ⟨g, cap, _, ?_, hbg, hB2, ?_, hcm, ?_, ?_⟩⟩, ⟨[g], hCh2, fun k hk => by simp at hk; simp [Value.ownBlock, hk]⟩, fun k h1 => .inl h1⟩
      · rw [List.length_insertIdx_of_le_length (by omega)]
      · rw [List.length_insertIdx_of_le_length (by omega)]; omega
      · rw [Nat.mul_one, splA_size _ _ _ (by rw [hC1s]; simp; omega), hC1s]
      · rw [Nat.mul_one, List.length_insertIdx_of_le_length (by omega), ins_split l i x (by omega), hC1]
        have := lay_shift cur.toList (l.map Value.string) l.length i (.string x) htake (by simp) hi (by omega)
        unfold splA
        simp only [List.map_drop, List.length_singleton] at this ⊢
        rw [this]
        simp [List.map_take, List.map_drop]
    have hov : ∀ lb cb, (callFunc 64 #[.slice (some ⟨vb, 0, none⟩) 1 1, .slice (some ⟨g, i + 1, none⟩) lb cb]).run Try.prog w = .ok (.value (.bool false)) w := fun lb cb => by
      rw [run_callFunc_extern Try.func64 (by kernel_rfl) (by kernel_rfl) (by kernel_rfl) (e := Extern.SlicesOverlaps.overlaps #[26, 26] #[4]) (by kernel_rfl),
        Lib.run_overlaps_apart w 26 4 9 Try.underlying26 1 Try.sizeOf9 ⟨vb, 0, none⟩ ⟨g, i + 1, none⟩ 1 1 lb cb hvg 9 9 1 cap (by have := hb; unfold Box at this; simp [World.shape?, this]) (by unfold Box at hG; simp [World.shape?, hG, hcs]) (by omega) (hb.free 0) (hb.free 1)]
      rfl
    have HE2 := HE
    clear htake hcs hcells hdl hC1 hW1 hB1 hCh1 hV1 hC1s hW2 hB2 hCh2 HE h hg hG hb hcl hnc hbg
    unfold maxLen at hcm
    have hz2 : ¬ ((i : Int) = (l.length : Int)) := by omega
    have hb2 : ¬ (cap = i + 1) := by omega
    have hb3 : (i : Int) ≤ (l.length : Int) + 1 := by omega
    have hb4 : ¬ (cap = i) := by omega
    have hb5 : i ≤ l.length := by omega
    have hw1 : IntKind.i64.wrap ((i : Int) + 1) = (i : Int) + 1 := by rw [IntKind.wrap_i64]; omega
    have hb1 : (0 : Int) ≤ (i : Int) + 1 := by omega
    have htn : ((i : Int) + 1).toNat = i + 1 := by omega
    have hb6 : (i : Int) + 1 ≤ (l.length : Int) + 1 := by omega
    go_enter Try.func52, Try.ntmps52
    go_wp2_with (simp only [hov])
    refine wp_region_tree (fun _ => True) 8 (.quiet 0 (.quiet 1 (.quiet 2 (.quiet 3 (.quiet 4 (.quiet 5 (.quiet 6 (.quiet 7 .nil)))))))) (by kernel_rfl) (by kernel_rfl) trivial ?_
    simp only [List.drop_succ_cons, List.drop_zero]
    iterate 8 (apply wpTr_step rfl; (intro W hS K hK; go_simp; exact hK _ rfl))
    refine wpTr_nil ?_
    go_wp2_with (with_reducible refine wp_copy_eq _ rfl (.tmp 73) (.tmp 76) rfl _ _ rfl rfl (hcp1 _ _ _ _ _ ?c1 ?c2) ?_)
    case c1 => omega
    case c2 => omega
    go_wp2_with (with_reducible refine wp_copy_eq _ rfl (.tmp 80) (.tmp 81) rfl _ _ rfl rfl (hcp2 _ _ _ ?c3) ?_)
    rw [HP.out]; exact HE2.out

set_option maxRecDepth 100000 in
set_option maxHeartbeats 4000000 in
theorem insert_grow (base g : Nat) (l : List ByteArray) (i : Nat) (x : ByteArray) (vb : Nat) (w : World) (h : Ks w base (.slice (some ⟨g, 0, none⟩) l.length l.length) l) (hbase : base ≤ w.heap.size) (hlen : l.length ≤ 100000) (hi : i < l.length) (hb : Box w vb 9 #[.string x]) :
    Calls Try.prog 52 #[.slice (some ⟨g, 0, none⟩) l.length l.length, .int .i64 (i : Int), .slice (some ⟨vb, 0, none⟩) 1 1] w (InsTo base (.slice (some ⟨g, 0, none⟩) l.length l.length) (l.insertIdx i x) w) := by
  obtain ⟨P, hP⟩ : ∃ P, P = InsTo base (.slice (some ⟨g, 0, none⟩) l.length l.length) (l.insertIdx i x) w := ⟨_, rfl⟩
  rw [← hP]
  have HP := Lib.hid hP
  clear hP
  obtain ⟨i0, hinf, hz0, hz1, hz2⟩ := info_parts infoKey
  have hgl : g < w.heap.size := h.lt g rfl
  have hcellK : ∀ j, j < l.length → w.cell? ⟨g, j, none⟩ = (l.map Value.string)[j]? := fun j hj => World.ownsRow.cellAt h j (by omega)
  have hold : (Builtin.firstCells i0.size i (.slice (some ⟨g, 0, none⟩) i l.length)).run Try.prog w.drew = .ok ((l.take i).map Value.string).toArray w.drew := by
    rw [hz1]
    exact run_firstCells_some (P := Try.prog) (w := w.drew) 1 i ⟨g, 0, none⟩ i l.length ((l.take i).map Value.string) (by simp; omega) (fun j v hj => by
      rw [add_plain, Nat.zero_add]
      have h1 : j < i := by have := (List.getElem?_eq_some_iff.1 hj).1; simp at this; omega
      show w.cell? _ = _
      rw [hcellK j (by omega), ← hj, List.map_take, List.getElem?_take_of_lt h1])
  obtain ⟨k, hk⟩ : ∃ k, k = l.length + 1 - i := ⟨_, rfl⟩
  have hik : i + k = l.length + 1 := by omega
  obtain ⟨G, hG⟩ : ∃ G, G = grownCap w (i + k) l.length 9 := ⟨_, rfl⟩
  have hGn : l.length + 1 ≤ G := by rw [hG, ← hik]; exact grownCap_ge w _ _ _
  have hGm : G ≤ maxLen := by rw [hG]; exact grownCap_le_maxLen w _ _ _ (by unfold maxLen; omega)
  obtain ⟨ROW, hROW⟩ : ∃ ROW : Array Value, ROW = ((l.take i).map Value.string).toArray ++ Builtin.zeroCells (Value.string ⟨#[]⟩).cells k ++ Builtin.zeroCells (Value.string ⟨#[]⟩).cells (G - (i + k)) := ⟨_, rfl⟩
  have hRs : ROW.size = G := by rw [hROW]; simp [Builtin.zeroCells, Value.cells]; omega
  have hRt : ROW.toList.take i = (l.map Value.string).take i := by
    rw [hROW]
    simp only [Array.toList_append, List.append_assoc]
    rw [List.take_append_of_le_length (by simp; omega), List.take_of_length_le (by simp; omega), List.map_take]
  obtain ⟨W1, hW1⟩ : ∃ W1, W1 = w.drew.alloc (.cells ROW 9 (0, 0)) := ⟨_, rfl⟩
  have hrz : ∀ ty q, q = ((l.length : Int) + 1 - (i : Int)) → (Builtin.append_ #[26, 3] ty #[.slice (some ⟨g, 0, none⟩) i l.length, .int .i64 q]).run Try.prog w = .ok (.slice (some ⟨w.heap.size, 0, none⟩) (l.length + 1) G) W1 := fun ty q hq => by
    have h := Lib.run_append_grow_zeros (P := Try.prog) w 26 3 ty 9 i0 _ .i64 .i64 Try.underlying26 Try.underlying3 hinf hz0 (some ⟨g, 0, none⟩) i l.length ((l.take i).map Value.string) hold k (by omega) (by omega) (by omega) (by omega) (by rw [hz2]; omega) (by rw [hz2]; exact growslice_fits (by omega) (by omega))
    rw [← hG, ← hROW, hik] at h
    have e : q = (k : Int) := by omega
    rw [e, h, hW1]
  have hN1 : Box W1 w.heap.size 9 ROW := by rw [hW1]; exact Box.new w.drew _ _
  have hBel1 : Below w.heap.size w W1 := by rw [hW1]; exact (Below.refl _ _).drew.alloc (Nat.le_refl _) _
  have hV1 : W1.cell? ⟨vb, 0, none⟩ = some (.string x) := (hb.keep hBel1 hb.lt).cell 0 _ rfl
  have hcp1 : ∀ ty dl dc, dl = l.length + 1 - i → (Builtin.copy_ #[26, 26] ty #[.slice (some ⟨w.heap.size, i, none⟩) dl dc, .slice (some ⟨vb, 0, none⟩) 1 1]).run Try.prog W1 = .ok (goInt 1) (W1.setRow w.heap.size (splA ROW i [.string x])) := fun ty dl dc hdl1 =>
    copy_box W1 ty w.heap.size i dl dc ⟨vb, 0, none⟩ 1 1 ROW [.string x] hN1 (by simp only [Nat.min_def, List.length_singleton]; split <;> omega) (by intro j u hj; cases j with | zero => simp at hj; subst hj; exact hV1 | succ j => simp at hj) (by rw [hRs]; simp; omega) (by intro v hv; simp at hv; subst hv; rfl)
  obtain ⟨C1, hC1⟩ : ∃ C1, C1 = splA ROW i [.string x] := ⟨_, rfl⟩
  obtain ⟨W2, hW2⟩ : ∃ W2, W2 = W1.setRow w.heap.size (splA ROW i [.string x]) := ⟨_, rfl⟩
  rw [← hW2] at hcp1
  have hN2 : Box W2 w.heap.size 9 C1 := by rw [hW2, hC1]; exact box_setRow hN1
  have hBel2 : Below w.heap.size w W2 := by rw [hW2]; exact hBel1.trans ((chg_setRow _ _ _).below hBel1.size (fun k hk => by simp at hk; omega))
  have hC1s : C1.size = G := by rw [hC1, splA_size _ _ _ (by rw [hRs]; simp; omega), hRs]
  have hdl : ((l.drop i).map Value.string).length = l.length - i := by simp
  have hcells : ∀ j u, ((l.drop i).map Value.string)[j]? = some u → W2.drew.cell? ((⟨g, i, none⟩ : Addr).add j) = some u := by
    intro j u hj
    have h1 : j < l.length - i := by have := (List.getElem?_eq_some_iff.1 hj).1; simpa using this
    rw [add_plain]
    show W2.cell? _ = _
    rw [hBel2.cell (p := ⟨g, i + j, none⟩) hgl, hcellK (i + j) (by omega)]
    rw [List.getElem?_map, List.getElem?_drop] at hj
    rw [List.getElem?_map]
    exact hj
  have hcp2 : ∀ ty dl dc sl sc, dl = l.length - i → sl = l.length - i → (Builtin.copy_ #[26, 26] ty #[.slice (some ⟨w.heap.size, i + 1, none⟩) dl dc, .slice (some ⟨g, i, none⟩) sl sc]).run Try.prog W2.drew = .ok (goInt ((l.drop i).map Value.string).length) (W2.drew.setRow w.heap.size (splA C1 (i + 1) ((l.drop i).map Value.string))) := fun ty dl dc sl sc hdl1 hsl1 =>
    copy_box W2.drew ty w.heap.size (i + 1) dl dc ⟨g, i, none⟩ sl sc C1 _ hN2 (by rw [hdl]; simp only [Nat.min_def]; split <;> omega) hcells (by rw [hdl, hC1s]; omega) (cells_str _)
  obtain ⟨W3, hW3⟩ : ∃ W3, W3 = W2.drew.setRow w.heap.size (splA C1 (i + 1) ((l.drop i).map Value.string)) := ⟨_, rfl⟩
  rw [← hW3] at hcp2
  have hN3 : Box W3 w.heap.size 9 (splA C1 (i + 1) ((l.drop i).map Value.string)) := by rw [hW3]; exact box_setRow (W := W2.drew) (cur := C1) hN2
  have hBel3 : Below w.heap.size w W3 := by rw [hW3]; exact hBel2.drew.trans ((chg_setRow _ _ _).below hBel2.size (fun k hk => by simp at hk; omega))
  have HE : Hid (InsTo base (.slice (some ⟨g, 0, none⟩) l.length l.length) (l.insertIdx i x) w (.returned (.slice (some ⟨w.heap.size, 0, none⟩) (l.length + 1) G)) W3) := by
    refine ⟨_, rfl, ⟨by simp, .inr ⟨w.heap.size, G, _, ?_, hbase, hN3, ?_, hGm, ?_, ?_⟩⟩, ⟨[], Chg.of hBel3 (Nat.le_refl _), fun k hk => by cases hk⟩, fun k h1 => .inr (by simp [Value.ownBlock] at h1; omega)⟩
    · rw [List.length_insertIdx_of_le_length (by omega)]
    · rw [List.length_insertIdx_of_le_length (by omega)]; omega
    · rw [Nat.mul_one, splA_size _ _ _ (by rw [hdl, hC1s]; omega), hC1s]
    · rw [Nat.mul_one, List.length_insertIdx_of_le_length (by omega), ins_split l i x (by omega), hC1]
      have := lay_grow ROW.toList (l.map Value.string) l.length i (.string x) hRt (by simp) hi (by have h9 : ROW.toList.length = ROW.size := Array.length_toList; omega)
      unfold splA
      simp only [List.map_drop, List.length_singleton] at this ⊢
      rw [this]
      simp [List.map_take, List.map_drop]
  have HE2 := HE
  have hGi : ¬ (G = i) := by omega
  have hGim : ¬ (G = i + 1) := by omega
  unfold maxLen at hGm
  clear hold hk hik hG hGn hROW hRs hRt hW1 hN1 hBel1 hV1 hC1 hW2 hN2 hBel2 hC1s hdl hcells hW3 hN3 hBel3 HE h hcellK hinf hz0 hz1 hz2 hb hbase
  have hz2 : ¬ ((i : Int) = (l.length : Int)) := by omega
  have hz3 : (l.length : Int) < (l.length : Int) + 1 := by omega
  have hb4 : ¬ (l.length = i) := by omega
  have hb3 : (i : Int) ≤ (l.length : Int) := by omega
  have hb5 : i ≤ l.length := by omega
  have hw1 : IntKind.i64.wrap ((i : Int) + 1) = (i : Int) + 1 := by rw [IntKind.wrap_i64]; omega
  have hb1 : (0 : Int) ≤ (i : Int) + 1 := by omega
  have htn : ((i : Int) + 1).toNat = i + 1 := by omega
  have hb6 : (i : Int) + 1 ≤ (l.length : Int) + 1 := by omega
  have hb7 : (i : Int) ≤ (l.length : Int) + 1 := by omega
  go_enter Try.func52, Try.ntmps52
  go_wp2_with (at_builtin; refine Lib.wpList_append_run _ rfl _ _ _ _ rfl _ _ rfl rfl _ _ (hrz _ _ ?c0) ?_)
  case c0 => omega
  go_wp2_with (with_reducible refine wp_copy_eq _ rfl (.tmp 43) (.tmp 44) rfl _ _ rfl rfl (hcp1 _ _ _ ?c1) ?_)
  refine wp_region_tree (fun _ => True) 8 (.quiet 0 (.quiet 1 (.quiet 2 (.quiet 3 (.quiet 4 (.quiet 5 (.quiet 6 (.quiet 7 .nil)))))))) (by kernel_rfl) (by kernel_rfl) trivial ?_
  simp only [List.drop_succ_cons, List.drop_zero]
  iterate 8 (apply wpTr_step rfl; (intro W hS K hK; go_simp; exact hK _ rfl))
  refine wpTr_nil ?_
  go_wp2_with (with_reducible refine wp_copy_eq _ rfl (.tmp 50) (.tmp 53) rfl _ _ rfl rfl (hcp2 _ _ _ _ _ ?c2 ?c3) ?_)
  case c2 => omega
  case c3 => omega
  go_wp2
  rw [HP.out]; exact HE2.out

theorem insert_any (base : Nat) (v : Value) (l : List ByteArray) (i : Nat) (x : ByteArray) (vb : Nat) (w : World) (h : Ks w base v l) (hbase : base ≤ w.heap.size) (hlen : l.length ≤ 100000) (hi : i ≤ l.length) (hb : Box w vb 9 #[.string x]) (hne : v.ownBlock ≠ some vb) :
    Calls Try.prog 52 #[v, .int .i64 (i : Int), .slice (some ⟨vb, 0, none⟩) 1 1] w (InsTo base v (l.insertIdx i x) w) := by
  rcases Nat.lt_or_ge i l.length with hlt | hge
  · rcases h.form with ⟨rfl, rfl⟩ | ⟨g, cap, rfl, _, _, hlc, _⟩
    · simp at hlt
    · by_cases hr : l.length + 1 ≤ cap
      · exact insert_room base g cap l i x vb w h hlen hlt hr hb (fun e => hne (by simp [Value.ownBlock, e]))
      · have hcl : cap = l.length := by omega
        subst hcl
        exact insert_grow base g l i x vb w h hbase hlen hlt hb
  · have hil : i = l.length := by omega
    subst hil
    have e : l.insertIdx l.length x = l ++ [x] := by rw [ins_split l _ x (Nat.le_refl _)]; simp
    rw [e]
    exact insert_end base v l x vb w h hbase hlen (hb.cell 0 _ rfl)
end Go.Proofs.Ytbeldjijnjgbfaa
