/-
  Texts put together: TreeY, Tdk, Tdl.
-/
import Derived.Test.YtbeldjijnjgbfaaMg9
import Derived.Test.YtbeldjijnjgbfaaTdj
namespace Go.Proofs.Ytbeldjijnjgbfaa
open Go.RowKit
attribute [local irreducible] encD decP rawD

/-- The root of a tree of the pairs E, made by at most n changes. -/
def InvR (S : StD) (root : ByteArray) (E : List Ent) (n : Nat) : Prop := (∃ i W, RootT S root i E W ∧ i ≤ 7 ∧ W ≤ 2 * n) ∧ E.length ≤ n
theorem InvR.nil (S : StD) : InvR S noT [] 0 := ⟨⟨0, 0, .inl ⟨rfl, rfl, rfl, rfl⟩, by omega, by omega⟩, Nat.le_refl _⟩
theorem InvR.grow {S T : StD} (hg : GrowS S T) {root : ByteArray} {E : List Ent} {n : Nat} (h : InvR S root E n) : InvR T root E n := by
  obtain ⟨⟨i, W, h1, h2, h3⟩, h4⟩ := h
  exact ⟨⟨i, W, h1.grow hg, h2, h3⟩, h4⟩
theorem InvR.more {S : StD} {root : ByteArray} {E : List Ent} {n m : Nat} (h : InvR S root E n) (hm : n ≤ m) : InvR S root E m := by
  obtain ⟨⟨i, W, h1, h2, h3⟩, h4⟩ := h
  exact ⟨⟨i, W, h1, h2, by omega⟩, by omega⟩
theorem RootT.okL {S : StD} {root : ByteArray} {i : Nat} {E : List Ent} {W : Nat} (h : RootT S root i E W) : OkL E := by
  rcases h with ⟨_, rfl, _, _⟩ | ⟨_, _, n, _, h4⟩
  · exact ⟨List.Pairwise.nil, fun x hx => by cases hx⟩
  · exact h4.up i
theorem InvR.okL {S : StD} {root : ByteArray} {E : List Ent} {n : Nat} (h : InvR S root E n) : OkL E := by
  obtain ⟨⟨i, W, h1, _, _⟩, _⟩ := h
  exact h1.okL
theorem InvR.small {S : StD} {root : ByteArray} {E : List Ent} {n : Nat} (h : InvR S root E n) : root.size ≤ 6 := by
  obtain ⟨⟨i, W, h1, _, _⟩, _⟩ := h
  rcases h1 with ⟨rfl, _⟩ | ⟨h, _⟩
  · decide
  · omega
theorem InvR.empty {S : StD} {root : ByteArray} {E : List Ent} {n : Nat} (h : InvR S root E n) (he : E = []) : root = noT := by
  obtain ⟨⟨i, W, h1, _, _⟩, _⟩ := h
  rcases h1 with ⟨h, _⟩ | ⟨_, h, _⟩
  · exact h
  · exact absurd he h
theorem put_arg {S : StD} {root key val : ByteArray} (hk : okE key val = false) : putT S root key val = ((noT, 1), S) := by
  unfold putT
  rw [if_pos]
  intro h
  have hm : mayD (ofE true [(key, val)]) = false := by
    cases h5 : mayD (ofE true [(key, val)])
    · rfl
    · have h6 := ((may_iff true [(key, val)]).1 h5).1.ok (key, val) (by simp)
      rw [hk] at h6; cases h6
  unfold chkN at h
  rw [if_neg (by rw [show (⟨true, [key], [val]⟩ : NodeD) = ofE true [(key, val)] from rfl, hm]; decide)] at h
  cases h
/-- What a change that went left. -/
structure WentT (S : StD) (E2 : List Ent) (n : Nat) (r : (ByteArray × Int) × StD) : Prop where
  ok : r.1.2 = 0
  inv : InvR r.2 r.1.1 E2 n
  gr : GrowS S r.2
  ln : r.2.l.length ≤ S.l.length + 17
theorem DoneT.went {S : StD} {i W n : Nat} {E2 : List Ent} {r : (ByteArray × Int) × StD} {i2 W2 : Nat} (h : DoneT S i W E2 r i2 W2) (hi : i ≤ 7) (hW : W ≤ 2 * n) (hn : n < 120) (hl : E2.length ≤ n + 1) : WentT S E2 (n + 1) r := by
  refine ⟨h.ok, ⟨⟨i2, W2, h.rt, ?_, by have := h.wt; omega⟩, hl⟩, h.gr, by have := h.ln; omega⟩
  rcases h.hi with h5 | ⟨h5, h6⟩
  · omega
  · rcases Nat.lt_or_ge i 7 with h7 | h7
    · omega
    · have : i = 7 := by omega
      subst this
      omega
theorem inv_put {S : StD} {root : ByteArray} {E : List Ent} {n : Nat} (h : InvR S root E n) (hn : n < 120) (hs : RoomS S 17) {key val : ByteArray} (hk : okE key val = true) : WentT S (insE key val (dropE key E)) (n + 1) (putT S root key val) := by
  obtain ⟨⟨i, W, h1, h2, h3⟩, h4⟩ := h
  obtain ⟨i2, W2, hd⟩ := put_is h1 hk (RoomS.less hs (by omega)) (by omega)
  refine hd.went h2 h3 hn ?_
  have := (chg_ins hk).len E
  have h5 : (insE key val (dropE key E)).length ≤ E.length + 1 := this
  omega
theorem look_ok {E : List Ent} (h : OkL E) {key v : ByteArray} (hs : lookT E key = some v) : 0 < key.size := by
  unfold lookT at hs
  cases hf : E.find? (fun x => decide (x.1 = key)) with
  | none => rw [hf] at hs; cases hs
  | some x =>
    have h1 := List.find?_some hf
    have h2 := (okE_iff.1 (h.ok x (List.mem_of_find?_eq_some hf))).1
    have h3 : x.1 = key := by simpa using h1
    rw [← h3]; exact h2
theorem inv_del {S : StD} {root : ByteArray} {E : List Ent} {n : Nat} (h : InvR S root E n) (hn : n < 120) (hs : RoomS S 17) {key v : ByteArray} (hv : lookT E key = some v) : WentT S (dropE key E) (n + 1) (delT S root key) := by
  have ho := h.okL
  obtain ⟨⟨i, W, h1, h2, h3⟩, h4⟩ := h
  obtain ⟨i2, W2, hd⟩ := del_is h1 (look_ok ho hv) hv (RoomS.less hs (by omega)) (by omega)
  refine hd.went h2 h3 hn ?_
  have : (dropE key E).length ≤ E.length := List.length_filter_le _ _
  omega
theorem inv_gone {S : StD} {root : ByteArray} {E : List Ent} {n : Nat} (h : InvR S root E n) {key : ByteArray} (hv : lookT E key = none) : delT S root key = ((noT, 8), S) := by
  obtain ⟨⟨i, W, h1, h2, h3⟩, h4⟩ := h
  exact del_none h1 (by omega) hv
theorem look_drop {E : List Ent} {key : ByteArray} (hv : lookT E key = none) : dropE key E = E := by
  unfold lookT at hv
  have h1 : E.find? (fun x => decide (x.1 = key)) = none := by
    cases hf : E.find? (fun x => decide (x.1 = key)) with
    | none => rfl
    | some x => rw [hf] at hv; cases hv
  rw [List.find?_eq_none] at h1
  unfold dropE
  exact List.filter_eq_self.2 (fun x hx => by have := h1 x hx; simpa using this)
theorem look_short {E : List Ent} {key v : ByteArray} (hv : lookT E key = some v) : (dropE key E).length < E.length := by
  unfold lookT at hv
  cases hf : E.find? (fun x => decide (x.1 = key)) with
  | none => rw [hf] at hv; cases hv
  | some x =>
    have h1 := List.find?_some hf
    have h2 := List.mem_of_find?_eq_some hf
    unfold dropE
    exact List.length_filter_lt_length_iff_exists.2 ⟨x, h2, by simpa using h1⟩
/-! ### errors -/
def ErrR (e : Int) : Prop := 0 ≤ e ∧ e ≤ 15
theorem er0 : ErrR 0 := ⟨by decide, by decide⟩
theorem er1 : ErrR 1 := ⟨by decide, by decide⟩
theorem er3 : ErrR 3 := ⟨by decide, by decide⟩
theorem er6 : ErrR 6 := ⟨by decide, by decide⟩
theorem er7 : ErrR 7 := ⟨by decide, by decide⟩
theorem er8 : ErrR 8 := ⟨by decide, by decide⟩
theorem er13 : ErrR 13 := ⟨by decide, by decide⟩
theorem err_get (S : StD) (r : ByteArray) : ErrR (getS S r).2 := by
  unfold getS
  split
  · exact er7
  · split
    · exact er7
    · exact er0
theorem err_load (S : StD) (r : ByteArray) (h : Nat) : ErrR (loadN S r h).2 := by
  have hg := err_get S r
  unfold loadN
  repeat (first | exact hg | exact er3 | exact er0 | split)
theorem err_down (S : StD) (key : ByteArray) : ∀ (f : Nat) (above : List StepD) (r : ByteArray), ErrR (downN S key f above r).2.2
  | 0, _, _ => er3
  | f + 1, above, r => by
    unfold downN
    split
    · exact err_load _ _ _
    · exact err_down S key f _ _
theorem err_downT (S : StD) (root key : ByteArray) : ErrR (downT S root key).2.2 := by
  unfold downT
  split
  · first | exact er0 | exact er1 | exact er3 | exact er6 | exact er7 | exact er8 | exact er13
  · exact err_down _ _ _ _ _
theorem err_getT (S : StD) (root key : ByteArray) : ErrR (getT S root key).2 := by
  unfold getT
  split
  · exact err_downT _ _ _
  · split <;> (first | exact er0 | exact er1 | exact er3 | exact er6 | exact er7 | exact er8 | exact er13)
theorem err_chk (n : NodeD) : ErrR (chkN n) := by
  unfold chkN
  split
  · split <;> (first | exact er0 | exact er1 | exact er3 | exact er6 | exact er7 | exact er8 | exact er13)
  · first | exact er0 | exact er1 | exact er3 | exact er6 | exact er7 | exact er8 | exact er13
theorem err_putS (S : StD) (t : ByteArray) : ErrR (putS S t).1.2 := by
  unfold putS
  split <;> (first | exact er0 | exact er1 | exact er3 | exact er6 | exact er7 | exact er8 | exact er13)
theorem err_putN (S : StD) (n : NodeD) : ErrR (putN S n).1.2 := by
  unfold putN
  split
  · exact err_chk n
  · split
    · exact err_putS _ _
    · split
      · first | exact er0 | exact er1 | exact er3 | exact er6 | exact er7 | exact er8 | exact er13
      · exact err_putS _ _
theorem err_keepL : ∀ (l : List NodeD) (S : StD) (acc : List Ent), ErrR (keepL S l acc).1.2
  | [], _, _ => er0
  | p :: r, S, acc => by
    unfold keepL
    split
    · exact err_putN _ _
    · exact err_keepL r _ _
theorem err_top (S : StD) (l : List Ent) (h : Nat) : ErrR (topN S l h).1.2 := by
  unfold topN
  split
  · first | exact er0 | exact er1 | exact er3 | exact er6 | exact er7 | exact er8 | exact er13
  · first | exact er0 | exact er1 | exact er3 | exact er6 | exact er7 | exact er8 | exact er13
  · split
    · first | exact er0 | exact er1 | exact er3 | exact er6 | exact er7 | exact er8 | exact er13
    · exact err_putN _ _
theorem err_up : ∀ (l : List StepD) (S : StD) (n : NodeD) (h : Nat), ErrR (upR l S n h).1.2
  | [], S, n, h => by
    unfold upR
    split
    · first | exact er0 | exact er1 | exact er3 | exact er6 | exact er7 | exact er8 | exact er13
    · split
      · exact err_keepL _ _ _
      · exact err_top _ _ _
  | s :: r, S, n, h => by
    unfold upR
    split
    · exact err_keepL _ _ _
    · exact err_up r _ _ _
theorem err_putT (S : StD) (root key val : ByteArray) : ErrR (putT S root key val).1.2 := by
  unfold putT
  split
  · first | exact er0 | exact er1 | exact er3 | exact er6 | exact er7 | exact er8 | exact er13
  · split
    · exact err_downT _ _ _
    · exact err_up _ _ _ _
theorem err_delT (S : StD) (root key : ByteArray) : ErrR (delT S root key).1.2 := by
  unfold delT
  split
  · exact err_downT _ _ _
  · split
    · first | exact er0 | exact er1 | exact er3 | exact er6 | exact er7 | exact er8 | exact er13
    · exact err_up _ _ _ _
theorem err_nodes (S : StD) (fr : ByteArray) : ∀ (f : Nat) (todo : List (ByteArray × Nat)) (seen : List ByteArray), ∀ x ∈ nodesF S fr f todo seen, ErrR x.2.2
  | 0, _, _, x, hx => by unfold nodesF at hx; cases hx
  | _ + 1, [], _, x, hx => by unfold nodesF at hx; cases hx
  | f + 1, p :: todo, seen, x, hx => by
    unfold nodesF at hx
    split at hx
    · rw [List.mem_singleton] at hx; rw [hx]; first | exact er0 | exact er1 | exact er3 | exact er6 | exact er7 | exact er8 | exact er13
    · split at hx
      · rw [List.mem_singleton] at hx; rw [hx]; exact err_load _ _ _
      · rcases List.mem_cons.1 hx with h | h
        · rw [h]; exact err_load _ _ _
        · exact err_nodes S fr f _ _ x h
theorem err_nodesT (S : StD) (root fr : ByteArray) : ∀ x ∈ nodesT S root fr, ErrR x.2.2 := by
  unfold nodesT
  split
  · intro x hx; cases hx
  · exact err_nodes _ _ _ _ _
theorem err_scanL (fr : ByteArray) (many : Nat) : ∀ (L : List (ByteArray × NodeD × Int)) (acc : List Ent), (∀ x ∈ L, ErrR x.2.2) → ErrR (scanL fr many L acc).2
  | [], _, _ => er0
  | x :: r, acc, h => by
    unfold scanL
    split
    · exact h x (by simp)
    · split
      · first | exact er0 | exact er1 | exact er3 | exact er6 | exact er7 | exact er8 | exact er13
      · exact err_scanL fr many r _ (fun y hy => h y (List.mem_cons_of_mem _ hy))
theorem err_scanT (S : StD) (root fr : ByteArray) (many : Int) : ErrR (scanT S root fr many).2 := by
  unfold scanT
  split
  · first | exact er0 | exact er1 | exact er3 | exact er6 | exact er7 | exact er8 | exact er13
  · exact err_scanL _ _ _ _ (err_nodesT _ _ _)
theorem err_refsL : ∀ (L : List (ByteArray × NodeD × Int)) (acc : List ByteArray), (∀ x ∈ L, ErrR x.2.2) → ErrR (refsL L acc).2
  | [], _, _ => er0
  | x :: r, acc, h => by
    unfold refsL
    split
    · exact h x (by simp)
    · exact err_refsL r _ (fun y hy => h y (List.mem_cons_of_mem _ hy))
theorem err_refsT (S : StD) (root : ByteArray) : ErrR (refsT S root).2 := by
  unfold refsT
  exact err_refsL _ _ (err_nodesT _ _ _)
end Go.Proofs.Ytbeldjijnjgbfaa

namespace Go.Proofs.Ytbeldjijnjgbfaa
open Go Go.RowKit Go.ChangeShapes Go.WideShapes Go.ChangeAt

structure DidT (S : StD) (n : Nat) (r : (ByteArray × List Ent × Bool) × StD) (E2 : List Ent) : Prop where
  inv : InvR r.2 r.1.1 E2 (n + 1)
  gr : GrowS S r.2
  ln : r.2.l.length ≤ S.l.length + 17
theorem key_ok (key val : ByteArray) : okE key val = (keyT key && decide (val.size ≤ 120)) := by
  unfold keyT okE
  by_cases h1 : 0 < key.size <;> by_cases h2 : key.size ≤ 300 <;> by_cases h3 : val.size ≤ 120 <;> simp [h1, h2, h3]
/-- The pairs behind a change, as the document says. -/
def chgT (E : List Ent) (o : OpT) : List Ent :=
  if o.1 = 0 then (if okE o.2.1 o.2.2 = true then insE o.2.1 o.2.2 (dropE o.2.1 E) else E) else dropE o.2.1 E
theorem does_inv {S : StD} {root : ByteArray} {E : List Ent} {n : Nat} (h : InvR S root E n) (hn : n < 120) (hs : RoomS S 17) (l : List Ent) (o : OpT) : DidT S n (doesT S root l o) (chgT E o) := by
  obtain ⟨d, key, val⟩ := o
  unfold doesT chgT
  by_cases hd : d = 0
  · simp only [if_pos hd]
    cases hk : okE key val
    · rw [put_arg hk, if_pos (show (1 : Int) ≠ 0 by decide), if_neg (by decide)]
      exact ⟨h.more (Nat.le_succ _), GrowS.refl S, Nat.le_add_right _ _⟩
    · have hw := inv_put h hn hs hk
      rw [if_neg (by rw [hw.ok]; decide), if_pos rfl]
      exact ⟨hw.inv, hw.gr, hw.ln⟩
  · simp only [if_neg hd]
    cases hv : lookT E key with
    | none =>
      rw [inv_gone h hv, if_pos (show (8 : Int) ≠ 0 by decide), look_drop hv]
      exact ⟨h.more (Nat.le_succ _), GrowS.refl S, Nat.le_add_right _ _⟩
    | some v =>
      have hw := inv_del h hn hs hv
      rw [if_neg (by rw [hw.ok]; decide)]
      exact ⟨hw.inv, hw.gr, hw.ln⟩
theorem does_is {S : StD} {root : ByteArray} {E : List Ent} {n : Nat} (h : InvR S root E n) (hn : n < 120) (hs : RoomS S 17) (o : OpT) : (doesT S root E o).1.2 = (chgT E o, true) := by
  obtain ⟨d, key, val⟩ := o
  unfold doesT chgT
  by_cases hd : d = 0
  · simp only [if_pos hd]
    cases hk : okE key val
    · have hq : rputT E key val = (E, 1) := by
        unfold rputT
        rw [if_neg]
        rintro ⟨h1, h2⟩
        rw [key_ok, h1, decide_eq_true h2] at hk
        cases hk
      rw [put_arg hk, hq, if_pos (show (1 : Int) ≠ 0 by decide), if_neg (by decide)]
      rfl
    · have hw := inv_put h hn hs hk
      have hq : rputT E key val = (insE key val (dropE key E), 0) := by
        unfold rputT
        rw [key_ok, Bool.and_eq_true] at hk
        rw [if_pos ⟨hk.1, of_decide_eq_true hk.2⟩, rput_is E [] h.okL, List.nil_append]
      rw [if_neg (by rw [hw.ok]; decide), hq, hw.ok, if_pos rfl]
      rfl
  · simp only [if_neg hd]
    cases hv : lookT E key with
    | none =>
      have hq : rdelT E key = (E, 8) := by
        unfold rdelT
        rw [look_drop hv, if_pos rfl]
      rw [inv_gone h hv, hq, if_pos (show (8 : Int) ≠ 0 by decide), look_drop hv]
      rfl
    | some v =>
      have hw := inv_del h hn hs hv
      have hq : rdelT E key = (dropE key E, 0) := by
        unfold rdelT
        rw [if_neg (by have := look_short hv; omega)]
      rw [if_neg (by rw [hw.ok]; decide), hq, hw.ok]
      rfl
/-- 'append(s, x...)' on a row of strings, at a step of a region. -/
theorem step_keys_push {ops : Array Oper} {o : Oper} {a : Act} {W : World} {K : Act → World → Prop} {Q : Exit → Act → World → Prop} {E : Prop} (hgd : o.guard = none) (s x : Operand)
    (ho : o.op = .call { callee := .builtin .append, args := #[s, x], argTypes := #[26, 26] })
    (base : Nat) (v : Value) (l : List ByteArray) (hs : a.eval s = v) (hb : Ks W base v l)
    (ad : Addr) (m c : Nat) (cs : List ByteArray) (hx : a.eval x = .slice (some ad) m c) (hm : cs.length = m) (hcell : ∀ j u, cs[j]? = some u → W.cell? (ad.add j) = some (.string u))
    (hbytes : l.length + m ≤ 2000000) (hbase : base ≤ W.heap.size)
    (h : ∀ v' w', Ks w' base v' (l ++ cs) → W.grownBy w' v.ownBlock → (v'.ownBlock = v.ownBlock ∨ v'.ownBlock = some W.heap.size) → K (a.put o.dst v') w') :
    if Region.wanted o (yielded ops a.tmps) = true then Oper.wp Try.prog o a W K Q else E := by
  have hw : Region.wanted o (yielded ops a.tmps) = true := by simp [Region.wanted, hgd]
  rw [if_pos hw]
  obtain ⟨v', w', hr, h1, h2, h3⟩ := run_keys_push W o.type base v l hb ad m c cs hm hcell hbytes hbase
  unfold Oper.wp execOp
  simp only [ho, resolve, invoke, builtin, Sem.run_bind, Sem.run_pure, Result.andThen_ok, List.map_toArray, List.map_cons, List.map_nil, hs, hx, hr]
  exact h v' w' h1 h2 h3
/-- The store behind k.l = append(k.l, t). -/
theorem kp_push {kb : Nat} {v v' : Value} {S : StD} {t : ByteArray} {wx w2 : World} (h : KpAt wx kb v S) (hk : Ks w2 0 v' (S.l ++ [t])) (hg : wx.grownBy w2 v.ownBlock) (ho : v'.ownBlock = v.ownBlock ∨ v'.ownBlock = some wx.heap.size) (hl : S.l.length < 100000) (ht : t.size ≤ 100000) :
    Tod (KpF kb { S with l := S.l ++ [t] }) (kb :: v.ownBlock.toList) wx (w2.setCell ⟨kb, 0, none⟩ v') := by
  have hkl := h.box.lt
  have hb2 : Box w2 kb 28 #[v, .int .i64 S.room] := h.box.of (hg.block kb hkl (fun e => h.ne e.symm))
  have hn2 : v'.ownBlock ≠ some kb := by
    intro he
    rcases ho with h1 | h1
    · exact h.ne (h1 ▸ he)
    · rw [he] at h1; injection h1 with h1; omega
  have hc2 : Chg (kb :: v.ownBlock.toList) wx w2 := Chg.grown hg (fun k hk => by rw [hk]; simp)
  refine ⟨_, ⟨v', ⟨⟨h.ok.r0, h.ok.r1, ?_, ?_⟩, hb2.set 0 _, hk.chg (S := [kb]) ((Chg.refl _ _).set kb 0 _ (.inl (by simp))) (fun k hk hm => ?_), hn2⟩, rfl⟩, hc2.set kb 0 _ (.inl (by simp)), fun k hk => ?_⟩
  · show (S.l ++ [t]).length ≤ _
    rw [List.length_append]; simp; omega
  · intro x hx
    rcases List.mem_append.1 hx with h1 | h1
    · exact h.ok.txt x h1
    · rw [List.mem_singleton.1 h1]; exact ht
  · rw [List.mem_singleton.1 hm] at hk; exact hn2 hk
  · rcases List.mem_cons.1 hk with rfl | hk
    · exact .inl (by simp)
    · rcases ho with h1 | h1
      · rw [h1] at hk; exact .inl (List.mem_cons_of_mem _ hk)
      · rw [h1] at hk; simp at hk; exact .inr (by omega)
/-- The store, new. -/
theorem kp_new (w : World) (room : Int) (h0 : 0 ≤ room) (h1 : room ≤ 100000) : KpF w.heap.size ⟨[], room⟩ [w.heap.size] (w.alloc (.cells #[.slice none 0 0, .int .i64 room] 28 (0, 0))) :=
  ⟨.slice none 0 0, ⟨⟨h0, h1, Nat.zero_le _, fun _t ht => (nomatch ht)⟩, Box.new _ _ _, Ks.nil _ _, fun h => (nomatch h)⟩, rfl⟩
end Go.Proofs.Ytbeldjijnjgbfaa

namespace Go.Proofs.Ytbeldjijnjgbfaa
open Go Go.RowKit Go.ChangeShapes Go.WideShapes Go.ChangeAt

/-- The law's store, in blocks F, all from kb on; at most m changes were made. -/
structure LwT (kb : Nat) (S : StD) (F : List Nat) (w0 w : World) (m : Nat) : Prop where
  kp : KpF kb S F w
  own : ∀ i ∈ F, kb ≤ i
  bel : Below kb w0 w
  room : S.room = 100000
  len : S.l.length ≤ 17 * m
section
variable {kb m : Nat} {S S2 : StD} {F F2 : List Nat} {w0 w w2 : World}
theorem LwT.lt (h : LwT kb S F w0 w m) : kb < w.heap.size := by
  obtain ⟨v, hk, _⟩ := h.kp
  exact hk.box.lt
theorem LwT.keep (h : LwT kb S F w0 w m) (hb : Below w.heap.size w w2) : LwT kb S F w0 w2 m :=
  ⟨h.kp.keep hb, h.own, h.bel.trans (hb.mono (Nat.le_of_lt h.lt)), h.room, h.len⟩
theorem LwT.below (h : LwT kb S F w0 w m) (hc : Chg F w w2) : Below kb w w2 := hc.below (Nat.le_of_lt h.lt) h.own
theorem LwT.step (h : LwT kb S F w0 w m) (k2 : KpF kb S2 F2 w2) (hc : Chg F w w2) (hn : ∀ i ∈ F2, i ∈ F ∨ w.heap.size ≤ i) (hg : GrowS S S2) (hl : S2.l.length ≤ S.l.length + 17) : LwT kb S2 F2 w0 w2 (m + 1) := by
  refine ⟨k2, fun i hi => ?_, h.bel.trans (h.below hc), by rw [hg.1]; exact h.room, by have := h.len; omega⟩
  rcases hn i hi with h1 | h1
  · exact h.own i h1
  · have := h.lt; omega
theorem LwT.more (h : LwT kb S F w0 w m) {n : Nat} (hn : m ≤ n) : LwT kb S F w0 w n := ⟨h.kp, h.own, h.bel, h.room, by have := h.len; omega⟩
theorem LwT.has (h : LwT kb S F w0 w m) (hm : m ≤ 1000) : RoomS S 17 := ⟨by rw [h.room]; have := h.len; omega, by have := h.len; omega⟩
theorem LwT.new (w : World) : LwT w.heap.size ⟨[], 100000⟩ [w.heap.size] w (w.alloc (.cells #[.slice none 0 0, .int .i64 100000] 28 (0, 0))) 0 :=
  ⟨kp_new w 100000 (by decide) (by decide), fun i hi => by rw [List.mem_singleton] at hi; omega, (Below.refl _ _).alloc (Nat.le_refl _) _, rfl, Nat.zero_le _⟩
end
theorem insE_mem {key val : ByteArray} : ∀ {E : List Ent} {x : Ent}, x ∈ insE key val E → x = (key, val) ∨ x ∈ E
  | [], x, h => by rw [insE, List.mem_singleton] at h; exact .inl h
  | y :: r, x, h => by
    rw [insE] at h
    split at h
    · rcases List.mem_cons.1 h with h | h
      · exact .inl h
      · exact .inr h
    · rcases List.mem_cons.1 h with h | h
      · exact .inr (by rw [h]; exact List.mem_cons_self ..)
      · rcases insE_mem h with h | h
        · exact .inl h
        · exact .inr (List.mem_cons_of_mem _ h)
theorem dropE_mem {key : ByteArray} {E : List Ent} {x : Ent} (h : x ∈ dropE key E) : x ∈ E ∧ x.1 ≠ key := by
  have := List.mem_filter.1 h
  exact ⟨this.1, by simpa using this.2⟩
/-- A rotation reaches every place. -/
theorem rot_all {n p t : Nat} (hp : p < n) : ∃ i, i < n ∧ (i + t % n) % n = p := by
  have hn : 0 < n := by omega
  have ht := Nat.mod_lt t hn
  rcases Nat.lt_or_ge p (t % n) with h | h
  · refine ⟨p + n - t % n, by omega, ?_⟩
    rw [show p + n - t % n + t % n = p + n from by omega, Nat.add_mod_right]
    exact Nat.mod_eq_of_lt hp
  · refine ⟨p - t % n, by omega, ?_⟩
    rw [show p - t % n + t % n = p from by omega]
    exact Nat.mod_eq_of_lt hp
theorem smT_of {l : List OpT} (h : smT l = true) : (∀ x ∈ l, x.2.1.size ≤ 400 ∧ x.2.2.size ≤ 200) ∧ l.length ≤ 120 := by
  unfold smT at h
  rw [Bool.and_eq_true] at h
  refine ⟨fun x hx => ?_, of_decide_eq_true h.2⟩
  have h1 := List.all_eq_true.1 h.1 x hx
  unfold okT at h1
  rw [Bool.and_eq_true] at h1
  exact ⟨of_decide_eq_true h1.1, of_decide_eq_true h1.2⟩
end Go.Proofs.Ytbeldjijnjgbfaa
