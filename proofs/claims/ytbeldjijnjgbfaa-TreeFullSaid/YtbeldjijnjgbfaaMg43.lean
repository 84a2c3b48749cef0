/-
  Texts put together: Tdk, Tdl, Tdm, TreeZ.
-/
import Derived.Test.YtbeldjijnjgbfaaMg42
namespace Go.Proofs.Ytbeldjijnjgbfaa
open Go Go.RowKit Go.ChangeShapes Go.WideShapes Go.ChangeAt

structure DidT (S : StD) (n : Nat) (r : (ByteArray × List Ent × Bool) × StD) (E2 : List Ent) : Prop where
  inv : InvR r.2 r.1.1 E2 (n + 1)
  gr : GrowS S r.2
  ln : r.2.l.length ≤ S.l.length + 17
theorem key_ok (key val : ByteArray) : okE key val = (keyT key && decide (val.size ≤ 120)) := by
  unfold keyT okE
  by_cases h1 : 0 < key.size <;> by_cases h2 : key.size ≤ 300 <;> by_cases h3 : val.size ≤ 120 <;> simp [h1, h2, h3]
/-- The pairs behind a change, as the document says. -/
def chgT (E : List Ent) (o : OpT) : List Ent :=
  if o.1 = 0 then (if okE o.2.1 o.2.2 = true then insE o.2.1 o.2.2 (dropE o.2.1 E) else E) else dropE o.2.1 E
theorem does_inv {S : StD} {root : ByteArray} {E : List Ent} {n : Nat} (h : InvR S root E n) (hn : n < 120) (hs : RoomS S 17) (l : List Ent) (o : OpT) : DidT S n (doesT S root l o) (chgT E o) := by
  obtain ⟨d, key, val⟩ := o
  unfold doesT chgT
  by_cases hd : d = 0
  · simp only [if_pos hd]
    cases hk : okE key val
    · rw [put_arg hk, if_pos (show (1 : Int) ≠ 0 by decide), if_neg (by decide)]
      exact ⟨h.more (Nat.le_succ _), GrowS.refl S, Nat.le_add_right _ _⟩
    · have hw := inv_put h hn hs hk
      rw [if_neg (by rw [hw.ok]; decide), if_pos rfl]
      exact ⟨hw.inv, hw.gr, hw.ln⟩
  · simp only [if_neg hd]
    cases hv : lookT E key with
    | none =>
      rw [inv_gone h hv, if_pos (show (8 : Int) ≠ 0 by decide), look_drop hv]
      exact ⟨h.more (Nat.le_succ _), GrowS.refl S, Nat.le_add_right _ _⟩
    | some v =>
      have hw := inv_del h hn hs hv
      rw [if_neg (by rw [hw.ok]; decide)]
      exact ⟨hw.inv, hw.gr, hw.ln⟩
theorem does_is {S : StD} {root : ByteArray} {E : List Ent} {n : Nat} (h : InvR S root E n) (hn : n < 120) (hs : RoomS S 17) (o : OpT) : (doesT S root E o).1.2 = (chgT E o, true) := by
  obtain ⟨d, key, val⟩ := o
  unfold doesT chgT
  by_cases hd : d = 0
  · simp only [if_pos hd]
    cases hk : okE key val
    · have hq : rputT E key val = (E, 1) := by
        unfold rputT
        rw [if_neg]
        rintro ⟨h1, h2⟩
        rw [key_ok, h1, decide_eq_true h2] at hk
        cases hk
      rw [put_arg hk, hq, if_pos (show (1 : Int) ≠ 0 by decide), if_neg (by decide)]
      rfl
    · have hw := inv_put h hn hs hk
      have hq : rputT E key val = (insE key val (dropE key E), 0) := by
        unfold rputT
        rw [key_ok, Bool.and_eq_true] at hk
        rw [if_pos ⟨hk.1, of_decide_eq_true hk.2⟩, rput_is E [] h.okL, List.nil_append]
      rw [if_neg (by rw [hw.ok]; decide), hq, hw.ok, if_pos rfl]
      rfl
  · simp only [if_neg hd]
    cases hv : lookT E key with
    | none =>
      have hq : rdelT E key = (E, 8) := by
        unfold rdelT
        rw [look_drop hv, if_pos rfl]
      rw [inv_gone h hv, hq, if_pos (show (8 : Int) ≠ 0 by decide), look_drop hv]
      rfl
    | some v =>
      have hw := inv_del h hn hs hv
      have hq : rdelT E key = (dropE key E, 0) := by
        unfold rdelT
        rw [if_neg (by have := look_short hv; omega)]
      rw [if_neg (by rw [hw.ok]; decide), hq, hw.ok]
      rfl
/-- 'append(s, x...)' on a row of strings, at a step of a region. -/
theorem step_keys_push {ops : Array Oper} {o : Oper} {a : Act} {W : World} {K : Act → World → Prop} {Q : Exit → Act → World → Prop} {E : Prop} (hgd : o.guard = none) (s x : Operand)
    (ho : o.op = .call { callee := .builtin .append, args := #[s, x], argTypes := #[26, 26] })
    (base : Nat) (v : Value) (l : List ByteArray) (hs : a.eval s = v) (hb : Ks W base v l)
    (ad : Addr) (m c : Nat) (cs : List ByteArray) (hx : a.eval x = .slice (some ad) m c) (hm : cs.length = m) (hcell : ∀ j u, cs[j]? = some u → W.cell? (ad.add j) = some (.string u))
    (hbytes : l.length + m ≤ 2000000) (hbase : base ≤ W.heap.size)
    (h : ∀ v' w', Ks w' base v' (l ++ cs) → W.grownBy w' v.ownBlock → (v'.ownBlock = v.ownBlock ∨ v'.ownBlock = some W.heap.size) → K (a.put o.dst v') w') :
    if Region.wanted o (yielded ops a.tmps) = true then Oper.wp Try.prog o a W K Q else E := by
  have hw : Region.wanted o (yielded ops a.tmps) = true := by simp [Region.wanted, hgd]
  rw [if_pos hw]
  obtain ⟨v', w', hr, h1, h2, h3⟩ := run_keys_push W o.type base v l hb ad m c cs hm hcell hbytes hbase
  unfold Oper.wp execOp
  simp only [ho, resolve, invoke, builtin, Sem.run_bind, Sem.run_pure, Result.andThen_ok, List.map_toArray, List.map_cons, List.map_nil, hs, hx, hr]
  exact h v' w' h1 h2 h3
/-- The store behind k.l = append(k.l, t). -/
theorem kp_push {kb : Nat} {v v' : Value} {S : StD} {t : ByteArray} {wx w2 : World} (h : KpAt wx kb v S) (hk : Ks w2 0 v' (S.l ++ [t])) (hg : wx.grownBy w2 v.ownBlock) (ho : v'.ownBlock = v.ownBlock ∨ v'.ownBlock = some wx.heap.size) (hl : S.l.length < 100000) (ht : t.size ≤ 100000) :
    Tod (KpF kb { S with l := S.l ++ [t] }) (kb :: v.ownBlock.toList) wx (w2.setCell ⟨kb, 0, none⟩ v') := by
  have hkl := h.box.lt
  have hb2 : Box w2 kb 28 #[v, .int .i64 S.room] := h.box.of (hg.block kb hkl (fun e => h.ne e.symm))
  have hn2 : v'.ownBlock ≠ some kb := by
    intro he
    rcases ho with h1 | h1
    · exact h.ne (h1 ▸ he)
    · rw [he] at h1; injection h1 with h1; omega
  have hc2 : Chg (kb :: v.ownBlock.toList) wx w2 := Chg.grown hg (fun k hk => by rw [hk]; simp)
  refine ⟨_, ⟨v', ⟨⟨h.ok.r0, h.ok.r1, ?_, ?_⟩, hb2.set 0 _, hk.chg (S := [kb]) ((Chg.refl _ _).set kb 0 _ (.inl (by simp))) (fun k hk hm => ?_), hn2⟩, rfl⟩, hc2.set kb 0 _ (.inl (by simp)), fun k hk => ?_⟩
  · show (S.l ++ [t]).length ≤ _
    rw [List.length_append]; simp; omega
  · intro x hx
    rcases List.mem_append.1 hx with h1 | h1
    · exact h.ok.txt x h1
    · rw [List.mem_singleton.1 h1]; exact ht
  · rw [List.mem_singleton.1 hm] at hk; exact hn2 hk
  · rcases List.mem_cons.1 hk with rfl | hk
    · exact .inl (by simp)
    · rcases ho with h1 | h1
      · rw [h1] at hk; exact .inl (List.mem_cons_of_mem _ hk)
      · rw [h1] at hk; simp at hk; exact .inr (by omega)
/-- The store, new. -/
theorem kp_new (w : World) (room : Int) (h0 : 0 ≤ room) (h1 : room ≤ 100000) : KpF w.heap.size ⟨[], room⟩ [w.heap.size] (w.alloc (.cells #[.slice none 0 0, .int .i64 room] 28 (0, 0))) :=
  ⟨.slice none 0 0, ⟨⟨h0, h1, Nat.zero_le _, fun _t ht => (nomatch ht)⟩, Box.new _ _ _, Ks.nil _ _, fun h => (nomatch h)⟩, rfl⟩
end Go.Proofs.Ytbeldjijnjgbfaa

namespace Go.Proofs.Ytbeldjijnjgbfaa
open Go Go.RowKit Go.ChangeShapes Go.WideShapes Go.ChangeAt

/-- The law's store, in blocks F, all from kb on; at most m changes were made. -/
structure LwT (kb : Nat) (S : StD) (F : List Nat) (w0 w : World) (m : Nat) : Prop where
  kp : KpF kb S F w
  own : ∀ i ∈ F, kb ≤ i
  bel : Below kb w0 w
  room : S.room = 100000
  len : S.l.length ≤ 17 * m
section
variable {kb m : Nat} {S S2 : StD} {F F2 : List Nat} {w0 w w2 : World}
theorem LwT.lt (h : LwT kb S F w0 w m) : kb < w.heap.size := by
  obtain ⟨v, hk, _⟩ := h.kp
  exact hk.box.lt
theorem LwT.keep (h : LwT kb S F w0 w m) (hb : Below w.heap.size w w2) : LwT kb S F w0 w2 m :=
  ⟨h.kp.keep hb, h.own, h.bel.trans (hb.mono (Nat.le_of_lt h.lt)), h.room, h.len⟩
theorem LwT.below (h : LwT kb S F w0 w m) (hc : Chg F w w2) : Below kb w w2 := hc.below (Nat.le_of_lt h.lt) h.own
theorem LwT.step (h : LwT kb S F w0 w m) (k2 : KpF kb S2 F2 w2) (hc : Chg F w w2) (hn : ∀ i ∈ F2, i ∈ F ∨ w.heap.size ≤ i) (hg : GrowS S S2) (hl : S2.l.length ≤ S.l.length + 17) : LwT kb S2 F2 w0 w2 (m + 1) := by
  refine ⟨k2, fun i hi => ?_, h.bel.trans (h.below hc), by rw [hg.1]; exact h.room, by have := h.len; omega⟩
  rcases hn i hi with h1 | h1
  · exact h.own i h1
  · have := h.lt; omega
theorem LwT.more (h : LwT kb S F w0 w m) {n : Nat} (hn : m ≤ n) : LwT kb S F w0 w n := ⟨h.kp, h.own, h.bel, h.room, by have := h.len; omega⟩
theorem LwT.has (h : LwT kb S F w0 w m) (hm : m ≤ 1000) : RoomS S 17 := ⟨by rw [h.room]; have := h.len; omega, by have := h.len; omega⟩
theorem LwT.new (w : World) : LwT w.heap.size ⟨[], 100000⟩ [w.heap.size] w (w.alloc (.cells #[.slice none 0 0, .int .i64 100000] 28 (0, 0))) 0 :=
  ⟨kp_new w 100000 (by decide) (by decide), fun i hi => by rw [List.mem_singleton] at hi; omega, (Below.refl _ _).alloc (Nat.le_refl _) _, rfl, Nat.zero_le _⟩
end
theorem insE_mem {key val : ByteArray} : ∀ {E : List Ent} {x : Ent}, x ∈ insE key val E → x = (key, val) ∨ x ∈ E
  | [], x, h => by rw [insE, List.mem_singleton] at h; exact .inl h
  | y :: r, x, h => by
    rw [insE] at h
    split at h
    · rcases List.mem_cons.1 h with h | h
      · exact .inl h
      · exact .inr h
    · rcases List.mem_cons.1 h with h | h
      · exact .inr (by rw [h]; exact List.mem_cons_self ..)
      · rcases insE_mem h with h | h
        · exact .inl h
        · exact .inr (List.mem_cons_of_mem _ h)
theorem dropE_mem {key : ByteArray} {E : List Ent} {x : Ent} (h : x ∈ dropE key E) : x ∈ E ∧ x.1 ≠ key := by
  have := List.mem_filter.1 h
  exact ⟨this.1, by simpa using this.2⟩
/-- A rotation reaches every place. -/
theorem rot_all {n p t : Nat} (hp : p < n) : ∃ i, i < n ∧ (i + t % n) % n = p := by
  have hn : 0 < n := by omega
  have ht := Nat.mod_lt t hn
  rcases Nat.lt_or_ge p (t % n) with h | h
  · refine ⟨p + n - t % n, by omega, ?_⟩
    rw [show p + n - t % n + t % n = p + n from by omega, Nat.add_mod_right]
    exact Nat.mod_eq_of_lt hp
  · refine ⟨p - t % n, by omega, ?_⟩
    rw [show p - t % n + t % n = p from by omega]
    exact Nat.mod_eq_of_lt hp
theorem smT_of {l : List OpT} (h : smT l = true) : (∀ x ∈ l, x.2.1.size ≤ 400 ∧ x.2.2.size ≤ 200) ∧ l.length ≤ 120 := by
  unfold smT at h
  rw [Bool.and_eq_true] at h
  refine ⟨fun x hx => ?_, of_decide_eq_true h.2⟩
  have h1 := List.all_eq_true.1 h.1 x hx
  unfold okT at h1
  rw [Bool.and_eq_true] at h1
  exact ⟨of_decide_eq_true h1.1, of_decide_eq_true h1.2⟩
end Go.Proofs.Ytbeldjijnjgbfaa

namespace Go.Proofs.Ytbeldjijnjgbfaa
open Go Go.RowKit Go.ChangeShapes Go.WideShapes Go.ChangeAt

/-- The pairs behind a put. -/
def putO (E : List Ent) (o : OpT) : List Ent := if okE o.2.1 o.2.2 = true then insE o.2.1 o.2.2 (dropE o.2.1 E) else E
def runP (l : List OpT) : List Ent := l.foldl putO []
theorem runP_snoc (l : List OpT) (o : OpT) : runP (l ++ [o]) = putO (runP l) o := by unfold runP; rw [List.foldl_append]; rfl
theorem mem_insE {key val : ByteArray} {E : List Ent} {x : Ent} : x ∈ insE key val E ↔ x = (key, val) ∨ x ∈ E := by
  constructor
  · exact insE_mem
  · induction E with
    | nil => intro h; rcases h with h | h
             · rw [h, insE]; exact List.mem_cons_self ..
             · cases h
    | cons y r ih =>
      intro h
      rw [insE]
      split
      · rcases h with h | h
        · rw [h]; exact List.mem_cons_self ..
        · exact List.mem_cons_of_mem _ h
      · rcases h with h | h
        · exact List.mem_cons_of_mem _ (ih (.inl h))
        · rcases List.mem_cons.1 h with h | h
          · rw [h]; exact List.mem_cons_self ..
          · exact List.mem_cons_of_mem _ (ih (.inr h))
theorem mem_drop {key : ByteArray} {E : List Ent} {x : Ent} : x ∈ dropE key E ↔ x ∈ E ∧ x.1 ≠ key := by
  unfold dropE
  rw [List.mem_filter]
  simp
def keysT (l : List OpT) : List ByteArray := l.map (fun o => o.2.1)
/-- With no key twice the pairs are those of the script that may be. -/
theorem runP_memR (r : List OpT) : (keysT r.reverse).Nodup → ∀ x, x ∈ runP r.reverse ↔ ∃ o ∈ r.reverse, okE o.2.1 o.2.2 = true ∧ x = (o.2.1, o.2.2) := by
  induction r with
  | nil => intro _ x; constructor
           · intro h; cases h
           · rintro ⟨o, h, _⟩; cases h
  | cons o r ih =>
    intro hn x
    rw [List.reverse_cons] at hn ⊢
    generalize r.reverse = l at *
    have hk : keysT (l ++ [o]) = keysT l ++ [o.2.1] := by unfold keysT; rw [List.map_append]; rfl
    rw [hk, List.nodup_append] at hn
    obtain ⟨h1, _, h3⟩ := hn
    have ih := ih h1
    have hout : ∀ p ∈ l, p.2.1 ≠ o.2.1 := fun p hp => h3 _ (List.mem_map_of_mem hp) _ (by simp)
    rw [runP_snoc]
    unfold putO
    cases hok : okE o.2.1 o.2.2
    · rw [if_neg (by decide), ih x]
      constructor
      · rintro ⟨p, hp, h⟩; exact ⟨p, List.mem_append_left _ hp, h⟩
      · rintro ⟨p, hp, h4, h5⟩
        rcases List.mem_append.1 hp with hp | hp
        · exact ⟨p, hp, h4, h5⟩
        · rw [List.mem_singleton.1 hp, hok] at h4; cases h4
    · rw [if_pos rfl, mem_insE, mem_drop, ih x]
      constructor
      · rintro (h | ⟨⟨p, hp, h⟩, _⟩)
        · exact ⟨o, by simp, hok, h⟩
        · exact ⟨p, List.mem_append_left _ hp, h⟩
      · rintro ⟨p, hp, h4, h5⟩
        rcases List.mem_append.1 hp with hp | hp
        · exact .inr ⟨⟨p, hp, h4, h5⟩, by rw [h5]; exact hout p hp⟩
        · rw [List.mem_singleton.1 hp] at h5; exact .inl h5
theorem runP_mem (l : List OpT) (h : (keysT l).Nodup) : ∀ x, x ∈ runP l ↔ ∃ o ∈ l, okE o.2.1 o.2.2 = true ∧ x = (o.2.1, o.2.2) := by
  have := runP_memR l.reverse
  rw [List.reverse_reverse] at this
  exact this h
theorem up_eq : ∀ {A B : List Ent}, Up (A.map (·.1)) → Up (B.map (·.1)) → (∀ x, x ∈ A ↔ x ∈ B) → A = B
  | [], [], _, _, _ => rfl
  | [], b :: B, _, _, h => by have := (h b).2 (List.mem_cons_self ..); cases this
  | a :: A, [], _, _, h => by have := (h a).1 (List.mem_cons_self ..); cases this
  | a :: A, b :: B, ha, hb, h => by
    have ha' := List.pairwise_cons.1 (show List.Pairwise (fun x y => ltK x y = true) (a.1 :: A.map (·.1)) from ha)
    have hb' := List.pairwise_cons.1 (show List.Pairwise (fun x y => ltK x y = true) (b.1 :: B.map (·.1)) from hb)
    have e : a = b := by
      rcases List.mem_cons.1 ((h a).1 (List.mem_cons_self ..)) with h1 | h1
      · exact h1
      · rcases List.mem_cons.1 ((h b).2 (List.mem_cons_self ..)) with h2 | h2
        · exact h2.symm
        · have h3 := ha'.1 b.1 (List.mem_map_of_mem h2)
          have h4 := hb'.1 a.1 (List.mem_map_of_mem h1)
          rw [ltK_as h3] at h4; cases h4
    subst e
    congr 1
    refine up_eq ha'.2 hb'.2 (fun x => ?_)
    have hx := h x
    rw [List.mem_cons, List.mem_cons] at hx
    constructor
    · intro hm
      rcases hx.1 (.inr hm) with h1 | h1
      · have := ha'.1 x.1 (List.mem_map_of_mem hm); rw [h1, ltK_irr] at this; cases this
      · exact h1
    · intro hm
      rcases hx.2 (.inr hm) with h1 | h1
      · have := hb'.1 x.1 (List.mem_map_of_mem hm); rw [h1, ltK_irr] at this; cases this
      · exact h1
theorem runP_perm {l m : List OpT} (hp : l.Perm m) (hn : (keysT l).Nodup) (hl : OkL (runP l)) (hm : OkL (runP m)) : runP l = runP m := by
  have hn2 : (keysT m).Nodup := (hp.map _).nodup_iff.1 hn
  refine up_eq hl.up hm.up (fun x => ?_)
  rw [runP_mem l hn, runP_mem m hn2]
  constructor
  · rintro ⟨o, ho, h⟩; exact ⟨o, hp.mem_iff.1 ho, h⟩
  · rintro ⟨o, ho, h⟩; exact ⟨o, hp.mem_iff.2 ho, h⟩
theorem rotT_get (l : List OpT) (c j i : Nat) (hc : c < l.length) (hj : j < l.length) (hi : i = (j + c) % l.length) (h : i < l.length) : (l.drop c ++ l.take c)[j]? = some l[i] := by
  rcases Nat.lt_or_ge (c + j) l.length with h1 | h1
  · have e : i = c + j := by rw [hi, Nat.mod_eq_of_lt (by omega)]; omega
    rw [List.getElem?_append_left (by rw [List.length_drop]; omega), List.getElem?_drop, ← e, List.getElem?_eq_getElem h]
  · have e : i = c + j - l.length := by
      rw [hi, show j + c = (c + j - l.length) + l.length from by omega, Nat.add_mod_right, Nat.mod_eq_of_lt (by omega)]
    rw [List.getElem?_append_right (by rw [List.length_drop]; omega), List.length_drop, List.getElem?_take_of_lt (by omega), show j - (l.length - c) = i from by omega, List.getElem?_eq_getElem h]
theorem rotT_perm (l : List OpT) (c : Nat) : l.Perm (l.drop c ++ l.take c) := by
  have h := List.perm_append_comm (l₁ := l.take c) (l₂ := l.drop c)
  rw [List.take_append_drop] at h
  exact h
theorem rotT_take (l : List OpT) (c j i : Nat) (hc : c < l.length) (hj : j < l.length) (hi : i = (j + c) % l.length) (h : i < l.length) : (l.drop c ++ l.take c).take (j + 1) = (l.drop c ++ l.take c).take j ++ [l[i]] := by
  have hg := rotT_get l c j i hc hj hi h
  have hlen : j < (l.drop c ++ l.take c).length := by rw [← (rotT_perm l c).length_eq]; exact hj
  rw [List.take_succ_eq_append_getElem hlen]
  rw [List.getElem?_eq_getElem hlen] at hg
  rw [Option.some.inj hg]
theorem putO_bad {E : List Ent} {o : OpT} (h : okE o.2.1 o.2.2 = false) : putO E o = E := by unfold putO; rw [h]; exact if_neg (by decide)
theorem putO_ok {E : List Ent} {o : OpT} (h : okE o.2.1 o.2.2 = true) : putO E o = insE o.2.1 o.2.2 (dropE o.2.1 E) := by unfold putO; exact if_pos h
theorem InvR.six {S : StD} {root : ByteArray} {E : List Ent} {n : Nat} (h : InvR S root E n) (he : E ≠ []) : root.size = 6 := by
  obtain ⟨⟨i, W, h1, _, _⟩, _⟩ := h
  rcases h1 with ⟨_, h, _⟩ | ⟨h, _⟩
  · exact absurd h he
  · exact h
theorem ins_ne {key val : ByteArray} {E : List Ent} : insE key val E ≠ [] := fun h => by
  have := mem_insE.2 (.inl rfl : (key, val) = (key, val) ∨ (key, val) ∈ E)
  rw [h] at this; cases this
theorem six_ne {r : ByteArray} (h : r.size = 6) : r.toList.isEmpty = false := by
  rw [ByteArray.toList_eq]
  cases h5 : r.data.toList with
  | nil => have h6 : r.data.toList.length = 6 := by simpa using h
           rw [h5] at h6; cases h6
  | cons a b => rfl
theorem nil_size {r : ByteArray} (h : r.size = 0) : r = noT := by
  obtain ⟨d⟩ := r
  have h1 : d.size = 0 := h
  rw [Array.size_eq_zero_iff.1 h1]
theorem scan_all {S : StD} {root : ByteArray} {E : List Ent} {n : Nat} (h : InvR S root E n) (hn : n ≤ 1000) : scanT S root noT 1000 = (E, 0) := by
  obtain ⟨⟨i, W, h1, h2, _⟩, h4⟩ := h
  rw [scan_is h1 (by omega)]
  have e : E.filter (fun x => !ltK x.1 noT) = E := List.filter_eq_self.2 (fun x _ => by
    cases h5 : ltK x.1 noT
    · rfl
    · have := ltK_as h5
      rw [ltK_nil] at this
      rcases Nat.eq_zero_or_pos x.1.size with h6 | h6
      · have : x.1 = noT := nil_size h6
        rw [this, ltK_irr] at h5; cases h5
      · rw [decide_eq_true h6] at this; cases this)
  rw [e, List.take_of_length_le (by show E.length ≤ 1000; omega)]
end Go.Proofs.Ytbeldjijnjgbfaa

namespace Go.Proofs.Ytbeldjijnjgbfaa
open Go.RowKit
attribute [local irreducible] encD decP rawD

def FullS (S : StD) : Prop := S.room ≤ (S.l.length : Int)
def CapS (S : StD) : Prop := (S.l.length : Int) ≤ S.room
theorem FullS.grow {S T : StD} (h : FullS S) (hg : GrowS S T) : FullS T := by
  obtain ⟨h1, x, h2⟩ := hg
  unfold FullS at *
  rw [h1, h2, List.length_append]
  omega
theorem chk_six (n : NodeD) : chkN n ≠ 6 := by
  unfold chkN
  split
  · split <;> decide
  · decide
theorem putN_six {S : StD} {n : NodeD} (h : (putN S n).1.2 = 6) : FullS S ∧ chkN n = 0 ∧ putN S n = ((noT, 6), S) := by
  by_cases hc : chkN n = 0
  · by_cases hr : S.room ≤ (S.l.length : Int)
    · exact ⟨hr, hc, put_full hc hr⟩
    · rw [put_ok hc (by omega)] at h; cases h
  · unfold putN at h
    rw [if_pos hc] at h
    exact absurd h (chk_six n)
theorem keepL_six : ∀ (ps : List NodeD) (S : StD) (acc : List Ent), (keepL S ps acc).1.2 = 6 → FullS (keepL S ps acc).2
  | [], S, acc, h => by unfold keepL at h; cases h
  | p :: r, S, acc, h => by
    unfold keepL at h ⊢
    by_cases hz : (putN S p).1.2 = 0
    · rw [if_neg (fun e => e hz)] at h ⊢
      exact keepL_six r _ _ h
    · rw [if_pos hz] at h ⊢
      obtain ⟨h1, _, h3⟩ := putN_six h
      rw [h3]; exact h1
/-- The first node kept tells. -/
theorem keepN_again {S T : StD} {n : NodeD} (hf : FullS T) : (partsN n = [] ∧ keepN S n = (([], 0), S) ∧ keepN T n = (([], 0), T)) ∨ ((keepN S n).1.2 ≠ 0 ∧ (keepN S n).1.2 ≠ 6) ∨ keepN T n = (([], 6), T) := by
  unfold keepN
  cases hp : partsN n with
  | nil => exact .inl ⟨rfl, rfl, rfl⟩
  | cons p r =>
    right
    by_cases hc : chkN p = 0
    · right
      unfold keepL
      rw [put_full hc hf, if_pos (show (6 : Int) ≠ 0 by decide)]
    · left
      unfold keepL
      have e : (putN S p).1.2 = chkN p := by unfold putN; rw [if_pos hc]
      rw [e, if_pos hc]
      exact ⟨hc, chk_six p⟩
theorem upR_again : ∀ (l : List StepD) (S T : StD) (n : NodeD) (h : Nat), FullS T → (upR l S n h).1.2 = 6 → upR l T n h = ((noT, 6), T)
  | [], S, T, n, h, hf, h6 => by
    unfold upR at h6 ⊢
    by_cases h1 : n.leaf = false ∧ n.keys.length = 1
    · rw [if_pos h1] at h6; cases h6
    · rw [if_neg h1] at h6 ⊢
      rcases keepN_again (S := S) (n := n) hf with ⟨_, e1, _⟩ | ⟨k1, k2⟩ | e
      · rw [e1, if_neg (fun e => e rfl)] at h6
        cases h6
      · rw [if_pos k1] at h6; exact absurd h6 k2
      · rw [e, if_pos (show (6 : Int) ≠ 0 by decide)]
  | s :: r, S, T, n, h, hf, h6 => by
    unfold upR at h6 ⊢
    rcases keepN_again (S := S) (n := n) hf with ⟨_, e1, e2⟩ | ⟨k1, k2⟩ | e
    · rw [e1, if_neg (fun e => e rfl)] at h6
      rw [e2, if_neg (fun e => e rfl)]
      exact upR_again r S T _ h hf h6
    · rw [if_pos k1] at h6; exact absurd h6 k2
    · rw [e, if_pos (show (6 : Int) ≠ 0 by decide)]
theorem topN_six {S : StD} {l : List Ent} {h : Nat} (h6 : (topN S l h).1.2 = 6) : FullS (topN S l h).2 := by
  unfold topN at h6 ⊢
  split at h6
  · cases h6
  · cases h6
  · split at h6
    · cases h6
    · rename_i h9
      rw [if_neg h9]
      obtain ⟨k1, _, k3⟩ := putN_six h6
      rw [k3]; exact k1
theorem upR_six : ∀ (l : List StepD) (S : StD) (n : NodeD) (h : Nat), (upR l S n h).1.2 = 6 → FullS (upR l S n h).2
  | [], S, n, h, h6 => by
    unfold upR at h6 ⊢
    by_cases h1 : n.leaf = false ∧ n.keys.length = 1
    · rw [if_pos h1] at h6; cases h6
    · rw [if_neg h1] at h6 ⊢
      by_cases h2 : (keepN S n).1.2 = 0
      · rw [if_neg (fun e => e h2)] at h6 ⊢; exact topN_six h6
      · rw [if_pos h2] at h6 ⊢; exact keepL_six _ _ _ h6
  | s :: r, S, n, h, h6 => by
    unfold upR at h6 ⊢
    by_cases h2 : (keepN S n).1.2 = 0
    · rw [if_neg (fun e => e h2)] at h6 ⊢; exact upR_six r _ _ _ h6
    · rw [if_pos h2] at h6 ⊢; exact keepL_six _ _ _ h6
theorem load_six (S : StD) (r : ByteArray) (h : Nat) : (loadN S r h).2 ≠ 6 := by
  have hg : (getS S r).2 ≠ 6 := by
    unfold getS
    split
    · show (7 : Int) ≠ 6; decide
    · split
      · show (7 : Int) ≠ 6; decide
      · show (0 : Int) ≠ 6; decide
  unfold loadN
  repeat (first | exact hg | (show (3 : Int) ≠ 6; decide) | (show (0 : Int) ≠ 6; decide) | split)
theorem down_six (S : StD) (key : ByteArray) : ∀ (f : Nat) (above : List StepD) (r : ByteArray), (downN S key f above r).2.2 ≠ 6
  | 0, _, _ => by unfold downN; show (3 : Int) ≠ 6; decide
  | f + 1, above, r => by
    unfold downN
    split
    · exact load_six _ _ _
    · exact down_six S key f _ _
theorem downT_six (S : StD) (root key : ByteArray) : (downT S root key).2.2 ≠ 6 := by
  unfold downT
  split
  · show (0 : Int) ≠ 6; decide
  · exact down_six _ _ _ _ _
theorem down_grow {S T : StD} (hg : GrowS S T) (key : ByteArray) : ∀ (f : Nat) (above : List StepD) (r : ByteArray), (downN S key f above r).2.2 = 0 → downN T key f above r = downN S key f above r
  | 0, _, _, _ => rfl
  | f + 1, above, r, h => by
    unfold downN at h ⊢
    have hz : (loadN S r (above.length + 1)).2 = 0 := by
      by_cases h1 : (loadN S r (above.length + 1)).2 ≠ 0 ∨ (loadN S r (above.length + 1)).1.leaf = true
      · rw [if_pos h1] at h; exact h
      · exact Classical.not_not.1 (fun h2 => h1 (.inl h2))
    have hk := (load_of hz).1
    have e : loadN T r (above.length + 1) = loadN S r (above.length + 1) := by
      have h5 : loadN S r (above.length + 1) = ((loadN S r (above.length + 1)).1, 0) := Prod.ext rfl hz
      rw [load_grow hg h5 hk, ← h5]
    rw [e]
    by_cases h1 : (loadN S r (above.length + 1)).2 ≠ 0 ∨ (loadN S r (above.length + 1)).1.leaf = true
    · rw [if_pos h1, if_pos h1]
    · rw [if_neg h1] at h ⊢
      rw [if_neg h1]
      exact down_grow hg key f _ _ h
theorem downT_grow {S T : StD} (hg : GrowS S T) {root key : ByteArray} (h : (downT S root key).2.2 = 0) : downT T root key = downT S root key := by
  unfold downT at h ⊢
  by_cases h1 : root.size = 0
  · rw [if_pos h1, if_pos h1]
  · rw [if_neg h1] at h
    rw [if_neg h1, if_neg h1]
    exact down_grow hg key _ _ _ h
/-- A Put that failed for want of room: the store is full, and with a full store it fails so again. -/
theorem putT_full {S : StD} {root key val : ByteArray} (h : (putT S root key val).1.2 = 6) : FullS (putT S root key val).2 ∧ ∀ T, GrowS S T → FullS T → putT T root key val = ((noT, 6), T) := by
  unfold putT at h
  by_cases hc : chkN ⟨true, [key], [val]⟩ = 0
  · rw [if_neg (fun e => e hc)] at h
    by_cases hd : (downT S root key).2.2 = 0
    · rw [if_neg (fun e => e hd)] at h
      refine ⟨?_, fun T hg hf => ?_⟩
      · unfold putT
        rw [if_neg (fun e => e hc), if_neg (fun e => e hd)]
        exact upR_six _ _ _ _ h
      · unfold putT
        rw [if_neg (fun e => e hc), downT_grow hg hd, if_neg (fun e => e hd)]
        exact upR_again _ _ _ _ _ hf h
    · rw [if_pos hd] at h
      exact absurd h (downT_six _ _ _)
  · rw [if_pos hc] at h; cases h
theorem delT_full {S : StD} {root key : ByteArray} (h : (delT S root key).1.2 = 6) : FullS (delT S root key).2 ∧ ∀ T, GrowS S T → FullS T → delT T root key = ((noT, 6), T) := by
  unfold delT at h
  by_cases hd : (downT S root key).2.2 = 0
  · rw [if_neg (fun e => e hd)] at h
    by_cases hs : (findD (downT S root key).2.1 key).2 = false
    · rw [if_pos hs] at h; cases h
    · rw [if_neg hs] at h
      refine ⟨?_, fun T hg hf => ?_⟩
      · unfold delT
        rw [if_neg (fun e => e hd), if_neg hs]
        exact upR_six _ _ _ _ h
      · unfold delT
        rw [downT_grow hg hd, if_neg (fun e => e hd), if_neg hs]
        exact upR_again _ _ _ _ _ hf h
  · rw [if_pos hd] at h
    exact absurd h (downT_six _ _ _)
/-! ### a store holds no more than its room -/
theorem putN_cap {S : StD} (h : CapS S) (n : NodeD) : CapS (putN S n).2 := by
  by_cases hc : chkN n = 0
  · by_cases hr : S.room ≤ (S.l.length : Int)
    · rw [put_full hc hr]; exact h
    · rw [put_ok hc (by omega)]
      show ((S.l ++ [encD n]).length : Int) ≤ S.room
      rw [List.length_append, List.length_singleton]; omega
  · unfold putN; rw [if_pos hc]; exact h
theorem keepL_cap : ∀ (ps : List NodeD) (S : StD) (acc : List Ent), CapS S → CapS (keepL S ps acc).2
  | [], S, acc, h => by unfold keepL; exact h
  | p :: r, S, acc, h => by
    unfold keepL
    split
    · exact putN_cap h p
    · exact keepL_cap r _ _ (putN_cap h p)
theorem topN_cap {S : StD} (h : CapS S) (l : List Ent) (k : Nat) : CapS (topN S l k).2 := by
  unfold topN
  split
  · exact h
  · exact h
  · split
    · exact h
    · exact putN_cap h _
theorem upR_cap : ∀ (l : List StepD) (S : StD) (n : NodeD) (k : Nat), CapS S → CapS (upR l S n k).2
  | [], S, n, k, h => by
    unfold upR
    split
    · exact h
    · split
      · exact keepL_cap _ _ _ h
      · exact topN_cap (keepL_cap _ _ _ h) _ _
  | s :: r, S, n, k, h => by
    unfold upR
    split
    · exact keepL_cap _ _ _ h
    · exact upR_cap r _ _ _ (keepL_cap _ _ _ h)
theorem putT_cap {S : StD} (h : CapS S) (root key val : ByteArray) : CapS (putT S root key val).2 := by
  unfold putT
  split
  · exact h
  · split
    · exact h
    · exact upR_cap _ _ _ _ h
theorem delT_cap {S : StD} (h : CapS S) (root key : ByteArray) : CapS (delT S root key).2 := by
  unfold delT
  split
  · exact h
  · split
    · exact h
    · exact upR_cap _ _ _ _ h
/-! ### the room tells nothing of what lies in a store -/
theorem nodesF_re (S : StD) (R : Int) (fr : ByteArray) : ∀ (f : Nat) (todo : List (ByteArray × Nat)) (seen : List ByteArray), nodesF (reS S R) fr f todo seen = nodesF S fr f todo seen
  | 0, _, _ => rfl
  | _ + 1, [], _ => rfl
  | f + 1, p :: todo, seen => by
    unfold nodesF
    simp only [load_re, nodesF_re S R fr f]
    rfl
theorem nodesT_re (S : StD) (R : Int) (root fr : ByteArray) : nodesT (reS S R) root fr = nodesT S root fr := by
  unfold nodesT
  split
  · rfl
  · exact nodesF_re S R fr _ _ _
theorem scanT_re (S : StD) (R : Int) (root fr : ByteArray) (many : Int) : scanT (reS S R) root fr many = scanT S root fr many := by
  unfold scanT
  rw [nodesT_re]
theorem GrowS.re {S T : StD} (h : GrowS S T) (R : Int) : GrowS (reS S R) (reS T R) := ⟨rfl, h.2⟩
end Go.Proofs.Ytbeldjijnjgbfaa
