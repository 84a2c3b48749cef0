/-
  The reference's cache: where it lies; without, with, Has.
-/
import Derived.Test.YtnfdcjchobonaaaArcBnd
import Derived.Test.YtnfdcjchobonaaaKeysR
import Derived.Test.YtnfdcjchobonaaaArcL
namespace Go.Proofs.Ytnfdcjchobonaaa
open Go.RowKit Go.ChangeShapes Go.WideShapes Go.ChangeAt

def rcells (c t : Int) (v : Nat → Value) : Array Value := #[v 2, v 3, v 4, v 5, .int .i64 t, .int .i64 c]
theorem rcells_set (c t : Int) (v : Nat → Value) {i : Nat} (h : InA i) (x : Value) : (rcells c t v).setIfInBounds (i - 2) x = rcells c t (updA v i x) := by rcases h.cases with rfl | rfl | rfl | rfl <;> rfl
/-- Block b is the reference's cache d; its lists' values are v. -/
structure RefAt (w : World) (b : Nat) (v : Nat → Value) (d : ArcD) : Prop where
  box : Box w b 49 (rcells d.c d.t v)
  row : ∀ i, InA i → Ks w 0 (v i) (d.l i)
  ne : ∀ i, InA i → (v i).ownBlock ≠ some b
def RefF (b : Nat) (d : ArcD) (F : List Nat) (w : World) : Prop := ∃ v, RefAt w b v d ∧ F = fpA b v
theorem RefAt.chg {S : List Nat} {w w' : World} {b : Nat} {v : Nat → Value} {d : ArcD} (h : RefAt w b v d) (hc : Chg S w w') (hn : ∀ k ∈ fpA b v, k ∉ S) : RefAt w' b v d :=
  ⟨h.box.of (hc.block b h.box.lt (hn _ (mem_fpA.2 (.inl rfl)))), fun i hi => (h.row i hi).chg hc (fun _ hk => hn _ (mem_fpA.2 (.inr ⟨i, hi, hk⟩))), h.ne⟩
theorem RefAt.keep {w w' : World} {b : Nat} {v : Nat → Value} {d : ArcD} (h : RefAt w b v d) (hb : Below w.heap.size w w') : RefAt w' b v d := h.chg (Chg.of (S := []) hb (Nat.le_refl _)) (fun _ _ hm => by cases hm)
theorem fixed_ref (b : Nat) (d : ArcD) : Fixed (RefF b d) := by
  refine ⟨?_, ?_⟩
  · rintro G S w1 w2 ⟨v, h, rfl⟩ hc hn
    exact ⟨v, h.chg hc hn, rfl⟩
  · rintro G w ⟨v, h, rfl⟩ k hk
    rcases mem_fpA.1 hk with rfl | ⟨i, hi, hk⟩
    · exact h.box.lt
    · exact (h.row i hi).lt k hk
/-- List i is made anew. -/
theorem RefAt.put {w w1 : World} {b : Nat} {v : Nat → Value} {d : ArcD} (h : RefAt w b v d) {i : Nat} (hi : InA i) (hb : Below w.heap.size w w1) {x : Value} {l : List ByteArray} (hk : Ks w1 w.heap.size x l) :
    ∃ F', RefF b (d.put i l) F' (w1.setCell ⟨b, i - 2, none⟩ x) ∧ Chg (fpA b v) w (w1.setCell ⟨b, i - 2, none⟩ x) ∧ ∀ k ∈ F', k ∈ fpA b v ∨ w.heap.size ≤ k := by
  have h1 := h.keep hb
  have hxb : x.ownBlock ≠ some b := fun e => by have := hk.own_block _ e; have := h.box.lt; omega
  have hset : Chg [b] w1 (w1.setCell ⟨b, i - 2, none⟩ x) := Chg.only (Only.set b (i - 2) w1 x)
  refine ⟨fpA b (updA v i x), ⟨updA v i x, ⟨?_, ?_, ?_⟩, rfl⟩, (Chg.of hb (Nat.le_refl _)).set b (i - 2) x (.inl (mem_fpA.2 (.inl rfl))), ?_⟩
  · have := h1.box.set (i - 2) x
    rw [rcells_set _ _ _ hi] at this
    exact this
  · intro j hj
    by_cases e : j = i
    · subst e
      show Ks _ 0 (updA v j x j) ((updA d.l j l) j)
      rw [updA_same, updA_same]
      exact (hk.low (Nat.zero_le _)).chg hset (fun k hk hm => hxb (by rw [List.mem_singleton] at hm; rw [hk, hm]))
    · show Ks _ 0 (updA v i x j) ((updA d.l i l) j)
      rw [updA_ne _ _ e, updA_ne _ _ e]
      exact (h1.row j hj).chg hset (fun k hk hm => h1.ne j hj (by rw [List.mem_singleton] at hm; rw [hk, hm]))
  · intro j hj
    by_cases e : j = i
    · subst e; rw [updA_same]; exact hxb
    · rw [updA_ne _ _ e]; exact h.ne j hj
  · intro k hk2
    rcases mem_fpA.1 hk2 with rfl | ⟨j, hj, hk2⟩
    · exact .inl (mem_fpA.2 (.inl rfl))
    · by_cases e : j = i
      · subst e
        rw [updA_same] at hk2
        exact .inr (hk.own_block k hk2)
      · rw [updA_ne _ _ e] at hk2
        exact .inl (mem_fpA.2 (.inr ⟨j, hj, hk2⟩))
theorem RefAt.target {w : World} {b : Nat} {v : Nat → Value} {d : ArcD} (h : RefAt w b v d) (t : Int) : RefAt (w.setCell ⟨b, 4, none⟩ (.int .i64 t)) b v { d with t := t } := by
  have hset : Chg [b] w (w.setCell ⟨b, 4, none⟩ (.int .i64 t)) := Chg.only (Only.set b 4 w _)
  exact ⟨h.box.set 4 _, fun i hi => (h.row i hi).chg hset (fun k hk hm => h.ne i hi (by rw [List.mem_singleton] at hm; rw [hk, hm])), h.ne⟩
/-- Its cells, as they are read. -/
structure RCell (w : World) (b : Nat) (d : ArcD) (a : Nat → Option Addr) (c : Nat → Nat) : Prop where
  c2 : w.cell? ⟨b, 0, none⟩ = some (.slice (a 2) (d.l 2).length (c 2))
  c3 : w.cell? ⟨b, 1, none⟩ = some (.slice (a 3) (d.l 3).length (c 3))
  c4 : w.cell? ⟨b, 2, none⟩ = some (.slice (a 4) (d.l 4).length (c 4))
  c5 : w.cell? ⟨b, 3, none⟩ = some (.slice (a 5) (d.l 5).length (c 5))
  t : w.cell? ⟨b, 4, none⟩ = some (.int .i64 d.t)
  z : w.cell? ⟨b, 5, none⟩ = some (.int .i64 d.c)
  s : ∀ i, InA i → Sl w Value.string (a i) (d.l i)
  f : ∀ j, w.frozen? ⟨b, j, none⟩ = false
theorem RefAt.cells {w : World} {b : Nat} {v : Nat → Value} {d : ArcD} (h : RefAt w b v d) : ∃ a c, RCell w b d a c := by
  have hv : ∀ i, ∃ x : Option Addr × Nat, InA i → v i = .slice x.1 (d.l i).length x.2 ∧ Sl w Value.string x.1 (d.l i) := by
    intro i
    by_cases hi : InA i
    · obtain ⟨a, c, e, s⟩ := (h.row i hi).view
      exact ⟨(a, c), fun _ => ⟨e, s⟩⟩
    · exact ⟨(none, 0), fun h => absurd h hi⟩
  have hc := fun i => Classical.choose_spec (hv i)
  refine ⟨fun i => (Classical.choose (hv i)).1, fun i => (Classical.choose (hv i)).2, ?_, ?_, ?_, ?_, h.box.cell 4 _ rfl, h.box.cell 5 _ rfl, fun i hi => (hc i hi).2, fun j => h.box.free j⟩
  · exact (h.box.cell 0 _ rfl).trans (congrArg some (hc 2 in2).1)
  · exact (h.box.cell 1 _ rfl).trans (congrArg some (hc 3 in3).1)
  · exact (h.box.cell 2 _ rfl).trans (congrArg some (hc 4 in4).1)
  · exact (h.box.cell 3 _ rfl).trans (congrArg some (hc 5 in5).1)

def filtK (l : List ByteArray) (k : ByteArray) : List ByteArray := l.filter fun x => !decide (x = k)
theorem filt_no (k : ByteArray) : ∀ l : List ByteArray, cK l k = 0 → filtK l k = l
  | [], _ => rfl
  | x :: r, h => by
    rw [cK_cons] at h
    have e : ¬ x = k := fun e => by rw [if_pos e] at h; omega
    have ih := filt_no k r (by omega)
    unfold filtK at ih ⊢
    rw [List.filter_cons_of_pos (by rw [decide_eq_false e]; rfl), ih]
theorem filt_drop (k : ByteArray) : ∀ l : List ByteArray, cK l k ≤ 1 → filtK l k = dropK l k
  | [], _ => rfl
  | x :: r, h => by
    rw [cK_cons] at h
    by_cases e : x = k
    · rw [if_pos e] at h
      have ih := filt_no k r (by omega)
      unfold filtK at ih ⊢
      rw [List.filter_cons_of_neg (by rw [decide_eq_true e]; simp), ih, dropK, if_pos e]
    · rw [if_neg e] at h
      have ih := filt_drop k r (by omega)
      unfold filtK at ih ⊢
      rw [List.filter_cons_of_pos (by rw [decide_eq_false e]; rfl), ih, dropK, if_neg e]
theorem filt_snoc (l : List ByteArray) (x k : ByteArray) : filtK (l ++ [x]) k = if x = k then filtK l k else filtK l k ++ [x] := by
  unfold filtK
  rw [List.filter_append]
  by_cases e : x = k
  · rw [if_pos e, List.filter_cons_of_neg (by rw [decide_eq_true e]; simp)]; simp
  · rw [if_neg e, List.filter_cons_of_pos (by rw [decide_eq_false e]; rfl)]; rfl
theorem filt_len (l : List ByteArray) (k : ByteArray) : (filtK l k).length ≤ l.length := List.length_filter_le _ _

set_option maxHeartbeats 1000000 in
theorem rwithout (a : Option Addr) (cap : Nat) (l : List ByteArray) (k : ByteArray) (w : World) (hs : Sl w Value.string a l) (hlen : l.length ≤ 10000) (h1 : cK l k ≤ 1) :
    Calls Try.prog 30 #[.slice a l.length cap, .string k] w fun e w' => ∃ v', e = .returned v' ∧ Ks w' w.heap.size v' (dropK l k) ∧ Below w.heap.size w w' := by
  rw [← filt_drop k l h1]
  have HS := Lib.hid hs
  clear hs h1
  go_enter Try.func30, Try.ntmps30
  go_wp2
  go_loopw [5, 6] (fun s i wr => ∃ (v : Value) (j : Nat), j ≤ l.length ∧ v = s ∧ i = .int .i64 j ∧ Hid (Ks wr w.heap.size v (filtK (l.take j) k)) ∧ Hid (Below w.heap.size w wr)) (fun _ i _ => l.length - (intOf i).toNat)
  case atStart => exact ⟨_, 0, Nat.zero_le _, rfl, rfl, Ks.nil _ _, Below.refl _ _⟩
  case round =>
    rename_i hkl1
    obtain ⟨v, j, hj, rfl, rfl, HK, HL⟩ := hrel
    by_cases hlt : j < l.length
    · clear hkl1
      obtain ⟨b, off, rfl, hbl, hc⟩ := HS.out (by intro e; rw [e] at hlt; simp at hlt)
      have q0 := (HL.out.cell (p := ⟨b, off + j, none⟩) hbl).trans (hc j l[j] (List.getElem?_eq_getElem hlt))
      have h0 : (0 : Int) ≤ (j : Int) := by omega
      have h1 : (j : Int) < (l.length : Int) := by omega
      have HT := Lib.hid (List.take_succ_eq_append_getElem hlt)
      have HLT := Lib.hid hlt
      have HFL : Hid ((filtK (l.take j) k).length ≤ 10000) := by show _ ≤ _; have := filt_len (l.take j) k; rw [List.length_take] at this; omega
      generalize l[j] = x at *
      clear hc hlt hbl
      have e1 := beq_key x k
      by_cases he : x = k
      · have HK2 : Hid (Ks wr w.heap.size v (filtK (l.take (j + 1)) k)) := by show Ks _ _ _ _; rw [HT.out, filt_snoc, if_pos he]; exact HK.out
        rw [decide_eq_true he] at e1
        clear he
        go_wp2
        go_roundw
        case rel => exact ⟨_, j + 1, HLT.out, rfl, by go_num, HK2, HL⟩
        case measure => have := HLT.out; simp [intOf]; omega
      · have HT2 : Hid (filtK (l.take j) k ++ [x] = filtK (l.take (j + 1)) k) := by show _ = _; rw [HT.out, filt_snoc, if_neg he]
        rw [decide_eq_false he] at e1
        clear he
        have HBX : Hid (∀ o, Below w.heap.size w (wr.alloc o)) := fun o => HL.out.alloc HL.out.size o
        have HKX : Hid (∀ o, Ks (wr.alloc o) w.heap.size v (filtK (l.take j) k)) := fun o => HK.out.alloc o
        go_wp2_with (at_builtin; refine wp_keys_push _ rfl _ _ rfl w.heap.size v (filtK (l.take j) k) rfl (HKX.out _) ⟨wr.heap.size, 0, none⟩ 1 1 [x] rfl rfl ?c1 (by have := HFL.out; omega) (HBX.out _).size ?_)
        case c1 =>
          intro i u hu
          match i, hu with
          | 0, hu =>
            simp only [List.getElem?_cons_zero, Option.some.injEq] at hu
            subst hu
            exact boxed0 _ _ _ _ 0 _ rfl
        intro v' w1 hk hg _
        have HB1 : Hid (Below w.heap.size w w1) := (HBX.out _).grown hg (HBX.out _).size (fun k hk => HK.out.own_block k hk)
        have HK2 : Hid (Ks w1 w.heap.size v' (filtK (l.take (j + 1)) k)) := by rw [← HT2.out]; exact hk
        clear hk hg
        go_wp2
        go_roundw
        case rel => exact ⟨_, j + 1, HLT.out, rfl, by go_num, HK2, HB1⟩
        case measure => have := HLT.out; simp [intOf]; omega
    · have hjl : j = l.length := by omega
      subst hjl
      rw [List.take_of_length_le (Nat.le_refl _)] at HK
      go_wp2
      go_ret
      exact ⟨_, rfl, HK.out, HL.out⟩

theorem rwith (v : Value) (l : List ByteArray) (k : ByteArray) (w : World) (hs : Ks w 0 v l) (hlen : l.length ≤ 10000) :
    Calls Try.prog 28 #[v, .string k] w fun e w' => ∃ v', e = .returned v' ∧ Ks w' w.heap.size v' (l ++ [k]) ∧ Below w.heap.size w w' := by
  have HS := Lib.hid hs
  clear hs
  go_enter Try.func28, Try.ntmps28
  go_wp2_with (at_builtin; refine wp_keys_rows _ rfl _ _ rfl w.heap.size _ _ v [] l rfl (Ks.nil _ _) rfl HS.out (by simp; omega) (Nat.le_refl _) ?_)
  intro v5 w5 hk hg
  have HB5 : Hid (Below w.heap.size w w5) := (Below.refl _ _).grown hg (Nat.le_refl _) (fun k hk => by cases hk)
  have HV5 : Hid (Ks w5 w.heap.size v5 l) := hk
  have HBX : Hid (∀ o, Below w.heap.size w (w5.alloc o)) := fun o => HB5.out.alloc HB5.out.size o
  have HKX : Hid (∀ o, Ks (w5.alloc o) w.heap.size v5 l) := fun o => HV5.out.alloc o
  clear hk hg
  go_wp2_with (at_builtin; refine wp_keys_push _ rfl _ _ rfl w.heap.size v5 l rfl (HKX.out _) ⟨w5.heap.size, 0, none⟩ 1 1 [k] rfl rfl ?c1 (by omega) (HBX.out _).size ?_)
  case c1 =>
    intro i u hu
    match i, hu with
    | 0, hu =>
      simp only [List.getElem?_cons_zero, Option.some.injEq] at hu
      subst hu
      exact boxed0 _ _ _ _ 0 _ rfl
  intro v' w1 hk hg _
  have HB1 : Hid (Below w.heap.size w w1) := (HBX.out _).grown hg (HBX.out _).size (fun k hk => HV5.out.own_block k hk)
  have HK2 := Lib.hid hk
  clear hk hg
  go_wp2
  go_ret
  exact ⟨_, rfl, HK2.out, HB1.out⟩

set_option maxHeartbeats 1000000 in
theorem rhas (b : Nat) (v : Nat → Value) (d : ArcD) (k : ByteArray) (w : World) (h : RefAt w b v d) (hlen : d.len ≤ 10000) :
    Calls Try.prog 18 #[.pointer (some ⟨b, 0, none⟩), .string k] w fun e w' => e = .returned (.bool (hasA d 2 k || hasA d 3 k)) ∧ w = w' := by
  obtain ⟨a, c, hc⟩ := h.cells
  have q2 := hc.c2
  have q3 := hc.c3
  have l2 := d.le_len in2
  have l3 := d.le_len in3
  have H2 : Hid (Calls Try.prog 21 #[.slice (a 2) (d.l 2).length (c 2), .string k] w fun e w' => e = .returned (.bool (hasA d 2 k)) ∧ w = w') := in_keys (a 2) (c 2) (d.l 2) k w (hc.s 2 in2) (by omega)
  have H3 : Hid (Calls Try.prog 21 #[.slice (a 3) (d.l 3).length (c 3), .string k] w fun e w' => e = .returned (.bool (hasA d 3 k)) ∧ w = w') := in_keys (a 3) (c 3) (d.l 3) k w (hc.s 3 in3) (by omega)
  clear hc h
  cases h2 : hasA d 2 k
  · rw [h2] at H2
    clear h2
    go_enter Try.func18, Try.ntmps18
    go_wp2_with fail
    refine H2.out.mono ?_
    rintro e w1 ⟨rfl, rfl⟩
    go_wp2_with fail
    refine H3.out.mono ?_
    rintro e w1 ⟨rfl, rfl⟩
    go_wp2
    go_ret
    exact ⟨rfl, rfl⟩
  · rw [h2] at H2
    clear h2
    go_enter Try.func18, Try.ntmps18
    go_wp2_with fail
    refine H2.out.mono ?_
    rintro e w1 ⟨rfl, rfl⟩
    go_wp2
    go_ret
    exact ⟨rfl, rfl⟩
end Go.Proofs.Ytnfdcjchobonaaa
