/-
  The cache's lists as plain data; where they lie.
-/
import Derived.Test.YtnfdcjchobonaaaKeysC
namespace Go.Proofs.Ytnfdcjchobonaaa
open Go.RowKit Go.ChangeShapes Go.WideShapes Go.ChangeAt

abbrev emp : ByteArray := ⟨#[]⟩
/-- The lists: 2 is T1, 3 is T2, 4 is B1, 5 is B2 (a list's cell in the cache's block). -/
structure ArcD where
  c : Int
  t : Int
  l : Nat → List ByteArray
def updA {α : Type} (f : Nat → α) (i : Nat) (x : α) : Nat → α := fun j => if j = i then x else f j
theorem updA_same {α : Type} (f : Nat → α) (i : Nat) (x : α) : updA f i x i = x := if_pos rfl
theorem updA_ne {α : Type} (f : Nat → α) {i j : Nat} (x : α) (h : j ≠ i) : updA f i x j = f j := if_neg h
def ArcD.put (d : ArcD) (i : Nat) (x : List ByteArray) : ArcD := { d with l := updA d.l i x }
def ArcD.len (d : ArcD) : Nat := (d.l 2).length + (d.l 3).length + (d.l 4).length + (d.l 5).length
def InA (i : Nat) : Prop := 2 ≤ i ∧ i < 6
theorem InA.cases {i : Nat} (h : InA i) : i = 2 ∨ i = 3 ∨ i = 4 ∨ i = 5 := by obtain ⟨h1, h2⟩ := h; omega
theorem ArcD.le_len (d : ArcD) {i : Nat} (h : InA i) : (d.l i).length ≤ d.len := by
  unfold ArcD.len
  rcases h.cases with rfl | rfl | rfl | rfl <;> omega
theorem ArcD.len_put (d : ArcD) {i : Nat} (h : InA i) (x : List ByteArray) : (d.put i x).len + (d.l i).length = d.len + x.length := by
  unfold ArcD.len ArcD.put
  rcases h.cases with rfl | rfl | rfl | rfl <;> simp [updA] <;> omega

def dropK : List ByteArray → ByteArray → List ByteArray
  | [], _ => []
  | x :: r, k => if x = k then r else x :: dropK r k
theorem drop_idx (k : ByteArray) : ∀ l : List ByteArray, hasK l k = true → l.findIdx (fun x => decide (x = k)) < l.length ∧ dropK l k = l.eraseIdx (l.findIdx (fun x => decide (x = k)))
  | [], h => by simp [hasK] at h
  | x :: r, h => by
    rw [List.findIdx_cons]
    by_cases e : x = k
    · simp [e, dropK]
    · have h' : hasK r k = true := by
        unfold hasK at h ⊢
        rw [List.any_cons, decide_eq_false e, Bool.false_or] at h
        exact h
      have ih := drop_idx k r h'
      simp [e, dropK, ih.2]
      exact hasK_iff.1 h'
theorem drop_no (k : ByteArray) : ∀ l : List ByteArray, hasK l k = false → dropK l k = l
  | [], _ => rfl
  | x :: r, h => by
    unfold hasK at h
    rw [List.any_cons, Bool.or_eq_false_iff] at h
    have e : ¬ x = k := of_decide_eq_false h.1
    rw [dropK, if_neg e, drop_no k r h.2]
theorem drop_len (k : ByteArray) (l : List ByteArray) : (dropK l k).length ≤ l.length := by
  cases h : hasK l k
  · rw [drop_no k l h]; exact Nat.le_refl _
  · obtain ⟨h1, h2⟩ := drop_idx k l h
    rw [h2, List.length_eraseIdx, if_pos h1]; omega

def takeA (d : ArcD) (i : Nat) (k : ByteArray) : ArcD := d.put i (dropK (d.l i) k)
def addA (d : ArcD) (i : Nat) (k : ByteArray) : ArcD := d.put i (d.l i ++ [k])
def hasA (d : ArcD) (i : Nat) (k : ByteArray) : Bool := hasK (d.l i) k
def oldA (d : ArcD) (i : Nat) : ArcD × ByteArray := match d.l i with
  | [] => (d, emp)
  | x :: r => (d.put i r, x)
def moveA (d : ArcD) (i j : Nat) : ArcD × ByteArray := if (oldA d i).2 = emp then oldA d i else (addA (oldA d i).1 j (oldA d i).2, (oldA d i).2)
def stepA (d : ArcD) (i j : Nat) : Int := max 1 (((d.l j).length / (d.l i).length : Nat) : Int)
def room1 (d : ArcD) (even : Bool) : Bool := decide (0 < (d.l 2).length) && (decide (d.t < ((d.l 2).length : Int)) || (even && decide (((d.l 2).length : Int) = d.t)) || decide ((d.l 3).length = 0))
def roomA (d : ArcD) (even : Bool) : ArcD × ByteArray := if room1 d even = true then moveA d 2 4 else moveA d 3 5
def onceA (d : ArcD) : Int := ((d.l 2).length : Int) + ((d.l 4).length : Int)
def allA (d : ArcD) : Int := onceA d + ((d.l 3).length : Int) + ((d.l 5).length : Int)
def newA (d : ArcD) : ArcD × ByteArray :=
  if onceA d = d.c then (if ((d.l 2).length : Int) = d.c then oldA d 2 else roomA (oldA d 4).1 false)
  else if d.c ≤ allA d then roomA (if allA d = 2 * d.c then (oldA d 5).1 else d) false
  else (d, emp)
def againA (d : ArcD) (k : ByteArray) (i : Nat) (even : Bool) : ArcD × ByteArray := (addA (takeA (roomA d even).1 i k) 3 k, (roomA d even).2)
def keepA (d : ArcD) (k : ByteArray) : ArcD × ByteArray :=
  if hasA d 4 k = true then againA { d with t := min d.c (d.t + stepA d 4 5) } k 4 false
  else if hasA d 5 k = true then againA { d with t := max 0 (d.t - stepA d 5 4) } k 5 true
  else (addA (newA d).1 2 k, (newA d).2)
def askA (d : ArcD) (k : ByteArray) : ArcD × Bool × ByteArray :=
  if k = emp then (d, false, emp)
  else if hasA d 2 k = true then (addA (takeA d 2 k) 3 k, true, emp)
  else if hasA d 3 k = true then (addA (takeA d 3 k) 3 k, true, emp)
  else ((keepA d k).1, false, (keepA d k).2)
def someA (d : ArcD) (i j : Nat) (k : ByteArray) : ArcD × Bool :=
  if hasA d i k = true then (takeA d i k, true) else if hasA d j k = true then (takeA d j k, true) else (d, false)
def dropA (d : ArcD) (k : ByteArray) : ArcD × Bool := if (someA d 2 3 k).2 = true then someA d 2 3 k else ((someA d 4 5 k).1, false)

def cellsA (c t : Int) (v : Nat → Value) : Array Value := #[.int .i64 c, .int .i64 t, v 2, v 3, v 4, v 5]
theorem cellsA_at (c t : Int) (v : Nat → Value) {i : Nat} (h : InA i) : (cellsA c t v)[i]? = some (v i) := by rcases h.cases with rfl | rfl | rfl | rfl <;> rfl
theorem cellsA_set (c t : Int) (v : Nat → Value) {i : Nat} (h : InA i) (x : Value) : (cellsA c t v).setIfInBounds i x = cellsA c t (updA v i x) := by rcases h.cases with rfl | rfl | rfl | rfl <;> rfl
/-- Block b is the cache d; its lists' values are v. -/
structure ArcAt (w : World) (b : Nat) (v : Nat → Value) (d : ArcD) : Prop where
  box : Box w b 47 (cellsA d.c d.t v)
  row : ∀ i, InA i → Ks w 0 (v i) (d.l i)
  ne : ∀ i, InA i → (v i).ownBlock ≠ some b
  dj : ∀ i j k, InA i → InA j → i ≠ j → (v i).ownBlock = some k → (v j).ownBlock ≠ some k
def fpA (b : Nat) (v : Nat → Value) : List Nat := b :: ((v 2).ownBlock.toList ++ (v 3).ownBlock.toList ++ (v 4).ownBlock.toList ++ (v 5).ownBlock.toList)
theorem mem_fpA {b : Nat} {v : Nat → Value} {k : Nat} : k ∈ fpA b v ↔ k = b ∨ ∃ i, InA i ∧ (v i).ownBlock = some k := by
  unfold fpA
  simp only [List.mem_cons, List.mem_append, Option.mem_toList]
  constructor
  · rintro (h | (((h | h) | h) | h))
    · exact .inl h
    · exact .inr ⟨2, ⟨by omega, by omega⟩, h⟩
    · exact .inr ⟨3, ⟨by omega, by omega⟩, h⟩
    · exact .inr ⟨4, ⟨by omega, by omega⟩, h⟩
    · exact .inr ⟨5, ⟨by omega, by omega⟩, h⟩
  · rintro (h | ⟨i, hi, h⟩)
    · exact .inl h
    · rcases hi.cases with rfl | rfl | rfl | rfl
      · exact .inr (.inl (.inl (.inl h)))
      · exact .inr (.inl (.inl (.inr h)))
      · exact .inr (.inl (.inr h))
      · exact .inr (.inr h)
def ArcF (b : Nat) (d : ArcD) (F : List Nat) (w : World) : Prop := ∃ v, ArcAt w b v d ∧ F = fpA b v
theorem ArcAt.chg {S : List Nat} {w w' : World} {b : Nat} {v : Nat → Value} {d : ArcD} (h : ArcAt w b v d) (hc : Chg S w w') (hn : ∀ k ∈ fpA b v, k ∉ S) : ArcAt w' b v d :=
  ⟨h.box.of (hc.block b h.box.lt (hn _ (mem_fpA.2 (.inl rfl)))), fun i hi => (h.row i hi).chg hc (fun _ hk => hn _ (mem_fpA.2 (.inr ⟨i, hi, hk⟩))), h.ne, h.dj⟩
theorem ArcAt.keep {w w' : World} {b : Nat} {v : Nat → Value} {d : ArcD} (h : ArcAt w b v d) (hb : Below w.heap.size w w') : ArcAt w' b v d := h.chg (Chg.of (S := []) hb (Nat.le_refl _)) (fun _ _ hm => by cases hm)
theorem fixed_arc (b : Nat) (d : ArcD) : Fixed (ArcF b d) := by
  refine ⟨?_, ?_⟩
  · rintro G S w1 w2 ⟨v, h, rfl⟩ hc hn
    exact ⟨v, h.chg hc hn, rfl⟩
  · rintro G w ⟨v, h, rfl⟩ k hk
    rcases mem_fpA.1 hk with rfl | ⟨i, hi, hk⟩
    · exact h.box.lt
    · exact (h.row i hi).lt k hk
/-- List i is made anew. -/
theorem ArcAt.put {w w1 : World} {b : Nat} {v : Nat → Value} {d : ArcD} (h : ArcAt w b v d) {i : Nat} (hi : InA i) {S : List Nat} (hc : Chg S w w1) (hS : ∀ k ∈ S, (v i).ownBlock = some k) {x : Value} {l : List ByteArray} (hk : Ks w1 0 x l)
    (hx : x.ownBlock = (v i).ownBlock ∨ ∀ k, x.ownBlock = some k → w.heap.size ≤ k) : Tod (ArcF b (d.put i l)) (fpA b v) w (w1.setCell ⟨b, i, none⟩ x) := by
  have hbS : b ∉ S := fun hm => h.ne i hi (hS _ hm)
  have hbox1 : Box w1 b 47 (cellsA d.c d.t v) := h.box.of (hc.block b h.box.lt hbS)
  have hlt : ∀ j, InA j → ∀ k, (v j).ownBlock = some k → k < w.heap.size := fun j hj k hk => (h.row j hj).lt k hk
  have hxb : x.ownBlock ≠ some b := fun e => by
    rcases hx with h1 | h1
    · exact h.ne i hi (by rw [← h1]; exact e)
    · have := h1 _ e; have := h.box.lt; omega
  have hxj : ∀ j k, InA j → j ≠ i → (v j).ownBlock = some k → x.ownBlock ≠ some k := fun j k hj hji hk e => by
    rcases hx with h1 | h1
    · exact h.dj j i k hj hi hji hk (by rw [← h1]; exact e)
    · have := h1 _ e; have := hlt j hj k hk; omega
  have hset : Chg [b] w1 (w1.setCell ⟨b, i, none⟩ x) := Chg.only (Only.set b i w1 x)
  refine ⟨fpA b (updA v i x), ⟨updA v i x, ⟨?_, ?_, ?_, ?_⟩, rfl⟩, ?_, ?_⟩
  · have := hbox1.set i x
    rw [cellsA_set _ _ _ hi] at this
    exact this
  · intro j hj
    by_cases e : j = i
    · subst e
      show Ks _ 0 (updA v j x j) ((updA d.l j l) j)
      rw [updA_same, updA_same]
      exact hk.chg hset (fun k hk hm => hxb (by rw [List.mem_singleton] at hm; rw [hk, hm]))
    · show Ks _ 0 (updA v i x j) ((updA d.l i l) j)
      rw [updA_ne _ _ e, updA_ne _ _ e]
      exact ((h.row j hj).chg hc (fun k hk hm => h.dj j i k hj hi e hk (hS _ hm))).chg hset (fun k hk hm => h.ne j hj (by rw [List.mem_singleton] at hm; rw [hk, hm]))
  · intro j hj
    by_cases e : j = i
    · subst e; rw [updA_same]; exact hxb
    · rw [updA_ne _ _ e]; exact h.ne j hj
  · intro j m k hj hm hjm hk hmk
    by_cases e : j = i
    · subst e
      rw [updA_same] at hk
      rw [updA_ne _ _ (Ne.symm hjm)] at hmk
      exact hxj m k hm (Ne.symm hjm) hmk hk
    · rw [updA_ne _ _ e] at hk
      by_cases e2 : m = i
      · subst e2
        rw [updA_same] at hmk
        exact hxj j k hj e hk hmk
      · rw [updA_ne _ _ e2] at hmk
        exact h.dj j m k hj hm hjm hk hmk
  · refine (hc.mono (fun k hk => mem_fpA.2 (.inr ⟨i, hi, hS k hk⟩))).then hset (fun k hk => .inl ?_)
    rw [List.mem_singleton] at hk
    exact mem_fpA.2 (.inl hk)
  · intro k hk
    rcases mem_fpA.1 hk with rfl | ⟨j, hj, hk⟩
    · exact .inl (mem_fpA.2 (.inl rfl))
    · by_cases e : j = i
      · subst e
        rw [updA_same] at hk
        rcases hx with h1 | h1
        · exact .inl (mem_fpA.2 (.inr ⟨j, hj, by rw [← h1]; exact hk⟩))
        · exact .inr (h1 k hk)
      · rw [updA_ne _ _ e] at hk
        exact .inl (mem_fpA.2 (.inr ⟨j, hj, hk⟩))
theorem ArcAt.target {w : World} {b : Nat} {v : Nat → Value} {d : ArcD} (h : ArcAt w b v d) (t : Int) : ArcAt (w.setCell ⟨b, 1, none⟩ (.int .i64 t)) b v { d with t := t } := by
  have hset : Chg [b] w (w.setCell ⟨b, 1, none⟩ (.int .i64 t)) := Chg.only (Only.set b 1 w _)
  exact ⟨h.box.set 1 _, fun i hi => (h.row i hi).chg hset (fun k hk hm => h.ne i hi (by rw [List.mem_singleton] at hm; rw [hk, hm])), h.ne, h.dj⟩
theorem tod_target {w : World} {b : Nat} {v : Nat → Value} {d : ArcD} (h : ArcAt w b v d) (t : Int) : Tod (ArcF b { d with t := t }) (fpA b v) w (w.setCell ⟨b, 1, none⟩ (.int .i64 t)) :=
  ⟨fpA b v, ⟨v, h.target t, rfl⟩, (Chg.only (Only.set b 1 w _)).mono (fun k hk => by rw [List.mem_singleton] at hk; exact mem_fpA.2 (.inl hk)), fun _ h => .inl h⟩
end Go.Proofs.Ytnfdcjchobonaaa
