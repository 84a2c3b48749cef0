/-
  Texts put together: ArcA, ArcB.
-/
import Derived.Test.YtphhnhldbajaoaaGreatDoorMg0
namespace Go.Proofs.YtphhnhldbajaoaaGreatDoor
open Go.RowKit Go.ChangeShapes Go.WideShapes Go.ChangeAt

abbrev empA : ByteArray := ⟨#[]⟩
/-- The lists: 2 is T1, 3 is T2, 4 is B1, 5 is B2 (a list's cell in the cache's block). -/
structure ArcD where
  c : Int
  t : Int
  l : Nat → List ByteArray
def updA {α : Type} (f : Nat → α) (i : Nat) (x : α) : Nat → α := fun j => if j = i then x else f j
theorem updA_same {α : Type} (f : Nat → α) (i : Nat) (x : α) : updA f i x i = x := if_pos rfl
theorem updA_ne {α : Type} (f : Nat → α) {i j : Nat} (x : α) (h : j ≠ i) : updA f i x j = f j := if_neg h
def ArcD.put (d : ArcD) (i : Nat) (x : List ByteArray) : ArcD := { d with l := updA d.l i x }
def ArcD.len (d : ArcD) : Nat := (d.l 2).length + (d.l 3).length + (d.l 4).length + (d.l 5).length
def InA (i : Nat) : Prop := 2 ≤ i ∧ i < 6
theorem InA.cases {i : Nat} (h : InA i) : i = 2 ∨ i = 3 ∨ i = 4 ∨ i = 5 := by obtain ⟨h1, h2⟩ := h; omega
theorem ArcD.le_len (d : ArcD) {i : Nat} (h : InA i) : (d.l i).length ≤ d.len := by
  unfold ArcD.len
  rcases h.cases with rfl | rfl | rfl | rfl <;> omega
theorem ArcD.len_put (d : ArcD) {i : Nat} (h : InA i) (x : List ByteArray) : (d.put i x).len + (d.l i).length = d.len + x.length := by
  unfold ArcD.len ArcD.put
  rcases h.cases with rfl | rfl | rfl | rfl <;> simp [updA] <;> omega

def dropK : List ByteArray → ByteArray → List ByteArray
  | [], _ => []
  | x :: r, k => if x = k then r else x :: dropK r k
theorem drop_idx (k : ByteArray) : ∀ l : List ByteArray, hasK l k = true → l.findIdx (fun x => decide (x = k)) < l.length ∧ dropK l k = l.eraseIdx (l.findIdx (fun x => decide (x = k)))
  | [], h => by simp [hasK] at h
  | x :: r, h => by
    rw [List.findIdx_cons]
    by_cases e : x = k
    · simp [e, dropK]
    · have h' : hasK r k = true := by
        unfold hasK at h ⊢
        rw [List.any_cons, decide_eq_false e, Bool.false_or] at h
        exact h
      have ih := drop_idx k r h'
      simp [e, dropK, ih.2]
      exact hasK_iff.1 h'
theorem drop_no (k : ByteArray) : ∀ l : List ByteArray, hasK l k = false → dropK l k = l
  | [], _ => rfl
  | x :: r, h => by
    unfold hasK at h
    rw [List.any_cons, Bool.or_eq_false_iff] at h
    have e : ¬ x = k := of_decide_eq_false h.1
    rw [dropK, if_neg e, drop_no k r h.2]
theorem drop_len (k : ByteArray) (l : List ByteArray) : (dropK l k).length ≤ l.length := by
  cases h : hasK l k
  · rw [drop_no k l h]; exact Nat.le_refl _
  · obtain ⟨h1, h2⟩ := drop_idx k l h
    rw [h2, List.length_eraseIdx, if_pos h1]; omega

def takeA (d : ArcD) (i : Nat) (k : ByteArray) : ArcD := d.put i (dropK (d.l i) k)
def addA (d : ArcD) (i : Nat) (k : ByteArray) : ArcD := d.put i (d.l i ++ [k])
def hasA (d : ArcD) (i : Nat) (k : ByteArray) : Bool := hasK (d.l i) k
def oldA (d : ArcD) (i : Nat) : ArcD × ByteArray := match d.l i with
  | [] => (d, empA)
  | x :: r => (d.put i r, x)
def moveA (d : ArcD) (i j : Nat) : ArcD × ByteArray := if (oldA d i).2 = empA then oldA d i else (addA (oldA d i).1 j (oldA d i).2, (oldA d i).2)
def stepA (d : ArcD) (i j : Nat) : Int := max 1 (((d.l j).length / (d.l i).length : Nat) : Int)
def room1 (d : ArcD) (even : Bool) : Bool := decide (0 < (d.l 2).length) && (decide (d.t < ((d.l 2).length : Int)) || (even && decide (((d.l 2).length : Int) = d.t)) || decide ((d.l 3).length = 0))
def roomA (d : ArcD) (even : Bool) : ArcD × ByteArray := if room1 d even = true then moveA d 2 4 else moveA d 3 5
def onceA (d : ArcD) : Int := ((d.l 2).length : Int) + ((d.l 4).length : Int)
def allA (d : ArcD) : Int := onceA d + ((d.l 3).length : Int) + ((d.l 5).length : Int)
def newA (d : ArcD) : ArcD × ByteArray :=
  if onceA d = d.c then (if ((d.l 2).length : Int) = d.c then oldA d 2 else roomA (oldA d 4).1 false)
  else if d.c ≤ allA d then roomA (if allA d = 2 * d.c then (oldA d 5).1 else d) false
  else (d, empA)
def againA (d : ArcD) (k : ByteArray) (i : Nat) (even : Bool) : ArcD × ByteArray := (addA (takeA (roomA d even).1 i k) 3 k, (roomA d even).2)
def keepA (d : ArcD) (k : ByteArray) : ArcD × ByteArray :=
  if hasA d 4 k = true then againA { d with t := min d.c (d.t + stepA d 4 5) } k 4 false
  else if hasA d 5 k = true then againA { d with t := max 0 (d.t - stepA d 5 4) } k 5 true
  else (addA (newA d).1 2 k, (newA d).2)
def askA (d : ArcD) (k : ByteArray) : ArcD × Bool × ByteArray :=
  if k = empA then (d, false, empA)
  else if hasA d 2 k = true then (addA (takeA d 2 k) 3 k, true, empA)
  else if hasA d 3 k = true then (addA (takeA d 3 k) 3 k, true, empA)
  else ((keepA d k).1, false, (keepA d k).2)
def someA (d : ArcD) (i j : Nat) (k : ByteArray) : ArcD × Bool :=
  if hasA d i k = true then (takeA d i k, true) else if hasA d j k = true then (takeA d j k, true) else (d, false)
def cellsA (c t : Int) (v : Nat → Value) : Array Value := #[.int .i64 c, .int .i64 t, v 2, v 3, v 4, v 5]
theorem cellsA_at (c t : Int) (v : Nat → Value) {i : Nat} (h : InA i) : (cellsA c t v)[i]? = some (v i) := by rcases h.cases with rfl | rfl | rfl | rfl <;> rfl
theorem cellsA_set (c t : Int) (v : Nat → Value) {i : Nat} (h : InA i) (x : Value) : (cellsA c t v).setIfInBounds i x = cellsA c t (updA v i x) := by rcases h.cases with rfl | rfl | rfl | rfl <;> rfl
/-- Block b is the cache d; its lists' values are v. -/
structure ArcAt (w : World) (b : Nat) (v : Nat → Value) (d : ArcD) : Prop where
  box : Box w b 155 (cellsA d.c d.t v)
  row : ∀ i, InA i → Ks w 0 (v i) (d.l i)
  ne : ∀ i, InA i → (v i).ownBlock ≠ some b
  dj : ∀ i j k, InA i → InA j → i ≠ j → (v i).ownBlock = some k → (v j).ownBlock ≠ some k
def fpA (b : Nat) (v : Nat → Value) : List Nat := b :: ((v 2).ownBlock.toList ++ (v 3).ownBlock.toList ++ (v 4).ownBlock.toList ++ (v 5).ownBlock.toList)
theorem mem_fpA {b : Nat} {v : Nat → Value} {k : Nat} : k ∈ fpA b v ↔ k = b ∨ ∃ i, InA i ∧ (v i).ownBlock = some k := by
  unfold fpA
  simp only [List.mem_cons, List.mem_append, Option.mem_toList]
  constructor
  · rintro (h | (((h | h) | h) | h))
    · exact .inl h
    · exact .inr ⟨2, ⟨by omega, by omega⟩, h⟩
    · exact .inr ⟨3, ⟨by omega, by omega⟩, h⟩
    · exact .inr ⟨4, ⟨by omega, by omega⟩, h⟩
    · exact .inr ⟨5, ⟨by omega, by omega⟩, h⟩
  · rintro (h | ⟨i, hi, h⟩)
    · exact .inl h
    · rcases hi.cases with rfl | rfl | rfl | rfl
      · exact .inr (.inl (.inl (.inl h)))
      · exact .inr (.inl (.inl (.inr h)))
      · exact .inr (.inl (.inr h))
      · exact .inr (.inr h)
def ArcF (b : Nat) (d : ArcD) (F : List Nat) (w : World) : Prop := ∃ v, ArcAt w b v d ∧ F = fpA b v
theorem ArcAt.chg {S : List Nat} {w w' : World} {b : Nat} {v : Nat → Value} {d : ArcD} (h : ArcAt w b v d) (hc : Chg S w w') (hn : ∀ k ∈ fpA b v, k ∉ S) : ArcAt w' b v d :=
  ⟨h.box.of (hc.block b h.box.lt (hn _ (mem_fpA.2 (.inl rfl)))), fun i hi => (h.row i hi).chg hc (fun _ hk => hn _ (mem_fpA.2 (.inr ⟨i, hi, hk⟩))), h.ne, h.dj⟩
theorem ArcAt.keep {w w' : World} {b : Nat} {v : Nat → Value} {d : ArcD} (h : ArcAt w b v d) (hb : Below w.heap.size w w') : ArcAt w' b v d := h.chg (Chg.of (S := []) hb (Nat.le_refl _)) (fun _ _ hm => by cases hm)
theorem fixed_arc (b : Nat) (d : ArcD) : Fixed (ArcF b d) := by
  refine ⟨?_, ?_⟩
  · rintro G S w1 w2 ⟨v, h, rfl⟩ hc hn
    exact ⟨v, h.chg hc hn, rfl⟩
  · rintro G w ⟨v, h, rfl⟩ k hk
    rcases mem_fpA.1 hk with rfl | ⟨i, hi, hk⟩
    · exact h.box.lt
    · exact (h.row i hi).lt k hk
/-- List i is made anew. -/
theorem ArcAt.put {w w1 : World} {b : Nat} {v : Nat → Value} {d : ArcD} (h : ArcAt w b v d) {i : Nat} (hi : InA i) {S : List Nat} (hc : Chg S w w1) (hS : ∀ k ∈ S, (v i).ownBlock = some k) {x : Value} {l : List ByteArray} (hk : Ks w1 0 x l)
    (hx : x.ownBlock = (v i).ownBlock ∨ ∀ k, x.ownBlock = some k → w.heap.size ≤ k) : Tod (ArcF b (d.put i l)) (fpA b v) w (w1.setCell ⟨b, i, none⟩ x) := by
  have hbS : b ∉ S := fun hm => h.ne i hi (hS _ hm)
  have hbox1 : Box w1 b 155 (cellsA d.c d.t v) := h.box.of (hc.block b h.box.lt hbS)
  have hlt : ∀ j, InA j → ∀ k, (v j).ownBlock = some k → k < w.heap.size := fun j hj k hk => (h.row j hj).lt k hk
  have hxb : x.ownBlock ≠ some b := fun e => by
    rcases hx with h1 | h1
    · exact h.ne i hi (by rw [← h1]; exact e)
    · have := h1 _ e; have := h.box.lt; omega
  have hxj : ∀ j k, InA j → j ≠ i → (v j).ownBlock = some k → x.ownBlock ≠ some k := fun j k hj hji hk e => by
    rcases hx with h1 | h1
    · exact h.dj j i k hj hi hji hk (by rw [← h1]; exact e)
    · have := h1 _ e; have := hlt j hj k hk; omega
  have hset : Chg [b] w1 (w1.setCell ⟨b, i, none⟩ x) := Chg.only (Only.set b i w1 x)
  refine ⟨fpA b (updA v i x), ⟨updA v i x, ⟨?_, ?_, ?_, ?_⟩, rfl⟩, ?_, ?_⟩
  · have := hbox1.set i x
    rw [cellsA_set _ _ _ hi] at this
    exact this
  · intro j hj
    by_cases e : j = i
    · subst e
      show Ks _ 0 (updA v j x j) ((updA d.l j l) j)
      rw [updA_same, updA_same]
      exact hk.chg hset (fun k hk hm => hxb (by rw [List.mem_singleton] at hm; rw [hk, hm]))
    · show Ks _ 0 (updA v i x j) ((updA d.l i l) j)
      rw [updA_ne _ _ e, updA_ne _ _ e]
      exact ((h.row j hj).chg hc (fun k hk hm => h.dj j i k hj hi e hk (hS _ hm))).chg hset (fun k hk hm => h.ne j hj (by rw [List.mem_singleton] at hm; rw [hk, hm]))
  · intro j hj
    by_cases e : j = i
    · subst e; rw [updA_same]; exact hxb
    · rw [updA_ne _ _ e]; exact h.ne j hj
  · intro j m k hj hm hjm hk hmk
    by_cases e : j = i
    · subst e
      rw [updA_same] at hk
      rw [updA_ne _ _ (Ne.symm hjm)] at hmk
      exact hxj m k hm (Ne.symm hjm) hmk hk
    · rw [updA_ne _ _ e] at hk
      by_cases e2 : m = i
      · subst e2
        rw [updA_same] at hmk
        exact hxj j k hj e hk hmk
      · rw [updA_ne _ _ e2] at hmk
        exact h.dj j m k hj hm hjm hk hmk
  · refine (hc.mono (fun k hk => mem_fpA.2 (.inr ⟨i, hi, hS k hk⟩))).then hset (fun k hk => .inl ?_)
    rw [List.mem_singleton] at hk
    exact mem_fpA.2 (.inl hk)
  · intro k hk
    rcases mem_fpA.1 hk with rfl | ⟨j, hj, hk⟩
    · exact .inl (mem_fpA.2 (.inl rfl))
    · by_cases e : j = i
      · subst e
        rw [updA_same] at hk
        rcases hx with h1 | h1
        · exact .inl (mem_fpA.2 (.inr ⟨j, hj, by rw [← h1]; exact hk⟩))
        · exact .inr (h1 k hk)
      · rw [updA_ne _ _ e] at hk
        exact .inl (mem_fpA.2 (.inr ⟨j, hj, hk⟩))
theorem ArcAt.target {w : World} {b : Nat} {v : Nat → Value} {d : ArcD} (h : ArcAt w b v d) (t : Int) : ArcAt (w.setCell ⟨b, 1, none⟩ (.int .i64 t)) b v { d with t := t } := by
  have hset : Chg [b] w (w.setCell ⟨b, 1, none⟩ (.int .i64 t)) := Chg.only (Only.set b 1 w _)
  exact ⟨h.box.set 1 _, fun i hi => (h.row i hi).chg hset (fun k hk hm => h.ne i hi (by rw [List.mem_singleton] at hm; rw [hk, hm])), h.ne, h.dj⟩
end Go.Proofs.YtphhnhldbajaoaaGreatDoor

namespace Go.Proofs.YtphhnhldbajaoaaGreatDoor
open Go.RowKit Go.ChangeShapes Go.WideShapes Go.ChangeAt

set_option maxRecDepth 100000 in
theorem size_list (b i n cap : Nat) (a : Option Addr) (w : World) (h : w.cell? ⟨b, i, none⟩ = some (.slice a n cap)) :
    Calls Tryz.prog 159 #[.pointer (some ⟨b, i, none⟩)] w fun e w' => e = .returned (.int .i64 (n : Int)) ∧ w = w' := by
  go_enter Tryz.func159, Tryz.ntmps159
  go_wp2
  go_ret
  exact ⟨rfl, rfl⟩

set_option maxRecDepth 100000 in
theorem has_list (b i : Nat) (hi : InA i) (v : Nat → Value) (d : ArcD) (k : ByteArray) (w : World) (h : ArcAt w b v d) (hlen : d.len ≤ 10000) :
    Calls Tryz.prog 127 #[.pointer (some ⟨b, i, none⟩), .string k] w fun e w' => e = .returned (.bool (hasA d i k)) ∧ w = w' := by
  have q0 := h.box.cell i _ (cellsA_at _ _ v hi)
  obtain ⟨a, cap, ev, hs⟩ := (h.row i hi).view
  rw [ev] at q0
  have hl := d.le_len hi
  have HC := Lib.hid (contains_keys a cap (d.l i) k w hs (by omega))
  clear h hs hl ev
  go_enter Tryz.func127, Tryz.ntmps127
  go_wp2_with fail
  refine HC.out.mono ?_
  rintro e w1 ⟨rfl, rfl⟩
  go_wp2
  go_ret
  exact ⟨rfl, rfl⟩

set_option maxRecDepth 100000 in
set_option maxHeartbeats 1000000 in
theorem add_list (b i : Nat) (hi : InA i) (v : Nat → Value) (d : ArcD) (k : ByteArray) (w : World) (h : ArcAt w b v d) (hlen : d.len ≤ 10000) :
    Calls Tryz.prog 119 #[.pointer (some ⟨b, i, none⟩), .string k] w fun e w' => e = .returned (.tuple #[]) ∧ Tod (ArcF b (addA d i k)) (fpA b v) w w' := by
  have q0 := h.box.cell i _ (cellsA_at _ _ v hi)
  have f0 := h.box.free i
  have hl := d.le_len hi
  have HA := Lib.hid h
  have HL := Lib.hid (show (d.l i).length + 1 ≤ 2000000 by omega)
  have HK : Hid (∀ o, Ks (w.alloc o) 0 (v i) (d.l i)) := fun o => (h.row i hi).alloc o
  have HBX : Hid (∀ o, Box (w.alloc o) b 155 (cellsA d.c d.t v)) := fun o => h.box.alloc o
  clear h hl hlen
  go_enter Tryz.func119, Tryz.ntmps119
  go_wp2_with (at_builtin; refine wp_keys_push _ rfl _ _ rfl 0 (v i) (d.l i) rfl (HK.out _) ⟨w.heap.size, 0, none⟩ 1 1 [k] rfl rfl ?c1 HL.out (Nat.zero_le _) ?_)
  case c1 =>
    intro j u hu
    match j, hu with
    | 0, hu =>
      simp only [List.getElem?_cons_zero, Option.some.injEq] at hu
      subst hu
      exact boxed0 _ _ _ _ 0 _ rfl
  intro v' w1 hk hg hob
  obtain ⟨a', cap', rfl, _⟩ := hk.view
  have e9 : (d.l i ++ [k]).length = (d.l i).length + 1 := by simp
  rw [e9] at hk hob
  have hbx : Box w1 b 155 (cellsA d.c d.t v) := (HBX.out _).of (hg.block b (by rw [size_alloc]; have := HA.out.box.lt; omega) (fun e => HA.out.ne i hi e.symm))
  have q1 := hbx.cell i _ (cellsA_at _ _ v hi)
  have f1 := hbx.free i
  have hc : Chg (v i).ownBlock.toList w w1 := (Chg.of ((Below.refl _ _).alloc (Nat.le_refl _) _) (Nat.le_refl _)).trans (Chg.grown hg (fun k hk => by simpa using hk))
  have HT : Hid (Tod (ArcF b (addA d i k)) (fpA b v) w (w1.setCell ⟨b, i, none⟩ (.slice a' ((d.l i).length + 1) cap'))) := HA.out.put hi hc (fun k hk => by simpa using hk) hk (by
    rcases hob with h1 | h1
    · exact .inl h1
    · refine .inr (fun k hk => ?_)
      rw [h1] at hk
      injection hk with hk
      have := size_alloc w (Obj.cells #[] 0)
      omega)
  clear hk hg hob hbx hc q0 f0
  go_wp2
  go_end0
  exact ⟨rfl, HT.out⟩

set_option maxRecDepth 100000 in
set_option maxHeartbeats 1000000 in
theorem take_list (b i : Nat) (hi : InA i) (v : Nat → Value) (d : ArcD) (k : ByteArray) (w : World) (h : ArcAt w b v d) (hlen : d.len ≤ 10000) :
    Calls Tryz.prog 118 #[.pointer (some ⟨b, i, none⟩), .string k] w fun e w' => e = .returned (.bool (hasA d i k)) ∧ Tod (ArcF b (takeA d i k)) (fpA b v) w w' := by
  have q0 := h.box.cell i _ (cellsA_at _ _ v hi)
  have f0 := h.box.free i
  have hl := d.le_len hi
  have HA := Lib.hid h
  obtain ⟨a, cap, ev, hs⟩ := (h.row i hi).view
  rw [ev] at q0
  have hI0 := index_keys a cap (d.l i) k w hs (by omega)
  cases hh : hasA d i k
  · have hx : idxI (d.l i) k = -1 := by unfold idxI; unfold hasA at hh; rw [hh]; rfl
    rw [hx] at hI0
    have HI := Lib.hid hI0
    clear hI0
    have HT : Hid (Tod (ArcF b (takeA d i k)) (fpA b v) w w) := by
      have e : takeA d i k = d := by
        unfold takeA ArcD.put
        rw [drop_no k _ hh]
        have : updA d.l i (d.l i) = d.l := by funext j; by_cases e : j = i <;> simp [updA, e]
        rw [this]
      rw [e]
      exact Tod.same (fixed_arc b d) ⟨v, h, rfl⟩ (Below.refl _ _)
    clear h hs hl ev hx hlen hh
    go_enter Tryz.func118, Tryz.ntmps118
    go_wp2_with fail
    refine HI.out.mono ?_
    rintro e w1 ⟨rfl, rfl⟩
    go_wp2
    go_ret
    exact ⟨rfl, HT.out⟩
  · have hx : idxI (d.l i) k = (((d.l i).findIdx (fun x => decide (x = k)) : Nat) : Int) := by unfold idxI; unfold hasA at hh; rw [hh]; rfl
    obtain ⟨h1, h2⟩ := drop_idx k (d.l i) hh
    rw [hx] at hI0
    have HI := Lib.hid hI0
    clear hI0
    generalize (d.l i).findIdx (fun x => decide (x = k)) = n at *
    have HR := h.row i hi
    rcases HR.form with ⟨hv, hn⟩ | ⟨g, cap', hv, hg1, hg2, hg3, hg4⟩
    · rw [hn] at h1; simp at h1
    · rw [ev] at hv
      simp only [Value.slice.injEq, true_and] at hv
      obtain ⟨rfl, rfl⟩ := hv
      rw [ev] at HR
      have HD := Lib.hid (delete_keys 0 g cap (d.l i) n (n + 1) w HR h1 (by omega) rfl)
      have HEV := Lib.hid ev
      have H2 := Lib.hid h2
      have H1 := Lib.hid (show (n : Int) + 1 < 100000 by omega)
      have hn1 : decide ((n : Int) < 0) = false := by simp
      have hw : IntKind.i64.wrap ((n : Int) + 1) = (n : Int) + 1 := i64_small _ (by omega) (by omega)
      clear h hs hl hx hlen hh ev HR hg1 hg2 hg3 hg4 h1 h2
      go_enter Tryz.func118, Tryz.ntmps118
      go_wp2_with fail
      refine HI.out.mono ?_
      rintro e w1 ⟨rfl, rfl⟩
      go_wp2_with fail
      refine HD.out.mono ?_
      rintro e w2 ⟨rfl, hk, hc⟩
      have hob : (v i).ownBlock = some g := by rw [HEV.out]; rfl
      have hbx : Box w2 b 155 (cellsA d.c d.t v) := HA.out.box.of (hc.block b HA.out.box.lt (by intro hm; rw [List.mem_singleton] at hm; exact HA.out.ne i hi (by rw [hob, hm])))
      have q1 := hbx.cell i _ (cellsA_at _ _ v hi)
      have f1 := hbx.free i
      have HT : Hid (Tod (ArcF b (takeA d i k)) (fpA b v) w (w2.setCell ⟨b, i, none⟩ (.slice (some ⟨g, 0, none⟩) ((d.l i).length - 1) cap))) := by
        unfold takeA
        rw [H2.out]
        exact HA.out.put hi hc (fun k hk => by rw [List.mem_singleton] at hk; rw [hob, hk]) hk (.inl (by rw [hob]; rfl))
      clear hk hc hob hbx q0 f0
      go_wp2
      go_ret
      exact ⟨rfl, HT.out⟩

set_option maxRecDepth 100000 in
set_option maxHeartbeats 1000000 in
theorem old_list (b i : Nat) (hi : InA i) (v : Nat → Value) (d : ArcD) (w : World) (h : ArcAt w b v d) (hlen : d.len ≤ 10000) :
    Calls Tryz.prog 161 #[.pointer (some ⟨b, i, none⟩)] w fun e w' => e = .returned (.string (oldA d i).2) ∧ Tod (ArcF b (oldA d i).1) (fpA b v) w w' := by
  have q0 := h.box.cell i _ (cellsA_at _ _ v hi)
  obtain ⟨a, cap, ev, hs⟩ := (h.row i hi).view
  rw [ev] at q0
  have hl := d.le_len hi
  cases hd : d.l i with
  | nil =>
    have HT : Hid (Tod (ArcF b d) (fpA b v) w w) := Tod.same (fixed_arc b d) ⟨v, h, rfl⟩ (Below.refl _ _)
    have ho : oldA d i = (d, empA) := by unfold oldA; rw [hd]
    rw [ho]
    rw [hd] at q0
    simp only [List.length_nil] at q0
    clear h hs hl ev hlen hd ho
    go_enter Tryz.func161, Tryz.ntmps161
    go_wp2
    go_ret
    exact ⟨rfl, HT.out⟩
  | cons x r =>
    have ho : oldA d i = (d.put i r, x) := by unfold oldA; rw [hd]
    rw [ho]
    have HT := take_list b i hi v d x w h hlen
    have e1 : hasA d i x = true := hasK_iff.2 (by rw [hd]; simp)
    have e2 : takeA d i x = d.put i r := by unfold takeA; rw [hd, dropK, if_pos rfl]
    rw [e1, e2] at HT
    have HT := Lib.hid HT
    obtain ⟨g, off, rfl, hg, hc⟩ := hs (by rw [hd]; simp)
    have q1 := hc 0 x (by rw [hd]; rfl)
    rw [Nat.add_zero] at q1
    have hpos : ¬ (((d.l i).length : Int) == 0) = true := by rw [hd]; simp only [List.length_cons, beq_iff_eq]; omega
    have hpos1 : (0 : Int) < ((d.l i).length : Int) := by rw [hd]; simp only [List.length_cons]; omega
    have hpos2 : (((d.l i).length : Int) == 0) = false := by simpa using hpos
    generalize hn : (d.l i).length = n at *
    clear h hs hl ev hlen ho hd e1 e2 hpos hc hg hn
    go_enter Tryz.func161, Tryz.ntmps161
    go_wp2_with fail
    refine HT.out.mono ?_
    rintro e w1 ⟨rfl, ht⟩
    have HT2 := Lib.hid ht
    clear ht
    go_wp2
    go_ret
    exact ⟨rfl, HT2.out⟩
end Go.Proofs.YtphhnhldbajaoaaGreatDoor
