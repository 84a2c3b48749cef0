/-
  Texts put together: ArcInv, ArcBnd, SpaceFun, SpaceRow.
-/
import Derived.Test.YtphhnhldbajaoaaGreatDoorMg32
import Derived.Test.YtphhnhldbajaoaaGreatDoorMg7
import Derived.Deep.RegionHeld3
import Derived.Deep.QuietTactic
import Derived.BigQuiet
import Derived.Lib.AppendZeros
import Derived.Deep.Onto
namespace Go.Proofs.YtphhnhldbajaoaaGreatDoor
open Go.RowKit

def cK (l : List ByteArray) (x : ByteArray) : Nat := l.countP fun y => decide (y = x)
theorem cK_cons (y : ByteArray) (l : List ByteArray) (x : ByteArray) : cK (y :: l) x = cK l x + (if y = x then 1 else 0) := by
  unfold cK
  rw [List.countP_cons]
  simp
theorem cK_snoc (l : List ByteArray) (y x : ByteArray) : cK (l ++ [y]) x = cK l x + (if y = x then 1 else 0) := by
  unfold cK
  rw [List.countP_append]
  congr 1
  simp [List.countP_cons]
theorem cK_has {l : List ByteArray} {x : ByteArray} : hasK l x = true ↔ 0 < cK l x := by
  unfold cK hasK
  rw [List.countP_pos_iff, List.any_eq_true]
theorem cK_not {l : List ByteArray} {x : ByteArray} : hasK l x = false ↔ cK l x = 0 := by
  have := @cK_has l x
  cases h : hasK l x
  · rw [h] at this; simp at this; simp [this]
  · rw [h] at this; simp at this; simp; omega
theorem cK_drop (k : ByteArray) : ∀ (l : List ByteArray), hasK l k = true → ∀ x, cK (dropK l k) x + (if k = x then 1 else 0) = cK l x
  | [], h, x => by simp [hasK] at h
  | y :: r, h, x => by
    by_cases e : y = k
    · subst e
      rw [dropK, if_pos rfl, cK_cons]
    · have h' : hasK r k = true := by
        unfold hasK at h ⊢
        rw [List.any_cons, decide_eq_false e, Bool.false_or] at h
        exact h
      have ih := cK_drop k r h' x
      rw [dropK, if_neg e, cK_cons, cK_cons]
      omega
theorem drop_length {k : ByteArray} {l : List ByteArray} (h : hasK l k = true) : (dropK l k).length + 1 = l.length := by
  obtain ⟨h1, h2⟩ := drop_idx k l h
  rw [h2, List.length_eraseIdx, if_pos h1]; omega

def tK (d : ArcD) (x : ByteArray) : Nat := cK (d.l 2) x + cK (d.l 3) x
def cnt (d : ArcD) (x : ByteArray) : Nat := cK (d.l 2) x + cK (d.l 3) x + cK (d.l 4) x + cK (d.l 5) x
def InvA (d : ArcD) : Prop := ∀ x, cnt d x ≤ (if x = empA then 0 else 1)
theorem InvA.none {d : ArcD} (h : InvA d) : cnt d empA = 0 := by have := h empA; simp at this; exact this
/-- What a step that makes room may do: out is gone from what is kept, nothing else; no key comes. -/
structure RoomR (d d' : ArcD) (out : ByteArray) : Prop where
  t : ∀ x, x ≠ empA → tK d' x + (if out = x then 1 else 0) = tK d x
  c : ∀ x, cnt d' x ≤ cnt d x
  b4 : ∀ x, x ≠ out → cK (d'.l 4) x ≤ cK (d.l 4) x ∧ cK (d'.l 5) x ≤ cK (d.l 5) x
  n : (out = empA ∧ (d'.l 2).length + (d'.l 3).length = (d.l 2).length + (d.l 3).length) ∨ (out ≠ empA ∧ (d'.l 2).length + (d'.l 3).length + 1 = (d.l 2).length + (d.l 3).length)
theorem room_none {d : ArcD} : RoomR d d empA := ⟨fun x hx => by rw [if_neg (fun e => hx e.symm)]; rfl, fun _ => Nat.le_refl _, fun _ _ => ⟨Nat.le_refl _, Nat.le_refl _⟩, .inl ⟨rfl, rfl⟩⟩
/-- Room's own step: beside that, a key only moves down. -/
structure RoomL (d d' : ArcD) (out : ByteArray) : Prop where
  r : RoomR d d' out
  b : ∀ x, x ≠ out → cK (d'.l 4) x = cK (d.l 4) x ∧ cK (d'.l 5) x = cK (d.l 5) x
  e24 : (d'.l 2).length + (d'.l 4).length = (d.l 2).length + (d.l 4).length
  e35 : (d'.l 3).length + (d'.l 5).length = (d.l 3).length + (d.l 5).length
theorem inv_head {d : ArcD} (h : InvA d) {i : Nat} (hi : InA i) {x : ByteArray} {r : List ByteArray} (e : d.l i = x :: r) : x ≠ empA := by
  rintro rfl
  have h0 := h.none
  unfold cnt at h0
  have h1 : 0 < cK (d.l i) empA := by rw [e, cK_cons, if_pos rfl]; omega
  rcases hi.cases with rfl | rfl | rfl | rfl <;> omega
theorem move24 {d : ArcD} (h : InvA d) : RoomL d (moveA d 2 4).1 (moveA d 2 4).2 := by
  unfold moveA oldA
  cases e : d.l 2 with
  | nil => exact ⟨by simpa using room_none, fun _ _ => ⟨rfl, rfl⟩, rfl, rfl⟩
  | cons x r =>
    have hx := inv_head h in2 e
    simp only [hx, if_false]
    have l2 : (addA (d.put 2 r) 4 x).l 2 = r := by simp [addA, ArcD.put, updA]
    have l3 : (addA (d.put 2 r) 4 x).l 3 = d.l 3 := by simp [addA, ArcD.put, updA]
    have l4 : (addA (d.put 2 r) 4 x).l 4 = d.l 4 ++ [x] := by simp [addA, ArcD.put, updA]
    have l5 : (addA (d.put 2 r) 4 x).l 5 = d.l 5 := by simp [addA, ArcD.put, updA]
    refine ⟨⟨fun y _ => ?_, fun y => ?_, fun y hy => ?_, .inr ⟨hx, ?_⟩⟩, fun y hy => ?_, ?_, ?_⟩
    · unfold tK; rw [l2, l3, e, cK_cons]; omega
    · unfold cnt; rw [l2, l3, l4, l5, e, cK_cons, cK_snoc]; omega
    · rw [l4, l5, cK_snoc, if_neg (fun e => hy e.symm)]; exact ⟨Nat.le_refl _, Nat.le_refl _⟩
    · rw [l2, l3, e, List.length_cons]; omega
    · rw [l4, l5, cK_snoc, if_neg (fun e => hy e.symm)]; exact ⟨rfl, rfl⟩
    · rw [l2, l4, e, List.length_cons, List.length_append]; simp; omega
    · rw [l3, l5]
theorem move35 {d : ArcD} (h : InvA d) : RoomL d (moveA d 3 5).1 (moveA d 3 5).2 := by
  unfold moveA oldA
  cases e : d.l 3 with
  | nil => exact ⟨by simpa using room_none, fun _ _ => ⟨rfl, rfl⟩, rfl, rfl⟩
  | cons x r =>
    have hx := inv_head h in3 e
    simp only [hx, if_false]
    have l2 : (addA (d.put 3 r) 5 x).l 2 = d.l 2 := by simp [addA, ArcD.put, updA]
    have l3 : (addA (d.put 3 r) 5 x).l 3 = r := by simp [addA, ArcD.put, updA]
    have l4 : (addA (d.put 3 r) 5 x).l 4 = d.l 4 := by simp [addA, ArcD.put, updA]
    have l5 : (addA (d.put 3 r) 5 x).l 5 = d.l 5 ++ [x] := by simp [addA, ArcD.put, updA]
    refine ⟨⟨fun y _ => ?_, fun y => ?_, fun y hy => ?_, .inr ⟨hx, ?_⟩⟩, fun y hy => ?_, ?_, ?_⟩
    · unfold tK; rw [l2, l3, e, cK_cons]; omega
    · unfold cnt; rw [l2, l3, l4, l5, e, cK_cons, cK_snoc]; omega
    · rw [l4, l5, cK_snoc, if_neg (fun e => hy e.symm)]; exact ⟨Nat.le_refl _, Nat.le_refl _⟩
    · rw [l2, l3, e, List.length_cons]; omega
    · rw [l4, l5, cK_snoc, if_neg (fun e => hy e.symm)]; exact ⟨rfl, rfl⟩
    · rw [l2, l4]
    · rw [l3, l5, e, List.length_cons, List.length_append]; simp; omega
theorem room_spec {d : ArcD} (h : InvA d) (e : Bool) : RoomL d (roomA d e).1 (roomA d e).2 := by
  unfold roomA
  split
  · exact move24 h
  · exact move35 h
theorem room_zero {d : ArcD} (h : InvA d) (e : Bool) (h0 : (roomA d e).2 = empA) : (d.l 2).length + (d.l 3).length = 0 := by
  unfold roomA at h0
  split at h0
  · next h1 =>
    unfold room1 at h1
    cases e2 : d.l 2 with
    | nil => rw [e2] at h1; simp at h1
    | cons x r =>
      have hx := inv_head h in2 e2
      unfold moveA oldA at h0
      rw [e2] at h0
      simp only [hx, if_false] at h0
  · next h1 =>
    cases e3 : d.l 3 with
    | nil =>
      unfold room1 at h1
      rw [e3] at h1
      simp at h1
      simp [h1]
    | cons x r =>
      have hx := inv_head h in3 e3
      unfold moveA oldA at h0
      rw [e3] at h0
      simp only [hx, if_false] at h0
/-- A key of list 4, or of list 5, goes. -/
theorem old_low {d : ArcD} {i : Nat} (hi : i = 4 ∨ i = 5) : (∀ x, tK (oldA d i).1 x = tK d x) ∧ (∀ x, cnt (oldA d i).1 x ≤ cnt d x) ∧ (∀ x, cK ((oldA d i).1.l 4) x ≤ cK (d.l 4) x ∧ cK ((oldA d i).1.l 5) x ≤ cK (d.l 5) x) ∧
    (oldA d i).1.l 2 = d.l 2 ∧ (oldA d i).1.l 3 = d.l 3 := by
  unfold oldA
  cases e : d.l i with
  | nil => exact ⟨fun _ => rfl, fun _ => Nat.le_refl _, fun _ => ⟨Nat.le_refl _, Nat.le_refl _⟩, rfl, rfl⟩
  | cons x r =>
    rcases hi with rfl | rfl
    · have l2 : (d.put 4 r).l 2 = d.l 2 := by simp [ArcD.put, updA]
      have l3 : (d.put 4 r).l 3 = d.l 3 := by simp [ArcD.put, updA]
      have l4 : (d.put 4 r).l 4 = r := by simp [ArcD.put, updA]
      have l5 : (d.put 4 r).l 5 = d.l 5 := by simp [ArcD.put, updA]
      refine ⟨fun y => ?_, fun y => ?_, fun y => ?_, l2, l3⟩
      · unfold tK; show cK ((d.put 4 r).l 2) y + cK ((d.put 4 r).l 3) y = _; rw [l2, l3]
      · unfold cnt; show cK ((d.put 4 r).l 2) y + cK ((d.put 4 r).l 3) y + cK ((d.put 4 r).l 4) y + cK ((d.put 4 r).l 5) y ≤ _; rw [l2, l3, l4, l5, e, cK_cons]; omega
      · show cK ((d.put 4 r).l 4) y ≤ _ ∧ cK ((d.put 4 r).l 5) y ≤ _; rw [l4, l5, e, cK_cons]; omega
    · have l2 : (d.put 5 r).l 2 = d.l 2 := by simp [ArcD.put, updA]
      have l3 : (d.put 5 r).l 3 = d.l 3 := by simp [ArcD.put, updA]
      have l4 : (d.put 5 r).l 4 = d.l 4 := by simp [ArcD.put, updA]
      have l5 : (d.put 5 r).l 5 = r := by simp [ArcD.put, updA]
      refine ⟨fun y => ?_, fun y => ?_, fun y => ?_, l2, l3⟩
      · unfold tK; show cK ((d.put 5 r).l 2) y + cK ((d.put 5 r).l 3) y = _; rw [l2, l3]
      · unfold cnt; show cK ((d.put 5 r).l 2) y + cK ((d.put 5 r).l 3) y + cK ((d.put 5 r).l 4) y + cK ((d.put 5 r).l 5) y ≤ _; rw [l2, l3, l4, l5, e, cK_cons]; omega
      · show cK ((d.put 5 r).l 4) y ≤ _ ∧ cK ((d.put 5 r).l 5) y ≤ _; rw [l4, l5, e, cK_cons]; omega
theorem low_room {d : ArcD} (h : InvA d) {i : Nat} (hi : i = 4 ∨ i = 5) (e : Bool) : RoomR d (roomA (oldA d i).1 e).1 (roomA (oldA d i).1 e).2 := by
  obtain ⟨o1, o2, o3, o4, o5⟩ := old_low (d := d) hi
  have hr := (room_spec (d := (oldA d i).1) (fun x => Nat.le_trans (o2 x) (h x)) e).r
  refine ⟨fun x hx => by rw [← o1 x]; exact hr.t x hx, fun x => Nat.le_trans (hr.c x) (o2 x), fun x hx => ⟨Nat.le_trans (hr.b4 x hx).1 (o3 x).1, Nat.le_trans (hr.b4 x hx).2 (o3 x).2⟩, ?_⟩
  have := hr.n
  rw [o4, o5] at this
  exact this
theorem new_spec {d : ArcD} (h : InvA d) : RoomR d (newA d).1 (newA d).2 := by
  unfold newA
  split
  · split
    · unfold oldA
      cases e : d.l 2 with
      | nil => exact room_none
      | cons x r =>
        have hx := inv_head h in2 e
        have l2 : (d.put 2 r).l 2 = r := by simp [ArcD.put, updA]
        have l3 : (d.put 2 r).l 3 = d.l 3 := by simp [ArcD.put, updA]
        have l4 : (d.put 2 r).l 4 = d.l 4 := by simp [ArcD.put, updA]
        have l5 : (d.put 2 r).l 5 = d.l 5 := by simp [ArcD.put, updA]
        refine ⟨fun y _ => ?_, fun y => ?_, fun y hy => ?_, .inr ⟨hx, ?_⟩⟩
        · unfold tK; show cK ((d.put 2 r).l 2) y + cK ((d.put 2 r).l 3) y + (if x = y then 1 else 0) = _; rw [l2, l3, e, cK_cons]; omega
        · unfold cnt; show cK ((d.put 2 r).l 2) y + cK ((d.put 2 r).l 3) y + cK ((d.put 2 r).l 4) y + cK ((d.put 2 r).l 5) y ≤ _; rw [l2, l3, l4, l5, e, cK_cons]; omega
        · show cK ((d.put 2 r).l 4) y ≤ _ ∧ cK ((d.put 2 r).l 5) y ≤ _; rw [l4, l5]; exact ⟨Nat.le_refl _, Nat.le_refl _⟩
        · show ((d.put 2 r).l 2).length + ((d.put 2 r).l 3).length + 1 = _; rw [l2, l3, e, List.length_cons]; omega
    · exact low_room h (.inl rfl) false
  · split
    · split
      · exact low_room h (.inr rfl) false
      · exact (room_spec h false).r
    · exact room_none

theorem take_cnt {d : ArcD} {i : Nat} (hi : InA i) {k : ByteArray} (h : hasA d i k = true) (x : ByteArray) : cnt (takeA d i k) x + (if k = x then 1 else 0) = cnt d x := by
  have hk := cK_drop k (d.l i) h x
  unfold cnt takeA ArcD.put
  rcases hi.cases with rfl | rfl | rfl | rfl <;> simp only [updA, if_true] <;> simp <;> omega
theorem add_cnt (d : ArcD) {i : Nat} (hi : InA i) (k x : ByteArray) : cnt (addA d i k) x = cnt d x + (if k = x then 1 else 0) := by
  have hk := cK_snoc (d.l i) k x
  unfold cnt addA ArcD.put
  rcases hi.cases with rfl | rfl | rfl | rfl <;> simp only [updA, if_true] <;> simp <;> omega
theorem take_t {d : ArcD} {i : Nat} (hi : i = 2 ∨ i = 3) {k : ByteArray} (h : hasA d i k = true) (x : ByteArray) : tK (takeA d i k) x + (if k = x then 1 else 0) = tK d x := by
  have hk := cK_drop k (d.l i) h x
  unfold tK takeA ArcD.put
  rcases hi with rfl | rfl <;> simp only [updA, if_true] <;> simp <;> omega
theorem take_t45 {d : ArcD} {i : Nat} (hi : i = 4 ∨ i = 5) (k x : ByteArray) : tK (takeA d i k) x = tK d x := by
  unfold tK takeA ArcD.put
  rcases hi with rfl | rfl <;> simp [updA]
theorem add_t (d : ArcD) {i : Nat} (hi : i = 2 ∨ i = 3) (k x : ByteArray) : tK (addA d i k) x = tK d x + (if k = x then 1 else 0) := by
  have hk := cK_snoc (d.l i) k x
  unfold tK addA ArcD.put
  rcases hi with rfl | rfl <;> simp only [updA, if_true] <;> simp <;> omega
theorem has_t {d : ArcD} {k : ByteArray} : (hasA d 2 k || hasA d 3 k) = true ↔ 0 < tK d k := by
  unfold tK hasA
  rw [Bool.or_eq_true, cK_has, cK_has]
  omega
/-- What Ask makes of the keys. -/
structure AskR (d d' : ArcD) (k : ByteArray) (hit : Bool) (out : ByteArray) : Prop where
  hh : hit = decide (0 < tK d k)
  t : ∀ x, x ≠ empA → tK d' x + (if out = x then 1 else 0) = tK d x + (if k = x ∧ hit = false then 1 else 0)
  inv : InvA d'
theorem again_spec {d : ArcD} (h : InvA d) {k : ByteArray} (hk : k ≠ empA) (h0 : tK d k = 0) {i : Nat} (hi : i = 4 ∨ i = 5) (hh : hasA d i k = true) (e : Bool) :
    AskR d (againA d k i e).1 k false (againA d k i e).2 := by
  have hr := room_spec h e
  have hout : (roomA d e).2 ≠ k := fun e1 => by have := hr.r.t k hk; rw [if_pos e1] at this; omega
  have hi4 : InA i := by rcases hi with rfl | rfl <;> exact ⟨by omega, by omega⟩
  have hh' : hasA (roomA d e).1 i k = true := by
    have hb := hr.b k (Ne.symm hout)
    unfold hasA at hh ⊢
    rw [cK_has] at hh ⊢
    rcases hi with rfl | rfl
    · rw [hb.1]; exact hh
    · rw [hb.2]; exact hh
  refine ⟨by rw [h0]; rfl, fun x hx => ?_, fun x => ?_⟩
  · show tK (addA (takeA (roomA d e).1 i k) 3 k) x + (if (roomA d e).2 = x then 1 else 0) = _
    rw [add_t _ (.inr rfl), take_t45 hi]
    have := hr.r.t x hx
    simp only [and_true]
    omega
  · show cnt (addA (takeA (roomA d e).1 i k) 3 k) x ≤ _
    rw [add_cnt _ in3]
    have h1 := take_cnt hi4 hh' x
    have h2 := hr.r.c x
    have h3 := h x
    omega
theorem ask_spec {d : ArcD} (h : InvA d) {k : ByteArray} (hk : k ≠ empA) : AskR d (askA d k).1 k (askA d k).2.1 (askA d k).2.2 := by
  unfold askA
  rw [if_neg hk]
  split
  · next h2 =>
    have hp : 0 < tK d k := has_t.1 (by rw [h2]; rfl)
    refine ⟨(decide_eq_true hp).symm, fun x hx => ?_, fun x => ?_⟩
    · show tK (addA (takeA d 2 k) 3 k) x + (if empA = x then 1 else 0) = _
      rw [add_t _ (.inr rfl), if_neg (show ¬ empA = x from fun e => hx e.symm)]
      have := take_t (.inl rfl) h2 x
      simp
      omega
    · show cnt (addA (takeA d 2 k) 3 k) x ≤ _
      rw [add_cnt _ in3]
      have := take_cnt in2 h2 x
      have := h x
      omega
  · next h2 =>
    split
    · next h3 =>
      have hp : 0 < tK d k := has_t.1 (by rw [h3, Bool.or_true])
      refine ⟨(decide_eq_true hp).symm, fun x hx => ?_, fun x => ?_⟩
      · show tK (addA (takeA d 3 k) 3 k) x + (if empA = x then 1 else 0) = _
        rw [add_t _ (.inr rfl), if_neg (show ¬ empA = x from fun e => hx e.symm)]
        have := take_t (.inr rfl) h3 x
        simp
        omega
      · show cnt (addA (takeA d 3 k) 3 k) x ≤ _
        rw [add_cnt _ in3]
        have := take_cnt in3 h3 x
        have := h x
        omega
    · next h3 =>
      have h0 : tK d k = 0 := by
        have : ¬ (hasA d 2 k || hasA d 3 k) = true := by simp [h2, h3]
        rw [has_t] at this
        omega
      show AskR d (keepA d k).1 k false (keepA d k).2
      unfold keepA
      split
      · next h4 =>
        have a := again_spec (d := { d with t := min d.c (d.t + stepA d 4 5) }) h hk h0 (.inl rfl) h4 false
        exact ⟨a.hh, a.t, a.inv⟩
      · next h4 =>
        split
        · next h5 =>
          have a := again_spec (d := { d with t := max 0 (d.t - stepA d 5 4) }) h hk h0 (.inr rfl) h5 true
          exact ⟨a.hh, a.t, a.inv⟩
        · next h5 =>
          have hr := new_spec h
          refine ⟨by rw [h0]; rfl, fun x hx => ?_, fun x => ?_⟩
          · show tK (addA (newA d).1 2 k) x + (if (newA d).2 = x then 1 else 0) = _
            rw [add_t _ (.inl rfl)]
            have := hr.t x hx
            simp only [and_true]
            omega
          · show cnt (addA (newA d).1 2 k) x ≤ _
            rw [add_cnt _ in2]
            have h6 := hr.c x
            have h7 := h x
            by_cases e : k = x
            · subst e
              have h8 : cnt d k = 0 := by
                have h4' : hasA d 4 k = false := by simpa using h4
                have h5' : hasA d 5 k = false := by simpa using h5
                unfold hasA at h4' h5'
                rw [cK_not] at h4' h5'
                unfold tK at h0
                unfold cnt
                omega
              rw [if_pos rfl, if_neg hk]
              omega
            · rw [if_neg e]
              omega
theorem inv_new (c : Int) : InvA (newDA c) := fun x => by show 0 ≤ _; exact Nat.zero_le _
theorem ask_inv {d : ArcD} (h : InvA d) (k : ByteArray) : InvA (askA d k).1 := by
  by_cases hk : k = empA
  · unfold askA; rw [if_pos hk]; exact h
  · exact (ask_spec h hk).inv
end Go.Proofs.YtphhnhldbajaoaaGreatDoor

namespace Go.Proofs.YtphhnhldbajaoaaGreatDoor
open Go.RowKit

def BndA (d : ArcD) : Prop := (((d.l 2).length + (d.l 3).length : Nat) : Int) ≤ d.c ∧ (((d.l 2).length + (d.l 4).length : Nat) : Int) ≤ d.c ∧ ((d.len : Nat) : Int) ≤ 2 * d.c
theorem bnd_new {c : Int} (h : 1 ≤ c) : BndA (newDA c) := ⟨by show (0 : Int) ≤ c; omega, by show (0 : Int) ≤ c; omega, by show (0 : Int) ≤ 2 * c; omega⟩
theorem put_lens (d : ArcD) (i : Nat) (x : List ByteArray) (j : Nat) : ((d.put i x).l j).length = if j = i then x.length else (d.l j).length := by
  unfold ArcD.put updA
  simp only
  split <;> rfl
theorem take_lens {d : ArcD} {i : Nat} {k : ByteArray} (h : hasA d i k = true) (j : Nat) : ((takeA d i k).l j).length + (if j = i then 1 else 0) = (d.l j).length := by
  unfold takeA
  rw [put_lens]
  have := drop_length h
  split
  · next e => subst e; omega
  · omega
theorem add_lens (d : ArcD) (i : Nat) (k : ByteArray) (j : Nat) : ((addA d i k).l j).length = (d.l j).length + (if j = i then 1 else 0) := by
  unfold addA
  rw [put_lens]
  split
  · next e => subst e; simp
  · omega
theorem bnd_hit {d : ArcD} (h : BndA d) {k : ByteArray} {i : Nat} (hi : i = 2 ∨ i = 3) (hh : hasA d i k = true) : BndA (addA (takeA d i k) 3 k) := by
  have t2 := take_lens hh 2
  have t3 := take_lens hh 3
  have t4 := take_lens hh 4
  have t5 := take_lens hh 5
  have a2 := add_lens (takeA d i k) 3 k 2
  have a3 := add_lens (takeA d i k) 3 k 3
  have a4 := add_lens (takeA d i k) 3 k 4
  have a5 := add_lens (takeA d i k) 3 k 5
  obtain ⟨h1, h2, h3⟩ := h
  unfold ArcD.len at h3
  unfold BndA ArcD.len
  show _ ≤ d.c ∧ _ ≤ d.c ∧ _ ≤ 2 * d.c
  rcases hi with rfl | rfl <;> simp at t2 t3 t4 t5 a2 a3 a4 a5 <;> omega
theorem bnd_again {d : ArcD} (hv : InvA d) (hok : OkA d) (h : BndA d) {k : ByteArray} (hk : k ≠ empA) (h0 : tK d k = 0) {i : Nat} (hi : i = 4 ∨ i = 5) (hh : hasA d i k = true) (e : Bool) : BndA (againA d k i e).1 := by
  have hr := room_spec hv e
  have hz := room_zero hv e
  have hout : (roomA d e).2 ≠ k := fun e1 => by have := hr.r.t k hk; rw [if_pos e1] at this; omega
  have hh' : hasA (roomA d e).1 i k = true := by
    have hb := hr.b k (Ne.symm hout)
    unfold hasA at hh ⊢
    rw [cK_has] at hh ⊢
    rcases hi with rfl | rfl
    · rw [hb.1]; exact hh
    · rw [hb.2]; exact hh
  have hc := (room_ct d e).1
  have t2 := take_lens hh' 2
  have t3 := take_lens hh' 3
  have t4 := take_lens hh' 4
  have t5 := take_lens hh' 5
  have a2 := add_lens (takeA (roomA d e).1 i k) 3 k 2
  have a3 := add_lens (takeA (roomA d e).1 i k) 3 k 3
  have a4 := add_lens (takeA (roomA d e).1 i k) 3 k 4
  have a5 := add_lens (takeA (roomA d e).1 i k) 3 k 5
  have e24 := hr.e24
  have e35 := hr.e35
  have hT : ((roomA d e).1.l 2).length + ((roomA d e).1.l 3).length + 1 = (d.l 2).length + (d.l 3).length ∨ (((roomA d e).1.l 2).length + ((roomA d e).1.l 3).length = 0) := by
    rcases hr.r.n with ⟨n1, n2⟩ | ⟨n1, n2⟩
    · have := hz n1; right; omega
    · left; omega
  obtain ⟨h1, h2, h3⟩ := h
  have hc1 := hok.1
  unfold ArcD.len at h3
  unfold BndA ArcD.len
  show (((((addA (takeA (roomA d e).1 i k) 3 k).l 2).length + ((addA (takeA (roomA d e).1 i k) 3 k).l 3).length : Nat) : Int) ≤ (roomA d e).1.c) ∧ (((((addA (takeA (roomA d e).1 i k) 3 k).l 2).length + ((addA (takeA (roomA d e).1 i k) 3 k).l 4).length : Nat) : Int) ≤ (roomA d e).1.c) ∧
    ((((addA (takeA (roomA d e).1 i k) 3 k).l 2).length + ((addA (takeA (roomA d e).1 i k) 3 k).l 3).length + ((addA (takeA (roomA d e).1 i k) 3 k).l 4).length + ((addA (takeA (roomA d e).1 i k) 3 k).l 5).length : Nat) : Int) ≤ 2 * (roomA d e).1.c
  rw [hc]
  rcases hi with rfl | rfl <;> simp at t2 t3 t4 t5 a2 a3 a4 a5 <;> omega
/-- What makes room for a new key leaves so many. -/
theorem bnd_room {d : ArcD} (hv : InvA d) (e : Bool) : ∃ n2 n3 n4 n5 : Nat, ((roomA d e).1.l 2).length = n2 ∧ ((roomA d e).1.l 3).length = n3 ∧ ((roomA d e).1.l 4).length = n4 ∧ ((roomA d e).1.l 5).length = n5 ∧
    n2 + n4 = (d.l 2).length + (d.l 4).length ∧ n3 + n5 = (d.l 3).length + (d.l 5).length ∧ (n2 + n3 + 1 = (d.l 2).length + (d.l 3).length ∨ n2 + n3 = 0) := by
  have hr := room_spec hv e
  have hz := room_zero hv e
  refine ⟨_, _, _, _, rfl, rfl, rfl, rfl, hr.e24, hr.e35, ?_⟩
  rcases hr.r.n with ⟨n1, n2⟩ | ⟨n1, n2⟩
  · have := hz n1; right; omega
  · left; omega
theorem old_lens (d : ArcD) (i j : Nat) : ((oldA d i).1.l j).length = if j = i then (d.l j).length - 1 else (d.l j).length := by
  unfold oldA
  cases e : d.l i with
  | nil =>
    show (d.l j).length = _
    by_cases h : j = i
    · rw [if_pos h, h, e]; rfl
    · rw [if_neg h]
  | cons x r =>
    show ((d.put i r).l j).length = _
    rw [put_lens]
    by_cases h : j = i
    · rw [if_pos h, if_pos h, h, e]; simp
    · rw [if_neg h, if_neg h]
theorem bnd_add {d e : ArcD} (k : ByteArray) (hc : e.c = d.c) (h1 : (((e.l 2).length + (e.l 3).length + 1 : Nat) : Int) ≤ d.c) (h2 : (((e.l 2).length + (e.l 4).length + 1 : Nat) : Int) ≤ d.c)
    (h3 : (((e.l 2).length + (e.l 3).length + (e.l 4).length + (e.l 5).length + 1 : Nat) : Int) ≤ 2 * d.c) : BndA (addA e 2 k) := by
  have a2 := add_lens e 2 k 2
  have a3 := add_lens e 2 k 3
  have a4 := add_lens e 2 k 4
  have a5 := add_lens e 2 k 5
  unfold BndA ArcD.len
  show _ ≤ e.c ∧ _ ≤ e.c ∧ _ ≤ 2 * e.c
  rw [hc]
  simp at a2 a3 a4 a5
  omega
theorem bnd_newA {d : ArcD} (hv : InvA d) (hok : OkA d) (h : BndA d) (k : ByteArray) : BndA (addA (newA d).1 2 k) := by
  have hct := (new_ct d).1
  obtain ⟨h1, h2, h3⟩ := h
  have hc1 := hok.1
  unfold ArcD.len at h3
  unfold newA at hct ⊢
  have ho : onceA d = ((d.l 2).length : Int) + ((d.l 4).length : Int) := rfl
  have ha : allA d = onceA d + ((d.l 3).length : Int) + ((d.l 5).length : Int) := rfl
  split
  · next h4 =>
    rw [if_pos h4] at hct
    split
    · next h5 =>
      rw [if_pos h5] at hct
      have o2 := old_lens d 2 2
      have o3 := old_lens d 2 3
      have o4 := old_lens d 2 4
      have o5 := old_lens d 2 5
      simp at o2 o3 o4 o5
      exact bnd_add k hct (by omega) (by omega) (by omega)
    · next h5 =>
      rw [if_neg h5] at hct
      have o2 := old_lens d 4 2
      have o3 := old_lens d 4 3
      have o4 := old_lens d 4 4
      have o5 := old_lens d 4 5
      simp at o2 o3 o4 o5
      obtain ⟨m2, m3, m4, m5, e2, e3, e4, e5, e6, e7, e8⟩ := bnd_room (d := (oldA d 4).1) (fun x => Nat.le_trans ((old_low (d := d) (.inl rfl)).2.1 x) (hv x)) false
      exact bnd_add k hct (by omega) (by omega) (by omega)
  · next h4 =>
    rw [if_neg h4] at hct
    split
    · next h5 =>
      rw [if_pos h5] at hct
      split
      · next h6 =>
        rw [if_pos h6] at hct
        have o2 := old_lens d 5 2
        have o3 := old_lens d 5 3
        have o4 := old_lens d 5 4
        have o5 := old_lens d 5 5
        simp at o2 o3 o4 o5
        obtain ⟨m2, m3, m4, m5, e2, e3, e4, e5, e6, e7, e8⟩ := bnd_room (d := (oldA d 5).1) (fun x => Nat.le_trans ((old_low (d := d) (.inr rfl)).2.1 x) (hv x)) false
        exact bnd_add k hct (by omega) (by omega) (by omega)
      · next h6 =>
        rw [if_neg h6] at hct
        obtain ⟨m2, m3, m4, m5, e2, e3, e4, e5, e6, e7, e8⟩ := bnd_room hv false
        exact bnd_add k hct (by omega) (by omega) (by omega)
    · next h5 =>
      exact (show BndA (addA d 2 k) from bnd_add (d := d) k rfl (by omega) (by omega) (by omega))
theorem ask_bnd {d : ArcD} (hv : InvA d) (hok : OkA d) (h : BndA d) (k : ByteArray) : BndA (askA d k).1 := by
  unfold askA
  split
  · exact h
  · next hk =>
    split
    · next h2 => exact bnd_hit h (.inl rfl) h2
    · next h2 =>
      split
      · next h3 => exact bnd_hit h (.inr rfl) h3
      · next h3 =>
        have h0 : tK d k = 0 := by
          have : ¬ (hasA d 2 k || hasA d 3 k) = true := by simp [h2, h3]
          rw [has_t] at this
          omega
        have s4 := step_pos d 4 5
        have s5 := step_pos d 5 4
        obtain ⟨k1, k2, k3, k4⟩ := hok
        show BndA (keepA d k).1
        unfold keepA
        split
        · next h4 => exact bnd_again (d := { d with t := min d.c (d.t + stepA d 4 5) }) hv ⟨k1, k2, by show (0 : Int) ≤ min d.c (d.t + stepA d 4 5); omega, by show min d.c (d.t + stepA d 4 5) ≤ d.c; omega⟩ h hk h0 (.inl rfl) h4 false
        · split
          · next h5 => exact bnd_again (d := { d with t := max 0 (d.t - stepA d 5 4) }) hv ⟨k1, k2, by show (0 : Int) ≤ max 0 (d.t - stepA d 5 4); omega, by show max 0 (d.t - stepA d 5 4) ≤ d.c; omega⟩ h hk h0 (.inr rfl) h5 true
          · exact bnd_newA hv ⟨k1, k2, k3, k4⟩ h k
end Go.Proofs.YtphhnhldbajaoaaGreatDoor

namespace Go.Proofs.YtphhnhldbajaoaaGreatDoor
open Go.RowKit Go.ChangeShapes Go.WideShapes Go.ChangeAt

theorem take1_any (x : Int × Int) (cb : Nat) (n : Int) (w : World) (hc : w.cell? ⟨cb, 0, none⟩ = some (.int .i64 n)) :
    Calls Tryz.prog 100 #[.agg #[.int .i64 x.1, .int .i64 x.2], .pointer (some ⟨cb, 0, none⟩)] w fun e w' => e = .returned (.bool (longB n x)) ∧ Below w.heap.size w w' := by
  obtain ⟨xa, xn⟩ := x
  have B := Box.new w 139 #[.int .i64 xa, .int .i64 xn]
  have ha := (Below.refl w.heap.size w).alloc (Nat.le_refl _) (.cells #[.int .i64 xa, .int .i64 xn] 139 (0, 0))
  have k0 := B.cell 0 _ rfl
  have k1 := B.cell 1 _ rfl
  have kc : (w.alloc (.cells #[.int .i64 xa, .int .i64 xn] 139 (0, 0))).cell? ⟨cb, 0, none⟩ = some (.int .i64 n) := (ha.cell (p := ⟨cb, 0, none⟩) (lt_of_cell hc)).trans hc
  have HL := Lib.hid ha
  clear ha B
  go_enter Tryz.func100, Tryz.ntmps100
  go_wp2
  go_ret
  exact ⟨by unfold longB; rfl, HL.out⟩

abbrev S3 (w : World) (cb : Nat) (xa xn n : Int) (w' : World) : Prop := w'.cell? ⟨w.heap.size, 0, none⟩ = some (.int .i64 xa) ∧ w'.cell? ⟨w.heap.size, 1, none⟩ = some (.int .i64 xn) ∧ w'.cell? ⟨cb, 0, none⟩ = some (.int .i64 n)
set_option maxRecDepth 100000 in
set_option maxHeartbeats 1000000 in
theorem index_take (a : Option Addr) (cap : Nat) (l : List (Int × Int)) (cb : Nat) (n : Int) (w : World) (h : SlP w a l) (hl : l.length ≤ 1000) (hc : w.cell? ⟨cb, 0, none⟩ = some (.int .i64 n)) :
    Calls Tryz.prog 99 #[.slice a l.length cap, .func (.func 100) #[] #[.pointer (some ⟨cb, 0, none⟩)]] w fun e w' =>
      e = .returned (.int .i64 (sidxP (longB n) l)) ∧ Below w.heap.size w w' := by
  have H := Lib.hid h
  have HC := Lib.hid hc
  clear h hc
  go_enter Tryz.func99, Tryz.ntmps99
  go_wp2
  go_loopw [5, 8] (fun _ i wr => ∃ k : Nat, k ≤ l.length ∧ i = .int .i64 k ∧ Hid (∀ x ∈ l.take k, longB n x = false) ∧ Hid (Below w.heap.size w wr)) (fun _ i _ => l.length - (intOf i).toNat)
  case atStart => exact ⟨0, Nat.zero_le _, rfl, Lib.hid (fun x hx => by simp at hx), Below.refl _ _⟩
  case round =>
    obtain ⟨k, hk, rfl, HN, HL⟩ := hrel
    by_cases hlt : k < l.length
    · obtain ⟨b, off, rfl, hb, hc0, hc1⟩ := (H.out.keep HL.out).get k hlt
      have HS := Lib.hid (fun e => sstep_no HN.out hlt e)
      have HI := Lib.hid (fun e => sidx_at HN.out hlt e)
      have HCW := Lib.hid ((HL.out.cell (p := ⟨cb, 0, none⟩) (lt_of_cell HC.out)).trans HC.out)
      generalize l[k] = x at *
      cases hx : longB n x
      · have Hx := Lib.hid hx
        go_wp2_with fail
        refine (take1_any x cb n _ HCW.out).mono ?_
        rintro e w1 ⟨rfl, hb1⟩
        rw [hx]
        have HB := Lib.hid (HL.out.trans (hb1.mono HL.out.size))
        have HY := Lib.hid (HS.out Hx.out)
        clear hx hb1 hc0 hc1 hb
        go_wp2
        go_roundw
        case rel => exact ⟨k + 1, by omega, by go_num, HY, HB⟩
        case measure => simp [intOf]; omega
      · have Hx := Lib.hid hx
        go_wp2_with fail
        refine (take1_any x cb n _ HCW.out).mono ?_
        rintro e w1 ⟨rfl, hb1⟩
        rw [hx]
        have HB := Lib.hid (HL.out.trans (hb1.mono HL.out.size))
        have HY := Lib.hid (HI.out Hx.out)
        clear hx hb1 hc0 hc1 hb
        go_wp2
        go_ret
        exact ⟨ret_int HY.out.symm, HB.out⟩
    · obtain rfl : k = l.length := by omega
      have HF := Lib.hid (sidx_no (P := longB n) (l := l) (by have := HN.out; rwa [List.take_length] at this))
      go_wp2
      go_ret
      exact ⟨ret_int HF.out.symm, HL.out⟩

end Go.Proofs.YtphhnhldbajaoaaGreatDoor

namespace Go.Proofs.YtphhnhldbajaoaaGreatDoor
open Go.RowKit Go.ChangeShapes Go.WideShapes Go.ChangeAt

set_option maxRecDepth 100000 in
/-- 'append([]S(nil), make([]S, n)...)'. -/
theorem wp_prs_zeros {t tn e : TypeId} (ht : Tryz.prog.underlying t = some (.slice e)) (htn : Tryz.prog.underlying tn = some (.int .i64)) (he : Two e) {ops : Array Oper} {rest : List Oper} {o : Oper} {a : Act} {Q : Exit → Act → World → Prop} (W : World) (hgd : o.guard = none) (s x : Operand)
    (ho : o.op = .call { callee := .builtin .append, args := #[s, x], argTypes := #[t, tn] })
    (hs : a.eval s = .slice none 0 0) (n : Nat) (hx : a.eval x = .int .i64 n) (h0 : 0 < n) (hn : n ≤ 100000)
    (h : ∀ g c w', n ≤ c → c ≤ maxLen → PrsS e w' W.heap.size (.slice (some ⟨g, 0, none⟩) 0 c) [] → Below W.heap.size W w' → wpList Tryz.prog ops Q rest (a.put o.dst (.slice (some ⟨g, 0, none⟩) n c)) w') : wpList Tryz.prog ops Q (o :: rest) a W := by
  obtain ⟨i0, hi, hz0, hz1, hz2⟩ := info_parts he
  have hr := Go.Lib.run_append_nil_zeros W t tn o.type e i0 (.agg #[.int .i64 0, .int .i64 0]) .i64 .i64 ht htn hi hz0 n h0 (by rw [hz1]; decide) (by omega) (by rw [hz2]; omega)
  have hge := grownCap_ge W n 0 e
  have hcm := grownCap_le_maxLen W n 0 e (by unfold maxLen; omega)
  refine wpList_plain hgd fun K hK => ?_
  unfold Oper.wp execOp
  simp only [ho, resolve, invoke, builtin, Sem.run_bind, Sem.run_pure, Result.andThen_ok, List.map_toArray, List.map_cons, List.map_nil, hs, hx, hr]
  refine hK _ _ (h W.heap.size (grownCap W n 0 e) _ hge hcm ⟨by simp, .inr ⟨W.heap.size, grownCap W n 0 e, _, rfl, Nat.le_refl _, heap_alloc_new W.drew _, Nat.zero_le _, hcm, ?_, by simp⟩⟩ ((Below.refl _ _).drew.alloc (Nat.le_refl _) _))
  simp only [Array.size_append, size_zeroCells]
  rw [show (Value.agg #[.int .i64 0, .int .i64 0]).cells.size = 2 from rfl, ← Nat.add_mul]
  congr 1
  omega

set_option maxRecDepth 100000 in
/-- 'append(s[:k:k], x...)', x not empty. -/
theorem wp_prs_grow {t e : TypeId} (ht : Tryz.prog.underlying t = some (.slice e)) (he : Two e) {ops : Array Oper} {rest : List Oper} {o : Oper} {a : Act} {Q : Exit → Act → World → Prop} (W : World) (hgd : o.guard = none) (s x : Operand)
    (ho : o.op = .call { callee := .builtin .append, args := #[s, x], argTypes := #[t, t] })
    (b : Addr) (l : List (Int × Int)) (hs : a.eval s = .slice (some b) l.length l.length) (hold : ∀ j u, (l.flatMap PrVS)[j]? = some u → W.cell? (b.add j) = some u)
    (ad : Addr) (c : Nat) (ps : List (Int × Int)) (hx : a.eval x = .slice (some ad) ps.length c) (hcell : ∀ j u, (ps.flatMap PrVS)[j]? = some u → W.cell? (ad.add j) = some u)
    (hpos : 0 < ps.length) (hbytes : l.length + ps.length ≤ 100000)
    (h : ∀ v' w', PrsS e w' W.heap.size v' (l ++ ps) → Below W.heap.size W w' → wpList Tryz.prog ops Q rest (a.put o.dst v') w') : wpList Tryz.prog ops Q (o :: rest) a W := by
  obtain ⟨i0, hi, hz0, hz1, hz2⟩ := info_parts he
  have hl := flat_len PrVS 2 (fun _ => rfl) l
  have hp := flat_len PrVS 2 (fun _ => rfl) ps
  have hr := run_append_grow (P := Tryz.prog) (w := W) t o.type e i0 (.agg #[.int .i64 0, .int .i64 0]) ht hi hz0 b l.length l.length (l.flatMap PrVS) (by rw [hz1]; exact hl) hold ad ps.length c (ps.flatMap PrVS) (by rw [hz1]; exact hp) hcell (by omega) (by omega) (growslice_fits (by omega) (by rw [hz2]; omega))
  have hge := grownCap_ge W (l.length + ps.length) l.length e
  have hcm := grownCap_le_maxLen W (l.length + ps.length) l.length e (by unfold maxLen; omega)
  refine wpList_plain hgd fun K hK => ?_
  unfold Oper.wp execOp
  simp only [ho, resolve, invoke, builtin, Sem.run_bind, Sem.run_pure, Result.andThen_ok, List.map_toArray, List.map_cons, List.map_nil, hs, hx, hr]
  refine hK _ _ (h _ _ ⟨?_, .inr ⟨W.heap.size, grownCap W (l.length + ps.length) l.length e, _, by rw [List.length_append], Nat.le_refl _, heap_alloc_new W.drew _, by rw [List.length_append]; exact hge, hcm, ?_, ?_⟩⟩ ((Below.refl _ _).drew.alloc (Nat.le_refl _) _))
  · rw [List.flatMap_append, List.length_append, hl, hp, List.length_append, Nat.add_mul]
  · simp only [Array.size_append, size_zeroCells, List.size_toArray, hl, hp]
    rw [show (Value.agg #[.int .i64 0, .int .i64 0]).cells.size = 2 from rfl, ← Nat.add_mul, ← Nat.add_mul]
    congr 1
    omega
  · simp only [Array.toList_append, List.append_assoc]
    rw [List.flatMap_append, ← List.append_assoc]
    have e2 : (l ++ ps).length * 2 = (l.flatMap PrVS ++ ps.flatMap PrVS).length := by rw [List.length_append, List.length_append, hl, hp, Nat.add_mul]
    rw [e2]
    exact List.take_left
end Go.Proofs.YtphhnhldbajaoaaGreatDoor
