/-
  No key lies twice: counts. No program here.
-/
import Derived.Test.YtphhnhldbajaoaaGreatDoorArcM
namespace Go.Proofs.YtphhnhldbajaoaaGreatDoor
open Go.RowKit

def cK (l : List ByteArray) (x : ByteArray) : Nat := l.countP fun y => decide (y = x)
theorem cK_cons (y : ByteArray) (l : List ByteArray) (x : ByteArray) : cK (y :: l) x = cK l x + (if y = x then 1 else 0) := by
  unfold cK
  rw [List.countP_cons]
  simp
theorem cK_snoc (l : List ByteArray) (y x : ByteArray) : cK (l ++ [y]) x = cK l x + (if y = x then 1 else 0) := by
  unfold cK
  rw [List.countP_append]
  congr 1
  simp [List.countP_cons]
theorem cK_has {l : List ByteArray} {x : ByteArray} : hasK l x = true ↔ 0 < cK l x := by
  unfold cK hasK
  rw [List.countP_pos_iff, List.any_eq_true]
theorem cK_not {l : List ByteArray} {x : ByteArray} : hasK l x = false ↔ cK l x = 0 := by
  have := @cK_has l x
  cases h : hasK l x
  · rw [h] at this; simp at this; simp [this]
  · rw [h] at this; simp at this; simp; omega
theorem cK_drop (k : ByteArray) : ∀ (l : List ByteArray), hasK l k = true → ∀ x, cK (dropK l k) x + (if k = x then 1 else 0) = cK l x
  | [], h, x => by simp [hasK] at h
  | y :: r, h, x => by
    by_cases e : y = k
    · subst e
      rw [dropK, if_pos rfl, cK_cons]
    · have h' : hasK r k = true := by
        unfold hasK at h ⊢
        rw [List.any_cons, decide_eq_false e, Bool.false_or] at h
        exact h
      have ih := cK_drop k r h' x
      rw [dropK, if_neg e, cK_cons, cK_cons]
      omega
theorem drop_length {k : ByteArray} {l : List ByteArray} (h : hasK l k = true) : (dropK l k).length + 1 = l.length := by
  obtain ⟨h1, h2⟩ := drop_idx k l h
  rw [h2, List.length_eraseIdx, if_pos h1]; omega

def tK (d : ArcD) (x : ByteArray) : Nat := cK (d.l 2) x + cK (d.l 3) x
def cnt (d : ArcD) (x : ByteArray) : Nat := cK (d.l 2) x + cK (d.l 3) x + cK (d.l 4) x + cK (d.l 5) x
def InvA (d : ArcD) : Prop := ∀ x, cnt d x ≤ (if x = empA then 0 else 1)
theorem InvA.none {d : ArcD} (h : InvA d) : cnt d empA = 0 := by have := h empA; simp at this; exact this
/-- What a step that makes room may do: out is gone from what is kept, nothing else; no key comes. -/
structure RoomR (d d' : ArcD) (out : ByteArray) : Prop where
  t : ∀ x, x ≠ empA → tK d' x + (if out = x then 1 else 0) = tK d x
  c : ∀ x, cnt d' x ≤ cnt d x
  b4 : ∀ x, x ≠ out → cK (d'.l 4) x ≤ cK (d.l 4) x ∧ cK (d'.l 5) x ≤ cK (d.l 5) x
  n : (out = empA ∧ (d'.l 2).length + (d'.l 3).length = (d.l 2).length + (d.l 3).length) ∨ (out ≠ empA ∧ (d'.l 2).length + (d'.l 3).length + 1 = (d.l 2).length + (d.l 3).length)
theorem room_none {d : ArcD} : RoomR d d empA := ⟨fun x hx => by rw [if_neg (fun e => hx e.symm)]; rfl, fun _ => Nat.le_refl _, fun _ _ => ⟨Nat.le_refl _, Nat.le_refl _⟩, .inl ⟨rfl, rfl⟩⟩
/-- Room's own step: beside that, a key only moves down. -/
structure RoomL (d d' : ArcD) (out : ByteArray) : Prop where
  r : RoomR d d' out
  b : ∀ x, x ≠ out → cK (d'.l 4) x = cK (d.l 4) x ∧ cK (d'.l 5) x = cK (d.l 5) x
  e24 : (d'.l 2).length + (d'.l 4).length = (d.l 2).length + (d.l 4).length
  e35 : (d'.l 3).length + (d'.l 5).length = (d.l 3).length + (d.l 5).length
theorem inv_head {d : ArcD} (h : InvA d) {i : Nat} (hi : InA i) {x : ByteArray} {r : List ByteArray} (e : d.l i = x :: r) : x ≠ empA := by
  rintro rfl
  have h0 := h.none
  unfold cnt at h0
  have h1 : 0 < cK (d.l i) empA := by rw [e, cK_cons, if_pos rfl]; omega
  rcases hi.cases with rfl | rfl | rfl | rfl <;> omega
theorem move24 {d : ArcD} (h : InvA d) : RoomL d (moveA d 2 4).1 (moveA d 2 4).2 := by
  unfold moveA oldA
  cases e : d.l 2 with
  | nil => exact ⟨by simpa using room_none, fun _ _ => ⟨rfl, rfl⟩, rfl, rfl⟩
  | cons x r =>
    have hx := inv_head h in2 e
    simp only [hx, if_false]
    have l2 : (addA (d.put 2 r) 4 x).l 2 = r := by simp [addA, ArcD.put, updA]
    have l3 : (addA (d.put 2 r) 4 x).l 3 = d.l 3 := by simp [addA, ArcD.put, updA]
    have l4 : (addA (d.put 2 r) 4 x).l 4 = d.l 4 ++ [x] := by simp [addA, ArcD.put, updA]
    have l5 : (addA (d.put 2 r) 4 x).l 5 = d.l 5 := by simp [addA, ArcD.put, updA]
    refine ⟨⟨fun y _ => ?_, fun y => ?_, fun y hy => ?_, .inr ⟨hx, ?_⟩⟩, fun y hy => ?_, ?_, ?_⟩
    · unfold tK; rw [l2, l3, e, cK_cons]; omega
    · unfold cnt; rw [l2, l3, l4, l5, e, cK_cons, cK_snoc]; omega
    · rw [l4, l5, cK_snoc, if_neg (fun e => hy e.symm)]; exact ⟨Nat.le_refl _, Nat.le_refl _⟩
    · rw [l2, l3, e, List.length_cons]; omega
    · rw [l4, l5, cK_snoc, if_neg (fun e => hy e.symm)]; exact ⟨rfl, rfl⟩
    · rw [l2, l4, e, List.length_cons, List.length_append]; simp; omega
    · rw [l3, l5]
theorem move35 {d : ArcD} (h : InvA d) : RoomL d (moveA d 3 5).1 (moveA d 3 5).2 := by
  unfold moveA oldA
  cases e : d.l 3 with
  | nil => exact ⟨by simpa using room_none, fun _ _ => ⟨rfl, rfl⟩, rfl, rfl⟩
  | cons x r =>
    have hx := inv_head h in3 e
    simp only [hx, if_false]
    have l2 : (addA (d.put 3 r) 5 x).l 2 = d.l 2 := by simp [addA, ArcD.put, updA]
    have l3 : (addA (d.put 3 r) 5 x).l 3 = r := by simp [addA, ArcD.put, updA]
    have l4 : (addA (d.put 3 r) 5 x).l 4 = d.l 4 := by simp [addA, ArcD.put, updA]
    have l5 : (addA (d.put 3 r) 5 x).l 5 = d.l 5 ++ [x] := by simp [addA, ArcD.put, updA]
    refine ⟨⟨fun y _ => ?_, fun y => ?_, fun y hy => ?_, .inr ⟨hx, ?_⟩⟩, fun y hy => ?_, ?_, ?_⟩
    · unfold tK; rw [l2, l3, e, cK_cons]; omega
    · unfold cnt; rw [l2, l3, l4, l5, e, cK_cons, cK_snoc]; omega
    · rw [l4, l5, cK_snoc, if_neg (fun e => hy e.symm)]; exact ⟨Nat.le_refl _, Nat.le_refl _⟩
    · rw [l2, l3, e, List.length_cons]; omega
    · rw [l4, l5, cK_snoc, if_neg (fun e => hy e.symm)]; exact ⟨rfl, rfl⟩
    · rw [l2, l4]
    · rw [l3, l5, e, List.length_cons, List.length_append]; simp; omega
theorem room_spec {d : ArcD} (h : InvA d) (e : Bool) : RoomL d (roomA d e).1 (roomA d e).2 := by
  unfold roomA
  split
  · exact move24 h
  · exact move35 h
theorem room_zero {d : ArcD} (h : InvA d) (e : Bool) (h0 : (roomA d e).2 = empA) : (d.l 2).length + (d.l 3).length = 0 := by
  unfold roomA at h0
  split at h0
  · next h1 =>
    unfold room1 at h1
    cases e2 : d.l 2 with
    | nil => rw [e2] at h1; simp at h1
    | cons x r =>
      have hx := inv_head h in2 e2
      unfold moveA oldA at h0
      rw [e2] at h0
      simp only [hx, if_false] at h0
  · next h1 =>
    cases e3 : d.l 3 with
    | nil =>
      unfold room1 at h1
      rw [e3] at h1
      simp at h1
      simp [h1]
    | cons x r =>
      have hx := inv_head h in3 e3
      unfold moveA oldA at h0
      rw [e3] at h0
      simp only [hx, if_false] at h0
/-- A key of list 4, or of list 5, goes. -/
theorem old_low {d : ArcD} {i : Nat} (hi : i = 4 ∨ i = 5) : (∀ x, tK (oldA d i).1 x = tK d x) ∧ (∀ x, cnt (oldA d i).1 x ≤ cnt d x) ∧ (∀ x, cK ((oldA d i).1.l 4) x ≤ cK (d.l 4) x ∧ cK ((oldA d i).1.l 5) x ≤ cK (d.l 5) x) ∧
    (oldA d i).1.l 2 = d.l 2 ∧ (oldA d i).1.l 3 = d.l 3 := by
  unfold oldA
  cases e : d.l i with
  | nil => exact ⟨fun _ => rfl, fun _ => Nat.le_refl _, fun _ => ⟨Nat.le_refl _, Nat.le_refl _⟩, rfl, rfl⟩
  | cons x r =>
    rcases hi with rfl | rfl
    · have l2 : (d.put 4 r).l 2 = d.l 2 := by simp [ArcD.put, updA]
      have l3 : (d.put 4 r).l 3 = d.l 3 := by simp [ArcD.put, updA]
      have l4 : (d.put 4 r).l 4 = r := by simp [ArcD.put, updA]
      have l5 : (d.put 4 r).l 5 = d.l 5 := by simp [ArcD.put, updA]
      refine ⟨fun y => ?_, fun y => ?_, fun y => ?_, l2, l3⟩
      · unfold tK; show cK ((d.put 4 r).l 2) y + cK ((d.put 4 r).l 3) y = _; rw [l2, l3]
      · unfold cnt; show cK ((d.put 4 r).l 2) y + cK ((d.put 4 r).l 3) y + cK ((d.put 4 r).l 4) y + cK ((d.put 4 r).l 5) y ≤ _; rw [l2, l3, l4, l5, e, cK_cons]; omega
      · show cK ((d.put 4 r).l 4) y ≤ _ ∧ cK ((d.put 4 r).l 5) y ≤ _; rw [l4, l5, e, cK_cons]; omega
    · have l2 : (d.put 5 r).l 2 = d.l 2 := by simp [ArcD.put, updA]
      have l3 : (d.put 5 r).l 3 = d.l 3 := by simp [ArcD.put, updA]
      have l4 : (d.put 5 r).l 4 = d.l 4 := by simp [ArcD.put, updA]
      have l5 : (d.put 5 r).l 5 = r := by simp [ArcD.put, updA]
      refine ⟨fun y => ?_, fun y => ?_, fun y => ?_, l2, l3⟩
      · unfold tK; show cK ((d.put 5 r).l 2) y + cK ((d.put 5 r).l 3) y = _; rw [l2, l3]
      · unfold cnt; show cK ((d.put 5 r).l 2) y + cK ((d.put 5 r).l 3) y + cK ((d.put 5 r).l 4) y + cK ((d.put 5 r).l 5) y ≤ _; rw [l2, l3, l4, l5, e, cK_cons]; omega
      · show cK ((d.put 5 r).l 4) y ≤ _ ∧ cK ((d.put 5 r).l 5) y ≤ _; rw [l4, l5, e, cK_cons]; omega
theorem low_room {d : ArcD} (h : InvA d) {i : Nat} (hi : i = 4 ∨ i = 5) (e : Bool) : RoomR d (roomA (oldA d i).1 e).1 (roomA (oldA d i).1 e).2 := by
  obtain ⟨o1, o2, o3, o4, o5⟩ := old_low (d := d) hi
  have hr := (room_spec (d := (oldA d i).1) (fun x => Nat.le_trans (o2 x) (h x)) e).r
  refine ⟨fun x hx => by rw [← o1 x]; exact hr.t x hx, fun x => Nat.le_trans (hr.c x) (o2 x), fun x hx => ⟨Nat.le_trans (hr.b4 x hx).1 (o3 x).1, Nat.le_trans (hr.b4 x hx).2 (o3 x).2⟩, ?_⟩
  have := hr.n
  rw [o4, o5] at this
  exact this
theorem new_spec {d : ArcD} (h : InvA d) : RoomR d (newA d).1 (newA d).2 := by
  unfold newA
  split
  · split
    · unfold oldA
      cases e : d.l 2 with
      | nil => exact room_none
      | cons x r =>
        have hx := inv_head h in2 e
        have l2 : (d.put 2 r).l 2 = r := by simp [ArcD.put, updA]
        have l3 : (d.put 2 r).l 3 = d.l 3 := by simp [ArcD.put, updA]
        have l4 : (d.put 2 r).l 4 = d.l 4 := by simp [ArcD.put, updA]
        have l5 : (d.put 2 r).l 5 = d.l 5 := by simp [ArcD.put, updA]
        refine ⟨fun y _ => ?_, fun y => ?_, fun y hy => ?_, .inr ⟨hx, ?_⟩⟩
        · unfold tK; show cK ((d.put 2 r).l 2) y + cK ((d.put 2 r).l 3) y + (if x = y then 1 else 0) = _; rw [l2, l3, e, cK_cons]; omega
        · unfold cnt; show cK ((d.put 2 r).l 2) y + cK ((d.put 2 r).l 3) y + cK ((d.put 2 r).l 4) y + cK ((d.put 2 r).l 5) y ≤ _; rw [l2, l3, l4, l5, e, cK_cons]; omega
        · show cK ((d.put 2 r).l 4) y ≤ _ ∧ cK ((d.put 2 r).l 5) y ≤ _; rw [l4, l5]; exact ⟨Nat.le_refl _, Nat.le_refl _⟩
        · show ((d.put 2 r).l 2).length + ((d.put 2 r).l 3).length + 1 = _; rw [l2, l3, e, List.length_cons]; omega
    · exact low_room h (.inl rfl) false
  · split
    · split
      · exact low_room h (.inr rfl) false
      · exact (room_spec h false).r
    · exact room_none

theorem take_cnt {d : ArcD} {i : Nat} (hi : InA i) {k : ByteArray} (h : hasA d i k = true) (x : ByteArray) : cnt (takeA d i k) x + (if k = x then 1 else 0) = cnt d x := by
  have hk := cK_drop k (d.l i) h x
  unfold cnt takeA ArcD.put
  rcases hi.cases with rfl | rfl | rfl | rfl <;> simp only [updA, if_true] <;> simp <;> omega
theorem add_cnt (d : ArcD) {i : Nat} (hi : InA i) (k x : ByteArray) : cnt (addA d i k) x = cnt d x + (if k = x then 1 else 0) := by
  have hk := cK_snoc (d.l i) k x
  unfold cnt addA ArcD.put
  rcases hi.cases with rfl | rfl | rfl | rfl <;> simp only [updA, if_true] <;> simp <;> omega
theorem take_t {d : ArcD} {i : Nat} (hi : i = 2 ∨ i = 3) {k : ByteArray} (h : hasA d i k = true) (x : ByteArray) : tK (takeA d i k) x + (if k = x then 1 else 0) = tK d x := by
  have hk := cK_drop k (d.l i) h x
  unfold tK takeA ArcD.put
  rcases hi with rfl | rfl <;> simp only [updA, if_true] <;> simp <;> omega
theorem take_t45 {d : ArcD} {i : Nat} (hi : i = 4 ∨ i = 5) (k x : ByteArray) : tK (takeA d i k) x = tK d x := by
  unfold tK takeA ArcD.put
  rcases hi with rfl | rfl <;> simp [updA]
theorem add_t (d : ArcD) {i : Nat} (hi : i = 2 ∨ i = 3) (k x : ByteArray) : tK (addA d i k) x = tK d x + (if k = x then 1 else 0) := by
  have hk := cK_snoc (d.l i) k x
  unfold tK addA ArcD.put
  rcases hi with rfl | rfl <;> simp only [updA, if_true] <;> simp <;> omega
theorem has_t {d : ArcD} {k : ByteArray} : (hasA d 2 k || hasA d 3 k) = true ↔ 0 < tK d k := by
  unfold tK hasA
  rw [Bool.or_eq_true, cK_has, cK_has]
  omega
/-- What Ask makes of the keys. -/
structure AskR (d d' : ArcD) (k : ByteArray) (hit : Bool) (out : ByteArray) : Prop where
  hh : hit = decide (0 < tK d k)
  t : ∀ x, x ≠ empA → tK d' x + (if out = x then 1 else 0) = tK d x + (if k = x ∧ hit = false then 1 else 0)
  inv : InvA d'
theorem again_spec {d : ArcD} (h : InvA d) {k : ByteArray} (hk : k ≠ empA) (h0 : tK d k = 0) {i : Nat} (hi : i = 4 ∨ i = 5) (hh : hasA d i k = true) (e : Bool) :
    AskR d (againA d k i e).1 k false (againA d k i e).2 := by
  have hr := room_spec h e
  have hout : (roomA d e).2 ≠ k := fun e1 => by have := hr.r.t k hk; rw [if_pos e1] at this; omega
  have hi4 : InA i := by rcases hi with rfl | rfl <;> exact ⟨by omega, by omega⟩
  have hh' : hasA (roomA d e).1 i k = true := by
    have hb := hr.b k (Ne.symm hout)
    unfold hasA at hh ⊢
    rw [cK_has] at hh ⊢
    rcases hi with rfl | rfl
    · rw [hb.1]; exact hh
    · rw [hb.2]; exact hh
  refine ⟨by rw [h0]; rfl, fun x hx => ?_, fun x => ?_⟩
  · show tK (addA (takeA (roomA d e).1 i k) 3 k) x + (if (roomA d e).2 = x then 1 else 0) = _
    rw [add_t _ (.inr rfl), take_t45 hi]
    have := hr.r.t x hx
    simp only [and_true]
    omega
  · show cnt (addA (takeA (roomA d e).1 i k) 3 k) x ≤ _
    rw [add_cnt _ in3]
    have h1 := take_cnt hi4 hh' x
    have h2 := hr.r.c x
    have h3 := h x
    omega
theorem ask_spec {d : ArcD} (h : InvA d) {k : ByteArray} (hk : k ≠ empA) : AskR d (askA d k).1 k (askA d k).2.1 (askA d k).2.2 := by
  unfold askA
  rw [if_neg hk]
  split
  · next h2 =>
    have hp : 0 < tK d k := has_t.1 (by rw [h2]; rfl)
    refine ⟨(decide_eq_true hp).symm, fun x hx => ?_, fun x => ?_⟩
    · show tK (addA (takeA d 2 k) 3 k) x + (if empA = x then 1 else 0) = _
      rw [add_t _ (.inr rfl), if_neg (show ¬ empA = x from fun e => hx e.symm)]
      have := take_t (.inl rfl) h2 x
      simp
      omega
    · show cnt (addA (takeA d 2 k) 3 k) x ≤ _
      rw [add_cnt _ in3]
      have := take_cnt in2 h2 x
      have := h x
      omega
  · next h2 =>
    split
    · next h3 =>
      have hp : 0 < tK d k := has_t.1 (by rw [h3, Bool.or_true])
      refine ⟨(decide_eq_true hp).symm, fun x hx => ?_, fun x => ?_⟩
      · show tK (addA (takeA d 3 k) 3 k) x + (if empA = x then 1 else 0) = _
        rw [add_t _ (.inr rfl), if_neg (show ¬ empA = x from fun e => hx e.symm)]
        have := take_t (.inr rfl) h3 x
        simp
        omega
      · show cnt (addA (takeA d 3 k) 3 k) x ≤ _
        rw [add_cnt _ in3]
        have := take_cnt in3 h3 x
        have := h x
        omega
    · next h3 =>
      have h0 : tK d k = 0 := by
        have : ¬ (hasA d 2 k || hasA d 3 k) = true := by simp [h2, h3]
        rw [has_t] at this
        omega
      show AskR d (keepA d k).1 k false (keepA d k).2
      unfold keepA
      split
      · next h4 =>
        have a := again_spec (d := { d with t := min d.c (d.t + stepA d 4 5) }) h hk h0 (.inl rfl) h4 false
        exact ⟨a.hh, a.t, a.inv⟩
      · next h4 =>
        split
        · next h5 =>
          have a := again_spec (d := { d with t := max 0 (d.t - stepA d 5 4) }) h hk h0 (.inr rfl) h5 true
          exact ⟨a.hh, a.t, a.inv⟩
        · next h5 =>
          have hr := new_spec h
          refine ⟨by rw [h0]; rfl, fun x hx => ?_, fun x => ?_⟩
          · show tK (addA (newA d).1 2 k) x + (if (newA d).2 = x then 1 else 0) = _
            rw [add_t _ (.inl rfl)]
            have := hr.t x hx
            simp only [and_true]
            omega
          · show cnt (addA (newA d).1 2 k) x ≤ _
            rw [add_cnt _ in2]
            have h6 := hr.c x
            have h7 := h x
            by_cases e : k = x
            · subst e
              have h8 : cnt d k = 0 := by
                have h4' : hasA d 4 k = false := by simpa using h4
                have h5' : hasA d 5 k = false := by simpa using h5
                unfold hasA at h4' h5'
                rw [cK_not] at h4' h5'
                unfold tK at h0
                unfold cnt
                omega
              rw [if_pos rfl, if_neg hk]
              omega
            · rw [if_neg e]
              omega
theorem inv_new (c : Int) : InvA (newDA c) := fun x => by show 0 ≤ _; exact Nat.zero_le _
theorem ask_inv {d : ArcD} (h : InvA d) (k : ByteArray) : InvA (askA d k).1 := by
  by_cases hk : k = empA
  · unfold askA; rw [if_pos hk]; exact h
  · exact (ask_spec h hk).inv
end Go.Proofs.YtphhnhldbajaoaaGreatDoor
