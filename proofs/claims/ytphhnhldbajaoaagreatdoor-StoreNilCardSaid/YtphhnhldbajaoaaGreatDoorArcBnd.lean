/-
  No more keys are kept than there is room. No program here.
-/
import Derived.Test.YtphhnhldbajaoaaGreatDoorArcInv
namespace Go.Proofs.YtphhnhldbajaoaaGreatDoor
open Go.RowKit

def BndA (d : ArcD) : Prop := (((d.l 2).length + (d.l 3).length : Nat) : Int) ≤ d.c ∧ (((d.l 2).length + (d.l 4).length : Nat) : Int) ≤ d.c ∧ ((d.len : Nat) : Int) ≤ 2 * d.c
theorem bnd_new {c : Int} (h : 1 ≤ c) : BndA (newDA c) := ⟨by show (0 : Int) ≤ c; omega, by show (0 : Int) ≤ c; omega, by show (0 : Int) ≤ 2 * c; omega⟩
theorem put_lens (d : ArcD) (i : Nat) (x : List ByteArray) (j : Nat) : ((d.put i x).l j).length = if j = i then x.length else (d.l j).length := by
  unfold ArcD.put updA
  simp only
  split <;> rfl
theorem take_lens {d : ArcD} {i : Nat} {k : ByteArray} (h : hasA d i k = true) (j : Nat) : ((takeA d i k).l j).length + (if j = i then 1 else 0) = (d.l j).length := by
  unfold takeA
  rw [put_lens]
  have := drop_length h
  split
  · next e => subst e; omega
  · omega
theorem add_lens (d : ArcD) (i : Nat) (k : ByteArray) (j : Nat) : ((addA d i k).l j).length = (d.l j).length + (if j = i then 1 else 0) := by
  unfold addA
  rw [put_lens]
  split
  · next e => subst e; simp
  · omega
theorem bnd_hit {d : ArcD} (h : BndA d) {k : ByteArray} {i : Nat} (hi : i = 2 ∨ i = 3) (hh : hasA d i k = true) : BndA (addA (takeA d i k) 3 k) := by
  have t2 := take_lens hh 2
  have t3 := take_lens hh 3
  have t4 := take_lens hh 4
  have t5 := take_lens hh 5
  have a2 := add_lens (takeA d i k) 3 k 2
  have a3 := add_lens (takeA d i k) 3 k 3
  have a4 := add_lens (takeA d i k) 3 k 4
  have a5 := add_lens (takeA d i k) 3 k 5
  obtain ⟨h1, h2, h3⟩ := h
  unfold ArcD.len at h3
  unfold BndA ArcD.len
  show _ ≤ d.c ∧ _ ≤ d.c ∧ _ ≤ 2 * d.c
  rcases hi with rfl | rfl <;> simp at t2 t3 t4 t5 a2 a3 a4 a5 <;> omega
theorem bnd_again {d : ArcD} (hv : InvA d) (hok : OkA d) (h : BndA d) {k : ByteArray} (hk : k ≠ empA) (h0 : tK d k = 0) {i : Nat} (hi : i = 4 ∨ i = 5) (hh : hasA d i k = true) (e : Bool) : BndA (againA d k i e).1 := by
  have hr := room_spec hv e
  have hz := room_zero hv e
  have hout : (roomA d e).2 ≠ k := fun e1 => by have := hr.r.t k hk; rw [if_pos e1] at this; omega
  have hh' : hasA (roomA d e).1 i k = true := by
    have hb := hr.b k (Ne.symm hout)
    unfold hasA at hh ⊢
    rw [cK_has] at hh ⊢
    rcases hi with rfl | rfl
    · rw [hb.1]; exact hh
    · rw [hb.2]; exact hh
  have hc := (room_ct d e).1
  have t2 := take_lens hh' 2
  have t3 := take_lens hh' 3
  have t4 := take_lens hh' 4
  have t5 := take_lens hh' 5
  have a2 := add_lens (takeA (roomA d e).1 i k) 3 k 2
  have a3 := add_lens (takeA (roomA d e).1 i k) 3 k 3
  have a4 := add_lens (takeA (roomA d e).1 i k) 3 k 4
  have a5 := add_lens (takeA (roomA d e).1 i k) 3 k 5
  have e24 := hr.e24
  have e35 := hr.e35
  have hT : ((roomA d e).1.l 2).length + ((roomA d e).1.l 3).length + 1 = (d.l 2).length + (d.l 3).length ∨ (((roomA d e).1.l 2).length + ((roomA d e).1.l 3).length = 0) := by
    rcases hr.r.n with ⟨n1, n2⟩ | ⟨n1, n2⟩
    · have := hz n1; right; omega
    · left; omega
  obtain ⟨h1, h2, h3⟩ := h
  have hc1 := hok.1
  unfold ArcD.len at h3
  unfold BndA ArcD.len
  show (((((addA (takeA (roomA d e).1 i k) 3 k).l 2).length + ((addA (takeA (roomA d e).1 i k) 3 k).l 3).length : Nat) : Int) ≤ (roomA d e).1.c) ∧ (((((addA (takeA (roomA d e).1 i k) 3 k).l 2).length + ((addA (takeA (roomA d e).1 i k) 3 k).l 4).length : Nat) : Int) ≤ (roomA d e).1.c) ∧
    ((((addA (takeA (roomA d e).1 i k) 3 k).l 2).length + ((addA (takeA (roomA d e).1 i k) 3 k).l 3).length + ((addA (takeA (roomA d e).1 i k) 3 k).l 4).length + ((addA (takeA (roomA d e).1 i k) 3 k).l 5).length : Nat) : Int) ≤ 2 * (roomA d e).1.c
  rw [hc]
  rcases hi with rfl | rfl <;> simp at t2 t3 t4 t5 a2 a3 a4 a5 <;> omega
/-- What makes room for a new key leaves so many. -/
theorem bnd_room {d : ArcD} (hv : InvA d) (e : Bool) : ∃ n2 n3 n4 n5 : Nat, ((roomA d e).1.l 2).length = n2 ∧ ((roomA d e).1.l 3).length = n3 ∧ ((roomA d e).1.l 4).length = n4 ∧ ((roomA d e).1.l 5).length = n5 ∧
    n2 + n4 = (d.l 2).length + (d.l 4).length ∧ n3 + n5 = (d.l 3).length + (d.l 5).length ∧ (n2 + n3 + 1 = (d.l 2).length + (d.l 3).length ∨ n2 + n3 = 0) := by
  have hr := room_spec hv e
  have hz := room_zero hv e
  refine ⟨_, _, _, _, rfl, rfl, rfl, rfl, hr.e24, hr.e35, ?_⟩
  rcases hr.r.n with ⟨n1, n2⟩ | ⟨n1, n2⟩
  · have := hz n1; right; omega
  · left; omega
theorem old_lens (d : ArcD) (i j : Nat) : ((oldA d i).1.l j).length = if j = i then (d.l j).length - 1 else (d.l j).length := by
  unfold oldA
  cases e : d.l i with
  | nil =>
    show (d.l j).length = _
    by_cases h : j = i
    · rw [if_pos h, h, e]; rfl
    · rw [if_neg h]
  | cons x r =>
    show ((d.put i r).l j).length = _
    rw [put_lens]
    by_cases h : j = i
    · rw [if_pos h, if_pos h, h, e]; simp
    · rw [if_neg h, if_neg h]
theorem bnd_add {d e : ArcD} (k : ByteArray) (hc : e.c = d.c) (h1 : (((e.l 2).length + (e.l 3).length + 1 : Nat) : Int) ≤ d.c) (h2 : (((e.l 2).length + (e.l 4).length + 1 : Nat) : Int) ≤ d.c)
    (h3 : (((e.l 2).length + (e.l 3).length + (e.l 4).length + (e.l 5).length + 1 : Nat) : Int) ≤ 2 * d.c) : BndA (addA e 2 k) := by
  have a2 := add_lens e 2 k 2
  have a3 := add_lens e 2 k 3
  have a4 := add_lens e 2 k 4
  have a5 := add_lens e 2 k 5
  unfold BndA ArcD.len
  show _ ≤ e.c ∧ _ ≤ e.c ∧ _ ≤ 2 * e.c
  rw [hc]
  simp at a2 a3 a4 a5
  omega
theorem bnd_newA {d : ArcD} (hv : InvA d) (hok : OkA d) (h : BndA d) (k : ByteArray) : BndA (addA (newA d).1 2 k) := by
  have hct := (new_ct d).1
  obtain ⟨h1, h2, h3⟩ := h
  have hc1 := hok.1
  unfold ArcD.len at h3
  unfold newA at hct ⊢
  have ho : onceA d = ((d.l 2).length : Int) + ((d.l 4).length : Int) := rfl
  have ha : allA d = onceA d + ((d.l 3).length : Int) + ((d.l 5).length : Int) := rfl
  split
  · next h4 =>
    rw [if_pos h4] at hct
    split
    · next h5 =>
      rw [if_pos h5] at hct
      have o2 := old_lens d 2 2
      have o3 := old_lens d 2 3
      have o4 := old_lens d 2 4
      have o5 := old_lens d 2 5
      simp at o2 o3 o4 o5
      exact bnd_add k hct (by omega) (by omega) (by omega)
    · next h5 =>
      rw [if_neg h5] at hct
      have o2 := old_lens d 4 2
      have o3 := old_lens d 4 3
      have o4 := old_lens d 4 4
      have o5 := old_lens d 4 5
      simp at o2 o3 o4 o5
      obtain ⟨m2, m3, m4, m5, e2, e3, e4, e5, e6, e7, e8⟩ := bnd_room (d := (oldA d 4).1) (fun x => Nat.le_trans ((old_low (d := d) (.inl rfl)).2.1 x) (hv x)) false
      exact bnd_add k hct (by omega) (by omega) (by omega)
  · next h4 =>
    rw [if_neg h4] at hct
    split
    · next h5 =>
      rw [if_pos h5] at hct
      split
      · next h6 =>
        rw [if_pos h6] at hct
        have o2 := old_lens d 5 2
        have o3 := old_lens d 5 3
        have o4 := old_lens d 5 4
        have o5 := old_lens d 5 5
        simp at o2 o3 o4 o5
        obtain ⟨m2, m3, m4, m5, e2, e3, e4, e5, e6, e7, e8⟩ := bnd_room (d := (oldA d 5).1) (fun x => Nat.le_trans ((old_low (d := d) (.inr rfl)).2.1 x) (hv x)) false
        exact bnd_add k hct (by omega) (by omega) (by omega)
      · next h6 =>
        rw [if_neg h6] at hct
        obtain ⟨m2, m3, m4, m5, e2, e3, e4, e5, e6, e7, e8⟩ := bnd_room hv false
        exact bnd_add k hct (by omega) (by omega) (by omega)
    · next h5 =>
      exact (show BndA (addA d 2 k) from bnd_add (d := d) k rfl (by omega) (by omega) (by omega))
theorem ask_bnd {d : ArcD} (hv : InvA d) (hok : OkA d) (h : BndA d) (k : ByteArray) : BndA (askA d k).1 := by
  unfold askA
  split
  · exact h
  · next hk =>
    split
    · next h2 => exact bnd_hit h (.inl rfl) h2
    · next h2 =>
      split
      · next h3 => exact bnd_hit h (.inr rfl) h3
      · next h3 =>
        have h0 : tK d k = 0 := by
          have : ¬ (hasA d 2 k || hasA d 3 k) = true := by simp [h2, h3]
          rw [has_t] at this
          omega
        have s4 := step_pos d 4 5
        have s5 := step_pos d 5 4
        obtain ⟨k1, k2, k3, k4⟩ := hok
        show BndA (keepA d k).1
        unfold keepA
        split
        · next h4 => exact bnd_again (d := { d with t := min d.c (d.t + stepA d 4 5) }) hv ⟨k1, k2, by show (0 : Int) ≤ min d.c (d.t + stepA d 4 5); omega, by show min d.c (d.t + stepA d 4 5) ≤ d.c; omega⟩ h hk h0 (.inl rfl) h4 false
        · split
          · next h5 => exact bnd_again (d := { d with t := max 0 (d.t - stepA d 5 4) }) hv ⟨k1, k2, by show (0 : Int) ≤ max 0 (d.t - stepA d 5 4); omega, by show max 0 (d.t - stepA d 5 4) ≤ d.c; omega⟩ h hk h0 (.inr rfl) h5 true
          · exact bnd_newA hv ⟨k1, k2, k3, k4⟩ h k
end Go.Proofs.YtphhnhldbajaoaaGreatDoor
