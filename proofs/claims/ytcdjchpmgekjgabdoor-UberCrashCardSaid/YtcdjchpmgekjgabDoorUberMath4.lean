/-
  The ring behind a root that was flushed and a crash of the next one's write.
-/
import Derived.Test.YtcdjchpmgekjgabDoorUberMath2
namespace Go.Proofs.YtcdjchpmgekjgabDoor
open Go.RowKit

theorem kept_two (x y : WrD) (keep : List Bool) : keptL [x, y] keep = (if keep.getD 0 false = true then [x] else []) ++ (if keep.getD 1 false = true then [y] else []) := by
  unfold keptL
  rw [show List.range [x, y].length = [0, 1] from rfl]
  simp only [List.filter_cons, List.filter_nil]
  generalize keep.getD 0 false = k0
  generalize keep.getD 1 false = k1
  cases k0 <;> cases k1 <;> rfl
def crA (t : Int) (a : ByteArray) : DevD := endD (wrU (newD 9 9) ⟨t, a⟩) (wrU (newD 9 9) ⟨t, a⟩).waits
def crB (t : Int) (a b : ByteArray) : DevD := wrU (crA t a) ⟨t + 1, b⟩
theorem crash_best (t : Int) (a b : ByteArray) (keep : List Bool) (h0 : 0 ≤ t) (h1 : t < 1099511627776) (ha : a.size ≤ 900) (hb : b.size ≤ 900) :
    mayU ⟨t, a⟩ ∧ mayU ⟨t + 1, b⟩ ∧ uwR (newD 9 9) ⟨t, a⟩ = 0 ∧ (wrU (newD 9 9) ⟨t, a⟩).waits.length = 2 ∧ (crA t a).waits = [] ∧ uwR (crA t a) ⟨t + 1, b⟩ = 0 ∧ (crB t a b).waits.length = 2 ∧
    (bestU (crashD (crB t a b) keep) = (⟨t, a⟩, true) ∨ bestU (crashD (crB t a b) keep) = (⟨t + 1, b⟩, true)) ∧ ∀ l, (tellD (crashD (crB t a b) keep) l).size ≤ 2000 := by
  have hma : mayU ⟨t, a⟩ := ⟨h0, by simp only; omega, by simp only; omega⟩
  have hmb : mayU ⟨t + 1, b⟩ := ⟨by simp only; omega, by simp only; omega, by simp only; omega⟩
  obtain ⟨h2, hw, hu, hl⟩ := (Rg.new 9).round (by decide) ⟨t, a⟩ hma rfl
  obtain ⟨h3, h4, h5⟩ := h2.put (by decide) ⟨t + 1, b⟩ hmb
  rw [hw, List.nil_append] at h4
  simp only at h2 h3 h4
  have hp : 0 ≤ (t + 1) % 4 ∧ (t + 1) % 4 < (9 : Nat) := by omega
  have hws : keptL (crB t a b).waits keep = (if keep.getD 0 false = true then [(((0 : Int), (t + 1) % 4), (encU ⟨t + 1, b⟩).1)] else []) ++ (if keep.getD 1 false = true then [(((1 : Int), (t + 1) % 4), (encU ⟨t + 1, b⟩).1)] else []) := by
    rw [show (crB t a b).waits = _ from h4]
    exact kept_two _ _ keep
  have hok : ∀ x ∈ keptL (crB t a b).waits keep, two x.1.1 ∧ 0 ≤ x.1.2 ∧ x.1.2 < (9 : Nat) := by
    rw [hws]
    intro x hx
    have : x = (((0 : Int), (t + 1) % 4), (encU ⟨t + 1, b⟩).1) ∨ x = (((1 : Int), (t + 1) % 4), (encU ⟨t + 1, b⟩).1) := by
      rcases List.mem_append.1 hx with h | h
      · split at h
        · exact .inl (List.mem_singleton.1 h)
        · cases h
      · split at h
        · exact .inr (List.mem_singleton.1 h)
        · cases h
    rcases this with rfl | rfl
    · exact ⟨.inl rfl, hp.1, hp.2⟩
    · exact ⟨.inr rfl, hp.1, hp.2⟩
  obtain ⟨h6, h7⟩ := h3.end' (keptL (crB t a b).waits keep) hok
  have hT : ∀ dev j : Int, two dev → (keptL (crB t a b).waits keep).foldl upd (fun _ j => if j = t % 4 then (encU ⟨t, a⟩).1 else ⟨#[]⟩) dev j = if (if dev = 0 then keep.getD 0 false else keep.getD 1 false) = true ∧ j = (t + 1) % 4 then (encU ⟨t + 1, b⟩).1 else if j = t % 4 then (encU ⟨t, a⟩).1 else ⟨#[]⟩ := by
    intro dev j hd
    rw [hws]
    generalize (encU ⟨t + 1, b⟩).1 = s
    generalize (encU ⟨t, a⟩).1 = s2
    generalize (t + 1) % 4 = p
    have hpj : ∀ q : Int, (((q, p) : Int × Int) = (dev, j)) ↔ (q = dev ∧ p = j) := fun q => by rw [Prod.mk.injEq]
    cases keep.getD 0 false <;> cases keep.getD 1 false <;> rcases hd with rfl | rfl <;> by_cases e : p = j <;> first | (subst e; simp [upd]; done) | (simp [upd, e, Ne.symm e]; done)
  refine ⟨hma, hmb, hu, hl, hw, h5, by show (wrU (crA t a) ⟨t + 1, b⟩).waits.length = 2; rw [show (wrU (crA t a) ⟨t + 1, b⟩).waits = _ from h4]; rfl, ?_, ?_⟩
  · have := ring_two (d := crashD (crB t a b) keep) h6 (by decide) ⟨t, a⟩ ⟨t + 1, b⟩ hma hmb (by simp only; omega) (by simp only; omega) (fun dev => if dev = 0 then keep.getD 0 false else keep.getD 1 false) (fun dev j hd _ _ => hT dev j hd)
    rw [this]
    generalize (_ || _ : Bool) = q
    cases q
    · exact .inl rfl
    · exact .inr rfl
  · refine Rg.small (d := crashD (crB t a b) keep) h6 (fun dev j hd _ _ => ?_)
    have := hT dev j hd
    show ByteArray.size ((keptL (crB t a b).waits keep).foldl upd _ dev j) ≤ 2000
    rw [this]
    have e1 := encU_size hma
    have e2 := encU_size hmb
    simp only at e1 e2
    by_cases hc : (if dev = 0 then keep.getD 0 false else keep.getD 1 false) = true ∧ j = (t + 1) % 4
    · rw [if_pos hc]; omega
    · rw [if_neg hc]
      split
      · omega
      · exact Nat.zero_le _
end Go.Proofs.YtcdjchpmgekjgabDoor
