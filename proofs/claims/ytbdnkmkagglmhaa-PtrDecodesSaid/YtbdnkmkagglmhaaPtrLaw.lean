/-
  What the walks of package ptr's statements share.
-/
import Derived.Test.YtbdnkmkagglmhaaPtrLive
import Derived.Test.YtbdnkmkagglmhaaPtrMath2
import Derived.Test.YtbdnkmkagglmhaaOpenPtr
namespace Go.Proofs.Ytbdnkmkagglmhaa
open Go.RowKit

/-- A pointer in a box of the call's own. -/
structure PB (w0 : World) (g : Nat) (a : Option Addr) (cap : Nat) (p : PtrD) (w : World) : Prop where
  box : Box w g 59 #[.slice a p.locs.length cap, .int .i64 p.len, .int .i64 p.birth, .string p.sum]
  sl : SlP w a p.locs
  bel : Below w0.heap.size w0 w
theorem PB.keep {w0 w w' : World} {g : Nat} {a : Option Addr} {cap : Nat} {p : PtrD} (h : PB w0 g a cap p w) (hb : Below w.heap.size w w') : PB w0 g a cap p w' :=
  ⟨h.box.keep hb h.box.lt, h.sl.keep hb, h.bel.trans (hb.mono h.bel.size)⟩
theorem PB.new {w0 w : World} {a : Option Addr} {cap : Nat} {p : PtrD} (h : SlP w a p.locs) (hb : Below w0.heap.size w0 w) :
    PB w0 w.heap.size a cap p (w.alloc (.cells #[.slice a p.locs.length cap, .int .i64 p.len, .int .i64 p.birth, .string p.sum] 59 (0, 0))) :=
  ⟨Box.new _ _ _, h.keep ((Below.refl _ _).alloc (Nat.le_refl _) _), hb.alloc hb.size _⟩
theorem PB.cells {w0 w : World} {g : Nat} {a : Option Addr} {cap : Nat} {p : PtrD} (h : PB w0 g a cap p w) :
    w.cell? ⟨g, 0, none⟩ = some (.slice a p.locs.length cap) ∧ w.cell? ⟨g, 1, none⟩ = some (.int .i64 p.len) ∧ w.cell? ⟨g, 2, none⟩ = some (.int .i64 p.birth) ∧ w.cell? ⟨g, 3, none⟩ = some (.string p.sum) :=
  ⟨h.box.cell 0 _ rfl, h.box.cell 1 _ rfl, h.box.cell 2 _ rfl, h.box.cell 3 _ rfl⟩
theorem PB.acells {w0 w : World} {g : Nat} {a : Option Addr} {cap : Nat} {p : PtrD} (h : PB w0 g a cap p w) (o : Obj) :
    (w.alloc o).cell? ⟨g, 0, none⟩ = some (.slice a p.locs.length cap) ∧ (w.alloc o).cell? ⟨g, 1, none⟩ = some (.int .i64 p.len) ∧ (w.alloc o).cell? ⟨g, 2, none⟩ = some (.int .i64 p.birth) ∧ (w.alloc o).cell? ⟨g, 3, none⟩ = some (.string p.sum) :=
  (h.keep ((Below.refl _ _).alloc (Nat.le_refl _) o)).cells

theorem PB.drew {w0 w : World} {g : Nat} {a : Option Addr} {cap : Nat} {p : PtrD} (h : PB w0 g a cap p w) : PB w0 g a cap p w.drew := ⟨h.box, h.sl, h.bel.drew⟩

def smallP (p : PtrD) : Prop := p.locs.length ≤ 10 ∧ p.sum.size ≤ 100
instance (p : PtrD) : Decidable (smallP p) := inferInstanceAs (Decidable (_ ∧ _))

theorem small_any (a : Option Addr) (cap : Nat) (p : PtrD) (w : World) : Calls Try.prog 32 #[ptrV a cap p] w fun e w' => e = .returned (.bool (decide (smallP p))) ∧ Below w.heap.size w w' := by
  obtain ⟨l, n, m, s⟩ := p
  unfold ptrV
  simp only
  by_cases h1 : l.length ≤ 10
  · have hi : decide (smallP ⟨l, n, m, s⟩) = decide (s.size ≤ 100) := by unfold smallP; simp [h1]
    have HI := Lib.hid hi
    have h1' : (l.length : Int) ≤ 10 := by omega
    clear hi
    go_enter Try.func32, Try.ntmps32
    go_wp2
    go_ret
    exact ⟨ret_bool (by rw [HI.out]; exact decide_eq_decide.2 (by omega)), (Below.refl _ _).alloc (Nat.le_refl _) _⟩
  · have hi : decide (smallP ⟨l, n, m, s⟩) = false := by unfold smallP; simp [h1]
    have HI := Lib.hid hi
    have h1' : ¬ (l.length : Int) ≤ 10 := by omega
    clear hi
    go_enter Try.func32, Try.ntmps32
    go_wp2
    go_ret
    exact ⟨ret_bool (by rw [HI.out]), (Below.refl _ _).alloc (Nat.le_refl _) _⟩
theorem on_count {p : PtrD} (h : ¬ badP p) : ((if onP p.locs 0 then 1 else 0) + (if onP p.locs 1 then 1 else 0) : Nat) = p.locs.length := by
  have h1 : 1 ≤ p.locs.length ∧ p.locs.length ≤ 2 := Decidable.byContradiction fun hc => h (Or.inl hc)
  have h2 : ∀ x ∈ p.locs, ¬ nowhereP x := fun x hx hn => h (Or.inr (Or.inl ⟨x, hx, hn⟩))
  have h3 : ¬ twins p.locs := fun ht => h (Or.inr (Or.inr (Or.inl ht)))
  have hd : ∀ x ∈ p.locs, x.1 = 0 ∨ x.1 = 1 := fun x hx => by have := h2 x hx; unfold nowhereP at this; omega
  generalize p.locs = l at *
  match l, h1 with
  | [x], _ =>
    rcases hd x (by simp) with h | h <;> simp [onP, h]
  | [x, y], _ =>
    have hne : x.1 ≠ y.1 := fun e => h3 ⟨rfl, e⟩
    rcases hd x (by simp) with h | h <;> rcases hd y (by simp) with h' | h' <;> simp [onP, h, h']
    · exact hne (by rw [h, h'])
    · exact hne (by rw [h, h'])
theorem on_none {p : PtrD} (h : ¬ badP p) (d : Int) (h0 : d ≠ 0) (h1 : d ≠ 1) : onP p.locs d = false := by
  have h2 : ∀ x ∈ p.locs, ¬ nowhereP x := fun x hx hn => h (Or.inr (Or.inl ⟨x, hx, hn⟩))
  unfold onP
  rw [List.any_eq_false]
  intro x hx he
  have := h2 x hx
  unfold nowhereP at this
  have e : x.1 = d := by simpa using he
  omega
end Go.Proofs.Ytbdnkmkagglmhaa
