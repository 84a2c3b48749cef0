/-
  Pointers as plain data, and what package ptr computes of them.
-/
import Derived.Test.YtbdnkmkagglmhaaFrame
import Derived.Test.YtbdnkmkagglmhaaPut
namespace Go.Proofs.Ytbdnkmkagglmhaa
open Go.RowKit

structure PtrD where
  locs : List (Int × Int)
  len : Int
  birth : Int
  sum : ByteArray

/-- A slice of pairs of ints. -/
def SlP (w : World) (a : Option Addr) (l : List (Int × Int)) : Prop :=
  l ≠ [] → ∃ b off, a = some ⟨b, off, none⟩ ∧ b < w.heap.size ∧
    ∀ i x, l[i]? = some x → w.cell? ⟨b, off + i * 2, none⟩ = some (.int .i64 x.1) ∧ w.cell? ⟨b, off + i * 2 + 1, none⟩ = some (.int .i64 x.2)
theorem SlP.nil {w : World} {a : Option Addr} : SlP w a [] := fun h => absurd rfl h
theorem SlP.keep {w w' : World} {a : Option Addr} {l : List (Int × Int)} (h : SlP w a l) (hb : Below w.heap.size w w') : SlP w' a l := by
  intro hne
  obtain ⟨b, off, e, hl, hc⟩ := h hne
  exact ⟨b, off, e, Nat.lt_of_lt_of_le hl hb.size, fun i x hx => ⟨by rw [hb.cell hl]; exact (hc i x hx).1, by rw [hb.cell hl]; exact (hc i x hx).2⟩⟩
theorem SlP.get {w : World} {a : Option Addr} {l : List (Int × Int)} (h : SlP w a l) (i : Nat) (hi : i < l.length) :
    ∃ b off, a = some ⟨b, off, none⟩ ∧ b < w.heap.size ∧ w.cell? ⟨b, off + i * 2, none⟩ = some (.int .i64 (l[i]).1) ∧ w.cell? ⟨b, off + i * 2 + 1, none⟩ = some (.int .i64 (l[i]).2) := by
  obtain ⟨b, off, e, hl, hc⟩ := h (by intro h; rw [h] at hi; simp at hi)
  exact ⟨b, off, e, hl, hc i _ (List.getElem?_eq_getElem hi)⟩

def ptrV (a : Option Addr) (cap : Nat) (p : PtrD) : Value := .agg #[.slice a p.locs.length cap, .int .i64 p.len, .int .i64 p.birth, .string p.sum]

def nowhereP (x : Int × Int) : Prop := (x.1 ≠ 0 ∧ x.1 ≠ 1) ∨ ¬ (0 ≤ x.2 ∧ x.2 ≤ 511)
instance (x : Int × Int) : Decidable (nowhereP x) := inferInstanceAs (Decidable (_ ∨ _))
def twins (l : List (Int × Int)) : Prop := l.length = 2 ∧ (l.getD 0 (0, 0)).1 = (l.getD 1 (0, 0)).1
instance (l : List (Int × Int)) : Decidable (twins l) := inferInstanceAs (Decidable (_ ∧ _))
def restBad (p : PtrD) : Prop := ¬ (0 ≤ p.len ∧ p.len ≤ 960) ∨ ¬ (0 ≤ p.birth ∧ p.birth ≤ 1099511627776) ∨ p.sum.size ≠ 32
instance (p : PtrD) : Decidable (restBad p) := inferInstanceAs (Decidable (_ ∨ _ ∨ _))
def badP (p : PtrD) : Prop := ¬ (1 ≤ p.locs.length ∧ p.locs.length ≤ 2) ∨ (∃ x ∈ p.locs, nowhereP x) ∨ twins p.locs ∨ restBad p
instance (p : PtrD) : Decidable (badP p) := inferInstanceAs (Decidable (_ ∨ _ ∨ _ ∨ _))
/-- Check's answer. -/
def chkP (p : PtrD) : Int := if badP p then 1 else 0

def locB (x : Int × Int) : ByteArray := putB x.1 1 ++ putB x.2 2
def locsB (l : List (Int × Int)) : ByteArray := l.foldl (fun s x => s ++ locB x) ⟨#[]⟩
/-- A pointer's text. -/
def encB (p : PtrD) : ByteArray := p.locs.foldl (fun s x => s ++ locB x) (putB p.locs.length 1) ++ putB p.len 2 ++ putB p.birth 6 ++ p.sum
end Go.Proofs.Ytbdnkmkagglmhaa
