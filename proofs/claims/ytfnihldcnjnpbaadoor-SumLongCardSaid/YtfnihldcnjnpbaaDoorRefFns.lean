/-
  The reference's numbers, as plain functions: primes, digits, products, roots. (The constants are reckoned by the kernel.)
-/
import Derived.Test.YtfnihldcnjnpbaaDoorShaPlain
namespace Go.Proofs.YtfnihldcnjnpbaaDoor

def digL (n : Nat) : Nat → List Nat
  | 0 => []
  | k + 1 => digL n k ++ [n / 65536 ^ k % 65536]
def tIn (b : List Nat) (x i : Nat) (o : List Nat) : Nat → List Nat × Nat
  | 0 => (o, 0)
  | j + 1 =>
    match tIn b x i o j with
    | (l, c) => (l.set (i + j) ((l.getD (i + j) 0 + x * b.getD j 0 + c) % 65536), (l.getD (i + j) 0 + x * b.getD j 0 + c) / 65536)
def tOut (a b : List Nat) : Nat → List Nat
  | 0 => List.replicate (a.length + b.length) 0
  | i + 1 =>
    match tIn b (a.getD i 0) i (tOut a b i) b.length with
    | (l, c) => l.set (i + b.length) (l.getD (i + b.length) 0 + c)
def timesL (a b : List Nat) : List Nat := tOut a b a.length
/-- Is one list of digits greater than another one? (Of the digits below k, from the highest down.) -/
def aboveK (a b : List Nat) : Nat → Bool
  | 0 => false
  | k + 1 => if a.getD k 0 = b.getD k 0 then aboveK a b k else decide (b.getD k 0 < a.getD k 0)
def aboveL (a b : List Nat) : Bool := aboveK a b (max a.length b.length)
def goalL (p power : Nat) : List Nat := List.replicate (2 * power) 0 ++ digL p 2
def powL (y power : Nat) : List Nat := if power = 3 then timesL (timesL (digL y 3) (digL y 3)) (digL y 3) else timesL (digL y 3) (digL y 3)
def rootK (p power : Nat) : Nat → Nat
  | 0 => 0
  | k + 1 => if aboveL (powL (rootK p power k + 2 ^ (40 - k)) power) (goalL p power) then rootK p power k else rootK p power k + 2 ^ (40 - k)
def rootL (p power : Nat) : Nat := rootK p power 41 % 4294967296

/-- The primes found behind j numbers from 2 on. -/
def prK : Nat → List Nat
  | 0 => []
  | j + 1 => if (prK j).all (fun p => (j + 2) % p != 0) then prK j ++ [j + 2] else prK j
theorem pr_len : (prK 310).length = 64 := by decide +kernel
theorem pr_less : (List.range 310).all (fun j => decide ((prK j).length < 64)) = true := by decide +kernel
theorem pr_lt (j : Nat) (h : j < 310) : (prK j).length < 64 := by
  have := List.all_eq_true.1 pr_less j (List.mem_range.2 h)
  simpa using this
theorem pr_two : ∀ j, ∀ p ∈ prK j, 2 ≤ p
  | 0 => fun p h => by simp [prK] at h
  | j + 1 => fun p h => by
    rw [prK] at h
    split at h
    · rcases List.mem_append.1 h with h | h
      · exact pr_two j p h
      · rw [List.mem_singleton.1 h]; omega
    · exact pr_two j p h
theorem all_snoc (l : List Nat) (i : Nat) (p : Nat) (k : Nat) (h : l[i]? = some p) : (l.take (i + 1)).all (fun q => k % q != 0) = ((l.take i).all (fun q => k % q != 0) && (k % p != 0)) := by
  obtain ⟨hl, rfl⟩ := List.getElem?_eq_some_iff.1 h
  rw [List.take_succ_eq_append_getElem hl, List.all_append]
  simp
end Go.Proofs.YtfnihldcnjnpbaaDoor
