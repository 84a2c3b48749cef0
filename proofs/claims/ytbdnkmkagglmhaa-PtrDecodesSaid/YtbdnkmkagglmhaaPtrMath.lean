/-
  Pointers' texts, as plain bytes: what is encoded is decoded as it was, and the other way round.
-/
import Derived.Test.YtbdnkmkagglmhaaPtrDec
import Derived.Test.YtbdnkmkagglmhaaPtrEnc
namespace Go.Proofs.Ytbdnkmkagglmhaa
open Go.RowKit

def bl (s : ByteArray) : List UInt8 := s.data.toList
theorem bl_size (s : ByteArray) : (bl s).length = s.size := by simp [bl]
theorem bl_append (a b : ByteArray) : bl (a ++ b) = bl a ++ bl b := by simp [bl]
theorem bl_ext {a b : ByteArray} (h : bl a = bl b) : a = b := by
  apply ByteArray.ext
  exact Array.toList_inj.1 h
theorem bl_mk (l : List UInt8) : bl ⟨l.toArray⟩ = l := by simp [bl]

def vL (l : List UInt8) (k n : Nat) : List UInt8 := (l.drop k).take n
theorem vL_here {B C : List UInt8} {n : Nat} (h : B.length = n) : vL (B ++ C) 0 n = B := by
  subst h; simp [vL]
theorem vL_last {B : List UInt8} {n : Nat} (h : B.length = n) : vL B 0 n = B := by
  subst h; simp [vL]
theorem vL_skip {A T : List UInt8} {a k n : Nat} (h : A.length = a) (hk : a ≤ k) : vL (A ++ T) k n = vL T (k - a) n := by
  subst h
  unfold vL
  rw [List.drop_append, List.drop_of_length_le hk, List.nil_append]
theorem vL_join (l : List UInt8) (k n : Nat) : vL l k n ++ l.drop (k + n) = l.drop k := by
  unfold vL
  rw [← List.drop_drop]
  exact List.take_append_drop n (l.drop k)

theorem valB_bl (s : ByteArray) (k n : Nat) (h : k + n ≤ s.size) : bl (valB s k n) = vL (bl s) k n := by
  unfold valB
  rw [if_pos h]
  unfold bl vL
  rw [ByteArray.data_extract, Array.toList_extract]
  simp only [List.extract_eq_take_drop]
  congr 1
  omega
theorem valN_bl (s : ByteArray) (k n : Nat) (h : k + n ≤ s.size) : valN s k n = leVal (vL (bl s) k n) := by
  rw [← valB_bl s k n h]; rfl

theorem leVal_leL : ∀ (n k : Nat), n < 256 ^ k → leVal (leList n k) = n
  | n, 0, h => by simp at h; subst h; rfl
  | n, k + 1, h => by
    have : n / 256 < 256 ^ k := by rw [Nat.pow_succ] at h; omega
    simp only [leList, leVal, leVal_leL (n / 256) k this]
    have : (UInt8.ofNat n).toNat = n % 256 := by simp
    omega
theorem leL_leVal : ∀ l : List UInt8, leList (leVal l) l.length = l
  | [] => rfl
  | x :: r => by
    have hx := x.toNat_lt
    simp only [leVal, List.length_cons, leList]
    rw [show (x.toNat + 256 * leVal r) / 256 = leVal r by omega, leL_leVal r]
    congr 1
    apply UInt8.toNat_inj.1
    simp

theorem putB_bl (n w : Nat) (h1 : 1 ≤ w) (h7 : w ≤ 7) (h : n < 256 ^ w) : bl (putB n w) = leList n w := by
  unfold putB
  rw [if_neg, Int.toNat_natCast, Int.toNat_natCast, bl_mk]
  unfold mostI
  rw [if_pos (by omega), Int.toNat_natCast]
  have : ((n : Nat) : Int) < ((256 ^ w : Nat) : Int) := by exact_mod_cast h
  rw [Int.natCast_pow] at this
  have h2 : ((256 : Nat) : Int) ^ w = (256 : Int) ^ w := rfl
  omega

/-- A pointer that may be, in natural numbers. -/
structure Good (p : PtrD) (l : List (Nat × Nat)) (n m : Nat) : Prop where
  locs : p.locs = l.map fun x => ((x.1 : Int), (x.2 : Int))
  len : p.len = n
  birth : p.birth = m
  l1 : 1 ≤ l.length ∧ l.length ≤ 2
  lb : ∀ x ∈ l, x.1 < 256 ∧ x.2 < 65536
  nb : n < 65536
  mb : m < 281474976710656
  sb : p.sum.size = 32

theorem good_of {p : PtrD} (h : ¬ badP p) : ∃ l n m, Good p l n m := by
  have h1 : 1 ≤ p.locs.length ∧ p.locs.length ≤ 2 := Decidable.byContradiction fun hc => h (Or.inl hc)
  have h2 : ∀ x ∈ p.locs, ¬ nowhereP x := fun x hx hn => h (Or.inr (Or.inl ⟨x, hx, hn⟩))
  have h3 : ¬ restBad p := fun hr => h (Or.inr (Or.inr (Or.inr hr)))
  have h4 : (0 ≤ p.len ∧ p.len ≤ 960) ∧ (0 ≤ p.birth ∧ p.birth ≤ 1099511627776) ∧ p.sum.size = 32 := by
    unfold restBad at h3; omega
  have h5 : ∀ x ∈ p.locs, 0 ≤ x.1 ∧ x.1 ≤ 1 ∧ 0 ≤ x.2 ∧ x.2 ≤ 511 := fun x hx => by
    have := h2 x hx; unfold nowhereP at this; omega
  refine ⟨p.locs.map fun x => (x.1.toNat, x.2.toNat), p.len.toNat, p.birth.toNat, ?_, by omega, by omega, by simpa using h1, ?_, by omega, by omega, h4.2.2⟩
  · rw [List.map_map]
    have : ∀ l : List (Int × Int), (∀ x ∈ l, 0 ≤ x.1 ∧ x.1 ≤ 1 ∧ 0 ≤ x.2 ∧ x.2 ≤ 511) → l = l.map ((fun x : Nat × Nat => ((x.1 : Int), (x.2 : Int))) ∘ fun x : Int × Int => (x.1.toNat, x.2.toNat)) := by
      intro l hl
      induction l with
      | nil => rfl
      | cons y r ih =>
        have hy := hl y (List.mem_cons_self ..)
        rw [List.map_cons, ← ih (fun x hx => hl x (List.mem_cons_of_mem _ hx))]
        congr 1
        obtain ⟨y1, y2⟩ := y
        simp only at hy
        show (y1, y2) = (((y1.toNat : Nat) : Int), ((y2.toNat : Nat) : Int))
        rw [show ((y1.toNat : Nat) : Int) = y1 by omega, show ((y2.toNat : Nat) : Int) = y2 by omega]
    exact this p.locs h5
  · intro x hx
    obtain ⟨y, hy, rfl⟩ := List.mem_map.1 hx
    have := h5 y hy
    simp only
    omega

def locBL (x : Nat × Nat) : List UInt8 := leList x.1 1 ++ leList x.2 2
theorem locB_bl (x : Nat × Nat) (h : x.1 < 256 ∧ x.2 < 65536) : bl (locB ((x.1 : Int), (x.2 : Int))) = locBL x := by
  unfold locB locBL
  rw [bl_append]
  have e1 := putB_bl x.1 1 (by decide) (by decide) h.1
  have e2 := putB_bl x.2 2 (by decide) (by decide) h.2
  rw [← e1, ← e2]; rfl

theorem encB_bl {p : PtrD} {l : List (Nat × Nat)} {n m : Nat} (g : Good p l n m) : bl (encB p) = leList l.length 1 ++ (l.flatMap locBL ++ (leList n 2 ++ (leList m 6 ++ bl p.sum))) := by
  have hf : ∀ (l : List (Nat × Nat)) (acc : ByteArray), (∀ x ∈ l, x.1 < 256 ∧ x.2 < 65536) → bl ((l.map fun x => ((x.1 : Int), (x.2 : Int))).foldl (fun s x => s ++ locB x) acc) = bl acc ++ l.flatMap locBL := by
    intro l
    induction l with
    | nil => intro acc _; simp
    | cons x r ih =>
      intro acc hx
      rw [List.map_cons, List.foldl_cons, ih _ (fun y hy => hx y (List.mem_cons_of_mem _ hy)), bl_append, locB_bl x (hx x (List.mem_cons_self ..)), List.flatMap_cons, List.append_assoc]
  have hl := g.l1
  unfold encB
  rw [g.locs, g.len, g.birth, bl_append, bl_append, bl_append, hf l _ g.lb, List.length_map]
  have e0 := putB_bl l.length 1 (by decide) (by decide) (by omega)
  have e1 := putB_bl n 2 (by decide) (by decide) g.nb
  have e2 := putB_bl m 6 (by decide) (by decide) g.mb
  rw [show bl (putB (l.length : Nat) 1) = leList l.length 1 from e0, show bl (putB (n : Nat) 2) = leList n 2 from e1, show bl (putB (m : Nat) 6) = leList m 6 from e2]
  simp only [List.append_assoc]

theorem encB_size {p : PtrD} (h : ¬ badP p) : (encB p).size = 41 + 3 * p.locs.length := by
  obtain ⟨l, n, m, g⟩ := good_of h
  have hl : (l.flatMap locBL).length = l.length * 3 := by
    have : ∀ l : List (Nat × Nat), (l.flatMap locBL).length = l.length * 3 := by
      intro l
      induction l with
      | nil => rfl
      | cons x r ih => rw [List.flatMap_cons, List.length_append, ih]; simp [locBL, leList_length]; omega
    exact this l
  rw [← bl_size, encB_bl g]
  simp only [List.length_append, leList_length, bl_size, hl, g.sb, g.locs, List.length_map]
  omega
end Go.Proofs.Ytbdnkmkagglmhaa
