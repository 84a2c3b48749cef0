/-
  Plain math: places that are given one by one come to Of's runs.
-/
import Derived.Test.YtmndeohhanbjkaaSpaceMath5
namespace Go.Proofs.Ytmndeohhanbjkaa
open Go.RowKit Go.ChangeShapes Go.WideShapes Go.ChangeAt

theorem may_count : ∀ {l : List (Int × Int)} {m B : Int}, 0 ≤ m → mayF m l = true → (∀ p, Had l p → p < B) → m ≤ B → (l.length : Int) ≤ B - m
  | [], m, B, _, _, _, h => by simp; omega
  | x :: l, m, B, hm, h, hb, _ => by
    rw [mayF, Bool.and_eq_true, decide_eq_true_eq] at h
    have h1 := hb (x.1 + x.2 - 1) ((had_cons _ _ _).2 (.inl (by omega)))
    rcases Int.lt_or_le B (x.1 + x.2 + 1) with h2 | h2
    · cases l with
      | nil => simp; omega
      | cons y r =>
        have h3 := h.2
        rw [mayF, Bool.and_eq_true, decide_eq_true_eq] at h3
        have := hb y.1 ((had_cons _ _ _).2 (.inr ((had_cons _ _ _).2 (.inl (by omega)))))
        omega
    · have := may_count (l := l) (m := x.1 + x.2 + 1) (B := B) (by omega) h.2 (fun p hp => hb p ((had_cons _ _ _).2 (.inr hp))) h2
      simp only [List.length_cons]
      omega
theorem wf_may {l : List (Int × Int)} (h : mayL l = true) : WfP l := by
  intro x hx
  have := (may_mem (m := 0) (by omega) h x hx).1
  unfold MayR at this
  have key : ∀ n : Int, 0 ≤ n → n ≤ 1073741824 → (Lit.int .i64 n).wf = true := fun n h1 h2 => by
    have h3 : IntKind.i64.min ≤ n ∧ n ≤ IntKind.i64.max := by
      rw [show IntKind.i64.min = -9223372036854775808 from rfl, show IntKind.i64.max = 9223372036854775807 from rfl]
      omega
    simpa [Lit.wf] using h3
  exact ⟨key _ (by omega) (by omega), key _ (by omega) (by omega)⟩
/-- The runs xl have just the free places among the first k that are told, from t on. -/
def AllI (u : List Bool) (t k : Nat) (xl : List (Int × Int)) : Prop :=
  mayL xl = true ∧ ∀ p, Had xl p ↔ ∃ j : Nat, j < k ∧ p = (((j + t) % u.length : Nat) : Int) ∧ u.getD ((j + t) % u.length) true = false
theorem AllI.zero (u : List Bool) (t : Nat) : AllI u t 0 [] := ⟨rfl, fun p => ⟨fun h => absurd h (had_nil _), fun ⟨j, h, _⟩ => by omega⟩⟩
theorem AllI.len {u : List Bool} {t k : Nat} {xl : List (Int × Int)} (h : AllI u t k xl) (hu : 0 < u.length) : xl.length ≤ u.length := by
  have := may_count (m := 0) (B := (u.length : Int)) (by omega) h.1 (fun p hp => by
    obtain ⟨j, _, rfl, _⟩ := (h.2 p).1 hp
    have := Nat.mod_lt (j + t) hu
    omega) (by omega)
  omega
theorem AllI.used {u : List Bool} {t k : Nat} {xl : List (Int × Int)} (h : AllI u t k xl) (hq : u.getD ((k + t) % u.length) true = true) : AllI u t (k + 1) xl := by
  refine ⟨h.1, fun p => (h.2 p).trans ⟨fun ⟨j, a, b, c⟩ => ⟨j, by omega, b, c⟩, fun ⟨j, a, b, c⟩ => ?_⟩⟩
  rcases Nat.lt_or_ge j k with hj | hj
  · exact ⟨j, hj, b, c⟩
  · obtain rfl : j = k := by omega
    rw [hq] at c
    cases c
theorem mod_ne {n t j k : Nat} (hj : j < k) (hk : k < n) (h : (j + t) % n = (k + t) % n) : False := by
  have h1 := Nat.sub_mod_eq_zero_of_mod_eq h.symm
  rw [show k + t - (j + t) = k - j by omega, Nat.mod_eq_of_lt (by omega)] at h1
  omega
theorem AllI.free {u : List Bool} {t k : Nat} {xl : List (Int × Int)} (h : AllI u t k xl) (hu : u.length ≤ 200) (hk : k < u.length) (hq : u.getD ((k + t) % u.length) true = false) :
    (giveL xl ((((k + t) % u.length : Nat) : Int), 1)).2 = true ∧ AllI u t (k + 1) (giveL xl ((((k + t) % u.length : Nat) : Int), 1)).1 := by
  have hlt := Nat.mod_lt (k + t) (show 0 < u.length by omega)
  generalize hp : (k + t) % u.length = p at *
  have hr : mayL [((p : Int), (1 : Int))] = true := by
    unfold mayL
    rw [mayF, Bool.and_eq_true, decide_eq_true_eq]
    exact ⟨⟨by simp only; omega, by simp only; omega, by simp only; omega⟩, rfl⟩
  obtain ⟨h1, h2⟩ := give_spec h.1 hr
  have hg : (giveL xl ((p : Int), 1)).2 = true := h1.2 fun x hx => by
    cases hm : meetB x ((p : Int), 1)
    · rfl
    · unfold meetB at hm
      simp only [Bool.and_eq_true, decide_eq_true_eq] at hm
      obtain ⟨j, hj, hjp, _⟩ := (h.2 (p : Int)).1 ⟨x, hx, by omega, by omega⟩
      exact (mod_ne hj hk (by rw [hp]; omega)).elim
  obtain ⟨h3, h4⟩ := h2 hg
  refine ⟨hg, h3, fun q => (h4 q).trans ?_⟩
  rw [h.2 q]
  constructor
  · rintro (⟨j, a, b, c⟩ | ⟨a, b⟩)
    · exact ⟨j, by omega, b, c⟩
    · refine ⟨k, by omega, ?_, by rw [hp]; exact hq⟩
      simp only at a b
      rw [hp]
      omega
  · rintro ⟨j, a, b, c⟩
    rcases Nat.lt_or_ge j k with hj | hj
    · exact .inl ⟨j, hj, b, c⟩
    · obtain rfl : j = k := by omega
      rw [hp] at b
      exact .inr ⟨by simp only; omega, by simp only; omega⟩
theorem AllI.done {u : List Bool} {t : Nat} {xl : List (Int × Int)} (h : AllI u t u.length xl) (hu : u.length ≤ 200) : xl = ofL u := by
  obtain ⟨h1, h2⟩ := of_spec u u.length (by omega)
  refine may_uniq (a := 0) (b := 0) (by omega) (by omega) h.1 h1 fun p => ?_
  rw [h.2 p]
  refine Iff.trans ?_ (h2 p).symm
  constructor
  · rintro ⟨j, hj, rfl, hq⟩
    exact ⟨_, Nat.mod_lt _ (by omega), rfl, hq⟩
  · rintro ⟨i, hi, rfl, hq⟩
    have hn : 0 < u.length := by omega
    have ht := Nat.mod_lt t hn
    have hi2 : ((i + u.length - t % u.length) % u.length + t) % u.length = i := by
      rw [Nat.mod_add_mod]
      have e := Nat.div_add_mod t u.length
      rw [show i + u.length - t % u.length + t = i + u.length * (t / u.length + 1) by rw [Nat.mul_add, Nat.mul_one]; omega, Nat.add_mul_mod_self_left, Nat.mod_eq_of_lt hi]
    exact ⟨(i + u.length - t % u.length) % u.length, Nat.mod_lt _ hn, by rw [hi2], by rw [hi2]; exact hq⟩
theorem has_of (u : List Bool) (hu : u.length ≤ 200) (i : Nat) (hi : i < u.length) : hasL (ofL u) i = !u[i] := by
  obtain ⟨h1, h2⟩ := of_spec u u.length (by omega)
  unfold hasL
  rw [show mayL (ofL u) = true from h1, Bool.true_and]
  cases hu : u[i]
  · exact (had_any _ _).2 ((h2 _).2 ⟨i, hi, rfl, by simp [List.getD, List.getElem?_eq_getElem hi, hu]⟩)
  · rw [Bool.not_true, Bool.eq_false_iff]
    intro h
    obtain ⟨j, _, hj, hq⟩ := (h2 _).1 ((had_any _ _).1 h)
    obtain rfl : i = j := by omega
    simp [List.getD, List.getElem?_eq_getElem hi, hu] at hq
theorem may_of (u : List Bool) (hu : u.length ≤ 200) : mayL (ofL u) = true := (of_spec u u.length (by omega)).1
end Go.Proofs.Ytmndeohhanbjkaa
