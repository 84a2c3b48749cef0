/-
  The ring behind several roots: which is the best.
-/
import Derived.Test.YtkapbkkbkfmidaaDoorUberMath
namespace Go.Proofs.YtkapbkkbkfmidaaDoor
open Go.RowKit

theorem Rg.congr {n : Nat} {d : DevD} {T H T' H' : Int → Int → ByteArray} {lost : Int → Bool} (h : Rg n d T H lost) (hT : ∀ dev j : Int, two dev → 0 ≤ j → j < n → T dev j = T' dev j) (hH : ∀ dev j : Int, two dev → 0 ≤ j → j < n → H dev j = H' dev j) : Rg n d T' H' lost :=
  ⟨h.sz, h.tl, h.lo, fun dev j a b c => (h.te dev j a b c).trans (hT dev j a b c), fun dev j a b c => (h.ha dev j a b c).trans (hH dev j a b c)⟩
theorem upd_two (H : Int → Int → ByteArray) (p : Int) (s : ByteArray) (dev j : Int) (hd : two dev) : [((0, p), s), ((1, p), s)].foldl upd H dev j = if j = p then s else H dev j := by
  show upd (upd H ((0, p), s)) ((1, p), s) dev j = _
  unfold upd
  simp only [Prod.mk.injEq]
  rcases hd with rfl | rfl
  · by_cases e : j = p
    · simp [e]
    · simp [e, Ne.symm e]
  · by_cases e : j = p
    · simp [e]
    · simp [e, Ne.symm e]
/-- A root that is written and flushed to a ring that is whole, nothing waiting. -/
theorem Rg.round {n : Nat} {d : DevD} {T : Int → Int → ByteArray} (h : Rg n d T T (fun _ => false)) (hn : 4 ≤ n) (u : UbD) (hm : mayU u) (hw : d.waits = []) :
    Rg n (endD (wrU d u) (wrU d u).waits) (fun dev j => if j = u.txg % 4 then (encU u).1 else T dev j) (fun dev j => if j = u.txg % 4 then (encU u).1 else T dev j) (fun _ => false) ∧ (endD (wrU d u) (wrU d u).waits).waits = [] ∧ uwR d u = 0 ∧ (wrU d u).waits.length = 2 := by
  obtain ⟨h1, h2, h3⟩ := h.put hn u hm
  rw [hw, List.nil_append] at h2
  have hok : ∀ x ∈ (wrU d u).waits, two x.1.1 ∧ 0 ≤ x.1.2 ∧ x.1.2 < n := by
    rw [h2]
    intro x hx
    have : 0 ≤ u.txg % 4 ∧ u.txg % 4 < n := by omega
    simp only [List.mem_cons, List.not_mem_nil, or_false] at hx
    rcases hx with rfl | rfl
    · exact ⟨.inl rfl, this.1, this.2⟩
    · exact ⟨.inr rfl, this.1, this.2⟩
  obtain ⟨h4, h5⟩ := h1.end' (wrU d u).waits hok
  refine ⟨h4.congr (fun dev j hd _ _ => ?_) (fun dev j hd _ _ => ?_), h5, h3, by rw [h2]; rfl⟩
  · rw [h2]; exact upd_two _ _ _ dev j hd
  · rw [h2]; exact upd_two _ _ _ dev j hd

/-- Of two roots the later one, if either copy of it is there. -/
theorem ring_two {n : Nat} {d : DevD} {T H : Int → Int → ByteArray} (h : Rg n d T H (fun _ => false)) (hn : 4 ≤ n) (a b : UbD) (ha : mayU a) (hb : mayU b) (hab : a.txg < b.txg) (_hp : a.txg % 4 ≠ b.txg % 4) (kept : Int → Bool)
    (hT : ∀ dev j : Int, two dev → 0 ≤ j → j < 4 → T dev j = if kept dev = true ∧ j = b.txg % 4 then (encU b).1 else if j = a.txg % 4 then (encU a).1 else ⟨#[]⟩) : bestU d = (if kept 0 || kept 1 then b else a, true) := by
  have hr : ∀ dev j : Int, two dev → 0 ≤ j → j < 4 → rtU (T dev j) j = if kept dev = true ∧ j = b.txg % 4 then b else if j = a.txg % 4 then a else ubN := by
    intro dev j hd h0 h1
    rw [hT dev j hd h0 h1]
    split
    · rename_i hc
      rw [rt_enc hb, if_pos hc.2.symm]
    · split
      · rename_i hc
        rw [rt_enc ha, if_pos hc.symm]
      · exact rt_short ⟨#[]⟩ _ (by decide)
  have hk : ∀ k, k < 8 → urootK d k = if kept ((k / 4 : Nat) : Int) = true ∧ ((k % 4 : Nat) : Int) = b.txg % 4 then b else if ((k % 4 : Nat) : Int) = a.txg % 4 then a else ubN := fun k hk => by
    rw [h.root hn k hk]
    exact hr _ _ (by unfold two; omega) (by omega) (by omega)
  have hN : ubN.txg = -1 := rfl
  have ha0 := ha.1
  have hb0 := hb.1
  have hdev : ∀ k, k < 8 → ((k / 4 : Nat) : Int) = 0 ∨ ((k / 4 : Nat) : Int) = 1 := fun k hk => by omega
  by_cases hq : (kept 0 || kept 1) = true
  · rw [if_pos hq]
    refine best_max d b (fun k hk8 => ?_) ?_ (by omega)
    · rw [hk k hk8]
      split
      · exact .inl rfl
      · split
        · exact .inr hab
        · exact .inr (by rw [hN]; omega)
    · have hq' : kept 0 = true ∨ kept 1 = true := by simpa using hq
      rcases hq' with h0 | h0
      · refine ⟨(b.txg % 4).toNat, by omega, ?_⟩
        rw [hk _ (by omega), if_pos]
        have e : (((b.txg % 4).toNat / 4 : Nat) : Int) = 0 := by omega
        exact ⟨by rw [e]; exact h0, by omega⟩
      · refine ⟨4 + (b.txg % 4).toNat, by omega, ?_⟩
        rw [hk _ (by omega), if_pos]
        have e : (((4 + (b.txg % 4).toNat) / 4 : Nat) : Int) = 1 := by omega
        exact ⟨by rw [e]; exact h0, by omega⟩
  · rw [if_neg hq]
    have h0 : kept 0 = false := by cases hx : kept 0 <;> simp [hx] at hq ⊢
    have h1 : kept 1 = false := by cases hx : kept 1 <;> simp [hx] at hq ⊢
    have hf : ∀ k, k < 8 → kept ((k / 4 : Nat) : Int) = false := fun k hk8 => by
      rcases hdev k hk8 with e | e <;> rw [e] <;> assumption
    refine best_max d a (fun k hk8 => ?_) ⟨(a.txg % 4).toNat, by omega, ?_⟩ (by omega)
    · rw [hk k hk8, if_neg (by rw [hf k hk8]; simp)]
      split
      · exact .inl rfl
      · exact .inr (by rw [hN]; omega)
    · rw [hk _ (by omega), if_neg (by rw [hf _ (by omega)]; simp), if_pos (by omega)]

/-- The last number below n in sector j. -/
def lastT : Nat → Nat → Option Nat
  | 0, _ => none
  | n + 1, j => if n % 4 = j then some n else lastT n j
def txtT (l : Nat → ByteArray) : Option Nat → ByteArray
  | none => ⟨#[]⟩
  | some t => (encU ⟨t, l t⟩).1
def tagR (l : Nat → ByteArray) : Option Nat → UbD
  | none => ubN
  | some t => ⟨t, l t⟩
theorem lastT_is : ∀ (n j t : Nat), lastT n j = some t → t < n ∧ t % 4 = j
  | 0, j, t, h => by cases h
  | n + 1, j, t, h => by
    unfold lastT at h
    split at h
    · rename_i e
      injection h with h
      subst h
      exact ⟨by omega, e⟩
    · obtain ⟨a, b⟩ := lastT_is n j t h
      exact ⟨by omega, b⟩
/-- The devices behind n roots, each flushed. -/
def ringD (l : Nat → ByteArray) : Nat → DevD
  | 0 => newD 9 9
  | n + 1 => endD (wrU (ringD l n) ⟨n, l n⟩) (wrU (ringD l n) ⟨n, l n⟩).waits
def ringT (l : Nat → ByteArray) (n : Nat) (_dev j : Int) : ByteArray := if j < 4 then txtT l (lastT n j.toNat) else ⟨#[]⟩
theorem ring_is (l : Nat → ByteArray) (m : Nat) (hm : m ≤ 1000) (hl : ∀ i, i < m → (l i).size ≤ 960) : ∀ n, n ≤ m → Rg 9 (ringD l n) (ringT l n) (ringT l n) (fun _ => false) ∧ (ringD l n).waits = []
  | 0, _ => ⟨(Rg.new 9).congr (fun dev j _ _ _ => by unfold ringT lastT txtT; split <;> rfl) (fun dev j _ _ _ => by unfold ringT lastT txtT; split <;> rfl), rfl⟩
  | n + 1, hn => by
    obtain ⟨h1, h2⟩ := ring_is l m hm hl n (by omega)
    have hmu : mayU ⟨(n : Int), l n⟩ := ⟨by simp only; omega, by simp only; omega, hl n (by omega)⟩
    obtain ⟨h3, h4, _⟩ := h1.round (by decide) ⟨n, l n⟩ hmu h2
    have hc : ∀ dev j : Int, two dev → 0 ≤ j → j < (9 : Nat) → (if j = (⟨(n : Int), l n⟩ : UbD).txg % 4 then (encU ⟨n, l n⟩).1 else ringT l n dev j) = ringT l (n + 1) dev j := by
      intro dev j _ h0 _
      unfold ringT
      simp only
      by_cases e : j = (n : Int) % 4
      · rw [if_pos e, if_pos (by omega)]
        have : n % 4 = j.toNat := by omega
        unfold lastT
        rw [if_pos this]
        rfl
      · rw [if_neg e]
        by_cases e4 : j < 4
        · rw [if_pos e4, if_pos e4]
          conv => rhs; unfold lastT
          rw [if_neg (by omega)]
        · rw [if_neg e4, if_neg e4]
    exact ⟨h3.congr hc hc, h4⟩
theorem ring_uw (l : Nat → ByteArray) (m : Nat) (hm : m ≤ 1000) (hl : ∀ i, i < m → (l i).size ≤ 960) (n : Nat) (hn : n < m) : mayU ⟨(n : Int), l n⟩ ∧ (wrU (ringD l n) ⟨n, l n⟩).waits.length = 2 := by
  obtain ⟨h1, h2⟩ := ring_is l m hm hl n (by omega)
  have hmu : mayU ⟨(n : Int), l n⟩ := ⟨by simp only; omega, by simp only; omega, hl n hn⟩
  exact ⟨hmu, (h1.round (by decide) ⟨n, l n⟩ hmu h2).2.2.2⟩
theorem tag_root (l : Nat → ByteArray) (m : Nat) (hm : m ≤ 1000) (hl : ∀ i, i < m → (l i).size ≤ 960) (n j : Nat) (hn : n ≤ m) (_hj : j < 4) : rtU (txtT l (lastT n j)) j = tagR l (lastT n j) := by
  cases h : lastT n j with
  | none => exact rt_short ⟨#[]⟩ _ (by decide)
  | some t =>
    obtain ⟨h1, h2⟩ := lastT_is n j t h
    have hmu : mayU ⟨(t : Int), l t⟩ := ⟨by simp only; omega, by simp only; omega, hl t (by omega)⟩
    show rtU (encU ⟨t, l t⟩).1 j = ⟨t, l t⟩
    rw [rt_enc hmu, if_pos (by simp only; omega)]
theorem ringT_small (l : Nat → ByteArray) (m : Nat) (hm : m ≤ 1000) (hl : ∀ i, i < m → (l i).size ≤ 960) (n : Nat) (hn : n ≤ m) (dev j : Int) : (ringT l n dev j).size ≤ 2000 := by
  unfold ringT
  split
  · cases h : lastT n j.toNat with
    | none => exact Nat.zero_le _
    | some t =>
      obtain ⟨h1, _⟩ := lastT_is n _ t h
      have hmu : mayU ⟨(t : Int), l t⟩ := ⟨by simp only; omega, by simp only; omega, hl t (by omega)⟩
      show (encU ⟨t, l t⟩).1.size ≤ 2000
      rw [encU_size hmu]
      have := hmu.2.2
      simp only at this ⊢
      omega
  · exact Nat.zero_le _
/-- UberLoss. -/
theorem loss_best (l : Nat → ByteArray) (n : Nat) (h1 : 1 ≤ n) (hm : n ≤ 1000) (hl : ∀ i, i < n → (l i).size ≤ 960) (q : Int) (hq : two q) :
    bestU (loseD (ringD l n) q) = (⟨(n : Int) - 1, l (n - 1)⟩, true) ∧ ∀ x, (tellD (loseD (ringD l n) q) x).size ≤ 2000 := by
  obtain ⟨h, _⟩ := ring_is l n hm hl n (Nat.le_refl _)
  have hL := h.lose q hq
  have hk : ∀ k, k < 8 → urootK (loseD (ringD l n) q) k = if ((k / 4 : Nat) : Int) = q then ubN else tagR l (lastT n (k % 4)) := by
    intro k hk8
    rw [hL.root (by decide) k hk8]
    by_cases e : ((k / 4 : Nat) : Int) = q
    · simp only [e, decide_true, if_true]
    · rw [if_neg e, if_neg (by simpa using e)]
      simp only [if_neg e]
      unfold ringT
      rw [if_pos (by omega), Int.toNat_natCast]
      exact tag_root l n hm hl n (k % 4) (Nat.le_refl _) (by omega)
  have hlast : lastT n ((n - 1) % 4) = some (n - 1) := by
    obtain ⟨m, rfl⟩ : ∃ m, n = m + 1 := ⟨n - 1, by omega⟩
    unfold lastT
    rw [if_pos (by rw [Nat.add_sub_cancel]), Nat.add_sub_cancel]
  refine ⟨best_max _ _ (fun k hk8 => ?_) ?_ (by simp only; omega), hL.small (fun dev j _ _ _ => ?_)⟩
  · rw [hk k hk8]
    split
    · exact .inr (by show (-1 : Int) < _; simp only; omega)
    · cases ht : lastT n (k % 4) with
      | none => exact .inr (by show (-1 : Int) < _; simp only; omega)
      | some t =>
        obtain ⟨a, _⟩ := lastT_is n _ t ht
        by_cases e : t = n - 1
        · subst e
          left
          show (⟨((n - 1 : Nat) : Int), l (n - 1)⟩ : UbD) = _
          rw [show ((n - 1 : Nat) : Int) = (n : Int) - 1 by omega]
        · right
          show (t : Int) < (n : Int) - 1
          omega
  · have hfin : ∀ k, k < 8 → ((k / 4 : Nat) : Int) ≠ q → k % 4 = (n - 1) % 4 → urootK (loseD (ringD l n) q) k = ⟨(n : Int) - 1, l (n - 1)⟩ := fun k a b c => by
      rw [hk k a, if_neg b, c, hlast]
      show (⟨((n - 1 : Nat) : Int), l (n - 1)⟩ : UbD) = _
      rw [show ((n - 1 : Nat) : Int) = (n : Int) - 1 by omega]
    rcases hq with rfl | rfl
    · exact ⟨4 + (n - 1) % 4, by omega, hfin _ (by omega) (by omega) (by omega)⟩
    · exact ⟨(n - 1) % 4, by omega, hfin _ (by omega) (by omega) (by omega)⟩
  · show ByteArray.size (if dev = q then ⟨#[]⟩ else ringT l n dev j) ≤ 2000
    split
    · exact Nat.zero_le _
    · exact ringT_small l n hm hl n (Nat.le_refl _) dev j
end Go.Proofs.YtkapbkkbkfmidaaDoor
