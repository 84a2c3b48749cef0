/-
  The ring: what devices tell behind writes, flushes, crashes, spoils and a loss.
-/
import Derived.Test.YtkapbkkbkfmidaaDoorUberE
import Derived.Test.YtkapbkkbkfmidaaDoorDevMath
namespace Go.Proofs.YtkapbkkbkfmidaaDoor
open Go.RowKit

def two (dev : Int) : Prop := dev = 0 ∨ dev = 1
instance (dev : Int) : Decidable (two dev) := inferInstanceAs (Decidable (_ ∨ _))
/-- What a sector tells, as it lies. -/
def tellsAt (d : DevD) (l : Int × Int) : ByteArray := (sideOf d l.1).tells.getD l.2.toNat ⟨#[]⟩
def upd (T : Int → Int → ByteArray) (x : WrD) : Int → Int → ByteArray := fun dev j => if x.1 = (dev, j) then x.2 else T dev j
structure Rg (n : Nat) (d : DevD) (T H : Int → Int → ByteArray) (lost : Int → Bool) : Prop where
  sz : ∀ dev, two dev → devSize d dev = n
  tl : ∀ dev, two dev → (sideOf d dev).tells.length = n
  lo : ∀ dev, two dev → devLost d dev = lost dev
  te : ∀ dev j : Int, two dev → 0 ≤ j → j < n → tellsAt d (dev, j) = T dev j
  ha : ∀ dev j : Int, two dev → 0 ≤ j → j < n → hasAt d (dev, j) = H dev j
theorem Rg.new (n : Nat) : Rg n (newD n n) (fun _ _ => ⟨#[]⟩) (fun _ _ => ⟨#[]⟩) (fun _ => false) := by
  have hrep : ∀ j : Nat, (List.replicate n emp).getD j ⟨#[]⟩ = ⟨#[]⟩ := fun j => by
    rw [List.getD, List.getElem?_replicate]
    split <;> rfl
  refine ⟨?_, ?_, ?_, ?_, ?_⟩
  · rintro dev (rfl | rfl) <;> simp [devSize, newD, newS]
  · rintro dev (rfl | rfl) <;> simp [sideOf, newD, newS]
  · rintro dev (rfl | rfl) <;> rfl
  · rintro dev j (rfl | rfl) _ _ <;> exact hrep _
  · rintro dev j (rfl | rfl) _ _ <;> exact hrep _
theorem setTell_side (d : DevD) (x : Int × Int) (s : ByteArray) (hx : two x.1) (dev : Int) (hd : two dev) : (sideOf (setTell d x s) dev).tells = if x.1 = dev then (sideOf d dev).tells.set x.2.toNat s else (sideOf d dev).tells := by
  rcases hx with e | e <;> rcases hd with rfl | rfl <;> simp [setTell, sideOf, e]
theorem Rg.setTell {n : Nat} {d : DevD} {T H : Int → Int → ByteArray} {lost : Int → Bool} (h : Rg n d T H lost) (x : WrD) (h1 : two x.1.1) (h2 : 0 ≤ x.1.2) (h3 : x.1.2 < n) : Rg n (setTell d x.1 x.2) (upd T x) H lost := by
  obtain ⟨⟨x1, x2⟩, s⟩ := x
  simp only at h1 h2 h3
  refine ⟨fun dev hd => by rw [size_setTell, h.sz dev hd], fun dev hd => ?_, fun dev hd => by rw [lost_setTell, h.lo dev hd], fun dev j hd hj0 hj => ?_, fun dev j hd hj0 hj => ?_⟩
  · rw [setTell_side _ _ _ h1 _ hd]; split
    · rw [List.length_set, h.tl dev hd]
    · exact h.tl dev hd
  · unfold tellsAt upd
    rw [setTell_side _ _ _ h1 _ hd]
    simp only
    by_cases e1 : x1 = dev
    · subst e1
      rw [if_pos rfl]
      by_cases e2 : x2 = j
      · subst e2
        rw [if_pos rfl, List.getD, List.getElem?_set_self (by rw [h.tl _ hd]; omega)]
        rfl
      · rw [if_neg (by simpa using e2), List.getD, List.getElem?_set_ne (by omega)]
        exact h.te x1 j hd hj0 hj
    · rw [if_neg e1, if_neg (by simp [e1])]
      exact h.te dev j hd hj0 hj
  · rw [← h.ha dev j hd hj0 hj]
    unfold hasAt sideOf Go.Proofs.YtkapbkkbkfmidaaDoor.setTell
    split <;> split <;> rfl
theorem Rg.setHas {n : Nat} {d : DevD} {T H : Int → Int → ByteArray} {lost : Int → Bool} (h : Rg n d T H lost) (x : WrD) (h1 : two x.1.1) (h2 : 0 ≤ x.1.2) (h3 : x.1.2 < n) : Rg n (setHas d x.1 x.2) T (upd H x) lost := by
  have hlo : locOk d x.1 := ⟨h1, h2, by rw [h.sz _ h1]; exact h3⟩
  obtain ⟨⟨x1, x2⟩, s⟩ := x
  simp only at h1 h2 h3 hlo
  refine ⟨fun dev hd => by rw [size_setHas, h.sz dev hd], fun dev hd => ?_, fun dev hd => by rw [lost_setHas, h.lo dev hd], fun dev j hd hj0 hj => ?_, fun dev j hd hj0 hj => ?_⟩
  · rw [← h.tl dev hd]
    unfold sideOf Go.Proofs.YtkapbkkbkfmidaaDoor.setHas
    split <;> split <;> rfl
  · rw [← h.te dev j hd hj0 hj]
    unfold tellsAt sideOf Go.Proofs.YtkapbkkbkfmidaaDoor.setHas
    split <;> split <;> rfl
  · rw [hasAt_set d (x1, x2) s (dev, j) hlo ⟨hd, hj0, by simp only; rw [h.sz _ hd]; exact hj⟩, h.ha dev j hd hj0 hj]
    rfl
theorem Rg.waits {n : Nat} {d : DevD} {T H : Int → Int → ByteArray} {lost : Int → Bool} (h : Rg n d T H lost) (ws : List WrD) : Rg n { d with waits := ws } T H lost := ⟨h.sz, h.tl, h.lo, h.te, h.ha⟩
theorem Rg.chk {n : Nat} {d : DevD} {T H : Int → Int → ByteArray} {lost : Int → Bool} (h : Rg n d T H lost) (dev j : Int) (hd : two dev) (h0 : 0 ≤ j) (h1 : j < n) (k : Nat) (hk : k ≤ 1024) : chkD d (dev, j) k = if lost dev then 5 else 0 := by
  unfold chkD
  rw [h.sz dev hd, h.lo dev hd, if_neg (by simp only; omega)]
theorem Rg.write {n : Nat} {d : DevD} {T H : Int → Int → ByteArray} (h : Rg n d T H (fun _ => false)) (x : WrD) (h1 : two x.1.1) (h2 : 0 ≤ x.1.2) (h3 : x.1.2 < n) (hs : x.2.size ≤ 1024) :
    Rg n (writeD d x.1 x.2) (upd T x) H (fun _ => false) ∧ (writeD d x.1 x.2).waits = d.waits ++ [x] ∧ chkD d x.1 x.2.size = 0 := by
  have hc : chkD d x.1 x.2.size = 0 := by
    have := h.chk x.1.1 x.1.2 h1 h2 h3 x.2.size hs
    simpa using this
  have hw : writeD d x.1 x.2 = { Go.Proofs.YtkapbkkbkfmidaaDoor.setTell d x.1 x.2 with waits := d.waits ++ [(x.1, x.2)] } := by unfold writeD; rw [if_pos hc]
  rw [hw]
  exact ⟨(h.setTell x h1 h2 h3).waits _, rfl, hc⟩
theorem Rg.fold {n : Nat} {T : Int → Int → ByteArray} {lost : Int → Bool} : ∀ (ws : List WrD) {d : DevD} {H : Int → Int → ByteArray}, Rg n d T H lost → (∀ x ∈ ws, two x.1.1 ∧ 0 ≤ x.1.2 ∧ x.1.2 < n) → Rg n (foldHas d ws) T (ws.foldl upd H) lost
  | [], _, _, h, _ => h
  | x :: ws, d, H, h, hw => by
    have h1 := hw x (by simp)
    exact Rg.fold ws (h.setHas x h1.1 h1.2.1 h1.2.2) (fun y hy => hw y (by simp [hy]))
/-- Behind a flush, or a crash, all is told as it is had. -/
theorem Rg.end' {n : Nat} {d : DevD} {T H : Int → Int → ByteArray} {lost : Int → Bool} (h : Rg n d T H lost) (ws : List WrD) (hw : ∀ x ∈ ws, two x.1.1 ∧ 0 ≤ x.1.2 ∧ x.1.2 < n) : Rg n (endD d ws) (ws.foldl upd H) (ws.foldl upd H) lost ∧ (endD d ws).waits = [] := by
  have hf := Rg.fold ws h hw
  refine ⟨⟨fun dev hd => by rw [size_endD, h.sz dev hd], fun dev hd => ?_, fun dev hd => by rw [lost_endD, h.lo dev hd], fun dev j hd h0 h1 => ?_, fun dev j hd h0 h1 => ?_⟩, rfl⟩
  · have := hf.sz dev hd
    rcases hd with rfl | rfl <;> exact this
  · rw [← hf.ha dev j hd h0 h1]
    rcases hd with rfl | rfl <;> rfl
  · rw [← hf.ha dev j hd h0 h1]
    rcases hd with rfl | rfl <;> rfl
theorem Rg.tell {n : Nat} {d : DevD} {T H : Int → Int → ByteArray} {lost : Int → Bool} (h : Rg n d T H lost) (dev j : Int) (hd : two dev) (h0 : 0 ≤ j) (h1 : j < n) : tellD d (dev, j) = if lost dev then ⟨#[]⟩ else T dev j := by
  have hc := h.chk dev j hd h0 h1 0 (by omega)
  unfold tellD
  rw [hc]
  by_cases hl : lost dev = true
  · rw [if_pos hl, if_pos hl]; rfl
  · rw [if_neg hl, if_neg hl]
    exact h.te dev j hd h0 h1
theorem Rg.lose {n : Nat} {d : DevD} {T H : Int → Int → ByteArray} (h : Rg n d T H (fun _ => false)) (q : Int) (hq : two q) : Rg n (loseD d q) (fun dev j => if dev = q then ⟨#[]⟩ else T dev j) (fun dev j => if dev = q then ⟨#[]⟩ else H dev j) (fun dev => decide (dev = q)) := by
  have hbl : ∀ (l : List ByteArray) (k : Nat), (blanks l).getD k ⟨#[]⟩ = ⟨#[]⟩ := fun l k => by
    unfold blanks
    rw [List.getD, List.getElem?_replicate]
    split <;> rfl
  rcases hq with rfl | rfl
  · refine ⟨?_, ?_, ?_, ?_, ?_⟩
    · rintro dev (rfl | rfl)
      · have := h.sz 0 (.inl rfl); simpa [devSize, loseD, forgetD, loseS, blanks] using this
      · exact h.sz 1 (.inr rfl)
    · rintro dev (rfl | rfl)
      · have := h.tl 0 (.inl rfl); simpa [sideOf, loseD, forgetD, loseS, blanks] using this
      · exact h.tl 1 (.inr rfl)
    · rintro dev (rfl | rfl)
      · rfl
      · exact h.lo 1 (.inr rfl)
    · rintro dev j (rfl | rfl) h0 h1
      · exact hbl _ _
      · exact h.te 1 j (.inr rfl) h0 h1
    · rintro dev j (rfl | rfl) h0 h1
      · exact hbl _ _
      · exact h.ha 1 j (.inr rfl) h0 h1
  · refine ⟨?_, ?_, ?_, ?_, ?_⟩
    · rintro dev (rfl | rfl)
      · exact h.sz 0 (.inl rfl)
      · have := h.sz 1 (.inr rfl); simpa [devSize, loseD, forgetD, loseS, blanks] using this
    · rintro dev (rfl | rfl)
      · exact h.tl 0 (.inl rfl)
      · have := h.tl 1 (.inr rfl); simpa [sideOf, loseD, forgetD, loseS, blanks] using this
    · rintro dev (rfl | rfl)
      · exact h.lo 0 (.inl rfl)
      · rfl
    · rintro dev j (rfl | rfl) h0 h1
      · exact h.te 0 j (.inl rfl) h0 h1
      · exact hbl _ _
    · rintro dev j (rfl | rfl) h0 h1
      · exact h.ha 0 j (.inl rfl) h0 h1
      · exact hbl _ _
theorem Rg.spoil {n : Nat} {d : DevD} {T H : Int → Int → ByteArray} (h : Rg n d T H (fun _ => false)) (x : WrD) (h1 : two x.1.1) (h2 : 0 ≤ x.1.2) (h3 : x.1.2 < n) (hs : x.2.size ≤ 1024) :
    Rg n (spoilD d x.1 x.2) (upd T x) (upd H x) (fun _ => false) ∧ (spoilD d x.1 x.2).waits.length ≤ d.waits.length := by
  have hc : chkD d x.1 x.2.size = 0 := by
    have := h.chk x.1.1 x.1.2 h1 h2 h3 x.2.size hs
    simpa using this
  unfold spoilD
  rw [if_pos hc]
  refine ⟨((h.waits _).setHas x h1 h2 h3).setTell x h1 h2 h3, ?_⟩
  rw [(setTell_has _ _ _).2.2]
  have : (Go.Proofs.YtkapbkkbkfmidaaDoor.setHas (forgetD d fun y => y.1 == x.1.1 && y.2 == x.1.2) x.1 x.2).waits = (forgetD d fun y => y.1 == x.1.1 && y.2 == x.1.2).waits := by
    unfold Go.Proofs.YtkapbkkbkfmidaaDoor.setHas
    split <;> rfl
  rw [this]
  exact keepL_len _ _

/-- The root of a text in sector j, or none. -/
def rtU (s : ByteArray) (j : Int) : UbD := if (decU s).2 = 0 ∧ (decU s).1.txg % 4 = j then (decU s).1 else ubN
theorem rt_enc {u : UbD} (h : mayU u) (j : Int) : rtU (encU u).1 j = if u.txg % 4 = j then u else ubN := by
  unfold rtU
  rw [dec_encU h]
  simp
theorem rt_short (s : ByteArray) (j : Int) (h : s.size < 42) : rtU s j = ubN := by
  unfold rtU decU
  rw [if_pos h]
  simp
theorem Rg.root {n : Nat} {d : DevD} {T H : Int → Int → ByteArray} {lost : Int → Bool} (h : Rg n d T H lost) (hn : 4 ≤ n) (k : Nat) (hk : k < 8) : urootK d k = if lost ((k / 4 : Nat) : Int) then ubN else rtU (T ((k / 4 : Nat) : Int) ((k % 4 : Nat) : Int)) ((k % 4 : Nat) : Int) := by
  have hd : two ((k / 4 : Nat) : Int) := by unfold two; omega
  have ht := h.tell ((k / 4 : Nat) : Int) ((k % 4 : Nat) : Int) hd (by omega) (by omega)
  unfold urootK rootU
  rw [ht]
  by_cases hl : lost ((k / 4 : Nat) : Int) = true
  · rw [if_pos hl, if_pos hl]
    exact rt_short ⟨#[]⟩ _ (by decide)
  · rw [if_neg hl, if_neg hl]
    rfl
theorem Rg.small {n : Nat} {d : DevD} {T H : Int → Int → ByteArray} {lost : Int → Bool} (h : Rg n d T H lost) (hT : ∀ dev j : Int, two dev → 0 ≤ j → j < n → (T dev j).size ≤ 2000) : ∀ l, (tellD d l).size ≤ 2000 := by
  rintro ⟨dev, j⟩
  by_cases hc : chkD d (dev, j) 0 = 0
  · obtain ⟨h1, h2, h3, _⟩ := chkD_ok hc
    simp only at h1 h2 h3
    rw [h.tell dev j h1 h2 (by rw [h.sz dev h1] at h3; exact h3)]
    split
    · exact Nat.zero_le _
    · exact hT dev j h1 h2 (by rw [h.sz dev h1] at h3; exact h3)
  · unfold tellD
    rw [if_neg hc]
    exact Nat.zero_le _
/-- The greatest is the best. -/
theorem best_max (d : DevD) (u : UbD) (hm : ∀ k, k < 8 → urootK d k = u ∨ (urootK d k).txg < u.txg) (hx : ∃ k, k < 8 ∧ urootK d k = u) (hp : -1 < u.txg) : bestU d = (u, true) := by
  have key : ∀ n, n ≤ 8 → ((∃ k, k < n ∧ urootK d k = u) → bestK d n = u) ∧ ((¬ ∃ k, k < n ∧ urootK d k = u) → (bestK d n).txg < u.txg) := by
    intro n
    induction n with
    | zero => exact fun _ => ⟨fun ⟨k, h, _⟩ => by omega, fun _ => hp⟩
    | succ n ih =>
      intro hn
      obtain ⟨i1, i2⟩ := ih (by omega)
      by_cases hq : urootK d n = u
      · have hb : bestK d (n + 1) = u := by
          unfold bestK
          by_cases he : ∃ k, k < n ∧ urootK d k = u
          · rw [i1 he, hq, if_neg (by omega)]
          · rw [hq, if_pos (i2 he)]
        exact ⟨fun _ => hb, fun h => absurd ⟨n, by omega, hq⟩ h⟩
      · have hlt : (urootK d n).txg < u.txg := (hm n (by omega)).resolve_left hq
        refine ⟨fun ⟨k, h1, h2⟩ => ?_, fun h => ?_⟩
        · have hkn : k < n := by
            rcases Nat.lt_or_ge k n with h | h
            · exact h
            · have : k = n := by omega
              subst this; exact absurd h2 hq
          unfold bestK
          rw [i1 ⟨k, hkn, h2⟩, if_neg (by omega)]
        · have hne : ¬ ∃ k, k < n ∧ urootK d k = u := fun ⟨k, h1, h2⟩ => h ⟨k, by omega, h2⟩
          unfold bestK
          split
          · exact hlt
          · exact i2 hne
  have hb := (key 8 (Nat.le_refl _)).1 hx
  unfold bestU
  rw [hb, if_neg (fun e => by rw [e] at hp; exact absurd hp (by decide))]
theorem best_none (d : DevD) (hm : ∀ k, k < 8 → urootK d k = ubN) : bestU d = (ub0, false) := by
  have key : ∀ n, n ≤ 8 → bestK d n = ubN := by
    intro n
    induction n with
    | zero => exact fun _ => rfl
    | succ n ih =>
      intro hn
      unfold bestK
      rw [ih (by omega), hm n (by omega)]
      simp
  unfold bestU
  rw [if_pos (key 8 (Nat.le_refl _))]
/-- A root that is written to a ring that is whole. -/
theorem Rg.put {n : Nat} {d : DevD} {T H : Int → Int → ByteArray} (h : Rg n d T H (fun _ => false)) (hn : 4 ≤ n) (u : UbD) (hm : mayU u) :
    Rg n (wrU d u) (fun dev j => if two dev ∧ j = u.txg % 4 then (encU u).1 else T dev j) H (fun _ => false) ∧ (wrU d u).waits = d.waits ++ [((0, u.txg % 4), (encU u).1), ((1, u.txg % 4), (encU u).1)] ∧ uwR d u = 0 := by
  have hs : (encU u).1.size ≤ 1024 := by rw [encU_size hm]; have := hm.2.2; omega
  have h2 : 0 ≤ u.txg % 4 := by omega
  have h3 : u.txg % 4 < n := by omega
  obtain ⟨a1, a2, a3⟩ := h.write ((0, u.txg % 4), (encU u).1) (.inl rfl) h2 h3 hs
  obtain ⟨b1, b2, b3⟩ := a1.write ((1, u.txg % 4), (encU u).1) (.inr rfl) h2 h3 hs
  refine ⟨⟨b1.sz, b1.tl, b1.lo, fun dev j hd h0 h1 => ?_, b1.ha⟩, ?_, ?_⟩
  · show tellsAt (writeD (writeD d (0, u.txg % 4) (encU u).1) (1, u.txg % 4) (encU u).1) (dev, j) = _
    rw [b1.te dev j hd h0 h1]
    unfold upd
    simp only [Prod.mk.injEq]
    rcases hd with rfl | rfl
    · by_cases e : j = u.txg % 4
      · simp [e, two]
      · simp [e, Ne.symm e]
    · by_cases e : j = u.txg % 4
      · simp [e, two]
      · simp [e, Ne.symm e]
  · show (writeD (writeD d (0, u.txg % 4) (encU u).1) (1, u.txg % 4) (encU u).1).waits = _
    rw [b2, a2, List.append_assoc]
    rfl
  · unfold uwR wkU chU
    rw [show chkD d (0, u.txg % 4) (encU u).1.size = 0 from a3]
    simp
end Go.Proofs.YtkapbkkbkfmidaaDoor
