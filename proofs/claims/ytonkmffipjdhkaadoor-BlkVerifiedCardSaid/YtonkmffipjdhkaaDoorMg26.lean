/-
  Texts put together: Rg, BlkM, BlkLiv.
-/
import Derived.Test.YtonkmffipjdhkaaDoorMg25
namespace Go.Proofs.YtonkmffipjdhkaaDoor
open Go.RowKit

def two (dev : Int) : Prop := dev = 0 ∨ dev = 1
instance (dev : Int) : Decidable (two dev) := inferInstanceAs (Decidable (_ ∨ _))
/-- What a sector tells, as it lies. -/
def tellsAt (d : DevD) (l : Int × Int) : ByteArray := (sideOf d l.1).tells.getD l.2.toNat ⟨#[]⟩
def upd (T : Int → Int → ByteArray) (x : WrD) : Int → Int → ByteArray := fun dev j => if x.1 = (dev, j) then x.2 else T dev j
structure Rg (n : Nat) (d : DevD) (T H : Int → Int → ByteArray) (lost : Int → Bool) : Prop where
  sz : ∀ dev, two dev → devSize d dev = n
  tl : ∀ dev, two dev → (sideOf d dev).tells.length = n
  lo : ∀ dev, two dev → devLost d dev = lost dev
  te : ∀ dev j : Int, two dev → 0 ≤ j → j < n → tellsAt d (dev, j) = T dev j
  ha : ∀ dev j : Int, two dev → 0 ≤ j → j < n → hasAt d (dev, j) = H dev j
theorem Rg.new (n : Nat) : Rg n (newD n n) (fun _ _ => ⟨#[]⟩) (fun _ _ => ⟨#[]⟩) (fun _ => false) := by
  have hrep : ∀ j : Nat, (List.replicate n emp).getD j ⟨#[]⟩ = ⟨#[]⟩ := fun j => by
    rw [List.getD, List.getElem?_replicate]
    split <;> rfl
  refine ⟨?_, ?_, ?_, ?_, ?_⟩
  · rintro dev (rfl | rfl) <;> simp [devSize, newD, newS]
  · rintro dev (rfl | rfl) <;> simp [sideOf, newD, newS]
  · rintro dev (rfl | rfl) <;> rfl
  · rintro dev j (rfl | rfl) _ _ <;> exact hrep _
  · rintro dev j (rfl | rfl) _ _ <;> exact hrep _
theorem setTell_side (d : DevD) (x : Int × Int) (s : ByteArray) (hx : two x.1) (dev : Int) (hd : two dev) : (sideOf (setTell d x s) dev).tells = if x.1 = dev then (sideOf d dev).tells.set x.2.toNat s else (sideOf d dev).tells := by
  rcases hx with e | e <;> rcases hd with rfl | rfl <;> simp [setTell, sideOf, e]
theorem Rg.setTell {n : Nat} {d : DevD} {T H : Int → Int → ByteArray} {lost : Int → Bool} (h : Rg n d T H lost) (x : WrD) (h1 : two x.1.1) (h2 : 0 ≤ x.1.2) (h3 : x.1.2 < n) : Rg n (setTell d x.1 x.2) (upd T x) H lost := by
  obtain ⟨⟨x1, x2⟩, s⟩ := x
  simp only at h1 h2 h3
  refine ⟨fun dev hd => by rw [size_setTell, h.sz dev hd], fun dev hd => ?_, fun dev hd => by rw [lost_setTell, h.lo dev hd], fun dev j hd hj0 hj => ?_, fun dev j hd hj0 hj => ?_⟩
  · rw [setTell_side _ _ _ h1 _ hd]; split
    · rw [List.length_set, h.tl dev hd]
    · exact h.tl dev hd
  · unfold tellsAt upd
    rw [setTell_side _ _ _ h1 _ hd]
    simp only
    by_cases e1 : x1 = dev
    · subst e1
      rw [if_pos rfl]
      by_cases e2 : x2 = j
      · subst e2
        rw [if_pos rfl, List.getD, List.getElem?_set_self (by rw [h.tl _ hd]; omega)]
        rfl
      · rw [if_neg (by simpa using e2), List.getD, List.getElem?_set_ne (by omega)]
        exact h.te x1 j hd hj0 hj
    · rw [if_neg e1, if_neg (by simp [e1])]
      exact h.te dev j hd hj0 hj
  · rw [← h.ha dev j hd hj0 hj]
    unfold hasAt sideOf Go.Proofs.YtonkmffipjdhkaaDoor.setTell
    split <;> split <;> rfl
theorem Rg.setHas {n : Nat} {d : DevD} {T H : Int → Int → ByteArray} {lost : Int → Bool} (h : Rg n d T H lost) (x : WrD) (h1 : two x.1.1) (h2 : 0 ≤ x.1.2) (h3 : x.1.2 < n) : Rg n (setHas d x.1 x.2) T (upd H x) lost := by
  have hlo : locOk d x.1 := ⟨h1, h2, by rw [h.sz _ h1]; exact h3⟩
  obtain ⟨⟨x1, x2⟩, s⟩ := x
  simp only at h1 h2 h3 hlo
  refine ⟨fun dev hd => by rw [size_setHas, h.sz dev hd], fun dev hd => ?_, fun dev hd => by rw [lost_setHas, h.lo dev hd], fun dev j hd hj0 hj => ?_, fun dev j hd hj0 hj => ?_⟩
  · rw [← h.tl dev hd]
    unfold sideOf Go.Proofs.YtonkmffipjdhkaaDoor.setHas
    split <;> split <;> rfl
  · rw [← h.te dev j hd hj0 hj]
    unfold tellsAt sideOf Go.Proofs.YtonkmffipjdhkaaDoor.setHas
    split <;> split <;> rfl
  · rw [hasAt_set d (x1, x2) s (dev, j) hlo ⟨hd, hj0, by simp only; rw [h.sz _ hd]; exact hj⟩, h.ha dev j hd hj0 hj]
    rfl
theorem Rg.waits {n : Nat} {d : DevD} {T H : Int → Int → ByteArray} {lost : Int → Bool} (h : Rg n d T H lost) (ws : List WrD) : Rg n { d with waits := ws } T H lost := ⟨h.sz, h.tl, h.lo, h.te, h.ha⟩
theorem Rg.chk {n : Nat} {d : DevD} {T H : Int → Int → ByteArray} {lost : Int → Bool} (h : Rg n d T H lost) (dev j : Int) (hd : two dev) (h0 : 0 ≤ j) (h1 : j < n) (k : Nat) (hk : k ≤ 1024) : chkD d (dev, j) k = if lost dev then 5 else 0 := by
  unfold chkD
  rw [h.sz dev hd, h.lo dev hd, if_neg (by simp only; omega)]
theorem Rg.write {n : Nat} {d : DevD} {T H : Int → Int → ByteArray} (h : Rg n d T H (fun _ => false)) (x : WrD) (h1 : two x.1.1) (h2 : 0 ≤ x.1.2) (h3 : x.1.2 < n) (hs : x.2.size ≤ 1024) :
    Rg n (writeD d x.1 x.2) (upd T x) H (fun _ => false) ∧ (writeD d x.1 x.2).waits = d.waits ++ [x] ∧ chkD d x.1 x.2.size = 0 := by
  have hc : chkD d x.1 x.2.size = 0 := by
    have := h.chk x.1.1 x.1.2 h1 h2 h3 x.2.size hs
    simpa using this
  have hw : writeD d x.1 x.2 = { Go.Proofs.YtonkmffipjdhkaaDoor.setTell d x.1 x.2 with waits := d.waits ++ [(x.1, x.2)] } := by unfold writeD; rw [if_pos hc]
  rw [hw]
  exact ⟨(h.setTell x h1 h2 h3).waits _, rfl, hc⟩
theorem Rg.fold {n : Nat} {T : Int → Int → ByteArray} {lost : Int → Bool} : ∀ (ws : List WrD) {d : DevD} {H : Int → Int → ByteArray}, Rg n d T H lost → (∀ x ∈ ws, two x.1.1 ∧ 0 ≤ x.1.2 ∧ x.1.2 < n) → Rg n (foldHas d ws) T (ws.foldl upd H) lost
  | [], _, _, h, _ => h
  | x :: ws, d, H, h, hw => by
    have h1 := hw x (by simp)
    exact Rg.fold ws (h.setHas x h1.1 h1.2.1 h1.2.2) (fun y hy => hw y (by simp [hy]))
/-- Behind a flush, or a crash, all is told as it is had. -/
theorem Rg.end' {n : Nat} {d : DevD} {T H : Int → Int → ByteArray} {lost : Int → Bool} (h : Rg n d T H lost) (ws : List WrD) (hw : ∀ x ∈ ws, two x.1.1 ∧ 0 ≤ x.1.2 ∧ x.1.2 < n) : Rg n (endD d ws) (ws.foldl upd H) (ws.foldl upd H) lost ∧ (endD d ws).waits = [] := by
  have hf := Rg.fold ws h hw
  refine ⟨⟨fun dev hd => by rw [size_endD, h.sz dev hd], fun dev hd => ?_, fun dev hd => by rw [lost_endD, h.lo dev hd], fun dev j hd h0 h1 => ?_, fun dev j hd h0 h1 => ?_⟩, rfl⟩
  · have := hf.sz dev hd
    rcases hd with rfl | rfl <;> exact this
  · rw [← hf.ha dev j hd h0 h1]
    rcases hd with rfl | rfl <;> rfl
  · rw [← hf.ha dev j hd h0 h1]
    rcases hd with rfl | rfl <;> rfl
theorem Rg.tell {n : Nat} {d : DevD} {T H : Int → Int → ByteArray} {lost : Int → Bool} (h : Rg n d T H lost) (dev j : Int) (hd : two dev) (h0 : 0 ≤ j) (h1 : j < n) : tellD d (dev, j) = if lost dev then ⟨#[]⟩ else T dev j := by
  have hc := h.chk dev j hd h0 h1 0 (by omega)
  unfold tellD
  rw [hc]
  by_cases hl : lost dev = true
  · rw [if_pos hl, if_pos hl]; rfl
  · rw [if_neg hl, if_neg hl]
    exact h.te dev j hd h0 h1
theorem Rg.lose {n : Nat} {d : DevD} {T H : Int → Int → ByteArray} (h : Rg n d T H (fun _ => false)) (q : Int) (hq : two q) : Rg n (loseD d q) (fun dev j => if dev = q then ⟨#[]⟩ else T dev j) (fun dev j => if dev = q then ⟨#[]⟩ else H dev j) (fun dev => decide (dev = q)) := by
  have hbl : ∀ (l : List ByteArray) (k : Nat), (blanks l).getD k ⟨#[]⟩ = ⟨#[]⟩ := fun l k => by
    unfold blanks
    rw [List.getD, List.getElem?_replicate]
    split <;> rfl
  rcases hq with rfl | rfl
  · refine ⟨?_, ?_, ?_, ?_, ?_⟩
    · rintro dev (rfl | rfl)
      · have := h.sz 0 (.inl rfl); simpa [devSize, loseD, forgetD, loseS, blanks] using this
      · exact h.sz 1 (.inr rfl)
    · rintro dev (rfl | rfl)
      · have := h.tl 0 (.inl rfl); simpa [sideOf, loseD, forgetD, loseS, blanks] using this
      · exact h.tl 1 (.inr rfl)
    · rintro dev (rfl | rfl)
      · rfl
      · exact h.lo 1 (.inr rfl)
    · rintro dev j (rfl | rfl) h0 h1
      · exact hbl _ _
      · exact h.te 1 j (.inr rfl) h0 h1
    · rintro dev j (rfl | rfl) h0 h1
      · exact hbl _ _
      · exact h.ha 1 j (.inr rfl) h0 h1
  · refine ⟨?_, ?_, ?_, ?_, ?_⟩
    · rintro dev (rfl | rfl)
      · exact h.sz 0 (.inl rfl)
      · have := h.sz 1 (.inr rfl); simpa [devSize, loseD, forgetD, loseS, blanks] using this
    · rintro dev (rfl | rfl)
      · exact h.tl 0 (.inl rfl)
      · have := h.tl 1 (.inr rfl); simpa [sideOf, loseD, forgetD, loseS, blanks] using this
    · rintro dev (rfl | rfl)
      · exact h.lo 0 (.inl rfl)
      · rfl
    · rintro dev j (rfl | rfl) h0 h1
      · exact h.te 0 j (.inl rfl) h0 h1
      · exact hbl _ _
    · rintro dev j (rfl | rfl) h0 h1
      · exact h.ha 0 j (.inl rfl) h0 h1
      · exact hbl _ _
theorem Rg.spoil {n : Nat} {d : DevD} {T H : Int → Int → ByteArray} (h : Rg n d T H (fun _ => false)) (x : WrD) (h1 : two x.1.1) (h2 : 0 ≤ x.1.2) (h3 : x.1.2 < n) (hs : x.2.size ≤ 1024) :
    Rg n (spoilD d x.1 x.2) (upd T x) (upd H x) (fun _ => false) ∧ (spoilD d x.1 x.2).waits.length ≤ d.waits.length := by
  have hc : chkD d x.1 x.2.size = 0 := by
    have := h.chk x.1.1 x.1.2 h1 h2 h3 x.2.size hs
    simpa using this
  unfold spoilD
  rw [if_pos hc]
  refine ⟨((h.waits _).setHas x h1 h2 h3).setTell x h1 h2 h3, ?_⟩
  rw [(setTell_has _ _ _).2.2]
  have : (Go.Proofs.YtonkmffipjdhkaaDoor.setHas (forgetD d fun y => y.1 == x.1.1 && y.2 == x.1.2) x.1 x.2).waits = (forgetD d fun y => y.1 == x.1.1 && y.2 == x.1.2).waits := by
    unfold Go.Proofs.YtonkmffipjdhkaaDoor.setHas
    split <;> rfl
  rw [this]
  exact keepL_len _ _

theorem Rg.small {n : Nat} {d : DevD} {T H : Int → Int → ByteArray} {lost : Int → Bool} (h : Rg n d T H lost) (hT : ∀ dev j : Int, two dev → 0 ≤ j → j < n → (T dev j).size ≤ 2000) : ∀ l, (tellD d l).size ≤ 2000 := by
  rintro ⟨dev, j⟩
  by_cases hc : chkD d (dev, j) 0 = 0
  · obtain ⟨h1, h2, h3, _⟩ := chkD_ok hc
    simp only at h1 h2 h3
    rw [h.tell dev j h1 h2 (by rw [h.sz dev h1] at h3; exact h3)]
    split
    · exact Nat.zero_le _
    · exact hT dev j h1 h2 (by rw [h.sz dev h1] at h3; exact h3)
  · unfold tellD
    rw [if_neg hc]
    exact Nat.zero_le _
end Go.Proofs.YtonkmffipjdhkaaDoor

namespace Go.Proofs.YtonkmffipjdhkaaDoor
open Go Go.RowKit Go.ChangeShapes Go.WideShapes Go.ChangeAt

theorem sha_len (s : ByteArray) : (sha s).size = 32 := by
  show ((digest _).toArray).size = 32
  rw [List.size_toArray]
  exact digK_length _ 8 (Nat.le_refl _)
theorem isT_self {p : PtrD} {s : ByteArray} (h1 : p.len = s.size) (h2 : p.sum = sha s) : isT p s = true := by unfold isT; simp [h1, h2]
theorem isT_len {p : PtrD} {s : ByteArray} (h : p.len ≠ s.size) : isT p s = false := by
  unfold isT
  rw [Bool.and_eq_false_iff]
  exact .inl (by simpa using fun e => h e.symm)
theorem firstG_two {t : Told} {p : PtrD} (hl : p.locs.length = 2) : firstG t p = if t.good p 0 then some 0 else if t.good p 1 then some 1 else none := by
  unfold firstG
  rw [hl]
  show List.find? (t.good p) [0, 1] = _
  rw [List.find?_cons, List.find?_cons, List.find?_nil]
  cases t.good p 0 <;> cases t.good p 1 <;> rfl
theorem read_first {t : Told} {p : PtrD} (hp : ¬ badP p) (hl : p.locs.length = 2) (h : t.good p 0 = true) : readR t p = (t.T 0, 0, 0) := readR_at hp (by rw [firstG_two hl, if_pos h])
theorem read_next {t : Told} {p : PtrD} (hp : ¬ badP p) (hl : p.locs.length = 2) (h : t.good p 0 = false) (h1 : t.good p 1 = true) : readR t p = (t.T 1, 1, 0) := readR_at hp (by rw [firstG_two hl, if_neg (by rw [h]; simp), if_pos h1])
theorem read_none {t : Told} {p : PtrD} (hp : ¬ badP p) (hl : p.locs.length = 2) (h : t.good p 0 = false) (h1 : t.good p 1 = false) : readR t p = (⟨#[]⟩, 0, 7) := readR_no hp (by rw [firstG_two hl, if_neg (by rw [h]; simp), if_neg (by rw [h1]; simp)])
theorem goodR_two {t : Told} {p : PtrD} (hp : ¬ badP p) (hl : p.locs.length = 2) : goodR t p = [t.good p 0, t.good p 1] := by
  unfold goodR
  rw [if_neg hp, hl]
  rfl
/-- Both sectors are there. -/
theorem rg_good {n : Nat} {d : DevD} {T H : Int → Int → ByteArray} {lost : Int → Bool} (h : Rg n d T H lost) (p : PtrD) (k : Nat) (dev j : Int) (hk : p.locs.getD k (0, 0) = (dev, j)) (hd : two dev) (h0 : 0 ≤ j) (h1 : j < n) : (toldD d p).good p k = (!lost dev && isT p (T dev j)) := by
  rw [good_told, hk]
  unfold gdD
  rw [h.chk dev j hd h0 h1 0 (by omega), h.tell dev j hd h0 h1]
  cases lost dev <;> simp
theorem rg_told {n : Nat} {d : DevD} {T H : Int → Int → ByteArray} (h : Rg n d T H (fun _ => false)) (p : PtrD) (k : Nat) (dev j : Int) (hk : p.locs.getD k (0, 0) = (dev, j)) (hd : two dev) (h0 : 0 ≤ j) (h1 : j < n) : (toldD d p).T k = T dev j := by
  show tellD d (p.locs.getD k (0, 0)) = _
  rw [hk, h.tell dev j hd h0 h1]
  rfl
theorem rg_far {n : Nat} {d : DevD} {T H : Int → Int → ByteArray} {lost : Int → Bool} (h : Rg n d T H lost) (dev j : Int) (hd : two dev) (h1 : j < n) : farW (devSize d) (dev, j) = false := by
  unfold farW
  rw [h.sz dev hd]
  exact decide_eq_false (by simp only; omega)
theorem wrB_two (d : DevD) (a b : Int × Int) (s : ByteArray) : wrB d [a, b] s = writeD (writeD d a s) b s := rfl
theorem wrP_ok {a b : Int × Int} {s : ByteArray} {birth : Int} (ha : ¬ nowhereP a) (hb : ¬ nowhereP b) (hab : a.1 ≠ b.1) (hs : s.size ≤ 960) (h0 : 0 ≤ birth ∧ birth ≤ 1099511627776) : ¬ badP (wrP [a, b] s birth) := by
  unfold badP wrP restBad twins
  simp only [List.length_cons, List.length_nil, List.mem_cons, List.not_mem_nil, or_false]
  intro h
  rcases h with h | ⟨x, rfl | rfl, h⟩ | ⟨_, h⟩ | h | h | h
  · omega
  · exact ha h
  · exact hb h
  · exact hab h
  · omega
  · exact h h0
  · exact h (sha_len s)
end Go.Proofs.YtonkmffipjdhkaaDoor

namespace Go.Proofs.YtonkmffipjdhkaaDoor
open Go Go.RowKit Go.ChangeShapes Go.WideShapes Go.ChangeAt

def LH : ByteArray := ⟨#[104, 101, 108, 108, 111]⟩
def LX : ByteArray := ⟨#[120]⟩
def LL : List (Int × Int) := [(1, 3), (0, 4)]
def LP : PtrD := wrP LL LH 7
def LD0 : DevD := newD 20 20
def LD1 : DevD := wrB LD0 LL LH
def LD2 : DevD := spoilD LD1 (1, 3) LX
def LD3 : DevD := writeD LD2 (1, 3) LH
def LD4 : DevD := loseD LD3 1
def LD5 : DevD := loseD LD4 0
theorem lp_ok : ¬ badP LP := wrP_ok (by decide) (by decide) (by decide) (by decide) (by decide)
theorem l_fresh (l : List (Int × Int)) (h : ∀ x ∈ l, two x.1 ∧ 0 ≤ x.2 ∧ x.2 < 20) {d : DevD} {T H : Int → Int → ByteArray} {lost : Int → Bool} (hd : Rg 20 d T H lost) : l.any (farW (devSize d)) = false := by
  rw [List.any_eq_false]
  intro x hx
  obtain ⟨h1, h2, h3⟩ := h x hx
  rw [show x = (x.1, x.2) from rfl, rg_far hd x.1 x.2 h1 (by omega)]
  simp
theorem l_there (l : List (Int × Int)) (h : ∀ x ∈ l, two x.1) {d : DevD} {T H : Int → Int → ByteArray} (hd : Rg 20 d T H (fun _ => false)) : l.any (fun x => devLost d x.1) = false := by
  rw [List.any_eq_false]
  intro x hx
  rw [hd.lo x.1 (h x hx)]
  simp
theorem ll_two : ∀ x ∈ LL, two x.1 ∧ 0 ≤ x.2 ∧ x.2 < 20 := by decide
def LT1 : Int → Int → ByteArray := upd (upd (fun _ _ => ⟨#[]⟩) ((1, 3), LH)) ((0, 4), LH)
theorem lr1 : Rg 20 LD1 LT1 (fun _ _ => ⟨#[]⟩) (fun _ => false) ∧ LD1.waits.length = 2 := by
  obtain ⟨h1, h2, _⟩ := (Rg.new 20).write ((1, 3), LH) (.inr rfl) (by decide) (by decide) (by decide)
  obtain ⟨h3, h4, _⟩ := h1.write ((0, 4), LH) (.inl rfl) (by decide) (by decide) (by decide)
  refine ⟨h3, ?_⟩
  have e : LD1.waits = ([] ++ [((1, 3), LH)]) ++ [((0, 4), LH)] := by
    show (writeD (writeD (newD 20 20) (1, 3) LH) (0, 4) LH).waits = _
    exact h4.trans (by rw [h2]; rfl)
  rw [e]
  rfl
theorem lr2 : ∃ H, Rg 20 LD2 (upd LT1 ((1, 3), LX)) H (fun _ => false) ∧ LD2.waits.length ≤ 2 := by
  obtain ⟨h1, h2⟩ := lr1.1.spoil ((1, 3), LX) (.inr rfl) (by decide) (by decide) (by decide)
  exact ⟨_, h1, Nat.le_trans h2 (by rw [lr1.2]; exact Nat.le_refl _)⟩
theorem lr3 : ∃ H, Rg 20 LD3 (upd (upd LT1 ((1, 3), LX)) ((1, 3), LH)) H (fun _ => false) ∧ LD3.waits.length ≤ 3 ∧ chkD LD2 (1, 3) LH.size = 0 := by
  obtain ⟨H, h, hl⟩ := lr2
  obtain ⟨h1, h2, h3⟩ := h.write ((1, 3), LH) (.inr rfl) (by decide) (by decide) (by decide)
  exact ⟨_, h1, by show (writeD LD2 (1, 3) LH).waits.length ≤ 3; rw [h2, List.length_append]; simp; omega, h3⟩
theorem lt_small (x : WrD) (T : Int → Int → ByteArray) (h : ∀ a b, (T a b).size ≤ 2000) (hx : x.2.size ≤ 2000) : ∀ a b, (upd T x a b).size ≤ 2000 := fun a b => by
  unfold upd
  split
  · exact hx
  · exact h a b
theorem ls1 : ∀ a b, (LT1 a b).size ≤ 2000 := lt_small _ _ (lt_small _ _ (fun _ _ => Nat.zero_le _) (by decide)) (by decide)
theorem ls2 : ∀ a b, (upd LT1 ((1, 3), LX) a b).size ≤ 2000 := lt_small _ _ ls1 (by decide)
theorem ls3 : ∀ a b, (upd (upd LT1 ((1, 3), LX)) ((1, 3), LH) a b).size ≤ 2000 := lt_small _ _ ls2 (by decide)
/-- The first read, the mending, the second read. -/
theorem lv2 : readR (toldD LD2 LP) LP = (LH, 1, 0) ∧ (∀ l, (tellD LD2 l).size ≤ 2000) := by
  obtain ⟨H, h, _⟩ := lr2
  refine ⟨?_, h.small (fun _ _ _ _ _ => ls2 _ _)⟩
  have e := rg_told h LP 1 0 4 rfl (.inl rfl) (by decide) (by decide)
  rw [read_next lp_ok rfl, e]
  · rfl
  · rw [rg_good h LP 0 1 3 rfl (.inr rfl) (by decide) (by decide)]
    exact show isT LP LX = false from isT_len (by decide)
  · rw [rg_good h LP 1 0 4 rfl (.inl rfl) (by decide) (by decide)]
    exact show isT LP LH = true from isT_self (p := LP) (s := LH) rfl rfl
theorem lm3 : mdK LP LH LD2 1 = (LD3, 1) ∧ mdK LP LH LD2 2 = (LD3, 1) := by
  obtain ⟨H, h, _⟩ := lr2
  obtain ⟨H3, h3, _, hc⟩ := lr3
  have g0 : gdD LD2 LP (1, 3) = false := by
    have := rg_good h LP 0 1 3 rfl (.inr rfl) (by decide) (by decide)
    rw [good_told] at this
    exact this.trans (show isT LP LX = false from isT_len (by decide))
  have e1 : mdK LP LH LD2 1 = (LD3, 1) := by
    rw [mdK_bad (show gdD (mdK LP LH LD2 0).1 LP (LP.locs.getD 0 (0, 0)) = false from g0)]
    show (writeD LD2 (1, 3) LH, 0 + if chkD LD2 (1, 3) LH.size = 0 then 1 else 0) = _
    rw [if_pos hc]
    rfl
  refine ⟨e1, ?_⟩
  have g1 : gdD LD3 LP (0, 4) = true := by
    have := rg_good h3 LP 1 0 4 rfl (.inl rfl) (by decide) (by decide)
    rw [good_told] at this
    exact this.trans (show isT LP LH = true from isT_self (p := LP) (s := LH) rfl rfl)
  rw [mdK_good (by rw [e1]; exact g1), e1]
theorem lm_small : ∀ k, k ≤ 2 → ∀ l, (tellD (mdK LP LH LD2 k).1 l).size ≤ 2000 := by
  obtain ⟨H3, h3, _⟩ := lr3
  intro k hk
  match k, hk with
  | 0, _ => exact lv2.2
  | 1, _ => rw [lm3.1]; exact h3.small (fun _ _ _ _ _ => ls3 _ _)
  | 2, _ => rw [lm3.2]; exact h3.small (fun _ _ _ _ _ => ls3 _ _)
theorem lv3 : readR (toldD LD3 LP) LP = (LH, 0, 0) ∧ (∀ l, (tellD LD3 l).size ≤ 2000) := by
  obtain ⟨H, h, _⟩ := lr3
  refine ⟨?_, h.small (fun _ _ _ _ _ => ls3 _ _)⟩
  have e := rg_told h LP 0 1 3 rfl (.inr rfl) (by decide) (by decide)
  rw [read_first lp_ok rfl, e]
  · rfl
  · rw [rg_good h LP 0 1 3 rfl (.inr rfl) (by decide) (by decide)]
    exact show isT LP LH = true from isT_self (p := LP) (s := LH) rfl rfl
theorem blanks_size (l : List ByteArray) : (blanks l).length = l.length := by simp [blanks]
theorem lost5 : ∀ dev, two dev → devLost LD5 dev = true := by
  rintro dev (rfl | rfl) <;> rfl
theorem size5 : ∀ dev, two dev → devSize LD5 dev = 20 := by
  obtain ⟨H, h, _⟩ := lr3
  rintro dev (rfl | rfl)
  · have h1 := h.sz 0 (.inl rfl)
    show (blanks LD3.s0.has).length = 20
    rw [blanks_size]
    exact h1
  · have h1 := h.sz 1 (.inr rfl)
    show (blanks LD3.s1.has).length = 20
    rw [blanks_size]
    exact h1
theorem wait5 : LD4.waits.length ≤ 3 ∧ LD5.waits.length ≤ 3 := by
  obtain ⟨H, h, h2, _⟩ := lr3
  have e1 : LD4.waits.length ≤ LD3.waits.length := keepL_len _ _
  have e2 : LD5.waits.length ≤ LD4.waits.length := keepL_len _ _
  omega
theorem tell5 : ∀ l, tellD LD5 l = ⟨#[]⟩ ∧ chkD LD5 l 0 ≠ 0 := by
  intro l
  have h : chkD LD5 l 0 ≠ 0 := fun h => by
    obtain ⟨h1, _, _, _, h5⟩ := chkD_ok h
    rw [lost5 _ h1] at h5
    cases h5
  exact ⟨by unfold tellD; rw [if_neg h], h⟩
theorem good5 (k : Nat) : (toldD LD5 LP).good LP k = false := by
  have h := (tell5 (LP.locs.getD k (0, 0))).2
  rw [good_told]
  unfold gdD
  rw [show (chkD LD5 (LP.locs.getD k (0, 0)) 0 == 0) = false from by simpa using h]
  rfl
theorem lv5 : readR (toldD LD5 LP) LP = (⟨#[]⟩, 0, 7) ∧ goodR (toldD LD5 LP) LP = [false, false] ∧ (∀ l, (tellD LD5 l).size ≤ 2000) :=
  ⟨read_none lp_ok rfl (good5 0) (good5 1), by rw [goodR_two lp_ok rfl, good5, good5], fun l => by rw [(tell5 l).1]; exact Nat.zero_le _⟩
def LA : ByteArray := ⟨#[97]⟩
theorem la_ok : ¬ badP (wrP [(0, 1)] LA 0) := by
  unfold badP wrP restBad twins
  simp only [List.length_cons, List.length_nil, List.mem_cons, List.not_mem_nil, or_false]
  intro h
  rcases h with h | ⟨x, rfl, h⟩ | ⟨h, _⟩ | h | h | h
  · omega
  · exact absurd h (by decide)
  · omega
  · exact absurd (show (0 : Int) ≤ (LA.size : Int) ∧ (LA.size : Int) ≤ 960 by decide) h
  · omega
  · exact h (sha_len _)
theorem la_far : [((0, 1) : Int × Int)].any (farW (devSize LD5)) = false := by
  show (farW (devSize LD5) (0, 1) || false) = false
  unfold farW
  simp only
  rw [size5 0 (.inl rfl)]
  decide
theorem la_gone : [((0, 1) : Int × Int)].any (fun l => devLost LD5 l.1) = true := by
  show (devLost LD5 0 || false) = true
  rw [lost5 0 (.inl rfl)]
  rfl
theorem la_nil : badP (wrP [] LA 0) := .inl (by simp [wrP])
end Go.Proofs.YtonkmffipjdhkaaDoor
