/-
  Blocks of two copies, one of them spoilt: what is read, what is mended.
-/
import Derived.Test.YtonkmffipjdhkaaDoorMg26
namespace Go.Proofs.YtonkmffipjdhkaaDoor
open Go Go.RowKit Go.ChangeShapes Go.WideShapes Go.ChangeAt

def CL : List (Int × Int) := [(0, 7), (1, 9)]
def CP (s : ByteArray) : PtrD := wrP CL s 3
def T2 (s : ByteArray) : Int → Int → ByteArray := upd (upd (fun _ _ => ⟨#[]⟩) ((0, 7), s)) ((1, 9), s)
def C1 (s : ByteArray) : DevD := wrB (newD 20 20) CL s
def C2 (s : ByteArray) : DevD := endD (C1 s) (C1 s).waits
theorem cp_ok {s : ByteArray} (hs : s.size ≤ 960) : ¬ badP (CP s) := wrP_ok (by decide) (by decide) (by decide) hs (by decide)
theorem cl_two : ∀ x ∈ CL, two x.1 ∧ 0 ≤ x.2 ∧ x.2 < 20 := by decide
theorem c_rg1 {s : ByteArray} (hs : s.size ≤ 960) : (C1 s).waits = [((0, 7), s), ((1, 9), s)] ∧ Rg 20 (C1 s) (T2 s) (fun _ _ => ⟨#[]⟩) (fun _ => false) := by
  obtain ⟨h1, h2, _⟩ := (Rg.new 20).write ((0, 7), s) (.inl rfl) (by show (0 : Int) ≤ 7; omega) (by show (7 : Int) < 20; omega) (by show s.size ≤ 1024; omega)
  obtain ⟨h3, h4, _⟩ := h1.write ((1, 9), s) (.inr rfl) (by show (0 : Int) ≤ 9; omega) (by show (9 : Int) < 20; omega) (by show s.size ≤ 1024; omega)
  refine ⟨?_, h3⟩
  show (writeD (writeD (newD 20 20) (0, 7) s) (1, 9) s).waits = _
  exact h4.trans (by rw [h2]; rfl)
theorem c_rg2 {s : ByteArray} (hs : s.size ≤ 960) : Rg 20 (C2 s) (T2 s) (T2 s) (fun _ => false) ∧ (C2 s).waits = [] := by
  obtain ⟨hw, h⟩ := c_rg1 hs
  obtain ⟨h1, h2⟩ := h.end' (C1 s).waits (by
    rw [hw]
    intro x hx
    simp only [List.mem_cons, List.not_mem_nil, or_false] at hx
    rcases hx with rfl | rfl
    · exact ⟨.inl rfl, by show (0 : Int) ≤ 7; omega, by show (7 : Int) < 20; omega⟩
    · exact ⟨.inr rfl, by show (0 : Int) ≤ 9; omega, by show (9 : Int) < 20; omega⟩)
  have h3 : Rg 20 (C2 s) ((C1 s).waits.foldl upd (fun _ _ => ⟨#[]⟩)) ((C1 s).waits.foldl upd (fun _ _ => ⟨#[]⟩)) (fun _ => false) := h1
  rw [hw] at h3
  exact ⟨h3, h2⟩
theorem t2_small {s : ByteArray} (hs : s.size ≤ 960) : ∀ a b, (T2 s a b).size ≤ 2000 := lt_small _ _ (lt_small _ _ (fun _ _ => Nat.zero_le _) (by show s.size ≤ 2000; omega)) (by show s.size ≤ 2000; omega)
/-- Both copies are good. -/
theorem c_good {s : ByteArray} (hs : s.size ≤ 960) {d : DevD} {T H : Int → Int → ByteArray} (h : Rg 20 d T H (fun _ => false)) (h0 : T 0 7 = s) (h1 : T 1 9 = s) (hT : ∀ a b, (T a b).size ≤ 2000) :
    readR (toldD d (CP s)) (CP s) = (s, 0, 0) ∧ mdK (CP s) s d 2 = (d, 0) ∧ mdK (CP s) s d 1 = (d, 0) ∧ ∀ l, (tellD d l).size ≤ 2000 := by
  have g0 : (toldD d (CP s)).good (CP s) 0 = true := by
    rw [rg_good h (CP s) 0 0 7 rfl (.inl rfl) (by omega) (by omega), h0]
    exact show isT (CP s) s = true from isT_self rfl rfl
  have g1 : (toldD d (CP s)).good (CP s) 1 = true := by
    rw [rg_good h (CP s) 1 1 9 rfl (.inr rfl) (by omega) (by omega), h1]
    exact show isT (CP s) s = true from isT_self rfl rfl
  have e1 : mdK (CP s) s d 1 = (d, 0) := mdK_good (k := 0) (d := d) (by rw [good_told] at g0; exact g0)
  refine ⟨?_, ?_, e1, h.small (fun _ _ _ _ _ => hT _ _)⟩
  · rw [read_first (cp_ok hs) rfl g0, rg_told h (CP s) 0 0 7 rfl (.inl rfl) (by omega) (by omega), h0]
  · rw [mdK_good (k := 1) (by rw [e1]; rw [good_told] at g1; exact g1), e1]
/-- Copy k is another text, of another length. -/
theorem c_bad {s j : ByteArray} (hs : s.size ≤ 960) (hj : j.size ≤ 1024) (hne : j.size ≠ s.size) (k : Nat) (hk : k = 0 ∨ k = 1) {d : DevD} {H : Int → Int → ByteArray} (h : Rg 20 d (upd (T2 s) (CL.getD k (0, 0), j)) H (fun _ => false)) :
    readR (toldD d (CP s)) (CP s) = (s, 1 - k, 0) ∧ mdK (CP s) s d 2 = (writeD d (CL.getD k (0, 0)) s, 1) ∧ (∀ i, i < 2 → ∀ l, (tellD (mdK (CP s) s d i).1 l).size ≤ 2000) ∧ (∀ l, (tellD d l).size ≤ 2000) ∧
    (∃ T, Rg 20 (writeD d (CL.getD k (0, 0)) s) T H (fun _ => false) ∧ T 0 7 = s ∧ T 1 9 = s ∧ ∀ a b, (T a b).size ≤ 2000) ∧ (writeD d (CL.getD k (0, 0)) s).waits = d.waits ++ [(CL.getD k (0, 0), s)] := by
  have hT := lt_small (CL.getD k (0, 0), j) _ (t2_small hs) (by show j.size ≤ 2000; omega)
  have hsm := h.small (fun _ _ _ _ _ => hT _ _)
  have hsz : (s.size : Int) ≠ j.size := by omega
  rcases hk with rfl | rfl
  · have g0 : (toldD d (CP s)).good (CP s) 0 = false := by
      rw [rg_good h (CP s) 0 0 7 rfl (.inl rfl) (by omega) (by omega)]
      exact show isT (CP s) j = false from isT_len hsz
    have g1 : (toldD d (CP s)).good (CP s) 1 = true := by
      rw [rg_good h (CP s) 1 1 9 rfl (.inr rfl) (by omega) (by omega)]
      exact show isT (CP s) s = true from isT_self rfl rfl
    obtain ⟨w1, w2, w3⟩ := h.write ((0, 7), s) (.inl rfl) (by show (0 : Int) ≤ 7; omega) (by show (7 : Int) < 20; omega) (by show s.size ≤ 1024; omega)
    have hT4 := lt_small ((0, 7), s) _ hT (by show s.size ≤ 2000; omega)
    have e1 : mdK (CP s) s d 1 = (writeD d (0, 7) s, 1) := by
      rw [mdK_bad (k := 0) (by rw [good_told] at g0; exact g0)]
      show (writeD d (0, 7) s, 0 + if chkD d (0, 7) s.size = 0 then 1 else 0) = _
      rw [if_pos w3]
    have g2 : (toldD (writeD d (0, 7) s) (CP s)).good (CP s) 1 = true := by
      rw [rg_good w1 (CP s) 1 1 9 rfl (.inr rfl) (by omega) (by omega)]
      exact show isT (CP s) s = true from isT_self rfl rfl
    refine ⟨?_, ?_, ?_, hsm, ⟨_, w1, rfl, rfl, hT4⟩, w2⟩
    · rw [read_next (cp_ok hs) rfl g0 g1, rg_told h (CP s) 1 1 9 rfl (.inr rfl) (by omega) (by omega)]
      rfl
    · rw [mdK_good (k := 1) (by rw [e1]; rw [good_told] at g2; exact g2), e1]
      rfl
    · intro i hi l
      match i, hi with
      | 0, _ => exact hsm l
      | 1, _ => rw [e1]; exact w1.small (fun _ _ _ _ _ => hT4 _ _) l
  · have g0 : (toldD d (CP s)).good (CP s) 0 = true := by
      rw [rg_good h (CP s) 0 0 7 rfl (.inl rfl) (by omega) (by omega)]
      exact show isT (CP s) s = true from isT_self rfl rfl
    have g1 : (toldD d (CP s)).good (CP s) 1 = false := by
      rw [rg_good h (CP s) 1 1 9 rfl (.inr rfl) (by omega) (by omega)]
      exact show isT (CP s) j = false from isT_len hsz
    obtain ⟨w1, w2, w3⟩ := h.write ((1, 9), s) (.inr rfl) (by show (0 : Int) ≤ 9; omega) (by show (9 : Int) < 20; omega) (by show s.size ≤ 1024; omega)
    have hT4 := lt_small ((1, 9), s) _ hT (by show s.size ≤ 2000; omega)
    have e1 : mdK (CP s) s d 1 = (d, 0) := mdK_good (k := 0) (by rw [good_told] at g0; exact g0)
    refine ⟨?_, ?_, ?_, hsm, ⟨_, w1, rfl, rfl, hT4⟩, w2⟩
    · rw [read_first (cp_ok hs) rfl g0, rg_told h (CP s) 0 0 7 rfl (.inl rfl) (by omega) (by omega)]
      rfl
    · rw [mdK_bad (k := 1) (by rw [e1]; rw [good_told] at g1; exact g1), e1]
      show (writeD d (1, 9) s, 0 + if chkD d (1, 9) s.size = 0 then 1 else 0) = _
      rw [if_pos w3]
      rfl
    · intro i hi l
      match i, hi with
      | 0, _ => exact hsm l
      | 1, _ => rw [e1]; exact hsm l
/-- What is spoilt behind the flush. -/
def C3 (s j : ByteArray) (k : Nat) : DevD := spoilD (C2 s) (CL.getD k (0, 0)) j
def C4 (s j : ByteArray) (k : Nat) : DevD := writeD (C3 s j k) (CL.getD k (0, 0)) s
theorem c_rg3 {s j : ByteArray} (hs : s.size ≤ 960) (hj : j.size ≤ 1024) (k : Nat) (hk : k = 0 ∨ k = 1) : Rg 20 (C3 s j k) (upd (T2 s) (CL.getD k (0, 0), j)) (upd (T2 s) (CL.getD k (0, 0), j)) (fun _ => false) ∧ (C3 s j k).waits = [] := by
  obtain ⟨h, hw⟩ := c_rg2 hs
  have hlen : ∀ d : DevD, d.waits.length ≤ (C2 s).waits.length → d.waits = [] := fun d hd => by
    rw [hw] at hd
    exact List.eq_nil_of_length_eq_zero (by simpa using hd)
  rcases hk with rfl | rfl
  · obtain ⟨h1, h2⟩ := h.spoil ((0, 7), j) (.inl rfl) (by show (0 : Int) ≤ 7; omega) (by show (7 : Int) < 20; omega) hj
    exact ⟨h1, hlen _ h2⟩
  · obtain ⟨h1, h2⟩ := h.spoil ((1, 9), j) (.inr rfl) (by show (0 : Int) ≤ 9; omega) (by show (9 : Int) < 20; omega) hj
    exact ⟨h1, hlen _ h2⟩
/-- The good copy is read, though the other device is lost. -/
theorem c_lost {s : ByteArray} (hs : s.size ≤ 960) {d : DevD} {T H : Int → Int → ByteArray} (h : Rg 20 d T H (fun _ => false)) (h0 : T 0 7 = s) (h1 : T 1 9 = s) (hT : ∀ a b, (T a b).size ≤ 2000) (k : Nat) (hk : k = 0 ∨ k = 1) :
    readR (toldD (loseD d (1 - (k : Int))) (CP s)) (CP s) = (s, k, 0) ∧ ∀ l, (tellD (loseD d (1 - (k : Int))) l).size ≤ 2000 := by
  have hq : two (1 - (k : Int)) := by unfold two; omega
  have hl := h.lose (1 - (k : Int)) hq
  have hT2 : ∀ a b, ((fun dev j => if dev = 1 - (k : Int) then (⟨#[]⟩ : ByteArray) else T dev j) a b).size ≤ 2000 := fun a b => by
    show ByteArray.size (if _ then _ else _) ≤ 2000
    split
    · exact Nat.zero_le _
    · exact hT a b
  refine ⟨?_, hl.small (fun _ _ _ _ _ => hT2 _ _)⟩
  rcases hk with rfl | rfl
  · have g0 : (toldD (loseD d (1 - ((0 : Nat) : Int))) (CP s)).good (CP s) 0 = true := by
      rw [rg_good hl (CP s) 0 0 7 rfl (.inl rfl) (by omega) (by omega)]
      show (!decide ((0 : Int) = 1 - ((0 : Nat) : Int)) && isT (CP s) (if (0 : Int) = 1 - ((0 : Nat) : Int) then ⟨#[]⟩ else T 0 7)) = true
      rw [if_neg (by omega), h0, decide_eq_false (by omega)]
      exact show isT (CP s) s = true from isT_self rfl rfl
    rw [read_first (cp_ok hs) rfl g0]
    show (tellD (loseD d (1 - ((0 : Nat) : Int))) (0, 7), _, _) = _
    rw [hl.tell 0 7 (.inl rfl) (by omega) (by omega), decide_eq_false (by omega)]
    show ((if (0 : Int) = 1 - ((0 : Nat) : Int) then ⟨#[]⟩ else T 0 7), _, _) = _
    rw [if_neg (by omega), h0]
  · have g0 : (toldD (loseD d (1 - ((1 : Nat) : Int))) (CP s)).good (CP s) 0 = false := by
      rw [rg_good hl (CP s) 0 0 7 rfl (.inl rfl) (by omega) (by omega), decide_eq_true (by omega)]
      rfl
    have g1 : (toldD (loseD d (1 - ((1 : Nat) : Int))) (CP s)).good (CP s) 1 = true := by
      rw [rg_good hl (CP s) 1 1 9 rfl (.inr rfl) (by omega) (by omega)]
      show (!decide ((1 : Int) = 1 - ((1 : Nat) : Int)) && isT (CP s) (if (1 : Int) = 1 - ((1 : Nat) : Int) then ⟨#[]⟩ else T 1 9)) = true
      rw [if_neg (by omega), h1, decide_eq_false (by omega)]
      exact show isT (CP s) s = true from isT_self rfl rfl
    rw [read_next (cp_ok hs) rfl g0 g1]
    show (tellD (loseD d (1 - ((1 : Nat) : Int))) (1, 9), _, _) = _
    rw [hl.tell 1 9 (.inr rfl) (by omega) (by omega), decide_eq_false (by omega)]
    show ((if (1 : Int) = 1 - ((1 : Nat) : Int) then ⟨#[]⟩ else T 1 9), _, _) = _
    rw [if_neg (by omega), h1]
/-- Behind a crash that keeps nothing all is as it was had. -/
theorem c_crash {d : DevD} {T H : Int → Int → ByteArray} (h : Rg 20 d T H (fun _ => false)) : Rg 20 (crashD d []) H H (fun _ => false) ∧ (crashD d []).waits = [] := by
  have hk : keptL d.waits [] = [] := by unfold keptL; simp
  have h1 := h.end' [] (fun x hx => by cases hx)
  unfold crashD
  rw [hk]
  exact h1
end Go.Proofs.YtonkmffipjdhkaaDoor
