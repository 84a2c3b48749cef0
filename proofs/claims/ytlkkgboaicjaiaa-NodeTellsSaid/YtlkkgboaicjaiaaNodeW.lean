/-
  The reference's Find.
-/
import Derived.Test.YtlkkgboaicjaiaaNodeT
import Derived.Test.YtlkkgboaicjaiaaNodeF
namespace Go.Proofs.Ytlkkgboaicjaiaa
open Go.RowKit Go.ChangeShapes Go.WideShapes Go.ChangeAt

theorem le_at (ks : List ByteArray) (key : ByteArray) (h : Up ks) : ∃ m, m ≤ ks.length ∧ (∀ i (hi : i < ks.length), ltK key ks[i] = !decide (i < m)) ∧
    (m - 1 = (if isK ks key = true then cntK ks key else cntK ks key - 1)) ∧ (∀ (hi : m - 1 < ks.length), decide (ks[m - 1] = key) = isK ks key) ∧ (isK ks key = true → m - 1 < ks.length) := by
  have e0 : ks = (ks.map (fun k => ((k, k) : Ent))).map (·.1) := by rw [List.map_map]; exact (List.map_id ks).symm
  obtain ⟨A, M, B, e, ha, hb, hm⟩ := up_cut key (ks.map (fun k => ((k, k) : Ent))) (by rw [← e0]; exact h)
  have e1 : ks = (A ++ (M ++ B)).map (·.1) := by rw [← e, ← e0]
  have hc := cnt_cut ha hb hm
  have hi := is_cut ha hb hm
  rw [← e1] at hc hi
  have hlen : ks.length = A.length + (M.length + B.length) := by rw [e1]; simp
  have hget : ∀ i (h : i < ks.length), ks[i] = ((A ++ (M ++ B))[i]'(by simp; omega)).1 := by
    intro i h
    have : ks[i] = ((A ++ (M ++ B)).map (·.1))[i]'(by simp; omega) := by congr 1
    rw [this, List.getElem_map]
  have hml : M.length ≤ 1 := by rcases hm with rfl | ⟨v, rfl⟩ <;> simp
  have hM : ∀ x ∈ M, x.1 = key := by
    rcases hm with rfl | ⟨v, rfl⟩
    · intro x hx; cases hx
    · intro x hx; simp at hx; subst hx; rfl
  have hmi : isK ks key = decide (M.length = 1) := by rw [hi]; rcases hm with rfl | ⟨v, rfl⟩ <;> simp
  refine ⟨A.length + M.length, by omega, ?_, ?_, ?_, ?_⟩
  · intro i h1
    rw [hget i h1]
    rcases Nat.lt_or_ge i A.length with h2 | h2
    · have : (A ++ (M ++ B))[i]'(by simp; omega) = A[i] := List.getElem_append_left h2
      rw [this, ltK_as (ha _ (List.getElem_mem h2)), decide_eq_true (by omega)]; rfl
    · rw [List.getElem_append_right h2]
      rcases Nat.lt_or_ge (i - A.length) M.length with h3 | h3
      · rw [List.getElem_append_left h3, hM _ (List.getElem_mem h3), ltK_irr, decide_eq_true (by omega)]; rfl
      · rw [List.getElem_append_right h3, hb _ (List.getElem_mem (by omega)), decide_eq_false (by omega)]; rfl
  · rw [hmi, hc]
    by_cases h1 : M.length = 1
    · rw [if_pos (decide_eq_true h1)]; omega
    · rw [if_neg (by simpa using h1)]; omega
  · intro h1
    rw [hmi]
    have hg := hget _ h1
    rcases hm with rfl | ⟨v, rfl⟩
    · rw [decide_eq_false (by simp : ¬ ([] : List Ent).length = 1)]
      apply decide_eq_false
      simp only [List.length_nil, Nat.add_zero, List.nil_append] at h1 hg ⊢
      rw [hg]
      rcases Nat.eq_zero_or_pos A.length with h2 | h2
      · have hA : A = [] := List.eq_nil_of_length_eq_zero h2
        subst hA
        cases B with
        | nil => simp at hlen; omega
        | cons x r => simp; exact fun e => ltK_ne (hb x (by simp)) e.symm
      · have : (A ++ B)[A.length - 1]'(by simp at hlen; simp; omega) = A[A.length - 1] := List.getElem_append_left (by omega)
        rw [this]
        exact ltK_ne (ha _ (List.getElem_mem (by omega)))
    · rw [decide_eq_true (by simp : ([(key, v)] : List Ent).length = 1)]
      apply decide_eq_true
      rw [hg]
      simp
  · intro h1
    rw [hmi] at h1
    have := of_decide_eq_true h1
    omega
set_option maxRecDepth 100000 in
set_option maxHeartbeats 2000000 in
theorem rfind_any (ka : Option Addr) (kc : Nat) (va : Option Addr) (vc : Nat) (d : NodeD) (key : ByteArray) (w : World) (h : NodeIn w ka va d) (hz : ∀ s ∈ d.keys ++ d.vals, s.size ≤ maxLen) :
    Calls Try.prog 16 #[nodeV ka kc va vc d, .string key] w fun e w' => e = .returned (.tuple #[.int .i64 (findD d key).1, .bool (findD d key).2]) ∧ Below w.heap.size w w' := by
  have H := Lib.hid h
  have HZ := Lib.hid hz
  have hkl := h.kl
  have HB0 : Hid (∀ o, Below w.heap.size w (w.alloc o)) := fun o => (Below.refl _ _).alloc (Nat.le_refl _) o
  clear h hz
  have HV : Hid (Value.agg #[.bool d.leaf, .slice ka d.keys.length kc, .slice va d.vals.length vc] = nodeV ka kc va vc d) := rfl
  obtain ⟨F, hF⟩ : ∃ F, F = findD d key := ⟨_, rfl⟩
  rw [← hF]
  unfold nodeV
  go_enter Try.func16, Try.ntmps16
  go_wp2_with fail
  rw [HV.out]
  refine (rmay_any ka kc va vc d _ (H.out.keep (HB0.out _)) HZ.out).mono ?_
  rintro e w1 ⟨rfl, hb⟩
  have HX : Hid (Box w1 w.heap.size 24 #[.bool d.leaf, .slice ka d.keys.length kc, .slice va d.vals.length vc]) := (Box.new _ _ _).keep hb (by rw [size_alloc]; omega)
  have HB1 := Lib.hid ((HB0.out _).trans (hb.mono (by rw [size_alloc]; omega)))
  clear hb
  cases hm : mayD d
  · have HF : Hid (F = (0, false)) := by show _ = _; rw [hF]; unfold findD; rw [hm]; rfl
    clear hF
    go_wp2
    go_ret2
    exact ⟨by rw [HF.out]; rfl, HB1.out⟩
  · obtain ⟨m, q1, q2, q3, q4, q5⟩ := le_at d.keys key (may_up hm)
    have HF : Hid (F = (m - 1, isK d.keys key)) := by
      show _ = _
      rw [hF]; unfold findD; rw [if_pos hm, q3]
      cases isK d.keys key <;> rfl
    have HLE := Lib.hid q2
    have HEQ := Lib.hid q4
    have HIN := Lib.hid q5
    clear hF q2 q3 q4 q5 hm
    generalize isK d.keys key = isb at *
    go_wp2_with fail
    go_loopw [6, 7] (fun a i wr => ∃ k : Nat, k ≤ d.keys.length ∧ a = .int .i64 ((min k m - 1 : Nat) : Int) ∧ i = .int .i64 k ∧ Hid (Below w.heap.size w wr) ∧ Hid (Box wr w.heap.size 24 #[.bool d.leaf, .slice ka d.keys.length kc, .slice va d.vals.length vc])) (fun _ i _ => d.keys.length - (intOf i).toNat)
    case atStart => exact ⟨0, Nat.zero_le _, by simp, rfl, HB1, HX⟩
    case round =>
      clear HX HB1
      obtain ⟨k, hk, rfl, rfl, HL, HX⟩ := hrel
      have c1 := HX.out.cell 1 _ rfl
      by_cases hlt : k < d.keys.length
      · obtain ⟨b, off, hka, _, hc⟩ := (H.out.keep HL.out).ks.get k hlt
        subst hka
        have hle := fun W => str_leq d.keys[k] key W
        have hq := HLE.out k hlt
        have h0i : (0 : Int) ≤ (k : Int) := by omega
        have h1i : (k : Int) < (d.keys.length : Int) := by omega
        generalize d.keys[k] = x at *
        rw [hq] at hle
        clear hq
        by_cases hkm : k < m
        · have hle2 : ∀ W, (binOp .leq 9 (.string x) (.string key)).run Try.prog W = .ok (.bool true) W := fun W => by rw [hle W, decide_eq_true hkm]; rfl
          have HMN : Hid (min (k + 1) m - 1 = k) := by show _ = _; omega
          clear hle hkm
          generalize min k m - 1 = a0 at *
          go_wp2
          go_roundw
          case rel => exact ⟨k + 1, by omega, by rw [HMN.out], by go_num, HL, HX⟩
          case measure => simp [intOf]; omega
        · have hle2 : ∀ W, (binOp .leq 9 (.string x) (.string key)).run Try.prog W = .ok (.bool false) W := fun W => by rw [hle W, decide_eq_false hkm]; rfl
          have HMN : Hid (min (k + 1) m - 1 = min k m - 1) := by show _ = _; omega
          clear hle hkm
          generalize hga : min k m - 1 = a0 at *
          have HGA := Lib.hid hga
          clear hga
          go_wp2
          go_roundw
          case rel => exact ⟨k + 1, by omega, by rw [HMN.out], by go_num, HL, HX⟩
          case measure => simp [intOf]; omega
      · have hkl2 : k = d.keys.length := by omega
        subst hkl2
        have hmm : min d.keys.length m - 1 = m - 1 := by rw [Nat.min_eq_right q1]
        rw [hmm]
        clear hmm
        by_cases hat : m - 1 < d.keys.length
        · obtain ⟨b, off, hka, _, hc⟩ := (H.out.keep HL.out).ks.get (m - 1) hat
          subst hka
          have he := HEQ.out hat
          have h1i : ((m - 1 : Nat) : Int) < (d.keys.length : Int) := by omega
          generalize d.keys[m - 1] = x at *
          generalize m - 1 = a0 at *
          have h0i : (0 : Int) ≤ (a0 : Int) := by omega
          have e1 := beq_key x key
          rw [he] at e1
          have HDN : Hid (∀ nq, Below w.heap.size w (wr.drewN nq)) := fun nq => ⟨HL.out.os, HL.out.tape, HL.out.output, HL.out.size, HL.out.block⟩
          clear he
          go_wp2_with fail
          go_quiet (fail)
          go_wp2
          go_ret2
          exact ⟨by rw [HF.out]; rfl, HDN.out _⟩
        · have hib : isb = false := by
            cases hb : isb
            · rfl
            · exact absurd (HIN.out hb) hat
          have h1i : ¬ ((m - 1 : Nat) : Int) < (d.keys.length : Int) := by omega
          generalize m - 1 = a0 at *
          have HDN : Hid (∀ nq, Below w.heap.size w (wr.drewN nq)) := fun nq => ⟨HL.out.os, HL.out.tape, HL.out.output, HL.out.size, HL.out.block⟩
          subst hib
          go_wp2_with fail
          go_quiet (fail)
          go_wp2
          go_ret2
          exact ⟨by rw [HF.out]; rfl, HDN.out _⟩
end Go.Proofs.Ytlkkgboaicjaiaa
