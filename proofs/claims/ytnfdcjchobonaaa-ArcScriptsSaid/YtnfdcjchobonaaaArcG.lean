/-
  Contracts: Ask, Has, Drop, Target, New.
-/
import Derived.Test.YtnfdcjchobonaaaArcF
namespace Go.Proofs.Ytnfdcjchobonaaa
open Go.RowKit Go.ChangeShapes Go.WideShapes Go.ChangeAt

theorem some_no {d : ArcD} {i j : Nat} {k : ByteArray} (h : (someA d i j k).2 = false) : (someA d i j k).1 = d := by
  unfold someA at h ⊢
  split at h
  · cases h
  · split at h
    · cases h
    · rename_i h1 h2; rw [if_neg h1, if_neg h2]
theorem ask_some (d : ArcD) (k : ByteArray) (hk : k ≠ emp) : askA d k = if (someA d 2 3 k).2 = true then (addA (someA d 2 3 k).1 3 k, true, emp) else ((keepA d k).1, false, (keepA d k).2) := by
  unfold askA someA
  rw [if_neg hk]
  cases h1 : hasA d 2 k <;> cases h2 : hasA d 3 k <;> rfl
theorem some_len (d : ArcD) {i j : Nat} (hi : InA i) (hj : InA j) (k : ByteArray) : (someA d i j k).1.len ≤ d.len := by
  unfold someA
  split
  · exact take_len d hi k
  · split
    · exact take_len d hj k
    · exact Nat.le_refl _

/-- The two lists told in a new block. -/
theorem two_new {b : Nat} {F : List Nat} {d : ArcD} {w : World} (h : ArcF b d F w) (i j : Nat) (W : World) (hW : W = (w.alloc (.cells #[.pointer (some ⟨b, i, none⟩), .pointer (some ⟨b, j, none⟩)] 52 (0, 0))).drew) :
    ArcF b d F W ∧ TwoP W w.heap.size b i j ∧ w.heap.size ∉ F ∧ ∀ (d' : ArcD) (w' : World), Tod (ArcF b d') F W w' → Tod (ArcF b d') F w w' := by
  subst hW
  have hb : Below w.heap.size w (w.alloc (.cells #[.pointer (some ⟨b, i, none⟩), .pointer (some ⟨b, j, none⟩)] 52 (0, 0))).drew := ((Below.refl _ _).alloc (Nat.le_refl _) _).drew
  have hF := (fixed_arc b d).keep _ _ _ _ h (Chg.of (S := []) hb (Nat.le_refl _)) (fun _ _ hm => by cases hm)
  refine ⟨hF, Box.new w _ _, fun hm => by have := (fixed_arc b d).lt _ _ h _ hm; omega, fun _ _ ht => ?_⟩
  exact Tod.seq (Chg.of hb (Nat.le_refl _)) (fun _ hk => .inl hk) ht

set_option maxRecDepth 100000 in
set_option maxHeartbeats 2000000 in
theorem ask_any (b : Nat) (F : List Nat) (d : ArcD) (k : ByteArray) (w : World) (h : ArcF b d F w) (hlen : d.len ≤ 8000) (hok : OkA d) :
    Calls Try.prog 12 #[.pointer (some ⟨b, 0, none⟩), .string k] w fun e w' => e = .returned (.tuple #[.bool (askA d k).2.1, .string (askA d k).2.2]) ∧ Tod (ArcF b (askA d k).1) F w w' := by
  have HMD : Hid (∃ v, ArcAt w b v d) := by obtain ⟨v, h1, _⟩ := h; exact ⟨v, h1⟩
  obtain ⟨v, hv⟩ := HMD.out
  have HD := Lib.hid (made_any b v d w hv hok.1)
  by_cases hk : k = emp
  · have e : askA d k = (d, false, emp) := by unfold askA; rw [if_pos hk]
    rw [e]
    have HT : Hid (Tod (ArcF b d) F w w) := Tod.same (fixed_arc b d) h (Below.refl _ _)
    subst hk
    clear h hlen hok hv e HMD
    go_enter Try.func12, Try.ntmps12
    go_wp2_with fail
    refine HD.out.mono ?_
    rintro e w1 ⟨rfl, rfl⟩
    go_wp2
    go_ret2
    exact ⟨rfl, HT.out⟩
  · obtain ⟨e1, e2⟩ := str_emp hk
    have HM := Lib.hid (ask_some d k hk)
    generalize hM : askA d k = M at *
    clear hM
    obtain ⟨W, hW⟩ : ∃ W, W = (w.alloc (.cells #[.pointer (some ⟨b, 2, none⟩), .pointer (some ⟨b, 3, none⟩)] 52 (0, 0))).drew := ⟨_, rfl⟩
    obtain ⟨t1, t2, t3, t4⟩ := two_new h 2 3 W hW
    have HU := Lib.hid t4
    have HSM := Lib.hid (some_take w.heap.size b 2 3 in2 in3 F d k W t1 (by omega) t2 t3)
    have HKP := Lib.hid (fun (F' : List Nat) (w' : World) (hh : ArcF b d F' w') => keep_any b F' d k w' hh hlen hok)
    have HLN := Lib.hid (Nat.le_trans (some_len d in2 in3 k) hlen)
    have HNO := Lib.hid (@some_no d 2 3 k)
    generalize someA d 2 3 k = r at *
    obtain ⟨d1, hit⟩ := r
    dsimp only at HM HSM HLN HNO
    have HWW := Lib.hid hW
    clear h hlen hok hv HMD t1 t2 t3 t4 hW hk
    go_enter Try.func12, Try.ntmps12
    go_wp2_with fail
    refine HD.out.mono ?_
    rintro e w1 ⟨rfl, rfl⟩
    go_wp2_with fail
    refine wp_region_held_tail (fun _ => True) 7 (by kernel_rfl) (by kernel_rfl) trivial ?_
    simp only [List.take_succ_cons, List.take_zero, List.drop_succ_cons, List.drop_zero]
    iterate 7 (apply wpHeld_step; (intro W' hS K hK; go_simp; exact hK _ rfl))
    refine wpHeld_nil ?_
    refine wpOp_step rfl (fun K' hK => ?_)
    go_simp
    rw [← HWW.out]
    refine hK _ _ ⟨trivial, ?_⟩
    clear hK K'
    go_wp2_with fail
    refine HSM.out.mono ?_
    rintro e w2 ⟨rfl, ht⟩
    cases hit
    · have HMM : Hid (M = ((keepA d k).1, false, (keepA d k).2)) := by show _ = _; rw [HM.out]; rfl
      have e3 : d1 = d := HNO.out rfl
      subst e3
      obtain ⟨F2, h2, hc2, hf2⟩ := HU.out _ _ ht
      have HK2 := Lib.hid (HKP.out F2 w2 h2)
      have HC2 := Lib.hid hc2
      have HF2 := Lib.hid hf2
      clear ht h2 hc2 hf2 HKP HSM
      go_wp2_with fail
      refine HK2.out.mono ?_
      rintro e w3 ⟨rfl, ht⟩
      have HT := Lib.hid (Tod.seq HC2.out HF2.out ht)
      clear ht
      go_wp2
      go_ret2
      rw [HMM.out]
      exact ⟨rfl, HT.out⟩
    · have HMM : Hid (M = (addA d1 3 k, true, emp)) := by show _ = _; rw [HM.out]; rfl
      obtain ⟨F2, ⟨v2, h2, rfl⟩, hc2, hf2⟩ := HU.out _ _ ht
      have HK2 := Lib.hid (add_list b 3 in3 v2 d1 k w2 h2 (by have := HLN.out; omega))
      have HC2 := Lib.hid hc2
      have HF2 := Lib.hid hf2
      clear ht h2 hc2 hf2 HKP HSM
      go_wp2_with fail
      refine HK2.out.mono ?_
      rintro e w3 ⟨rfl, ht⟩
      have HT := Lib.hid (Tod.seq HC2.out HF2.out ht)
      clear ht
      go_wp2
      go_ret2
      rw [HMM.out]
      exact ⟨rfl, HT.out⟩
end Go.Proofs.Ytnfdcjchobonaaa
