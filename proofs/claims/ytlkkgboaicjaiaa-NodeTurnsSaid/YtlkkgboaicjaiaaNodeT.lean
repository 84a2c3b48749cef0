/-
  The reference's Size, Check.
-/
import Derived.Test.YtlkkgboaicjaiaaNodeS
namespace Go.Proofs.Ytlkkgboaicjaiaa
open Go.RowKit Go.ChangeShapes Go.WideShapes Go.ChangeAt

set_option maxRecDepth 100000 in
set_option maxHeartbeats 1000000 in
theorem rsize_any (ka : Option Addr) (kc : Nat) (va : Option Addr) (vc : Nat) (d : NodeD) (w : World) (h : NodeIn w ka va d) (hz : ∀ s ∈ d.keys ++ d.vals, s.size ≤ maxLen) :
    Calls Try.prog 20 #[nodeV ka kc va vc d] w fun e w' => e = .returned (.int .i64 (sizeD d)) ∧ Below w.heap.size w w' := by
  have H := Lib.hid h
  have HZ := Lib.hid hz
  have HB0 : Hid (∀ o, Below w.heap.size w (w.alloc o)) := fun o => (Below.refl _ _).alloc (Nat.le_refl _) o
  clear h hz
  have HV : Hid (Value.agg #[.bool d.leaf, .slice ka d.keys.length kc, .slice va d.vals.length vc] = nodeV ka kc va vc d) := rfl
  obtain ⟨v0, hv0⟩ : ∃ v0, v0 = nodeV ka kc va vc d := ⟨_, rfl⟩
  cases hm : mayD d
  · have HS : Hid (sizeD d = 0) := by show _ = _; unfold sizeD; rw [hm]; rfl
    rw [HS.out]
    unfold nodeV
    go_enter Try.func20, Try.ntmps20
    go_wp2_with fail
    rw [HV.out]
    refine (rmay_any ka kc va vc d _ (H.out.keep (HB0.out _)) HZ.out).mono ?_
    rintro e w1 ⟨rfl, hb⟩
    rw [hm]
    have HB1 := Lib.hid ((HB0.out _).trans (hb.mono (by rw [size_alloc]; omega)))
    clear hb
    go_wp2
    go_ret
    exact ⟨rfl, HB1.out⟩
  · have hM := may_bounds hm
    have HM := Lib.hid hM
    have HS : Hid (sizeD d = 2 + szL d.keys d.vals) := by show _ = _; unfold sizeD; rw [hm]; rfl
    rw [HS.out]
    have hkl := hM.le
    clear hM
    unfold nodeV
    go_enter Try.func20, Try.ntmps20
    go_wp2_with fail
    rw [HV.out]
    refine (rmay_any ka kc va vc d _ (H.out.keep (HB0.out _)) HZ.out).mono ?_
    rintro e w1 ⟨rfl, hb⟩
    rw [hm]
    have HX : Hid (Box w1 w.heap.size 24 #[.bool d.leaf, .slice ka d.keys.length kc, .slice va d.vals.length vc]) := (Box.new _ _ _).keep hb (by rw [size_alloc]; omega)
    have HB1 := Lib.hid ((HB0.out _).trans (hb.mono (by rw [size_alloc]; omega)))
    have c1 := HX.out.cell 1 _ rfl
    clear hb hm
    go_wp2_with fail
    go_loopw [3, 4] (fun t i wr => ∃ k : Nat, k ≤ d.keys.length ∧ t = .int .i64 ((2 + szL (d.keys.take k) (d.vals.take k) : Nat) : Int) ∧ i = .int .i64 k ∧ Hid (Below w.heap.size w wr) ∧ Hid (Box wr w.heap.size 24 #[.bool d.leaf, .slice ka d.keys.length kc, .slice va d.vals.length vc])) (fun _ i _ => d.keys.length - (intOf i).toNat)
    case atStart => exact ⟨0, Nat.zero_le _, rfl, rfl, HB1, HX⟩
    case round =>
      clear HX HB1 c1
      obtain ⟨k, hk, rfl, rfl, HL, HX⟩ := hrel
      by_cases hlt : k < d.keys.length
      · have h2v : k < d.vals.length := by have := HM.out.eq; omega
        have z1 := HM.out.ks d.keys[k] (by simp)
        have z2 := HM.out.vs d.vals[k] (by simp)
        have HT := Lib.hid (sz_take d.keys d.vals k hlt h2v)
        have hcut := sz_cut d.keys d.vals k
        have hsz := HM.out.sz
        have c0 := HX.out.cell 0 _ rfl
        have c1 := HX.out.cell 1 _ rfl
        have c2 := HX.out.cell 2 _ rfl
        obtain ⟨n, hn⟩ : ∃ n, n = szL (d.keys.take k) (d.vals.take k) := ⟨_, rfl⟩
        rw [← hn] at hcut HT ⊢
        have hn9 : n ≤ 107865 := by omega
        clear hcut hsz hn
        have HN := H.out.keep HL.out
        obtain ⟨b, off, hka, _, hc⟩ := HN.ks.get k hlt
        obtain ⟨b2, off2, hva, _, hc2⟩ := HN.vs.get k h2v
        have HL2 := Lib.hid HL.out.drew
        have HDN : Hid (∀ nq, Below w.heap.size w (wr.drewN nq)) := fun nq => ⟨HL.out.os, HL.out.tape, HL.out.output, HL.out.size, HL.out.block⟩
        have HXN : Hid (∀ nq, Box (wr.drewN nq) w.heap.size 24 #[.bool d.leaf, .slice ka d.keys.length kc, .slice va d.vals.length vc]) := fun nq => HX.out
        clear HN
        subst hka hva
        generalize d.keys[k] = x at *
        generalize d.vals[k] = y at *
        have h0i : (0 : Int) ≤ (k : Int) := by omega
        have h1i : (k : Int) < (d.keys.length : Int) := by omega
        have h2i : (k : Int) < (d.vals.length : Int) := by omega
        go_wp2_with fail
        go_quiet (fail)
        go_wp2
        go_roundw
        case rel => exact ⟨k + 1, by omega, by rw [HT.out]; go_num, by go_num, HDN.out _, HXN.out _⟩
        case measure => simp [intOf]; omega
      · have hkl : k = d.keys.length := by omega
        have HT : Hid (szL (d.keys.take k) (d.vals.take k) = szL d.keys d.vals) := by
          show _ = _
          have := HM.out.eq
          rw [List.take_of_length_le (by omega), List.take_of_length_le (by omega)]
        rw [HT.out]
        have c1 := HX.out.cell 1 _ rfl
        go_wp2
        go_ret
        exact ⟨rfl, HL.out⟩
theorem rcheck_any (ka : Option Addr) (kc : Nat) (va : Option Addr) (vc : Nat) (d : NodeD) (w : World) (h : NodeIn w ka va d) (hz : ∀ s ∈ d.keys ++ d.vals, s.size ≤ maxLen) :
    Calls Try.prog 18 #[nodeV ka kc va vc d] w fun e w' => e = .returned (.int .i64 (chkN d)) ∧ Below w.heap.size w w' := by
  have H := Lib.hid h
  have HZ := Lib.hid hz
  have HB0 : Hid (∀ o, Below w.heap.size w (w.alloc o)) := fun o => (Below.refl _ _).alloc (Nat.le_refl _) o
  clear h hz
  have HV : Hid (Value.agg #[.bool d.leaf, .slice ka d.keys.length kc, .slice va d.vals.length vc] = nodeV ka kc va vc d) := rfl
  obtain ⟨C, hC⟩ : ∃ C, C = chkN d := ⟨_, rfl⟩
  rw [← hC]
  unfold nodeV
  go_enter Try.func18, Try.ntmps18
  go_wp2_with fail
  rw [HV.out]
  refine (rmay_any ka kc va vc d _ (H.out.keep (HB0.out _)) HZ.out).mono ?_
  rintro e w1 ⟨rfl, hb⟩
  have HX : Hid (Box w1 w.heap.size 24 #[.bool d.leaf, .slice ka d.keys.length kc, .slice va d.vals.length vc]) := (Box.new _ _ _).keep hb (by rw [size_alloc]; omega)
  have HB1 := Lib.hid ((HB0.out _).trans (hb.mono (by rw [size_alloc]; omega)))
  have c0 := HX.out.cell 0 _ rfl
  have c1 := HX.out.cell 1 _ rfl
  have c2 := HX.out.cell 2 _ rfl
  clear hb
  cases hm : mayD d
  · have HC : Hid (C = 1) := by show _ = _; rw [hC]; unfold chkN; rw [hm]; rfl
    clear hC
    go_wp2
    go_ret
    exact ⟨ret_int HC.out.symm, HB1.out⟩
  · have HC : Hid (C = if 960 < sizeD d then 13 else 0) := by show _ = _; rw [hC]; unfold chkN; rw [hm]; rfl
    clear hC
    go_wp2_with fail
    rw [HV.out]
    refine (rsize_any ka kc va vc d _ (H.out.keep HB1.out) HZ.out).mono ?_
    rintro e w2 ⟨rfl, hb⟩
    have HB2 := Lib.hid (HB1.out.trans (hb.mono HB1.out.size))
    clear hb
    by_cases h9 : 960 < sizeD d
    · rw [if_pos h9] at HC
      go_wp2
      go_ret
      exact ⟨ret_int HC.out.symm, HB2.out⟩
    · rw [if_neg h9] at HC
      go_wp2
      go_ret
      exact ⟨ret_int HC.out.symm, HB2.out⟩
end Go.Proofs.Ytlkkgboaicjaiaa
