/-
  Contracts of package node: sizeOf, Size, Check.
-/
import Derived.Test.YtlkkgboaicjaiaaNodeA
namespace Go.Proofs.Ytlkkgboaicjaiaa
open Go.RowKit Go.ChangeShapes Go.WideShapes Go.ChangeAt

structure MayB (d : NodeD) : Prop where
  eq : d.keys.length = d.vals.length
  le : d.keys.length ≤ 255
  ks : ∀ s ∈ d.keys, s.size ≤ 300
  vs : ∀ s ∈ d.vals, s.size ≤ 120
  sz : szL d.keys d.vals ≤ 107865
theorem may_bounds {d : NodeD} (h : mayD d = true) : MayB d := by
  obtain ⟨E, e, hE, hl⟩ := may_of h
  have hk : ∀ s ∈ d.keys, s.size ≤ 300 := by
    rw [e]; intro s hs
    obtain ⟨x, hx, rfl⟩ := List.mem_map.1 hs
    have := hE.ok x hx
    rw [okE, decide_eq_true_eq] at this
    exact this.2.1
  have hv : ∀ s ∈ d.vals, s.size ≤ 120 := by
    rw [e]; intro s hs
    obtain ⟨x, hx, rfl⟩ := List.mem_map.1 hs
    have := hE.ok x hx
    rw [okE, decide_eq_true_eq] at this
    exact this.2.2
  have hle : d.keys.length ≤ 255 := by rw [e]; simpa [ofE] using hl
  refine ⟨by rw [e]; simp [ofE], hle, hk, hv, ?_⟩
  have := sz_le d.keys d.vals 300 120 hk hv
  omega
theorem sizeof_any (ka : Option Addr) (kc : Nat) (va : Option Addr) (vc : Nat) (d : NodeD) (k : Nat) (w : World) (h : NodeIn w ka va d) (h1 : k < d.keys.length) (h2 : k < d.vals.length) (z1 : (d.keys[k]).size ≤ 1000000) (z2 : (d.vals[k]).size ≤ 1000000) :
    Calls Try.prog 41 #[nodeV ka kc va vc d, .int .i64 (k : Int)] w fun e w' => e = .returned (.int .i64 (3 + (d.keys[k]).size + (d.vals[k]).size)) ∧ Below w.heap.size w w' := by
  have HB0 : Hid (∀ o, Below w.heap.size w (w.alloc o)) := fun o => (Below.refl _ _).alloc (Nat.le_refl _) o
  have hkl := h.kl
  have hvl := h.vl
  obtain ⟨b, off, hka, hb, hc⟩ := h.ks.get k h1
  obtain ⟨b2, off2, hva, hb2, hc2⟩ := h.vs.get k h2
  subst hka hva
  have q1 : ∀ o, (w.alloc o).cell? ⟨b, off + k, none⟩ = some (.string d.keys[k]) := fun o => ((HB0.out o).cell (p := ⟨b, off + k, none⟩) hb).trans hc
  have q2 : ∀ o, (w.alloc o).cell? ⟨b2, off2 + k, none⟩ = some (.string d.vals[k]) := fun o => ((HB0.out o).cell (p := ⟨b2, off2 + k, none⟩) hb2).trans hc2
  have c1 : (w.alloc (.cells #[.bool d.leaf, .slice (some ⟨b, off, none⟩) d.keys.length kc, .slice (some ⟨b2, off2, none⟩) d.vals.length vc] 30)).cell? ⟨w.heap.size, 1, none⟩ = some (.slice (some ⟨b, off, none⟩) d.keys.length kc) := boxed0 _ _ _ _ 1 _ rfl
  have c2 : (w.alloc (.cells #[.bool d.leaf, .slice (some ⟨b, off, none⟩) d.keys.length kc, .slice (some ⟨b2, off2, none⟩) d.vals.length vc] 30)).cell? ⟨w.heap.size, 2, none⟩ = some (.slice (some ⟨b2, off2, none⟩) d.vals.length vc) := boxed0 _ _ _ _ 2 _ rfl
  have h0 : (0 : Int) ≤ (k : Int) := by omega
  have h1i : (k : Int) < (d.keys.length : Int) := by omega
  have h2i : (k : Int) < (d.vals.length : Int) := by omega
  unfold nodeV
  clear h hc hc2
  generalize d.keys[k] = x at *
  generalize d.vals[k] = y at *
  have w1 : wrap64 (3 + (x.size : Int)) = 3 + (x.size : Int) := IntWalk.wrap64_in _ (by omega)
  have w2 : wrap64 (3 + (x.size : Int) + (y.size : Int)) = 3 + (x.size : Int) + (y.size : Int) := IntWalk.wrap64_in _ (by omega)
  go_enter Try.func41, Try.ntmps41
  go_wp2_with fail
  go_quiet (fail)
  go_wp2
  go_ret
  exact ⟨rfl, ⟨rfl, rfl, rfl, (HB0.out _).size, (HB0.out (.cells #[.bool d.leaf, .slice (some ⟨b, off, none⟩) d.keys.length kc, .slice (some ⟨b2, off2, none⟩) d.vals.length vc] 30)).block⟩⟩

set_option maxHeartbeats 1000000 in
theorem size_any (ka : Option Addr) (kc : Nat) (va : Option Addr) (vc : Nat) (d : NodeD) (w : World) (h : NodeIn w ka va d) (hz : ∀ s ∈ d.keys ++ d.vals, s.size ≤ maxLen) :
    Calls Try.prog 19 #[nodeV ka kc va vc d] w fun e w' => e = .returned (.int .i64 (sizeD d)) ∧ Below w.heap.size w w' := by
  have H := Lib.hid h
  have HZ := Lib.hid hz
  have HB0 : Hid (∀ o, Below w.heap.size w (w.alloc o)) := fun o => (Below.refl _ _).alloc (Nat.le_refl _) o
  clear h hz
  have HV : Hid (Value.agg #[.bool d.leaf, .slice ka d.keys.length kc, .slice va d.vals.length vc] = nodeV ka kc va vc d) := rfl
  obtain ⟨v0, hv0⟩ : ∃ v0, v0 = nodeV ka kc va vc d := ⟨_, rfl⟩
  cases hm : mayD d
  · have HS : Hid (sizeD d = 0) := by show _ = _; unfold sizeD; rw [hm]; rfl
    rw [HS.out]
    unfold nodeV
    go_enter Try.func19, Try.ntmps19
    go_wp2_with fail
    rw [HV.out]
    refine (maybe_any ka kc va vc d _ (H.out.keep (HB0.out _)) HZ.out).mono ?_
    rintro e w1 ⟨rfl, hb⟩
    rw [hm]
    have HB1 := Lib.hid ((HB0.out _).trans (hb.mono (by rw [size_alloc]; omega)))
    clear hb
    go_wp2
    go_ret
    exact ⟨rfl, HB1.out⟩
  · have hM := may_bounds hm
    have HM := Lib.hid hM
    have HS : Hid (sizeD d = 2 + szL d.keys d.vals) := by show _ = _; unfold sizeD; rw [hm]; rfl
    rw [HS.out]
    have hkl := hM.le
    clear hM
    unfold nodeV
    go_enter Try.func19, Try.ntmps19
    go_wp2_with fail
    rw [HV.out]
    refine (maybe_any ka kc va vc d _ (H.out.keep (HB0.out _)) HZ.out).mono ?_
    rintro e w1 ⟨rfl, hb⟩
    rw [hm]
    have HX : Hid (Box w1 w.heap.size 30 #[.bool d.leaf, .slice ka d.keys.length kc, .slice va d.vals.length vc]) := (Box.new _ _ _).keep hb (by rw [size_alloc]; omega)
    have HB1 := Lib.hid ((HB0.out _).trans (hb.mono (by rw [size_alloc]; omega)))
    have c1 := HX.out.cell 1 _ rfl
    clear hb hm
    go_wp2_with fail
    go_loopw [3, 4, 11] (fun t _ i wr => ∃ k : Nat, k ≤ d.keys.length ∧ t = .int .i64 ((2 + szL (d.keys.take k) (d.vals.take k) : Nat) : Int) ∧ i = .int .i64 k ∧ Hid (Below w.heap.size w wr) ∧ Hid (Box wr w.heap.size 30 #[.bool d.leaf, .slice ka d.keys.length kc, .slice va d.vals.length vc])) (fun _ _ i _ => d.keys.length - (intOf i).toNat)
    case atStart => exact ⟨0, Nat.zero_le _, rfl, rfl, HB1, HX⟩
    case round =>
      clear HX HB1 c1
      obtain ⟨k, hk, rfl, rfl, HL, HX⟩ := hrel
      by_cases hlt : k < d.keys.length
      · have h2v : k < d.vals.length := by have := HM.out.eq; omega
        have z1 := HM.out.ks d.keys[k] (by simp)
        have z2 := HM.out.vs d.vals[k] (by simp)
        have HT := Lib.hid (sz_take d.keys d.vals k hlt h2v)
        have hcut := sz_cut d.keys d.vals k
        have hsz := HM.out.sz
        have c0 := HX.out.cell 0 _ rfl
        have c1 := HX.out.cell 1 _ rfl
        have c2 := HX.out.cell 2 _ rfl
        obtain ⟨n, hn⟩ : ∃ n, n = szL (d.keys.take k) (d.vals.take k) := ⟨_, rfl⟩
        rw [← hn] at hcut HT ⊢
        have hn9 : n ≤ 107865 := by omega
        clear hcut hsz hn
        go_wp2_with fail
        rw [HV.out]
        refine (sizeof_any ka kc va vc d k _ (H.out.keep HL.out) hlt h2v (by omega) (by omega)).mono ?_
        rintro e w2 ⟨rfl, hb⟩
        have HL2 := Lib.hid (HL.out.trans (hb.mono HL.out.size))
        have HX2 := Lib.hid (HX.out.keep hb HX.out.lt)
        generalize d.keys[k] = x at *
        generalize d.vals[k] = y at *
        clear hb c0 c1 c2
        go_wp2
        go_roundw
        case rel => exact ⟨k + 1, by omega, by rw [HT.out]; go_num, by go_num, HL2, HX2⟩
        case measure => simp [intOf]; omega
      · have hkl : k = d.keys.length := by omega
        have HT : Hid (szL (d.keys.take k) (d.vals.take k) = szL d.keys d.vals) := by
          show _ = _
          have := HM.out.eq
          rw [List.take_of_length_le (by omega), List.take_of_length_le (by omega)]
        rw [HT.out]
        go_wp2
        go_ret
        exact ⟨rfl, HL.out⟩
theorem check_any (ka : Option Addr) (kc : Nat) (va : Option Addr) (vc : Nat) (d : NodeD) (w : World) (h : NodeIn w ka va d) (hz : ∀ s ∈ d.keys ++ d.vals, s.size ≤ maxLen) :
    Calls Try.prog 17 #[nodeV ka kc va vc d] w fun e w' => e = .returned (.int .i64 (chkN d)) ∧ Below w.heap.size w w' := by
  have H := Lib.hid h
  have HZ := Lib.hid hz
  have HB0 : Hid (∀ o, Below w.heap.size w (w.alloc o)) := fun o => (Below.refl _ _).alloc (Nat.le_refl _) o
  clear h hz
  have HV : Hid (Value.agg #[.bool d.leaf, .slice ka d.keys.length kc, .slice va d.vals.length vc] = nodeV ka kc va vc d) := rfl
  obtain ⟨C, hC⟩ : ∃ C, C = chkN d := ⟨_, rfl⟩
  rw [← hC]
  unfold nodeV
  go_enter Try.func17, Try.ntmps17
  go_wp2_with fail
  rw [HV.out]
  refine (maybe_any ka kc va vc d _ (H.out.keep (HB0.out _)) HZ.out).mono ?_
  rintro e w1 ⟨rfl, hb⟩
  have HX : Hid (Box w1 w.heap.size 30 #[.bool d.leaf, .slice ka d.keys.length kc, .slice va d.vals.length vc]) := (Box.new _ _ _).keep hb (by rw [size_alloc]; omega)
  have HB1 := Lib.hid ((HB0.out _).trans (hb.mono (by rw [size_alloc]; omega)))
  have c0 := HX.out.cell 0 _ rfl
  have c1 := HX.out.cell 1 _ rfl
  have c2 := HX.out.cell 2 _ rfl
  clear hb
  cases hm : mayD d
  · have HC : Hid (C = 1) := by show _ = _; rw [hC]; unfold chkN; rw [hm]; rfl
    clear hC
    go_wp2
    go_ret
    exact ⟨ret_int HC.out.symm, HB1.out⟩
  · have HC : Hid (C = if 960 < sizeD d then 13 else 0) := by show _ = _; rw [hC]; unfold chkN; rw [hm]; rfl
    clear hC
    go_wp2_with fail
    rw [HV.out]
    refine (size_any ka kc va vc d _ (H.out.keep HB1.out) HZ.out).mono ?_
    rintro e w2 ⟨rfl, hb⟩
    have HB2 := Lib.hid (HB1.out.trans (hb.mono HB1.out.size))
    clear hb
    by_cases h9 : 960 < sizeD d
    · rw [if_pos h9] at HC
      go_wp2
      go_ret
      exact ⟨ret_int HC.out.symm, HB2.out⟩
    · rw [if_neg h9] at HC
      go_wp2
      go_ret
      exact ⟨ret_int HC.out.symm, HB2.out⟩
end Go.Proofs.Ytlkkgboaicjaiaa
