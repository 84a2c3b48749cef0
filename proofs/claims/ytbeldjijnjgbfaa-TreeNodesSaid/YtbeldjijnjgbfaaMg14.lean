/-
  Texts put together: NodeB, NodeC, NodeF, NodeG, NodeH.
-/
import Derived.Test.YtbeldjijnjgbfaaMg13
namespace Go.Proofs.Ytbeldjijnjgbfaa
open Go.RowKit Go.ChangeShapes Go.WideShapes Go.ChangeAt

structure MayB (d : NodeD) : Prop where
  eq : d.keys.length = d.vals.length
  le : d.keys.length ≤ 255
  ks : ∀ s ∈ d.keys, s.size ≤ 300
  vs : ∀ s ∈ d.vals, s.size ≤ 120
  sz : szL d.keys d.vals ≤ 107865
theorem may_bounds {d : NodeD} (h : mayD d = true) : MayB d := by
  obtain ⟨E, e, hE, hl⟩ := may_of h
  have hk : ∀ s ∈ d.keys, s.size ≤ 300 := by
    rw [e]; intro s hs
    obtain ⟨x, hx, rfl⟩ := List.mem_map.1 hs
    have := hE.ok x hx
    rw [okE, decide_eq_true_eq] at this
    exact this.2.1
  have hv : ∀ s ∈ d.vals, s.size ≤ 120 := by
    rw [e]; intro s hs
    obtain ⟨x, hx, rfl⟩ := List.mem_map.1 hs
    have := hE.ok x hx
    rw [okE, decide_eq_true_eq] at this
    exact this.2.2
  have hle : d.keys.length ≤ 255 := by rw [e]; simpa [ofE] using hl
  refine ⟨by rw [e]; simp [ofE], hle, hk, hv, ?_⟩
  have := sz_le d.keys d.vals 300 120 hk hv
  omega
theorem sizeof_any (ka : Option Addr) (kc : Nat) (va : Option Addr) (vc : Nat) (d : NodeD) (k : Nat) (w : World) (h : NodeIn w ka va d) (h1 : k < d.keys.length) (h2 : k < d.vals.length) (z1 : (d.keys[k]).size ≤ 1000000) (z2 : (d.vals[k]).size ≤ 1000000) :
    Calls Try.prog 56 #[nodeV ka kc va vc d, .int .i64 (k : Int)] w fun e w' => e = .returned (.int .i64 (3 + (d.keys[k]).size + (d.vals[k]).size)) ∧ Below w.heap.size w w' := by
  have HB0 : Hid (∀ o, Below w.heap.size w (w.alloc o)) := fun o => (Below.refl _ _).alloc (Nat.le_refl _) o
  have hkl := h.kl
  have hvl := h.vl
  obtain ⟨b, off, hka, hb, hc⟩ := h.ks.get k h1
  obtain ⟨b2, off2, hva, hb2, hc2⟩ := h.vs.get k h2
  subst hka hva
  have q1 : ∀ o, (w.alloc o).cell? ⟨b, off + k, none⟩ = some (.string d.keys[k]) := fun o => ((HB0.out o).cell (p := ⟨b, off + k, none⟩) hb).trans hc
  have q2 : ∀ o, (w.alloc o).cell? ⟨b2, off2 + k, none⟩ = some (.string d.vals[k]) := fun o => ((HB0.out o).cell (p := ⟨b2, off2 + k, none⟩) hb2).trans hc2
  have c1 : (w.alloc (.cells #[.bool d.leaf, .slice (some ⟨b, off, none⟩) d.keys.length kc, .slice (some ⟨b2, off2, none⟩) d.vals.length vc] 51)).cell? ⟨w.heap.size, 1, none⟩ = some (.slice (some ⟨b, off, none⟩) d.keys.length kc) := boxed0 _ _ _ _ 1 _ rfl
  have c2 : (w.alloc (.cells #[.bool d.leaf, .slice (some ⟨b, off, none⟩) d.keys.length kc, .slice (some ⟨b2, off2, none⟩) d.vals.length vc] 51)).cell? ⟨w.heap.size, 2, none⟩ = some (.slice (some ⟨b2, off2, none⟩) d.vals.length vc) := boxed0 _ _ _ _ 2 _ rfl
  have h0 : (0 : Int) ≤ (k : Int) := by omega
  have h1i : (k : Int) < (d.keys.length : Int) := by omega
  have h2i : (k : Int) < (d.vals.length : Int) := by omega
  unfold nodeV
  clear h hc hc2
  generalize d.keys[k] = x at *
  generalize d.vals[k] = y at *
  have w1 : wrap64 (3 + (x.size : Int)) = 3 + (x.size : Int) := IntWalk.wrap64_in _ (by omega)
  have w2 : wrap64 (3 + (x.size : Int) + (y.size : Int)) = 3 + (x.size : Int) + (y.size : Int) := IntWalk.wrap64_in _ (by omega)
  go_enter Try.func56, Try.ntmps56
  go_wp2_with fail
  go_quiet (fail)
  go_wp2
  go_ret
  exact ⟨rfl, ⟨rfl, rfl, rfl, (HB0.out _).size, (HB0.out (.cells #[.bool d.leaf, .slice (some ⟨b, off, none⟩) d.keys.length kc, .slice (some ⟨b2, off2, none⟩) d.vals.length vc] 51)).block⟩⟩

set_option maxHeartbeats 1000000 in
theorem size_any (ka : Option Addr) (kc : Nat) (va : Option Addr) (vc : Nat) (d : NodeD) (w : World) (h : NodeIn w ka va d) (hz : ∀ s ∈ d.keys ++ d.vals, s.size ≤ maxLen) :
    Calls Try.prog 40 #[nodeV ka kc va vc d] w fun e w' => e = .returned (.int .i64 (sizeD d)) ∧ Below w.heap.size w w' := by
  have H := Lib.hid h
  have HZ := Lib.hid hz
  have HB0 : Hid (∀ o, Below w.heap.size w (w.alloc o)) := fun o => (Below.refl _ _).alloc (Nat.le_refl _) o
  clear h hz
  have HV : Hid (Value.agg #[.bool d.leaf, .slice ka d.keys.length kc, .slice va d.vals.length vc] = nodeV ka kc va vc d) := rfl
  obtain ⟨v0, hv0⟩ : ∃ v0, v0 = nodeV ka kc va vc d := ⟨_, rfl⟩
  cases hm : mayD d
  · have HS : Hid (sizeD d = 0) := by show _ = _; unfold sizeD; rw [hm]; rfl
    rw [HS.out]
    unfold nodeV
    go_enter Try.func40, Try.ntmps40
    go_wp2_with fail
    rw [HV.out]
    refine (maybe_any ka kc va vc d _ (H.out.keep (HB0.out _)) HZ.out).mono ?_
    rintro e w1 ⟨rfl, hb⟩
    rw [hm]
    have HB1 := Lib.hid ((HB0.out _).trans (hb.mono (by rw [size_alloc]; omega)))
    clear hb
    go_wp2
    go_ret
    exact ⟨rfl, HB1.out⟩
  · have hM := may_bounds hm
    have HM := Lib.hid hM
    have HS : Hid (sizeD d = 2 + szL d.keys d.vals) := by show _ = _; unfold sizeD; rw [hm]; rfl
    rw [HS.out]
    have hkl := hM.le
    clear hM
    unfold nodeV
    go_enter Try.func40, Try.ntmps40
    go_wp2_with fail
    rw [HV.out]
    refine (maybe_any ka kc va vc d _ (H.out.keep (HB0.out _)) HZ.out).mono ?_
    rintro e w1 ⟨rfl, hb⟩
    rw [hm]
    have HX : Hid (Box w1 w.heap.size 51 #[.bool d.leaf, .slice ka d.keys.length kc, .slice va d.vals.length vc]) := (Box.new _ _ _).keep hb (by rw [size_alloc]; omega)
    have HB1 := Lib.hid ((HB0.out _).trans (hb.mono (by rw [size_alloc]; omega)))
    have c1 := HX.out.cell 1 _ rfl
    clear hb hm
    go_wp2_with fail
    go_loopw [3, 4, 11] (fun t _ i wr => ∃ k : Nat, k ≤ d.keys.length ∧ t = .int .i64 ((2 + szL (d.keys.take k) (d.vals.take k) : Nat) : Int) ∧ i = .int .i64 k ∧ Hid (Below w.heap.size w wr) ∧ Hid (Box wr w.heap.size 51 #[.bool d.leaf, .slice ka d.keys.length kc, .slice va d.vals.length vc])) (fun _ _ i _ => d.keys.length - (intOf i).toNat)
    case atStart => exact ⟨0, Nat.zero_le _, rfl, rfl, HB1, HX⟩
    case round =>
      clear HX HB1 c1
      obtain ⟨k, hk, rfl, rfl, HL, HX⟩ := hrel
      by_cases hlt : k < d.keys.length
      · have h2v : k < d.vals.length := by have := HM.out.eq; omega
        have z1 := HM.out.ks d.keys[k] (by simp)
        have z2 := HM.out.vs d.vals[k] (by simp)
        have HT := Lib.hid (sz_take d.keys d.vals k hlt h2v)
        have hcut := sz_cut d.keys d.vals k
        have hsz := HM.out.sz
        have c0 := HX.out.cell 0 _ rfl
        have c1 := HX.out.cell 1 _ rfl
        have c2 := HX.out.cell 2 _ rfl
        obtain ⟨n, hn⟩ : ∃ n, n = szL (d.keys.take k) (d.vals.take k) := ⟨_, rfl⟩
        rw [← hn] at hcut HT ⊢
        have hn9 : n ≤ 107865 := by omega
        clear hcut hsz hn
        go_wp2_with fail
        rw [HV.out]
        refine (sizeof_any ka kc va vc d k _ (H.out.keep HL.out) hlt h2v (by omega) (by omega)).mono ?_
        rintro e w2 ⟨rfl, hb⟩
        have HL2 := Lib.hid (HL.out.trans (hb.mono HL.out.size))
        have HX2 := Lib.hid (HX.out.keep hb HX.out.lt)
        generalize d.keys[k] = x at *
        generalize d.vals[k] = y at *
        clear hb c0 c1 c2
        go_wp2
        go_roundw
        case rel => exact ⟨k + 1, by omega, by rw [HT.out]; go_num, by go_num, HL2, HX2⟩
        case measure => simp [intOf]; omega
      · have hkl : k = d.keys.length := by omega
        have HT : Hid (szL (d.keys.take k) (d.vals.take k) = szL d.keys d.vals) := by
          show _ = _
          have := HM.out.eq
          rw [List.take_of_length_le (by omega), List.take_of_length_le (by omega)]
        rw [HT.out]
        go_wp2
        go_ret
        exact ⟨rfl, HL.out⟩
theorem check_any (ka : Option Addr) (kc : Nat) (va : Option Addr) (vc : Nat) (d : NodeD) (w : World) (h : NodeIn w ka va d) (hz : ∀ s ∈ d.keys ++ d.vals, s.size ≤ maxLen) :
    Calls Try.prog 23 #[nodeV ka kc va vc d] w fun e w' => e = .returned (.int .i64 (chkN d)) ∧ Below w.heap.size w w' := by
  have H := Lib.hid h
  have HZ := Lib.hid hz
  have HB0 : Hid (∀ o, Below w.heap.size w (w.alloc o)) := fun o => (Below.refl _ _).alloc (Nat.le_refl _) o
  clear h hz
  have HV : Hid (Value.agg #[.bool d.leaf, .slice ka d.keys.length kc, .slice va d.vals.length vc] = nodeV ka kc va vc d) := rfl
  obtain ⟨C, hC⟩ : ∃ C, C = chkN d := ⟨_, rfl⟩
  rw [← hC]
  unfold nodeV
  go_enter Try.func23, Try.ntmps23
  go_wp2_with fail
  rw [HV.out]
  refine (maybe_any ka kc va vc d _ (H.out.keep (HB0.out _)) HZ.out).mono ?_
  rintro e w1 ⟨rfl, hb⟩
  have HX : Hid (Box w1 w.heap.size 51 #[.bool d.leaf, .slice ka d.keys.length kc, .slice va d.vals.length vc]) := (Box.new _ _ _).keep hb (by rw [size_alloc]; omega)
  have HB1 := Lib.hid ((HB0.out _).trans (hb.mono (by rw [size_alloc]; omega)))
  have c0 := HX.out.cell 0 _ rfl
  have c1 := HX.out.cell 1 _ rfl
  have c2 := HX.out.cell 2 _ rfl
  clear hb
  cases hm : mayD d
  · have HC : Hid (C = 1) := by show _ = _; rw [hC]; unfold chkN; rw [hm]; rfl
    clear hC
    go_wp2
    go_ret
    exact ⟨ret_int HC.out.symm, HB1.out⟩
  · have HC : Hid (C = if 960 < sizeD d then 13 else 0) := by show _ = _; rw [hC]; unfold chkN; rw [hm]; rfl
    clear hC
    go_wp2_with fail
    rw [HV.out]
    refine (size_any ka kc va vc d _ (H.out.keep HB1.out) HZ.out).mono ?_
    rintro e w2 ⟨rfl, hb⟩
    have HB2 := Lib.hid (HB1.out.trans (hb.mono HB1.out.size))
    clear hb
    by_cases h9 : 960 < sizeD d
    · rw [if_pos h9] at HC
      go_wp2
      go_ret
      exact ⟨ret_int HC.out.symm, HB2.out⟩
    · rw [if_neg h9] at HC
      go_wp2
      go_ret
      exact ⟨ret_int HC.out.symm, HB2.out⟩
end Go.Proofs.Ytbeldjijnjgbfaa

namespace Go.Proofs.Ytbeldjijnjgbfaa
open Go.RowKit Go.ChangeShapes Go.WideShapes Go.ChangeAt

theorem cnan_any (x : ByteArray) (w : World) : Calls Try.prog 67 #[.string x] w fun e w' => e = .returned (.bool false) ∧ w = w' := by
  go_enter Try.func67, Try.ntmps67
  go_wp2
  go_ret
  exact ⟨by simp, rfl⟩
theorem snan_any (x : ByteArray) (w : World) : Calls Try.prog 59 #[.string x] w fun e w' => e = .returned (.bool false) ∧ w = w' := by
  go_enter Try.func59, Try.ntmps59
  go_wp2
  go_ret
  exact ⟨by simp, rfl⟩
theorem less_any (x y : ByteArray) (w : World) : Calls Try.prog 58 #[.string x, .string y] w fun e w' => e = .returned (.bool (ltK x y)) ∧ w = w' := by
  go_enter Try.func58, Try.ntmps58
  go_wp2_with fail
  refine (cnan_any x _).mono ?_
  rintro e w' ⟨rfl, rfl⟩
  go_wp2
  go_ret
  exact ⟨rfl, rfl⟩

theorem up_at {l : List ByteArray} (h : Up l) {i j : Nat} (hij : i < j) (hj : j < l.length) : ltK l[i] l[j] = true := List.pairwise_iff_getElem.1 h i j (by omega) hj hij
set_option maxRecDepth 1000000 in
set_option maxHeartbeats 2000000 in
theorem bsearch_any (a : Option Addr) (cap : Nat) (l : List ByteArray) (x : ByteArray) (w : World) (hs : Sl w Value.string a l) (hlen : l.length ≤ 100000) (hup : Up l) :
    Calls Try.prog 43 #[.slice a l.length cap, .string x] w fun e w' => e = .returned (.tuple #[.int .i64 (cntK l x), .bool (isK l x)]) ∧ Below w.heap.size w w' := by
  have HS := Lib.hid hs
  have HU := Lib.hid hup
  obtain ⟨C, hC⟩ : ∃ C, C = cntK l x := ⟨_, rfl⟩
  obtain ⟨I, hI0⟩ : ∃ I, I = isK l x := ⟨_, rfl⟩
  rw [← hC, ← hI0]
  have HC0 := Lib.hid hC
  have HI0 := Lib.hid hI0
  clear hs hup hC hI0
  go_enter Try.func43, Try.ntmps43
  go_wp2
  go_loopw [7, 8, 9] (fun s t _ wr => ∃ i j : Nat, s = .int .i64 i ∧ t = .int .i64 j ∧ i ≤ j ∧ j ≤ l.length ∧ Hid (∀ k ∈ l.take i, ltK k x = true) ∧ Hid (∀ k ∈ l.drop j, ltK k x = false) ∧ Hid (Below w.heap.size w wr)) (fun s t _ _ => (intOf t).toNat - (intOf s).toNat)
  case atStart => exact ⟨0, l.length, rfl, rfl, Nat.zero_le _, Nat.le_refl _, Lib.hid (fun k hk => by simp at hk), Lib.hid (fun k hk => by rw [List.drop_length] at hk; cases hk), Below.refl _ _⟩
  case round =>
    obtain ⟨i, j, rfl, rfl, hij, hjl, H1, H2, HL⟩ := hrel
    by_cases hlt : i < j
    · obtain ⟨b, off, hka, _, hc⟩ := (HS.out.keep HL.out).get ((i + j) / 2) (by omega)
      have HIN : Hid ((i + j) / 2 < l.length) := by show _ < _; omega
      have HE : Hid (l[(i + j) / 2]'HIN.out = l[(i + j) / 2]'HIN.out) := rfl
      subst hka
      obtain ⟨y, hy⟩ : ∃ y, l[(i + j) / 2]'HIN.out = y := ⟨_, rfl⟩
      rw [hy] at hc
      have HY := Lib.hid hy
      clear hy HE
      have hm1 : (i + j) / 2 < l.length := HIN.out
      go_wp2_with fail
      refine (less_any y x _).mono ?_
      rintro e w' ⟨rfl, rfl⟩
      cases hg : ltK y x
      · have H2b : Hid (∀ k ∈ l.drop ((i + j) / 2), ltK k x = false) := by
          intro k hk
          obtain ⟨q, hq, rfl⟩ := List.mem_iff_getElem.1 hk
          rw [List.getElem_drop]
          rcases Nat.eq_zero_or_pos q with rfl | h0
          · simp only [Nat.add_zero]; rw [HY.out]; exact hg
          · rw [List.length_drop] at hq
            have h3 := up_at HU.out (i := (i + j) / 2) (j := (i + j) / 2 + q) (by omega) (by omega)
            rw [HY.out] at h3
            cases h4 : ltK (l[(i + j) / 2 + q]'(by omega)) x
            · rfl
            · rw [ltK_tr h3 h4] at hg; cases hg
        clear hg
        go_wp2
        go_roundw
        case rel => exact ⟨i, (i + j) / 2, rfl, by go_num, by omega, by omega, H1, H2b, HL⟩
        case measure => simp [intOf]; omega
      · have H1b : Hid (∀ k ∈ l.take ((i + j) / 2 + 1), ltK k x = true) := by
          intro k hk
          obtain ⟨q, hq, rfl⟩ := List.mem_take_iff_getElem.1 hk
          rcases Nat.lt_or_ge q ((i + j) / 2) with h0 | h0
          · have h3 := up_at HU.out (i := q) (j := (i + j) / 2) (by omega) hm1
            rw [HY.out] at h3
            exact ltK_tr h3 hg
          · have : q = (i + j) / 2 := by omega
            subst this
            rw [HY.out]; exact hg
        clear hg
        go_wp2
        go_roundw
        case rel => exact ⟨(i + j) / 2 + 1, j, by go_num, rfl, by omega, by omega, H1b, H2, HL⟩
        case measure => simp [intOf]; omega
    · have hji : j = i := by omega
      subst hji
      have HC : Hid (cntK l x = j) := cnt_of hjl H1.out H2.out
      have HCj : Hid (C = j) := HC0.out.trans HC.out
      by_cases hn : j < l.length
      · obtain ⟨b, off, hka, _, hc⟩ := (HS.out.keep HL.out).get j hn
        subst hka
        obtain ⟨y, hy⟩ : ∃ y, l[j]'hn = y := ⟨_, rfl⟩
        rw [hy] at hc
        have e1 := beq_key y x
        have hI : isK l x = decide (y = x) := by
          unfold isK
          rw [HC.out, List.getElem?_eq_getElem hn, hy]
          exact decide_eq_decide.2 ⟨fun e => by injection e, fun e => by rw [e]⟩
        have HI := Lib.hid (HI0.out.trans hI)
        clear hy hI
        by_cases hyx : y = x
        · rw [decide_eq_true hyx] at e1 HI
          clear hyx
          go_wp2
          go_ret2
          exact ⟨by rw [HCj.out, HI.out]; rfl, HL.out⟩
        · rw [decide_eq_false hyx] at e1 HI
          clear hyx
          go_wp2_with fail
          refine (snan_any y _).mono ?_
          rintro e w' ⟨rfl, rfl⟩
          go_wp2
          go_ret2
          exact ⟨by rw [HCj.out, HI.out]; rfl, HL.out⟩
      · have hI : isK l x = false := by
          unfold isK
          rw [HC.out, List.getElem?_eq_none (by omega)]; rfl
        have HI := Lib.hid (HI0.out.trans hI)
        clear hI
        go_wp2
        go_ret2
        exact ⟨by rw [HCj.out, HI.out]; rfl, HL.out⟩
end Go.Proofs.Ytbeldjijnjgbfaa

namespace Go.Proofs.Ytbeldjijnjgbfaa
open Go.RowKit Go.ChangeShapes Go.WideShapes Go.ChangeAt

theorem may_up {d : NodeD} (h : mayD d = true) : Up d.keys := by
  obtain ⟨E, e, hE, _⟩ := may_of h
  rw [e]; exact hE.up
set_option maxHeartbeats 1000000 in
theorem find_any (ka : Option Addr) (kc : Nat) (va : Option Addr) (vc : Nat) (d : NodeD) (key : ByteArray) (w : World) (h : NodeIn w ka va d) (hz : ∀ s ∈ d.keys ++ d.vals, s.size ≤ maxLen) :
    Calls Try.prog 27 #[nodeV ka kc va vc d, .string key] w fun e w' => e = .returned (.tuple #[.int .i64 (findD d key).1, .bool (findD d key).2]) ∧ Below w.heap.size w w' := by
  have H := Lib.hid h
  have HZ := Lib.hid hz
  have HB0 : Hid (∀ o, Below w.heap.size w (w.alloc o)) := fun o => (Below.refl _ _).alloc (Nat.le_refl _) o
  clear h hz
  have HV : Hid (Value.agg #[.bool d.leaf, .slice ka d.keys.length kc, .slice va d.vals.length vc] = nodeV ka kc va vc d) := rfl
  obtain ⟨F, hF⟩ : ∃ F, F = findD d key := ⟨_, rfl⟩
  rw [← hF]
  unfold nodeV
  go_enter Try.func27, Try.ntmps27
  go_wp2_with fail
  rw [HV.out]
  refine (maybe_any ka kc va vc d _ (H.out.keep (HB0.out _)) HZ.out).mono ?_
  rintro e w1 ⟨rfl, hb⟩
  have HX : Hid (Box w1 w.heap.size 51 #[.bool d.leaf, .slice ka d.keys.length kc, .slice va d.vals.length vc]) := (Box.new _ _ _).keep hb (by rw [size_alloc]; omega)
  have HB1 := Lib.hid ((HB0.out _).trans (hb.mono (by rw [size_alloc]; omega)))
  have c1 := HX.out.cell 1 _ rfl
  clear hb
  cases hm : mayD d
  · have HF : Hid (F = (0, false)) := by show _ = _; rw [hF]; unfold findD; rw [hm]; rfl
    clear hF
    go_wp2
    go_ret2
    exact ⟨by rw [HF.out]; rfl, HB1.out⟩
  · have HU := Lib.hid (may_up hm)
    have hF2 : F = (if isK d.keys key = true then (cntK d.keys key, true) else (cntK d.keys key - 1, false)) := by rw [hF]; unfold findD; rw [if_pos hm]
    have hcl : cntK d.keys key ≤ d.keys.length := (List.takeWhile_prefix _).length_le
    have hkl := H.out.kl
    clear hF
    go_wp2_with fail
    refine (bsearch_any ka kc d.keys key _ (H.out.keep HB1.out).ks hkl HU.out).mono ?_
    rintro e w2 ⟨rfl, hb⟩
    have HB2 := Lib.hid (HB1.out.trans (hb.mono HB1.out.size))
    clear hb
    generalize cntK d.keys key = c at *
    generalize isK d.keys key = i at *
    cases i
    · have HF : Hid (F = (c - 1, false)) := hF2
      clear hF2
      rcases Nat.eq_zero_or_pos c with rfl | hc
      · go_wp2
        go_ret2
        exact ⟨by rw [HF.out]; rfl, HB2.out⟩
      · obtain ⟨q, rfl⟩ : ∃ q, c = q + 1 := ⟨c - 1, by omega⟩
        have w1 : wrap64 (((q + 1 : Nat) : Int) - 1) = (q : Int) := by rw [IntWalk.wrap64_in _ (by omega)]; omega
        have w2 : wrap64 ((q : Int) + 1 - 1) = (q : Int) := by rw [IntWalk.wrap64_in _ (by omega)]; omega
        have w3 : ¬ (q : Int) < 0 := by omega
        go_wp2
        go_ret2
        exact ⟨by rw [HF.out]; simp, HB2.out⟩
    · have HF : Hid (F = (c, true)) := hF2
      clear hF2
      go_wp2
      go_ret2
      exact ⟨by rw [HF.out]; rfl, HB2.out⟩

/-! Rows of strings, cloned. -/
set_option maxRecDepth 100000 in
set_option maxHeartbeats 1000000 in
theorem clone_sl (a : Option Addr) (cap : Nat) (l : List ByteArray) (w : World) (hs : Sl w Value.string a l) (hlen : l.length ≤ 100000) : Calls Try.prog 63 #[.slice a l.length cap] w fun e w' =>
    ∃ v', e = .returned v' ∧ Ks w' w.heap.size v' l ∧ Below w.heap.size w w' := by
  cases a with
  | none =>
    have hl : l = [] := by
      rcases Classical.em (l = []) with h | h
      · exact h
      · obtain ⟨b, off, e, _⟩ := hs h; cases e
    subst hl
    have hq := fun W => eq_nil_keys none 0 cap true rfl W
    clear hs
    go_enter Try.func63, Try.ntmps63
    go_wp2
    go_ret
    exact ⟨_, rfl, Ks.nil _ _, Below.refl _ _⟩
  | some ad =>
    have hq := fun W => eq_nil_keys (some ad) l.length cap false rfl W
    have HB0 : Hid (∀ o, Below w.heap.size w (w.alloc o)) := fun o => (Below.refl _ _).alloc (Nat.le_refl _) o
    have HC0 : Hid (∀ o j u, l[j]? = some u → (w.alloc o).cell? (ad.add j) = some (.string u)) := by
      intro o j u hu
      obtain ⟨b, off, e, hb, hc⟩ := hs (by rintro rfl; simp at hu)
      obtain rfl : ad = ⟨b, off, none⟩ := by injection e
      rw [add_plain, (HB0.out o).cell (p := ⟨b, off + j, none⟩) hb]
      exact hc j u hu
    have HN : Hid (∀ cs : Array Value, cs.size = 0 → Ks (w.alloc (.cells cs 9)) w.heap.size (.slice (some ⟨w.heap.size, 0, none⟩) 0 0) []) := fun cs hcs => by
      obtain rfl := Array.eq_empty_of_size_eq_zero hcs
      exact World.ownsRow_lit w #[] 0 (Nat.le_refl _) (by unfold maxLen; omega) (by simp)
    clear hs
    go_enter Try.func63, Try.ntmps63
    go_wp2_with (at_builtin; refine wp_keys_push _ rfl _ _ rfl w.heap.size _ [] rfl (HN.out _ rfl) ad l.length cap l rfl rfl (HC0.out _) (by simp; omega) (by rw [size_alloc]; omega) ?_)
    intro v' w' hk hg hob
    have HK : Hid (Ks w' w.heap.size v' l) := hk
    have hb : Below w.heap.size w w' := (HB0.out _).grown hg (by rw [size_alloc]; omega) (fun k hk => by simp [Value.ownBlock] at hk; omega)
    have HB := Lib.hid hb
    clear hk hg hob hb
    go_wp2
    go_ret
    exact ⟨_, rfl, HK.out, HB.out⟩
end Go.Proofs.Ytbeldjijnjgbfaa

namespace Go.Proofs.Ytbeldjijnjgbfaa
open Go.RowKit Go.ChangeShapes Go.WideShapes Go.ChangeAt

theorem box_second (w : World) (o : Obj) (t : TypeId) (cs : Array Value) : Box ((w.alloc o).alloc (.cells cs t (0, 0))) (w.heap.size + 1) t cs := by rw [← size_alloc w o]; exact Box.new _ _ _
theorem sizeNode : (Try.prog.info? 51).map (·.size) = some 3 := by kernel_rfl
theorem Box.drew {w : World} {b : Nat} {t : TypeId} {cs : Array Value} (h : Box w b t cs) : Box w.drew b t cs := h
theorem ks_form2 {w : World} {base : Nat} {v : Value} {l : List ByteArray} (h : Ks w base v l) : ∃ a c, v = .slice a l.length c ∧ Sl w Value.string a l := by
  obtain ⟨a, c, e, s⟩ := h.view; exact ⟨a, c, e, s⟩
set_option maxRecDepth 100000 in
set_option maxHeartbeats 1000000 in
theorem own_any (ka : Option Addr) (kc : Nat) (va : Option Addr) (vc : Nat) (d : NodeD) (w : World) (h : NodeIn w ka va d) :
    Calls Try.prog 50 #[nodeV ka kc va vc d] w fun e w' => ∃ kv vv, e = .returned (.agg #[.bool d.leaf, kv, vv]) ∧ Ks w' w.heap.size kv d.keys ∧ Ks w' w.heap.size vv d.vals ∧ (∀ k, kv.ownBlock = some k → vv.ownBlock ≠ some k) ∧ Below w.heap.size w w' := by
  have H := Lib.hid h
  have HB0 : Hid (∀ o, Below w.heap.size w (w.alloc o)) := fun o => (Below.refl _ _).alloc (Nat.le_refl _) o
  clear h
  unfold nodeV
  go_enter Try.func50, Try.ntmps50
  go_wp2_with fail
  generalize hwx : World.alloc (World.alloc w _) _ = wx
  have HX : Hid (Box wx w.heap.size 51 #[.bool d.leaf, .slice ka d.keys.length kc, .slice va d.vals.length vc]) := by show Box _ _ _ _; rw [← hwx]; exact (Box.new w _ _).alloc _
  have HR : Hid (Box wx (w.heap.size + 1) 51 #[.bool false, .slice none 0 0, .slice none 0 0]) := by show Box _ _ _ _; rw [← hwx]; exact box_second _ _ _ _
  have HBX : Hid (Below w.heap.size w wx) := by show Below _ _ _; rw [← hwx]; exact (HB0.out _).trans (((Below.refl _ _).alloc (Nat.le_refl _) _).mono (by rw [size_alloc]; omega))
  have k0 := HX.out.cell 0 _ rfl
  have k1 := HX.out.cell 1 _ rfl
  have k2 := HX.out.cell 2 _ rfl
  clear hwx
  have hd : Below w.heap.size w wx.drew := HBX.out.drew
  have HD := Lib.hid hd
  have HXD : Hid (Box wx.drew w.heap.size 51 #[.bool d.leaf, .slice ka d.keys.length kc, .slice va d.vals.length vc]) := HX.out
  have HRD : Hid (Box wx.drew (w.heap.size + 1) 51 #[.bool false, .slice none 0 0, .slice none 0 0]) := HR.out
  clear hd HX HR
  refine wp_region_tree (fun W => W.cell? ⟨w.heap.size, 0, none⟩ = some (.bool d.leaf) ∧ W.cell? ⟨w.heap.size, 1, none⟩ = some (.slice ka d.keys.length kc) ∧ W.cell? ⟨w.heap.size, 2, none⟩ = some (.slice va d.vals.length vc)) 8 (.quiet 0 (.quiet 1 (.quiet 2 (.quiet 3 (.quiet 5 (.quiet 6 (.make 4 (.make 7 .nil)))))))) (by kernel_rfl) (by kernel_rfl) ⟨k0, k1, k2⟩ ?_
  simp only [List.drop_succ_cons, List.drop_zero]
  iterate 6 (apply wpTr_step rfl; (intro W hS K hK; obtain ⟨q0, q1, q2⟩ := hS; go_simp; exact hK _ rfl))
  refine wpTr_make rfl (fun K' hK => ?_)
  go_simp
  refine (clone_sl ka kc d.keys _ (H.out.keep HD.out).ks H.out.kl).mono ?_
  rintro e w1 ⟨kv, rfl, hk, hb⟩
  have HK := Lib.hid hk
  have HXD1 := Lib.hid (HXD.out.keep hb HXD.out.lt)
  have HRD1 := Lib.hid (HRD.out.keep hb HRD.out.lt)
  have HZ1 : Hid (w.heap.size + 1 < wx.drew.heap.size) := HRD.out.lt
  have HD1 := Lib.hid (HD.out.trans (hb.mono HD.out.size))
  have HLO : Hid (wx.drew.heap.size ≤ w1.heap.size) := hb.size
  have k0 := HXD1.out.cell 0 _ rfl
  have k1 := HXD1.out.cell 1 _ rfl
  have k2 := HXD1.out.cell 2 _ rfl
  clear hk hb
  refine hK _ _ _ (fun _ h => h) ⟨k0, k1, k2⟩ ?_
  clear hK K'
  refine wpTr_make rfl (fun K' hK => ?_)
  go_simp
  refine (clone_sl va vc d.vals _ (H.out.keep HD1.out).vs H.out.vl).mono ?_
  rintro e w2 ⟨vv, rfl, hv, hb⟩
  have HV := Lib.hid hv
  have HK2 := Lib.hid (HK.out.keep hb)
  have HRD2 := Lib.hid (HRD1.out.keep hb HRD1.out.lt)
  have HXD2 := Lib.hid (HXD1.out.keep hb HXD1.out.lt)
  have HD2 := Lib.hid (HD1.out.trans (hb.mono HD1.out.size))
  have HNE : Hid (∀ k, kv.ownBlock = some k → vv.ownBlock ≠ some k) := fun k h1 h2 => by
    have := HK.out.lt k h1
    have := hv.own_block k h2
    omega
  have k0 := HXD2.out.cell 0 _ rfl
  have k1 := HXD2.out.cell 1 _ rfl
  have k2 := HXD2.out.cell 2 _ rfl
  clear hv hb
  refine hK _ _ _ (fun _ h => h) ⟨k0, k1, k2⟩ ?_
  clear hK K'
  refine wpTr_nil ?_
  have f0 := HRD2.out.free 0
  have f1 := HRD2.out.free 1
  have f2 := HRD2.out.free 2
  have r0 := HRD2.out.cell 0 _ rfl
  have r1 := HRD2.out.cell 1 _ rfl
  have r2 := HRD2.out.cell 2 _ rfl
  obtain ⟨ak, ck, rfl, _⟩ := ks_form2 HK2.out
  obtain ⟨av, cv, rfl, _⟩ := ks_form2 HV.out
  have hC : Chg [w.heap.size + 1] w2 (((w2.setCell ⟨w.heap.size + 1, 0, none⟩ (.bool d.leaf)).setCell ⟨w.heap.size + 1, 1, none⟩ (.slice ak d.keys.length ck)).setCell ⟨w.heap.size + 1, 2, none⟩ (.slice av d.vals.length cv)) :=
    (((Chg.refl _ _).set _ 0 _ (.inl (by simp))).set _ 1 _ (.inl (by simp))).set _ 2 _ (.inl (by simp))
  have HK3 := Lib.hid ((HK2.out.chg hC (fun k h1 h2 => by rw [List.mem_singleton] at h2; have := HK2.out.own_block k h1; have := HZ1.out; omega)).low (b := w.heap.size) (by have := HZ1.out; omega))
  have HV3 := Lib.hid ((HV.out.chg hC (fun k h1 h2 => by rw [List.mem_singleton] at h2; have := HV.out.own_block k h1; have := HZ1.out; have := HLO.out; omega)).low (b := w.heap.size) (by have := HZ1.out; have := HLO.out; omega))
  have HD3 := Lib.hid (HD2.out.trans (hC.below HD2.out.size (fun k h => by rw [List.mem_singleton] at h; omega)))
  have HR3 := Lib.hid (((HRD2.out.set 0 (.bool d.leaf)).set 1 (.slice ak d.keys.length ck)).set 2 (.slice av d.vals.length cv))
  clear hC
  go_wp2
  refine bodyPost_ret (results_cell_row rfl _ _ (w.heap.size + 1) 51 _ (0, 0) _ rfl HR3.out Try.underlying51 rfl sizeNode) rfl ?_
  exact ⟨_, _, rfl, HK3.out, HV3.out, HNE.out, HD3.out⟩
end Go.Proofs.Ytbeldjijnjgbfaa

namespace Go.Proofs.Ytbeldjijnjgbfaa
open Go.RowKit Go.ChangeShapes Go.WideShapes Go.ChangeAt

/-- A part of a slice, as the model's slicing gives it. -/
def partA (a : Option Addr) (c i : Nat) : Option Addr := if c = i then a else a.map (fun p => p.add i)
def subD (d : NodeD) (i j : Nat) : NodeD := ⟨d.leaf, (d.keys.drop i).take (j - i), (d.vals.drop i).take (j - i)⟩
theorem Sl.part {w : World} {a : Option Addr} {l : List ByteArray} (h : Sl w Value.string a l) (c i j : Nat) (_hij : i ≤ j) (hjl : j ≤ l.length) (hlc : l.length ≤ c) : Sl w Value.string (partA a c i) ((l.drop i).take (j - i)) := by
  unfold partA
  by_cases hci : c = i
  · have : (l.drop i).take (j - i) = [] := by rw [List.drop_of_length_le (by omega)]; simp
    rw [this]; exact Sl.nil
  · rw [if_neg hci]
    intro hne
    obtain ⟨b, off, e, hb, hc⟩ := h (by rintro rfl; simp at hne)
    subst e
    refine ⟨b, off + i, by simp [Addr.add], hb, fun q x hx => ?_⟩
    have hq : q < j - i := by
      rcases Nat.lt_or_ge q (j - i) with h | h
      · exact h
      · rw [List.getElem?_eq_none (by simp; omega)] at hx; cases hx
    rw [List.getElem?_take_of_lt hq, List.getElem?_drop] at hx
    rw [Nat.add_assoc]
    exact hc _ _ hx
theorem partA_eq (a : Option Addr) (c i : Nat) : (if c = i then a else Option.map (fun x => x.add i) a) = partA a c i := rfl
theorem sub_node (ka : Option Addr) (kc : Nat) (va : Option Addr) (vc : Nat) (d : NodeD) (i j : Nat) (hij : i ≤ j) (h1 : j ≤ d.keys.length) (h2 : j ≤ d.vals.length) :
    Value.agg #[.bool d.leaf, .slice (partA ka kc i) (j - i) (kc - i), .slice (partA va vc i) (j - i) (vc - i)] = nodeV (partA ka kc i) (kc - i) (partA va vc i) (vc - i) (subD d i j) := by
  unfold nodeV subD
  simp only [List.length_take, List.length_drop]
  rw [Nat.min_eq_left (by omega), Nat.min_eq_left (by omega)]
theorem sub_len (d : NodeD) (i j : Nat) (hij : i ≤ j) (h1 : j ≤ d.keys.length) (h2 : j ≤ d.vals.length) : (subD d i j).keys.length = j - i ∧ (subD d i j).vals.length = j - i := by
  unfold subD; simp; omega
set_option maxRecDepth 100000 in
set_option maxHeartbeats 1000000 in
theorem between_any (ka : Option Addr) (kc : Nat) (va : Option Addr) (vc : Nat) (d : NodeD) (i j : Nat) (w : World) (h : NodeIn w ka va d) (hij : i ≤ j) (h1 : j ≤ d.keys.length) (h2 : j ≤ d.vals.length) (hkc : d.keys.length ≤ kc) (hvc : d.vals.length ≤ vc) :
    Calls Try.prog 73 #[nodeV ka kc va vc d, .int .i64 (i : Int), .int .i64 (j : Int)] w fun e w' => ∃ kv vv, e = .returned (.agg #[.bool d.leaf, kv, vv]) ∧ Ks w' w.heap.size kv (subD d i j).keys ∧ Ks w' w.heap.size vv (subD d i j).vals ∧ Below w.heap.size w w' := by
  have H := Lib.hid h
  have HB0 : Hid (∀ o, Below w.heap.size w (w.alloc o)) := fun o => (Below.refl _ _).alloc (Nat.le_refl _) o
  have p1 := h.ks.part kc i j hij h1 hkc
  have p2 := h.vs.part vc i j hij h2 hvc
  have hkl := h.kl
  have hvl := h.vl
  clear h
  unfold nodeV
  go_enter Try.func73, Try.ntmps73
  go_wp2_with fail
  generalize hwx : World.alloc (World.alloc w _) _ = wx
  have HX : Hid (Box wx w.heap.size 51 #[.bool d.leaf, .slice ka d.keys.length kc, .slice va d.vals.length vc]) := by show Box _ _ _ _; rw [← hwx]; exact (Box.new w _ _).alloc _
  have HR : Hid (Box wx (w.heap.size + 1) 51 #[.bool false, .slice none 0 0, .slice none 0 0]) := by show Box _ _ _ _; rw [← hwx]; exact box_second _ _ _ _
  have HBX : Hid (Below w.heap.size w wx) := by show Below _ _ _; rw [← hwx]; exact (HB0.out _).trans (((Below.refl _ _).alloc (Nat.le_refl _) _).mono (by rw [size_alloc]; omega))
  have k0 := HX.out.cell 0 _ rfl
  have k1 := HX.out.cell 1 _ rfl
  have k2 := HX.out.cell 2 _ rfl
  clear hwx
  have hd : Below w.heap.size w wx.drew := HBX.out.drew
  have HD := Lib.hid hd
  have HXD : Hid (Box wx.drew w.heap.size 51 #[.bool d.leaf, .slice ka d.keys.length kc, .slice va d.vals.length vc]) := HX.out
  have HRD : Hid (Box wx.drew (w.heap.size + 1) 51 #[.bool false, .slice none 0 0, .slice none 0 0]) := HR.out
  clear hd HX HR
  have hi1 : (i : Int) ≤ (j : Int) := by omega
  have hj1 : (j : Int) ≤ (kc : Int) := by omega
  have hj2 : (j : Int) ≤ (vc : Int) := by omega
  refine wp_region_tree (fun W => W.cell? ⟨w.heap.size, 0, none⟩ = some (.bool d.leaf) ∧ W.cell? ⟨w.heap.size, 1, none⟩ = some (.slice ka d.keys.length kc) ∧ W.cell? ⟨w.heap.size, 2, none⟩ = some (.slice va d.vals.length vc)) 12 (.quiet 0 (.quiet 1 (.quiet 2 (.quiet 3 (.quiet 4 (.quiet 5 (.quiet 6 (.quiet 7 (.quiet 8 (.quiet 9 (.quiet 10 (.quiet 11 .nil)))))))))))) (by kernel_rfl) (by kernel_rfl) ⟨k0, k1, k2⟩ ?_
  simp only [List.drop_succ_cons, List.drop_zero]
  iterate 7 (apply wpTr_step rfl; (intro W hS K hK; obtain ⟨q0, q1, q2⟩ := hS; go_simp; exact hK _ rfl))
  rw [partA_eq]
  have HN : Hid (NodeIn wx.drew (partA ka kc i) (partA va vc i) (subD d i j)) := ⟨p1.keep HD.out, p2.keep HD.out, by have := (sub_len d i j hij h1 h2).1; omega, by have := (sub_len d i j hij h1 h2).2; omega⟩
  have HE := Lib.hid (sub_node ka kc va vc d i j hij h1 h2)
  clear p1 p2
  generalize partA ka kc i = A1 at *
  iterate 5 (apply wpTr_step rfl; (intro W hS K hK; obtain ⟨q0, q1, q2⟩ := hS; go_simp; exact hK _ rfl))
  rw [partA_eq]
  generalize partA va vc i = A2 at *
  refine wpTr_nil ?_
  clear hi1 hj1 hj2 k0 k1 k2
  go_wp2_with fail
  rw [HE.out]
  refine (own_any A1 (kc - i) A2 (vc - i) (subD d i j) _ HN.out).mono ?_
  rintro e w2 ⟨kv, vv, rfl, hk, hv, _, hb⟩
  have HZ1 : Hid (w.heap.size + 1 < wx.drew.heap.size) := HRD.out.lt
  have HRD2 := Lib.hid (HRD.out.keep hb HRD.out.lt)
  have HD2 := Lib.hid (HD.out.trans (hb.mono HD.out.size))
  have HK2 := Lib.hid hk
  have HV2 := Lib.hid hv
  have f0 := HRD2.out.free 0
  have f1 := HRD2.out.free 1
  have f2 := HRD2.out.free 2
  have r0 := HRD2.out.cell 0 _ rfl
  have r1 := HRD2.out.cell 1 _ rfl
  have r2 := HRD2.out.cell 2 _ rfl
  clear hk hv hb
  have hlf : (subD d i j).leaf = d.leaf := rfl
  rw [hlf]
  clear hlf
  obtain ⟨ak, ck, rfl, _⟩ := ks_form2 HK2.out
  obtain ⟨av, cv, rfl, _⟩ := ks_form2 HV2.out
  have hC : Chg [w.heap.size + 1] w2 (((w2.setCell ⟨w.heap.size + 1, 0, none⟩ (.bool d.leaf)).setCell ⟨w.heap.size + 1, 1, none⟩ (.slice ak (subD d i j).keys.length ck)).setCell ⟨w.heap.size + 1, 2, none⟩ (.slice av (subD d i j).vals.length cv)) :=
    (((Chg.refl _ _).set _ 0 _ (.inl (by simp))).set _ 1 _ (.inl (by simp))).set _ 2 _ (.inl (by simp))
  have HK3 := Lib.hid ((HK2.out.chg hC (fun k h1 h2 => by rw [List.mem_singleton] at h2; have := HK2.out.own_block k h1; have := HZ1.out; omega)).low (b := w.heap.size) (by have := HZ1.out; omega))
  have HV3 := Lib.hid ((HV2.out.chg hC (fun k h1 h2 => by rw [List.mem_singleton] at h2; have := HV2.out.own_block k h1; have := HZ1.out; omega)).low (b := w.heap.size) (by have := HZ1.out; omega))
  have HD3 := Lib.hid (HD2.out.trans (hC.below HD2.out.size (fun k h => by rw [List.mem_singleton] at h; omega)))
  have HR3 := Lib.hid (((HRD2.out.set 0 (.bool d.leaf)).set 1 (.slice ak (subD d i j).keys.length ck)).set 2 (.slice av (subD d i j).vals.length cv))
  clear hC
  go_wp2
  refine bodyPost_ret (results_cell_row rfl _ _ (w.heap.size + 1) 51 _ (0, 0) _ rfl HR3.out Try.underlying51 rfl sizeNode) rfl ?_
  exact ⟨_, _, rfl, HK3.out, HV3.out, HD3.out⟩
end Go.Proofs.Ytbeldjijnjgbfaa
