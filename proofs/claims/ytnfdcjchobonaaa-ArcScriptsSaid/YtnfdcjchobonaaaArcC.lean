/-
  Contracts: moveOldest, step, some.
-/
import Derived.Test.YtnfdcjchobonaaaArcB
namespace Go.Proofs.Ytnfdcjchobonaaa
open Go.RowKit Go.ChangeShapes Go.WideShapes Go.ChangeAt

theorem Tod.seq {Q2 : List Nat → World → Prop} {F F1 : List Nat} {w w1 w2 : World} (hc : Chg F w w1) (hf : ∀ k ∈ F1, k ∈ F ∨ w.heap.size ≤ k) (k : Tod Q2 F1 w1 w2) : Tod Q2 F w w2 := by
  obtain ⟨F2, k1, k2, k3⟩ := k
  refine ⟨F2, k1, hc.then k2 hf, fun i hi => ?_⟩
  rcases k3 i hi with h4 | h4
  · exact hf i h4
  · exact .inr (Nat.le_trans hc.size h4)
theorem old_len (d : ArcD) {i : Nat} (hi : InA i) : (oldA d i).1.len ≤ d.len := by
  unfold oldA
  cases h : d.l i with
  | nil => exact Nat.le_refl _
  | cons x r =>
    have := d.len_put hi r
    rw [h] at this
    simp only [List.length_cons] at this
    show (d.put i r).len ≤ _
    omega
theorem add_len (d : ArcD) {i : Nat} (hi : InA i) (k : ByteArray) : (addA d i k).len = d.len + 1 := by
  have := d.len_put hi (d.l i ++ [k])
  simp only [List.length_append, List.length_cons, List.length_nil] at this
  unfold addA
  omega
theorem take_len (d : ArcD) {i : Nat} (hi : InA i) (k : ByteArray) : (takeA d i k).len ≤ d.len := by
  have := d.len_put hi (dropK (d.l i) k)
  have := drop_len k (d.l i)
  unfold takeA
  omega
theorem str_emp {s : ByteArray} (h : s ≠ emp) : s.toList.isEmpty = false ∧ ¬ s.toList = [] := by
  have hs : 0 < s.size := by
    rcases Nat.eq_zero_or_pos s.size with h0 | h0
    · exact absurd (ByteArray.ext (Array.eq_empty_of_size_eq_zero h0)) h
    · exact h0
  exact ⟨(str_some s hs).2, (str_some s hs).1⟩

set_option maxHeartbeats 1000000 in
theorem move_list (b i j : Nat) (hi : InA i) (hj : InA j) (F : List Nat) (d : ArcD) (w : World) (h : ArcF b d F w) (hlen : d.len ≤ 10000) :
    Calls Try.prog 43 #[.pointer (some ⟨b, i, none⟩), .pointer (some ⟨b, j, none⟩)] w fun e w' => e = .returned (.string (moveA d i j).2) ∧ Tod (ArcF b (moveA d i j).1) F w w' := by
  obtain ⟨v, h, rfl⟩ := h
  have HO := Lib.hid (old_list b i hi v d w h hlen)
  have HL := Lib.hid (Nat.le_trans (old_len d hi) hlen)
  obtain ⟨M, hM⟩ : ∃ M, M = moveA d i j := ⟨_, rfl⟩
  rw [← hM]
  have HM : Hid (M = if (oldA d i).2 = emp then oldA d i else (addA (oldA d i).1 j (oldA d i).2, (oldA d i).2)) := hM
  clear hM h hlen
  generalize oldA d i = o at *
  obtain ⟨d1, k⟩ := o
  dsimp only at HO HM HL
  go_enter Try.func43, Try.ntmps43
  go_wp2_with fail
  refine HO.out.mono ?_
  rintro e w1 ⟨rfl, ht⟩
  have HT := Lib.hid ht
  clear ht
  by_cases hk : k = emp
  · have HM2 : Hid (M = (d1, k)) := by rw [if_pos hk] at HM; exact HM
    subst hk
    go_wp2
    go_ret
    rw [HM2.out]
    exact ⟨rfl, HT.out⟩
  · have HM2 : Hid (M = (addA d1 j k, k)) := by rw [if_neg hk] at HM; exact HM
    obtain ⟨F1, ⟨v1, h1, rfl⟩, hc1, hf1⟩ := HT.out
    have HA := Lib.hid (add_list b j hj v1 d1 k w1 h1 HL.out)
    have HC1 := Lib.hid hc1
    have HF1 := Lib.hid hf1
    obtain ⟨e1, e2⟩ := str_emp hk
    clear hk h1 hc1 hf1 HT HM HO
    go_wp2_with fail
    refine HA.out.mono ?_
    rintro e w2 ⟨rfl, ht2⟩
    have HT2 := Lib.hid (Tod.seq HC1.out HF1.out ht2)
    clear ht2
    go_wp2
    go_ret
    rw [HM2.out]
    exact ⟨rfl, HT2.out⟩

theorem div_small (n m : Nat) (hn : n ≤ 10000) : 0 ≤ (n : Int) / (m : Int) ∧ (n : Int) / (m : Int) ≤ 10000 := by
  have hle : n / m ≤ 10000 := Nat.le_trans (Nat.div_le_self n m) hn
  rw [← Int.natCast_ediv]
  exact ⟨Int.natCast_nonneg _, Int.le_trans (Int.ofNat_le.2 hle) (by decide)⟩
set_option maxRecDepth 100000 in
set_option maxHeartbeats 1000000 in
theorem step_list (b i m c n cap : Nat) (a a' : Option Addr) (w : World) (h : w.cell? ⟨b, i, none⟩ = some (.slice a' m c)) (hm : 1 ≤ m) (hn : n ≤ 10000) :
    Calls Try.prog 36 #[.pointer (some ⟨b, i, none⟩), .agg #[.slice a n cap]] w fun e w' => e = .returned (.int .i64 (max 1 ((n / m : Nat) : Int))) ∧ Below w.heap.size w w' := by
  have HB : Hid (∀ o, Below w.heap.size w (w.alloc o)) := fun o => (Below.refl _ _).alloc (Nat.le_refl _) o
  have HQ : Hid (∀ o, (w.alloc o).cell? ⟨b, i, none⟩ = some (.slice a' m c)) := fun o => ((HB.out o).cell (p := ⟨b, i, none⟩) (lt_of_cell h)).trans h
  have HS := fun o => Lib.hid (size_list w.heap.size 0 n cap a (w.alloc (.cells #[.slice a n cap] o)) (boxed0 _ _ _ _ 0 _ rfl))
  have HS2 := fun o => Lib.hid (size_list b i m c a' (w.alloc o) (HQ.out o))
  clear h
  have hm0 : ¬ ((m : Int) = 0) := by omega
  have hmb : ((m : Int) == 0) = false := by simpa using hm0
  have hdv : (n : Int).tdiv (m : Int) = (n : Int) / (m : Int) := Int.tdiv_eq_ediv_of_nonneg (by omega)
  obtain ⟨d1, d2⟩ := div_small n m hn
  have hw : wrap64 ((n : Int) / (m : Int)) = (n : Int) / (m : Int) := IntWalk.wrap64_in _ (by omega)
  rw [Int.natCast_ediv]
  generalize (n : Int) / (m : Int) = q at *
  go_enter Try.func36, Try.ntmps36
  go_wp2_with fail
  refine (HS _).out.mono ?_
  rintro e w1 ⟨rfl, rfl⟩
  go_wp2_with fail
  refine (HS2 _).out.mono ?_
  rintro e w1 ⟨rfl, rfl⟩
  go_wp2_with fail
  · go_ret
    exact ⟨ret_int (by omega), HB.out _⟩
  · go_ret
    exact ⟨ret_int (by omega), HB.out _⟩

/-- Where the two lists are told. -/
def TwoP (w : World) (g b i j : Nat) : Prop := Box w g 52 #[.pointer (some ⟨b, i, none⟩), .pointer (some ⟨b, j, none⟩)]
theorem take_no {d : ArcD} {m : Nat} {k : ByteArray} (hh : hasA d m k = false) : takeA d m k = d := by
  unfold takeA ArcD.put
  rw [drop_no k _ hh]
  have : updA d.l m (d.l m) = d.l := by funext j; by_cases e : j = m <;> simp [updA, e]
  rw [this]

set_option maxRecDepth 100000 in
set_option maxHeartbeats 1000000 in
theorem some_take (g b i j : Nat) (hi : InA i) (hj : InA j) (F : List Nat) (d : ArcD) (k : ByteArray) (w : World) (h : ArcF b d F w) (hlen : d.len ≤ 10000) (hg : TwoP w g b i j) (hgF : g ∉ F) :
    Calls Try.prog 24 #[.func (.func 25) #[] #[], .string k, .slice (some ⟨g, 0, none⟩) 2 2] w fun e w' => e = .returned (.bool (someA d i j k).2) ∧ Tod (ArcF b (someA d i j k).1) F w w' := by
  obtain ⟨M, hM⟩ : ∃ M, M = someA d i j k := ⟨_, rfl⟩
  rw [← hM]
  have HM : Hid (M = if hasA d i k = true then (takeA d i k, true) else if hasA d j k = true then (takeA d j k, true) else (d, false)) := hM
  clear hM
  have H0 : Hid (Tod (ArcF b d) F w w) := Tod.same (fixed_arc b d) h (Below.refl _ _)
  have HTk : Hid (∀ m, InA m → ∀ wr, Tod (ArcF b d) F w wr → TwoP wr g b i j → Calls Try.prog 25 #[.pointer (some ⟨b, m, none⟩), .string k] wr fun e w' => e = .returned (.bool (hasA d m k)) ∧ Tod (ArcF b (takeA d m k)) F w w' ∧ TwoP w' g b i j) := by
    intro m hm wr ht hgr
    obtain ⟨F1, ⟨v1, h1, rfl⟩, hc1, hf1⟩ := ht
    refine (take_list b m hm v1 d k wr h1 hlen).mono ?_
    rintro e w2 ⟨rfl, ht2⟩
    refine ⟨rfl, Tod.seq hc1 hf1 ht2, ?_⟩
    obtain ⟨F2, _, hc2, _⟩ := ht2
    refine Box.of hgr (hc2.block g hgr.lt (fun hm => ?_))
    rcases hf1 g hm with h5 | h5
    · exact hgF h5
    · have := hg.lt; omega
  have HG := Lib.hid hg
  have HI := Lib.hid hi
  have HJ := Lib.hid hj
  clear h hg hgF hlen hi hj
  go_enter Try.func24, Try.ntmps24
  go_wp2
  go_loopw [8, 11] (fun _ s wr => ∃ n : Nat, n ≤ 2 ∧ s = .int .i64 n ∧ Hid (1 ≤ n → hasA d i k = false) ∧ Hid (2 ≤ n → hasA d j k = false) ∧ Hid (Tod (ArcF b d) F w wr) ∧ Hid (TwoP wr g b i j)) (fun _ s _ => 2 - (intOf s).toNat)
  case atStart => exact ⟨0, by omega, rfl, fun h => by omega, fun h => by omega, H0, HG⟩
  case round =>
    rename_i hkl1
    obtain ⟨n, hn, rfl, HNI, HNJ, HT, HGr⟩ := hrel
    rcases (by omega : n = 0 ∨ n = 1 ∨ n = 2) with rfl | rfl | rfl
    · have q0 := Box.cell HGr.out 0 _ rfl
      clear hkl1
      go_wp2_with fail
      refine (HTk.out i HI.out wr HT.out HGr.out).mono ?_
      rintro e w1 ⟨rfl, ht, hgg⟩
      have HT1 := Lib.hid ht
      have HG1 := Lib.hid hgg
      clear ht hgg
      cases hh : hasA d i k
      · have HNN := Lib.hid hh
        rw [take_no hh] at HT1
        clear hh
        go_wp2
        go_roundw
        case rel => exact ⟨1, by omega, rfl, fun _ => HNN.out, fun h => by omega, HT1, HG1⟩
        case measure => simp [intOf]
      · have HM2 : Hid (M = (takeA d i k, true)) := by rw [if_pos hh] at HM; exact HM
        clear hh
        go_wp2
        go_ret
        rw [HM2.out]
        exact ⟨rfl, HT1.out⟩
    · have q0 := Box.cell HGr.out 1 _ rfl
      clear hkl1
      go_wp2_with fail
      refine (HTk.out j HJ.out wr HT.out HGr.out).mono ?_
      rintro e w1 ⟨rfl, ht, hgg⟩
      have HT1 := Lib.hid ht
      have HG1 := Lib.hid hgg
      clear ht hgg
      cases hh : hasA d j k
      · have HNN := Lib.hid hh
        rw [take_no hh] at HT1
        clear hh
        go_wp2
        go_roundw
        case rel => exact ⟨2, by omega, rfl, fun _ => HNI.out (by omega), fun h => HNN.out, HT1, HG1⟩
        case measure => simp [intOf]
      · have HM2 : Hid (M = (takeA d j k, true)) := by show _ = _; rw [HM.out, HNI.out (by omega), hh]; rfl
        clear hh
        go_wp2
        go_ret
        rw [HM2.out]
        exact ⟨rfl, HT1.out⟩
    · have HM2 : Hid (M = (d, false)) := by show _ = _; rw [HM.out, HNI.out (by omega), HNJ.out (by omega)]; rfl
      go_wp2
      go_ret
      rw [HM2.out]
      exact ⟨rfl, HT.out⟩

set_option maxRecDepth 100000 in
set_option maxHeartbeats 1000000 in
theorem some_has (g b i j : Nat) (hi : InA i) (hj : InA j) (v : Nat → Value) (d : ArcD) (k : ByteArray) (w : World) (h : ArcAt w b v d) (hlen : d.len ≤ 10000) (hg : TwoP w g b i j) :
    Calls Try.prog 24 #[.func (.func 32) #[] #[], .string k, .slice (some ⟨g, 0, none⟩) 2 2] w fun e w' => e = .returned (.bool (hasA d i k || hasA d j k)) ∧ w = w' := by
  obtain ⟨M, hM⟩ : ∃ M, M = (hasA d i k || hasA d j k) := ⟨_, rfl⟩
  rw [← hM]
  have HM := Lib.hid hM
  clear hM
  have HTi := Lib.hid (has_list b i hi v d k w h hlen)
  have HTj := Lib.hid (has_list b j hj v d k w h hlen)
  have q0 := Box.cell hg 0 _ rfl
  have q1 := Box.cell hg 1 _ rfl
  clear h hg hlen hi hj
  go_enter Try.func24, Try.ntmps24
  go_wp2
  go_loopw [8, 11] (fun _ s wr => ∃ n : Nat, n ≤ 2 ∧ s = .int .i64 n ∧ Hid (1 ≤ n → hasA d i k = false) ∧ Hid (2 ≤ n → hasA d j k = false) ∧ wr = w) (fun _ s _ => 2 - (intOf s).toNat)
  case atStart => exact ⟨0, by omega, rfl, fun h => by omega, fun h => by omega, rfl⟩
  case round =>
    rename_i hkl1
    obtain ⟨n, hn, rfl, HNI, HNJ, rfl⟩ := hrel
    rcases (by omega : n = 0 ∨ n = 1 ∨ n = 2) with rfl | rfl | rfl
    · clear hkl1
      go_wp2_with fail
      refine HTi.out.mono ?_
      rintro e w1 ⟨rfl, rfl⟩
      cases hh : hasA d i k
      · have HNN := Lib.hid hh
        clear hh
        go_wp2
        go_roundw
        case rel => exact ⟨1, by omega, rfl, fun _ => HNN.out, fun h => by omega, trivial⟩
        case measure => simp [intOf]
      · have HM2 : Hid (M = true) := by show _ = _; rw [HM.out, hh]; rfl
        clear hh
        go_wp2
        go_ret
        rw [HM2.out]
        exact ⟨rfl, rfl⟩
    · clear hkl1
      go_wp2_with fail
      refine HTj.out.mono ?_
      rintro e w1 ⟨rfl, rfl⟩
      cases hh : hasA d j k
      · have HNN := Lib.hid hh
        clear hh
        go_wp2
        go_roundw
        case rel => exact ⟨2, by omega, rfl, fun _ => HNI.out (by omega), fun h => HNN.out, trivial⟩
        case measure => simp [intOf]
      · have HM2 : Hid (M = true) := by show _ = _; rw [HM.out, hh, Bool.or_true]
        clear hh
        go_wp2
        go_ret
        rw [HM2.out]
        exact ⟨rfl, rfl⟩
    · have HM2 : Hid (M = false) := by show _ = _; rw [HM.out, HNI.out (by omega), HNJ.out (by omega)]; rfl
      go_wp2
      go_ret
      rw [HM2.out]
      exact ⟨rfl, rfl⟩
end Go.Proofs.Ytnfdcjchobonaaa
