/-
  The law's own and told; the reference's Small and Same.
-/
import Derived.Test.YtlkkgboaicjaiaaOpenNode
import Derived.Test.YtlkkgboaicjaiaaNodeJ
import Derived.Test.YtlkkgboaicjaiaaKeysS
namespace Go.Proofs.Ytlkkgboaicjaiaa
open Go.RowKit Go.ChangeShapes Go.WideShapes Go.ChangeAt

theorem sizeNodeR : (Try.prog.info? 24).map (·.size) = some 3 := by kernel_rfl
set_option maxRecDepth 100000 in
set_option maxHeartbeats 2000000 in
theorem lown_any (b : Bool) (ka : Option Addr) (kn kc : Nat) (va : Option Addr) (vn vc : Nat) (w : World) :
    Calls Try.prog 13 #[.agg #[.bool b, .slice ka kn kc, .slice va vn vc]] w fun e w' => e = .returned (.agg #[.bool b, .slice ka kn kc, .slice va vn vc]) ∧ Below w.heap.size w w' := by
  have HB0 : Hid (∀ o p, Below w.heap.size w ((w.alloc o).alloc p)) := fun o p => ((Below.refl _ _).alloc (Nat.le_refl _) o).trans (((Below.refl _ _).alloc (Nat.le_refl _) p).mono (by rw [size_alloc]; omega))
  have HBE := Lib.hid (HB0.out (.cells #[.bool b, .slice ka kn kc, .slice va vn vc] 24) (.cells #[.bool b, .slice ka kn kc, .slice va vn vc] 30))
  have HX := Lib.hid (box_second w (.cells #[.bool b, .slice ka kn kc, .slice va vn vc] 24) 30 #[.bool b, .slice ka kn kc, .slice va vn vc])
  have k0 : ∀ o, ((w.alloc (.cells #[.bool b, .slice ka kn kc, .slice va vn vc] 24)).alloc o).cell? ⟨w.heap.size, 0, none⟩ = some (.bool b) := fun o => ((Box.new w 24 _).alloc o).cell 0 _ rfl
  have k1 : ∀ o, ((w.alloc (.cells #[.bool b, .slice ka kn kc, .slice va vn vc] 24)).alloc o).cell? ⟨w.heap.size, 1, none⟩ = some (.slice ka kn kc) := fun o => ((Box.new w 24 _).alloc o).cell 1 _ rfl
  have k2 : ∀ o, ((w.alloc (.cells #[.bool b, .slice ka kn kc, .slice va vn vc] 24)).alloc o).cell? ⟨w.heap.size, 2, none⟩ = some (.slice va vn vc) := fun o => ((Box.new w 24 _).alloc o).cell 2 _ rfl
  go_enter Try.func13, Try.ntmps13
  go_wp2
  refine bodyPost_ret (results_cell_row rfl _ _ (w.heap.size + 1) 30 _ (0, 0) _ rfl HX.out Try.underlying30 rfl sizeNode) rfl ?_
  exact ⟨rfl, HBE.out⟩
set_option maxRecDepth 100000 in
set_option maxHeartbeats 2000000 in
theorem told_any (b : Bool) (ka : Option Addr) (kn kc : Nat) (va : Option Addr) (vn vc : Nat) (w : World) :
    Calls Try.prog 24 #[.agg #[.bool b, .slice ka kn kc, .slice va vn vc]] w fun e w' => e = .returned (.agg #[.bool b, .slice ka kn kc, .slice va vn vc]) ∧ Below w.heap.size w w' := by
  have HB0 : Hid (∀ o p, Below w.heap.size w ((w.alloc o).alloc p)) := fun o p => ((Below.refl _ _).alloc (Nat.le_refl _) o).trans (((Below.refl _ _).alloc (Nat.le_refl _) p).mono (by rw [size_alloc]; omega))
  have HBE := Lib.hid (HB0.out (.cells #[.bool b, .slice ka kn kc, .slice va vn vc] 30) (.cells #[.bool b, .slice ka kn kc, .slice va vn vc] 24))
  have HX := Lib.hid (box_second w (.cells #[.bool b, .slice ka kn kc, .slice va vn vc] 30) 24 #[.bool b, .slice ka kn kc, .slice va vn vc])
  have k0 : ∀ o, ((w.alloc (.cells #[.bool b, .slice ka kn kc, .slice va vn vc] 30)).alloc o).cell? ⟨w.heap.size, 0, none⟩ = some (.bool b) := fun o => ((Box.new w 30 _).alloc o).cell 0 _ rfl
  have k1 : ∀ o, ((w.alloc (.cells #[.bool b, .slice ka kn kc, .slice va vn vc] 30)).alloc o).cell? ⟨w.heap.size, 1, none⟩ = some (.slice ka kn kc) := fun o => ((Box.new w 30 _).alloc o).cell 1 _ rfl
  have k2 : ∀ o, ((w.alloc (.cells #[.bool b, .slice ka kn kc, .slice va vn vc] 30)).alloc o).cell? ⟨w.heap.size, 2, none⟩ = some (.slice va vn vc) := fun o => ((Box.new w 30 _).alloc o).cell 2 _ rfl
  go_enter Try.func24, Try.ntmps24
  go_wp2
  refine bodyPost_ret (results_cell_row rfl _ _ (w.heap.size + 1) 24 _ (0, 0) _ rfl HX.out Try.underlying24 rfl sizeNodeR) rfl ?_
  exact ⟨rfl, HBE.out⟩

def allLe (l : List ByteArray) (n : Nat) : Bool := l.all (fun s => decide (s.size ≤ n))
theorem all_iff {l : List ByteArray} {n : Nat} : allLe l n = true ↔ ∀ s ∈ l, s.size ≤ n := by
  unfold allLe; rw [List.all_eq_true]; simp
def smallD (d : NodeD) : Bool := allLe d.keys 400 && (allLe d.vals 300 && decide (d.keys.length ≤ 260 ∧ d.vals.length ≤ 260))
theorem all_drop (l : List ByteArray) (n k : Nat) (h : k < l.length) : allLe (l.drop k) n = (decide (l[k].size ≤ n) && allLe (l.drop (k + 1)) n) := by
  rw [List.drop_eq_getElem_cons h]; rfl
set_option maxHeartbeats 2000000 in
set_option maxRecDepth 100000 in
theorem small_any (ka : Option Addr) (kc : Nat) (va : Option Addr) (vc : Nat) (d : NodeD) (w : World) (h : ArgN w ka kc va vc d) :
    Calls Try.prog 10 #[nodeV ka kc va vc d] w fun e w' => e = .returned (.bool (smallD d)) ∧ Below w.heap.size w w' := by
  have HK := Lib.hid h.ks
  have HV := Lib.hid h.vs
  have hkm := h.km
  have hvm := h.vm
  have HKZ := Lib.hid h.kz
  have HVZ := Lib.hid h.vz
  unfold maxLen at hkm hvm
  have HB0 : Hid (∀ o, Below w.heap.size w (w.alloc o)) := fun o => (Below.refl _ _).alloc (Nat.le_refl _) o
  obtain ⟨R, hR⟩ : ∃ R, R = smallD d := ⟨_, rfl⟩
  have HR : Hid (R = (allLe (d.keys.drop 0) 400 && (allLe d.vals 300 && decide (d.keys.length ≤ 260 ∧ d.vals.length ≤ 260)))) := hR
  rw [← hR]
  clear h hR
  unfold nodeV
  go_enter Try.func10, Try.ntmps10
  go_wp2_with fail
  go_loopw [3] (fun i wr => ∃ k : Nat, k ≤ d.keys.length ∧ i = .int .i64 k ∧ Hid (R = (allLe (d.keys.drop k) 400 && (allLe d.vals 300 && decide (d.keys.length ≤ 260 ∧ d.vals.length ≤ 260)))) ∧ Hid (Below w.heap.size w wr) ∧ Hid (Box wr w.heap.size 24 #[.bool d.leaf, .slice ka d.keys.length kc, .slice va d.vals.length vc])) (fun i _ => d.keys.length - (intOf i).toNat)
  case atStart => exact ⟨0, Nat.zero_le _, rfl, HR, HB0.out _, Box.new _ _ _⟩
  case round =>
    rename_i hj
    obtain ⟨k, hk, rfl, HG, HL, HX⟩ := hrel
    have c1 := HX.out.cell 1 _ rfl
    have c2 := HX.out.cell 2 _ rfl
    by_cases hlt : k < d.keys.length
    · clear hj
      obtain ⟨b, off, hka, _, hc⟩ := (HK.out.keep HL.out).get k hlt
      subst hka
      have HS := Lib.hid (all_drop d.keys 400 k hlt)
      have z1 := HKZ.out d.keys[k] (by simp)
      unfold maxLen at z1
      have h0i : (0 : Int) ≤ (k : Int) := by omega
      have h1i : (k : Int) < (d.keys.length : Int) := by omega
      generalize d.keys[k] = x at *
      by_cases hx : x.size ≤ 400
      · have hx2 : ((400 : Int) < (x.size : Int)) = False := eq_false (by omega)
        have HG2 : Hid (R = (allLe (d.keys.drop (k + 1)) 400 && (allLe d.vals 300 && decide (d.keys.length ≤ 260 ∧ d.vals.length ≤ 260)))) := by show _ = _; rw [HG.out, HS.out, decide_eq_true hx]; rfl
        clear hx
        go_wp2
        go_roundw
        case rel => exact ⟨k + 1, by omega, by go_num, HG2, HL, HX⟩
        case measure => simp [intOf]; omega
      · have hx2 : ((400 : Int) < (x.size : Int)) = True := eq_true (by omega)
        have HF : Hid (R = false) := by show _ = _; rw [HG.out, HS.out, decide_eq_false hx]; rfl
        clear hx
        go_wp2
        go_ret
        exact ⟨ret_bool HF.out.symm, HL.out⟩
    · have hkl : k = d.keys.length := by omega
      have HG2 : Hid (R = (allLe (d.vals.drop 0) 300 && decide (d.keys.length ≤ 260 ∧ d.vals.length ≤ 260))) := by show _ = _; rw [HG.out, List.drop_of_length_le (by omega)]; rfl
      subst hkl
      clear HG
      go_wp2_with fail
      try clear hj
      go_loopw [4] (fun i wr2 => ∃ k : Nat, k ≤ d.vals.length ∧ i = .int .i64 k ∧ Hid (R = (allLe (d.vals.drop k) 300 && decide (d.keys.length ≤ 260 ∧ d.vals.length ≤ 260))) ∧ Hid (Below w.heap.size w wr2) ∧ Hid (Box wr2 w.heap.size 24 #[.bool d.leaf, .slice ka d.keys.length kc, .slice va d.vals.length vc])) (fun i _ => d.vals.length - (intOf i).toNat)
      case atStart => exact ⟨0, Nat.zero_le _, rfl, HG2, HL, HX⟩
      case round =>
        clear HL HX c1 c2 HG2
        obtain ⟨k, hk, rfl, HG, HL, HX⟩ := hrel
        have c1 := HX.out.cell 1 _ rfl
        have c2 := HX.out.cell 2 _ rfl
        by_cases hlt : k < d.vals.length
        · obtain ⟨b, off, hka, _, hc⟩ := (HV.out.keep HL.out).get k hlt
          subst hka
          have HS := Lib.hid (all_drop d.vals 300 k hlt)
          have z1 := HVZ.out d.vals[k] (by simp)
          unfold maxLen at z1
          have h0i : (0 : Int) ≤ (k : Int) := by omega
          have h1i : (k : Int) < (d.vals.length : Int) := by omega
          generalize d.vals[k] = x at *
          by_cases hx : x.size ≤ 300
          · have hx2 : ((300 : Int) < (x.size : Int)) = False := eq_false (by omega)
            have HG2 : Hid (R = (allLe (d.vals.drop (k + 1)) 300 && decide (d.keys.length ≤ 260 ∧ d.vals.length ≤ 260))) := by show _ = _; rw [HG.out, HS.out, decide_eq_true hx]; rfl
            clear hx
            go_wp2
            go_roundw
            case rel => exact ⟨k + 1, by omega, by go_num, HG2, HL, HX⟩
            case measure => simp [intOf]; omega
          · have hx2 : ((300 : Int) < (x.size : Int)) = True := eq_true (by omega)
            have HF : Hid (R = false) := by show _ = _; rw [HG.out, HS.out, decide_eq_false hx]; rfl
            clear hx
            go_wp2
            go_ret
            exact ⟨ret_bool HF.out.symm, HL.out⟩
        · have hkl : k = d.vals.length := by omega
          have HG2 : Hid (R = decide (d.keys.length ≤ 260 ∧ d.vals.length ≤ 260)) := by show _ = _; rw [HG.out, List.drop_of_length_le (by omega)]; rfl
          subst hkl
          clear HG
          by_cases h1 : d.keys.length ≤ 260
          · by_cases h2 : d.vals.length ≤ 260
            · have HF : Hid (R = true) := by show _ = _; rw [HG2.out]; exact decide_eq_true ⟨h1, h2⟩
              have e1 : ((d.keys.length : Int) ≤ 260) = True := eq_true (by omega)
              have e2 : ((d.vals.length : Int) ≤ 260) = True := eq_true (by omega)
              clear h1 h2
              go_wp2
              go_ret
              exact ⟨ret_bool (by rw [HF.out]), HL.out⟩
            · have HF : Hid (R = false) := by show _ = _; rw [HG2.out]; exact decide_eq_false (fun h => h2 h.2)
              have e1 : ((d.keys.length : Int) ≤ 260) = True := eq_true (by omega)
              have e2 : ((d.vals.length : Int) ≤ 260) = False := eq_false (by omega)
              clear h1 h2
              go_wp2
              go_ret
              exact ⟨ret_bool (by rw [HF.out]), HL.out⟩
          · have HF : Hid (R = false) := by show _ = _; rw [HG2.out]; exact decide_eq_false (fun h => h1 h.1)
            have e1 : ((d.keys.length : Int) ≤ 260) = False := eq_false (by omega)
            clear h1
            go_wp2
            go_ret
            exact ⟨ret_bool (by rw [HF.out]), HL.out⟩
def sameD (a b : NodeD) : Bool := (a.leaf == b.leaf) && (decide (a.keys = b.keys) && decide (a.vals = b.vals))
theorem same_iff (a b : NodeD) : sameD a b = true ↔ a = b := by
  unfold sameD
  simp only [Bool.and_eq_true, beq_iff_eq, decide_eq_true_eq]
  constructor
  · rintro ⟨h1, h2, h3⟩; exact noded_ext h1 h2 h3
  · rintro rfl; exact ⟨rfl, rfl, rfl⟩
set_option maxHeartbeats 2000000 in
set_option maxRecDepth 100000 in
theorem rsame_any (ka : Option Addr) (kc : Nat) (va : Option Addr) (vc : Nat) (d : NodeD) (ka2 : Option Addr) (kc2 : Nat) (va2 : Option Addr) (vc2 : Nat) (d2 : NodeD) (w : World) (h : NodeIn w ka va d) (h2 : NodeIn w ka2 va2 d2) :
    Calls Try.prog 23 #[nodeV ka kc va vc d, nodeV ka2 kc2 va2 vc2 d2] w fun e w' => e = .returned (.bool (sameD d d2)) ∧ Below w.heap.size w w' := by
  have H := Lib.hid h
  have H2 := Lib.hid h2
  have hkl := h.kl
  have hvl := h.vl
  have hkl2 := h2.kl
  have hvl2 := h2.vl
  have HB0 : Hid (∀ o p, Below w.heap.size w ((w.alloc o).alloc p)) := fun o p => ((Below.refl _ _).alloc (Nat.le_refl _) o).trans (((Below.refl _ _).alloc (Nat.le_refl _) p).mono (by rw [size_alloc]; omega))
  clear h h2
  unfold nodeV
  have HBX := Lib.hid ((Box.new w 24 #[.bool d.leaf, .slice ka d.keys.length kc, .slice va d.vals.length vc]).alloc (.cells #[.bool d2.leaf, .slice ka2 d2.keys.length kc2, .slice va2 d2.vals.length vc2] 24))
  have HBY := Lib.hid (box_second w (.cells #[.bool d.leaf, .slice ka d.keys.length kc, .slice va d.vals.length vc] 24) 24 #[.bool d2.leaf, .slice ka2 d2.keys.length kc2, .slice va2 d2.vals.length vc2])
  cases hlf : (d.leaf == d2.leaf)
  · have HQ : Hid (sameD d d2 = false) := by show _ = _; unfold sameD; rw [hlf]; rfl
    rw [HQ.out]
    have c0 := HBX.out.cell 0 _ rfl
    have d0 := HBY.out.cell 0 _ rfl
    go_enter Try.func23, Try.ntmps23
    go_wp2
    go_ret
    exact ⟨rfl, HB0.out _ _⟩
  · have HQ : Hid (sameD d d2 = (decide (d.keys = d2.keys) && decide (d.vals = d2.vals))) := by show _ = _; unfold sameD; rw [hlf]; rfl
    obtain ⟨Q, hQ⟩ : ∃ Q, Q = sameD d d2 := ⟨_, rfl⟩
    rw [← hQ]
    rw [← hQ] at HQ
    clear hQ
    go_enter Try.func23, Try.ntmps23
    go_wp2_with fail
    refine (same_keys ka ka2 kc kc2 d.keys d2.keys _ (H.out.keep (HB0.out _ _)).ks (H2.out.keep (HB0.out _ _)).ks hkl).mono ?_
    rintro e w1 ⟨rfl, hb⟩
    have HX1 := Lib.hid (HBX.out.keep hb HBX.out.lt)
    have HY1 := Lib.hid (HBY.out.keep hb HBY.out.lt)
    have HB1 := Lib.hid ((HB0.out _ _).trans (hb.mono (HB0.out _ _).size))
    have c2 := HX1.out.cell 2 _ rfl
    have d2' := HY1.out.cell 2 _ rfl
    clear hb HBX HBY
    by_cases hk : d.keys = d2.keys
    · have HQ2 : Hid (Q = decide (d.vals = d2.vals)) := by show _ = _; rw [HQ.out, decide_eq_true hk]; rfl
      rw [decide_eq_true hk]
      clear hk
      go_wp2_with fail
      refine (same_keys va va2 vc vc2 d.vals d2.vals _ (H.out.keep HB1.out).vs (H2.out.keep HB1.out).vs hvl).mono ?_
      rintro e w2 ⟨rfl, hb⟩
      have HB2 := Lib.hid (HB1.out.trans (hb.mono HB1.out.size))
      rw [← HQ2.out]
      clear hb
      go_wp2
      go_ret
      exact ⟨rfl, HB2.out⟩
    · have HQ2 : Hid (Q = false) := by show _ = _; rw [HQ.out, decide_eq_false hk]; rfl
      rw [decide_eq_false hk]
      clear hk
      go_wp2
      go_ret
      exact ⟨ret_bool HQ2.out.symm, HB1.out⟩
end Go.Proofs.Ytlkkgboaicjaiaa
