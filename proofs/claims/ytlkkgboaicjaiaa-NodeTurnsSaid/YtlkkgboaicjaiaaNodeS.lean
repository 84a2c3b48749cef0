/-
  The reference's Key, May, Size, Check.
-/
import Derived.Test.YtlkkgboaicjaiaaNodeB
namespace Go.Proofs.Ytlkkgboaicjaiaa
open Go.RowKit Go.ChangeShapes Go.WideShapes Go.ChangeAt

def keyB (s : ByteArray) : Bool := decide (0 < s.size ∧ s.size ≤ 300)
theorem rkey_any (s : ByteArray) (w : World) (hs : s.size ≤ maxLen) : Calls Try.prog 32 #[.string s] w fun e w' => e = .returned (.bool (keyB s)) ∧ w = w' := by
  unfold maxLen at hs
  by_cases h0 : 0 < s.size
  · have e : keyB s = decide (s.size ≤ 300) := by unfold keyB; simp [h0]
    rw [e]
    have h1 : (1 : Int) ≤ (s.size : Int) := by omega
    go_enter Try.func32, Try.ntmps32
    go_wp2
    go_ret
    exact ⟨ret_bool (decide_eq_decide.2 (by omega)), rfl⟩
  · have e : keyB s = false := by unfold keyB; simp [h0]
    rw [e]
    have h1 : ¬ (1 : Int) ≤ (s.size : Int) := by omega
    go_enter Try.func32, Try.ntmps32
    go_wp2
    go_ret
    exact ⟨rfl, rfl⟩
set_option maxRecDepth 100000 in
set_option maxHeartbeats 2000000 in
theorem rmay_any (ka : Option Addr) (kc : Nat) (va : Option Addr) (vc : Nat) (d : NodeD) (w : World) (h : NodeIn w ka va d) (hz : ∀ s ∈ d.keys ++ d.vals, s.size ≤ maxLen) :
    Calls Try.prog 31 #[nodeV ka kc va vc d] w fun e w' => e = .returned (.bool (mayD d)) ∧ Below w.heap.size w w' := by
  have H := Lib.hid h
  have HZ := Lib.hid hz
  have hkl := h.kl
  have hvl := h.vl
  have HB0 : Hid (∀ o, Below w.heap.size w (w.alloc o)) := fun o => (Below.refl _ _).alloc (Nat.le_refl _) o
  clear h hz
  unfold nodeV
  by_cases h1 : d.keys.length = d.vals.length
  · by_cases h2 : d.keys.length ≤ 255
    · have hm : mayD d = mayG ⟨#[]⟩ d.keys d.vals := by unfold mayD; simp [h1, show d.vals.length ≤ 255 by omega]
      obtain ⟨R, hR⟩ : ∃ R, R = mayD d := ⟨_, rfl⟩
      rw [← hR]
      have HR : Hid (R = mayG (lastK d.keys 0) (d.keys.drop 0) (d.vals.drop 0)) := by show _ = _; rw [hR, hm]; rfl
      have H1 := Lib.hid h1
      clear hR hm
      have e1 : ((d.keys.length : Int) != (d.vals.length : Int)) = false := by rw [h1]; simp
      clear h1
      go_enter Try.func31, Try.ntmps31
      go_wp2_with fail
      go_loopw [3] (fun i wr => ∃ k : Nat, k ≤ d.keys.length ∧ i = .int .i64 k ∧ Hid (R = mayG (lastK d.keys k) (d.keys.drop k) (d.vals.drop k)) ∧ Hid (NodeIn wr ka va d) ∧ Hid (Below w.heap.size w wr) ∧ Hid (Box wr w.heap.size 24 #[.bool d.leaf, .slice ka d.keys.length kc, .slice va d.vals.length vc])) (fun i _ => d.keys.length - (intOf i).toNat)
      case atStart => exact ⟨0, Nat.zero_le _, rfl, HR, H.out.keep (HB0.out _), HB0.out _, Box.new _ _ _⟩
      case round =>
        obtain ⟨k, hk, rfl, HG, HN, HL, HX⟩ := hrel
        have c1 := HX.out.cell 1 _ rfl
        have c2 := HX.out.cell 2 _ rfl
        by_cases hlt : k < d.keys.length
        · have h2v : k < d.vals.length := by have := H1.out; omega
          obtain ⟨b, off, hka, _, hc⟩ := HN.out.ks.get k hlt
          obtain ⟨b2, off2, hva, _, hc2⟩ := HN.out.vs.get k h2v
          subst hka hva
          have HS := Lib.hid (may_step d k hlt h2v)
          have z1 := HZ.out d.keys[k] (by simp)
          have z2 := HZ.out d.vals[k] (by simp)
          have h0i : (0 : Int) ≤ (k : Int) := by omega
          have h1i : (k : Int) < (d.keys.length : Int) := by omega
          have h2i : (k : Int) < (d.vals.length : Int) := by omega
          have hlast : ∀ j, k = j + 1 → ∃ t, lastK d.keys k = t ∧ wr.cell? ⟨b, off + j, none⟩ = some (.string t) := fun j hj => by
            subst hj
            obtain ⟨b', off', e, _, hc'⟩ := HN.out.ks.get j (by omega)
            injection e with e; injection e with e1 e2
            subst e1 e2
            exact ⟨_, by simp [lastK, List.getD, show j < d.keys.length by omega], hc'⟩
          have HGS : Hid (R = (ltK (lastK d.keys k) d.keys[k] && (okE d.keys[k] d.vals[k] && mayG (lastK d.keys (k + 1)) (d.keys.drop (k + 1)) (d.vals.drop (k + 1))))) := by show _ = _; rw [HG.out, HS.out]
          have HOK : Hid (okE d.keys[k] d.vals[k] = (keyB d.keys[k] && decide ((d.vals[k]).size ≤ 120))) := by show _ = _; unfold okE keyB; rw [← Bool.decide_and]; exact decide_eq_decide.2 (by omega)
          have HNIL : Hid (keyB d.keys[k] = true → ltK ⟨#[]⟩ d.keys[k] = true) := fun h => by
            rw [ltK_nil]; unfold keyB at h; exact decide_eq_true (of_decide_eq_true h).1
          clear HS HG
          generalize d.keys[k] = x at *
          generalize d.vals[k] = y at *
          unfold maxLen at z2
          cases hkx : keyB x
          · have HF : Hid (R = false) := by show _ = _; rw [HGS.out, HOK.out, hkx]; simp
            clear HGS HOK HNIL hlast
            go_wp2_with fail
            refine wp_region_tree (fun W => W.cell? ⟨w.heap.size, 1, none⟩ = some (.slice (some ⟨b, off, none⟩) d.keys.length kc) ∧ W.cell? ⟨w.heap.size, 2, none⟩ = some (.slice (some ⟨b2, off2, none⟩) d.vals.length vc) ∧ W.cell? ⟨b, off + k, none⟩ = some (.string x) ∧ W.cell? ⟨b2, off2 + k, none⟩ = some (.string y)) 31 (.quiet 0 (.quiet 1 (.quiet 2 (.quiet 3 (.quiet 4 (.make 5 (.quiet 6 (.quiet 7 (.quiet 8 (.quiet 9 (.quiet 10 (.quiet 11 (.quiet 12 (.quiet 13 (.quiet 14 (.quiet 15 (.quiet 16 (.quiet 17 (.quiet 18 (.quiet 19 (.quiet 20 (.quiet 21 (.quiet 22 (.quiet 23 (.quiet 24 (.quiet 25 (.quiet 26 (.quiet 27 (.quiet 28 (.quiet 29 (.quiet 30 .nil))))))))))))))))))))))))))))))) (by kernel_rfl) (by kernel_rfl) ⟨c1, c2, hc, hc2⟩ ?_
            simp only [List.drop_succ_cons, List.drop_zero]
            iterate 5 (apply wpTr_step rfl; (intro W hS K hK; obtain ⟨q0, q1, q2, q3⟩ := hS; go_simp; exact hK _ rfl))
            refine wpTr_make rfl (fun K' hK => ?_)
            go_simp
            refine (rkey_any x _ z1).mono ?_
            rintro e w1 ⟨rfl, rfl⟩
            rw [hkx]
            refine hK _ _ _ (fun _ h => h) ⟨c1, c2, hc, hc2⟩ ?_
            clear hK K'
            iterate 25 (apply wpTr_step rfl; (intro W hS K hK; obtain ⟨q0, q1, q2, q3⟩ := hS; go_simp; exact hK _ rfl))
            refine wpTr_nil ?_
            go_wp2
            go_ret
            exact ⟨ret_bool HF.out.symm, HL.out.drew⟩
          · by_cases hy : y.size ≤ 120
            · have hyi : ¬ (120 : Int) < (y.size : Int) := by omega
              have hok : okE x y = true := by rw [HOK.out, hkx, decide_eq_true hy]; rfl
              have HG2 : Hid (R = (ltK (lastK d.keys k) x && mayG (lastK d.keys (k + 1)) (d.keys.drop (k + 1)) (d.vals.drop (k + 1)))) := by show _ = _; rw [HGS.out, hok]; rfl
              have hnil := HNIL.out hkx
              clear HGS HOK HNIL hok
              rcases Nat.eq_zero_or_pos k with h0 | h0
              · have HT2 : Hid (R = mayG (lastK d.keys (k + 1)) (d.keys.drop (k + 1)) (d.vals.drop (k + 1))) := by
                  show _ = _
                  rw [HG2.out]
                  have : lastK d.keys k = ⟨#[]⟩ := by rw [h0]; rfl
                  rw [this, hnil]; rfl
                have hk0 : ((0 : Int) < (k : Int)) = False := eq_false (by omega)
                have hk1 : (0 < k) = False := eq_false (by omega)
                clear HG2 hnil hlast h0
                go_wp2_with fail
                refine wp_region_tree (fun W => W.cell? ⟨w.heap.size, 1, none⟩ = some (.slice (some ⟨b, off, none⟩) d.keys.length kc) ∧ W.cell? ⟨w.heap.size, 2, none⟩ = some (.slice (some ⟨b2, off2, none⟩) d.vals.length vc) ∧ W.cell? ⟨b, off + k, none⟩ = some (.string x) ∧ W.cell? ⟨b2, off2 + k, none⟩ = some (.string y)) 31 (.quiet 0 (.quiet 1 (.quiet 2 (.quiet 3 (.quiet 4 (.make 5 (.quiet 6 (.quiet 7 (.quiet 8 (.quiet 9 (.quiet 10 (.quiet 11 (.quiet 12 (.quiet 13 (.quiet 14 (.quiet 15 (.quiet 16 (.quiet 17 (.quiet 18 (.quiet 19 (.quiet 20 (.quiet 21 (.quiet 22 (.quiet 23 (.quiet 24 (.quiet 25 (.quiet 26 (.quiet 27 (.quiet 28 (.quiet 29 (.quiet 30 .nil))))))))))))))))))))))))))))))) (by kernel_rfl) (by kernel_rfl) ⟨c1, c2, hc, hc2⟩ ?_
                simp only [List.drop_succ_cons, List.drop_zero]
                iterate 5 (apply wpTr_step rfl; (intro W hS K hK; obtain ⟨q0, q1, q2, q3⟩ := hS; go_simp; exact hK _ rfl))
                refine wpTr_make rfl (fun K' hK => ?_)
                go_simp
                refine (rkey_any x _ z1).mono ?_
                rintro e w1 ⟨rfl, rfl⟩
                rw [hkx]
                refine hK _ _ _ (fun _ h => h) ⟨c1, c2, hc, hc2⟩ ?_
                clear hK K'
                iterate 25 (apply wpTr_step rfl; (intro W hS K hK; obtain ⟨q0, q1, q2, q3⟩ := hS; go_simp; exact hK _ rfl))
                refine wpTr_nil ?_
                go_wp2
                go_roundw
                case rel => exact ⟨k + 1, by omega, by go_num, HT2, HN.out.keep (Below.refl _ _).drew, HL.out.drew, HX⟩
                case measure => simp [intOf]; omega
              · obtain ⟨j, rfl⟩ : ∃ j, k = j + 1 := ⟨k - 1, by omega⟩
                obtain ⟨t, ht, hc3⟩ := hlast j rfl
                rw [ht] at HG2
                clear hlast hnil ht
                have hk0 : (0 : Int) < ((j + 1 : Nat) : Int) := by omega
                have wj : wrap64 (((j + 1 : Nat) : Int) - 1) = (j : Int) := by rw [IntWalk.wrap64_in _ (by omega)]; omega
                have wj2 : wrap64 ((j : Int) + 1 - 1) = (j : Int) := by rw [IntWalk.wrap64_in _ (by omega)]; omega
                have hj1 : (0 : Int) ≤ (j : Int) := by omega
                have wj3 : IntKind.i64.wrap (j : Int) = (j : Int) := i64_small _ (by omega) (by omega)
                have hj3 : (0 : Int) ≤ (j : Int) + 1 := by omega
                have hj4 : (j : Int) + 1 < (d.keys.length : Int) := by omega
                have hj5 : (j : Int) + 1 < (d.vals.length : Int) := by omega
                have hj6 : (0 : Int) < (j : Int) + 1 := by omega
                have hj2 : (j : Int) < (d.keys.length : Int) := by omega
                have hge := fun W => str_geq t x W
                cases hg : ltK t x
                · have HF : Hid (R = false) := by show _ = _; rw [HG2.out, hg]; rfl
                  have hq : ∀ W, (binOp .geq 9 (.string t) (.string x)).run Try.prog W = .ok (.bool true) W := fun W => by rw [hge W, hg]; rfl
                  clear HG2 hge hg
                  go_wp2_with fail
                  refine wp_region_tree (fun W => W.cell? ⟨w.heap.size, 1, none⟩ = some (.slice (some ⟨b, off, none⟩) d.keys.length kc) ∧ W.cell? ⟨w.heap.size, 2, none⟩ = some (.slice (some ⟨b2, off2, none⟩) d.vals.length vc) ∧ W.cell? ⟨b, off + (j + 1), none⟩ = some (.string x) ∧ W.cell? ⟨b2, off2 + (j + 1), none⟩ = some (.string y) ∧ W.cell? ⟨b, off + j, none⟩ = some (.string t)) 31 (.quiet 0 (.quiet 1 (.quiet 2 (.quiet 3 (.quiet 4 (.make 5 (.quiet 6 (.quiet 7 (.quiet 8 (.quiet 9 (.quiet 10 (.quiet 11 (.quiet 12 (.quiet 13 (.quiet 14 (.quiet 15 (.quiet 16 (.quiet 17 (.quiet 18 (.quiet 19 (.quiet 20 (.quiet 21 (.quiet 22 (.quiet 23 (.quiet 24 (.quiet 25 (.quiet 26 (.quiet 27 (.quiet 28 (.quiet 29 (.quiet 30 .nil))))))))))))))))))))))))))))))) (by kernel_rfl) (by kernel_rfl) ⟨c1, c2, hc, hc2, hc3⟩ ?_
                  simp only [List.drop_succ_cons, List.drop_zero]
                  iterate 5 (apply wpTr_step rfl; (intro W hS K hK; obtain ⟨q0, q1, q2, q3, q4⟩ := hS; go_simp; exact hK _ rfl))
                  refine wpTr_make rfl (fun K' hK => ?_)
                  go_simp
                  refine (rkey_any x _ z1).mono ?_
                  rintro e w1 ⟨rfl, rfl⟩
                  rw [hkx]
                  refine hK _ _ _ (fun _ h => h) ⟨c1, c2, hc, hc2, hc3⟩ ?_
                  clear hK K'
                  iterate 25 (apply wpTr_step rfl; (intro W hS K hK; obtain ⟨q0, q1, q2, q3, q4⟩ := hS; go_simp; exact hK _ rfl))
                  refine wpTr_nil ?_
                  go_wp2
                  go_ret
                  exact ⟨ret_bool HF.out.symm, HL.out.drew⟩
                · have HT2 : Hid (R = mayG (lastK d.keys (j + 1 + 1)) (d.keys.drop (j + 1 + 1)) (d.vals.drop (j + 1 + 1))) := by show _ = _; rw [HG2.out, hg]; rfl
                  have hq : ∀ W, (binOp .geq 9 (.string t) (.string x)).run Try.prog W = .ok (.bool false) W := fun W => by rw [hge W, hg]; rfl
                  clear HG2 hge hg
                  go_wp2_with fail
                  refine wp_region_tree (fun W => W.cell? ⟨w.heap.size, 1, none⟩ = some (.slice (some ⟨b, off, none⟩) d.keys.length kc) ∧ W.cell? ⟨w.heap.size, 2, none⟩ = some (.slice (some ⟨b2, off2, none⟩) d.vals.length vc) ∧ W.cell? ⟨b, off + (j + 1), none⟩ = some (.string x) ∧ W.cell? ⟨b2, off2 + (j + 1), none⟩ = some (.string y) ∧ W.cell? ⟨b, off + j, none⟩ = some (.string t)) 31 (.quiet 0 (.quiet 1 (.quiet 2 (.quiet 3 (.quiet 4 (.make 5 (.quiet 6 (.quiet 7 (.quiet 8 (.quiet 9 (.quiet 10 (.quiet 11 (.quiet 12 (.quiet 13 (.quiet 14 (.quiet 15 (.quiet 16 (.quiet 17 (.quiet 18 (.quiet 19 (.quiet 20 (.quiet 21 (.quiet 22 (.quiet 23 (.quiet 24 (.quiet 25 (.quiet 26 (.quiet 27 (.quiet 28 (.quiet 29 (.quiet 30 .nil))))))))))))))))))))))))))))))) (by kernel_rfl) (by kernel_rfl) ⟨c1, c2, hc, hc2, hc3⟩ ?_
                  simp only [List.drop_succ_cons, List.drop_zero]
                  iterate 5 (apply wpTr_step rfl; (intro W hS K hK; obtain ⟨q0, q1, q2, q3, q4⟩ := hS; go_simp; exact hK _ rfl))
                  refine wpTr_make rfl (fun K' hK => ?_)
                  go_simp
                  refine (rkey_any x _ z1).mono ?_
                  rintro e w1 ⟨rfl, rfl⟩
                  rw [hkx]
                  refine hK _ _ _ (fun _ h => h) ⟨c1, c2, hc, hc2, hc3⟩ ?_
                  clear hK K'
                  iterate 25 (apply wpTr_step rfl; (intro W hS K hK; obtain ⟨q0, q1, q2, q3, q4⟩ := hS; go_simp; exact hK _ rfl))
                  refine wpTr_nil ?_
                  go_wp2
                  go_roundw
                  case rel => exact ⟨j + 1 + 1, by omega, by go_num, HT2, HN.out.keep (Below.refl _ _).drew, HL.out.drew, HX⟩
                  case measure => simp [intOf]; omega
            · have hyi : (120 : Int) < (y.size : Int) := by omega
              have HF : Hid (R = false) := by show _ = _; rw [HGS.out, HOK.out, decide_eq_false hy]; simp
              clear HGS HOK HNIL hlast
              go_wp2_with fail
              refine wp_region_tree (fun W => W.cell? ⟨w.heap.size, 1, none⟩ = some (.slice (some ⟨b, off, none⟩) d.keys.length kc) ∧ W.cell? ⟨w.heap.size, 2, none⟩ = some (.slice (some ⟨b2, off2, none⟩) d.vals.length vc) ∧ W.cell? ⟨b, off + k, none⟩ = some (.string x) ∧ W.cell? ⟨b2, off2 + k, none⟩ = some (.string y)) 31 (.quiet 0 (.quiet 1 (.quiet 2 (.quiet 3 (.quiet 4 (.make 5 (.quiet 6 (.quiet 7 (.quiet 8 (.quiet 9 (.quiet 10 (.quiet 11 (.quiet 12 (.quiet 13 (.quiet 14 (.quiet 15 (.quiet 16 (.quiet 17 (.quiet 18 (.quiet 19 (.quiet 20 (.quiet 21 (.quiet 22 (.quiet 23 (.quiet 24 (.quiet 25 (.quiet 26 (.quiet 27 (.quiet 28 (.quiet 29 (.quiet 30 .nil))))))))))))))))))))))))))))))) (by kernel_rfl) (by kernel_rfl) ⟨c1, c2, hc, hc2⟩ ?_
              simp only [List.drop_succ_cons, List.drop_zero]
              iterate 5 (apply wpTr_step rfl; (intro W hS K hK; obtain ⟨q0, q1, q2, q3⟩ := hS; go_simp; exact hK _ rfl))
              refine wpTr_make rfl (fun K' hK => ?_)
              go_simp
              refine (rkey_any x _ z1).mono ?_
              rintro e w1 ⟨rfl, rfl⟩
              rw [hkx]
              refine hK _ _ _ (fun _ h => h) ⟨c1, c2, hc, hc2⟩ ?_
              clear hK K'
              iterate 25 (apply wpTr_step rfl; (intro W hS K hK; obtain ⟨q0, q1, q2, q3⟩ := hS; go_simp; exact hK _ rfl))
              refine wpTr_nil ?_
              go_wp2
              go_ret
              exact ⟨ret_bool HF.out.symm, HL.out.drew⟩
        · have hkl : k = d.keys.length := by omega
          have HF : Hid (R = true) := by
            show _ = _
            have := H1.out
            rw [HG.out, List.drop_of_length_le (by omega), List.drop_of_length_le (by omega)]; rfl
          subst hkl
          go_wp2
          go_ret
          exact ⟨ret_bool HF.out.symm, HL.out⟩
    · have HM : Hid (mayD d = false) := by show _ = _; unfold mayD; simp [h2]
      rw [HM.out]
      have e1 : ((d.keys.length : Int) != (d.vals.length : Int)) = false := by rw [h1]; simp
      clear h1
      go_enter Try.func31, Try.ntmps31
      go_wp2
      go_ret
      exact ⟨rfl, HB0.out _⟩
  · have HM : Hid (mayD d = false) := by show _ = _; unfold mayD; simp [h1]
    rw [HM.out]
    have e1 : ((d.keys.length : Int) != (d.vals.length : Int)) = true := by simpa using fun h => h1 (by exact_mod_cast h)
    clear h1
    go_enter Try.func31, Try.ntmps31
    go_wp2
    go_ret
    exact ⟨rfl, HB0.out _⟩
end Go.Proofs.Ytlkkgboaicjaiaa
