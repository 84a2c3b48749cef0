/-
  The walk of NodeHalves.
-/
import Derived.Test.YtlkkgboaicjaiaaNodeWk
import Derived.Test.YtlkkgboaicjaiaaNodeHl
import Derived.Test.YtlkkgboaicjaiaaFrame
import Derived.Test.YtlkkgboaicjaiaaOpenNode
namespace Go.Proofs.Ytlkkgboaicjaiaa.nodeHalves
open Go.RowKit Go.ChangeShapes Go.WideShapes Go.ChangeAt

set_option maxRecDepth 100000 in
set_option maxHeartbeats 4000000 in
theorem walk (w : World) (ka0 : Option Addr) (kc0 : Nat) (va0 : Option Addr) (vc0 : Nat) (n0 : NodeD) (g0 : ArgN w ka0 kc0 va0 vc0 n0) :
    Calls Try.prog 7 #[nodeV ka0 kc0 va0 vc0 n0] w fun e w' => e = .returned (.bool true) ∧ Below w.heap.size w w' := by
  have HG := Lib.hid g0
  have HZ := Lib.hid g0.sizes
  have HB0 : Hid (∀ o, Below w.heap.size w (w.alloc o)) := fun o => (Below.refl _ _).alloc (Nat.le_refl _) o
  clear g0
  have HV0 : Hid (Value.agg #[.bool n0.leaf, .slice ka0 n0.keys.length kc0, .slice va0 n0.vals.length vc0] = nodeV ka0 kc0 va0 vc0 n0) := rfl
  have HX := Lib.hid (Box.new w 24 #[.bool n0.leaf, .slice ka0 n0.keys.length kc0, .slice va0 n0.vals.length vc0])
  have HB := Lib.hid (HB0.out (.cells #[.bool n0.leaf, .slice ka0 n0.keys.length kc0, .slice va0 n0.vals.length vc0] 24 (0, 0)))
  unfold nodeV
  go_enter Try.func7, Try.ntmps7
  go_wp2_with fail
  rw [HV0.out]
  refine (small_any ka0 kc0 va0 vc0 n0 _ (HG.out.keep HB.out)).mono ?_
  rintro e ws ⟨rfl, hb⟩
  have HX := Lib.hid (HX.out.keep hb HX.out.lt)
  have HB := Lib.hid (HB.out.trans (hb.mono HB.out.size))
  clear hb
  have a0 := HX.out.cell 0 _ rfl
  have a1' := HX.out.cell 1 _ rfl
  have a2' := HX.out.cell 2 _ rfl
  cases hsm : smallD n0
  · clear hsm
    go_wp2_with fail
    refine (live_any _).mono ?_
    rintro e w1 ⟨rfl, hb⟩
    have HX := Lib.hid (HX.out.keep hb HX.out.lt)
    have HB := Lib.hid (HB.out.trans (hb.mono HB.out.size))
    clear hb
    have a0 := HX.out.cell 0 _ rfl
    have a1' := HX.out.cell 1 _ rfl
    have a2' := HX.out.cell 2 _ rfl
    go_wp2
    go_ret
    exact ⟨rfl, HB.out⟩
  · have HIN := Lib.hid (HG.out.inn hsm)
    have HSM := Lib.hid (small_len hsm)
    clear hsm
    go_wp2_with fail
    try rw [HV0.out]
    refine (lown_node ka0 kc0 va0 vc0 n0 _).mono ?_
    rintro e w2 ⟨rfl, hb⟩
    have HX := Lib.hid (HX.out.keep hb HX.out.lt)
    have HB := Lib.hid (HB.out.trans (hb.mono HB.out.size))
    clear hb
    have a0 := HX.out.cell 0 _ rfl
    have a1' := HX.out.cell 1 _ rfl
    have a2' := HX.out.cell 2 _ rfl
    go_wp2_with fail
    try rw [HV0.out]
    refine (split_any ka0 kc0 va0 vc0 n0 _ (HIN.out.keep HB.out) HZ.out HG.out.kl HG.out.vl).mono ?_
    rintro e wj ⟨v1, v2, rfl, h1, h2, hb⟩
    have HX := Lib.hid (HX.out.keep hb HX.out.lt)
    have HB := Lib.hid (HB.out.trans (hb.mono HB.out.size))
    clear hb
    have a0 := HX.out.cell 0 _ rfl
    have a1' := HX.out.cell 1 _ rfl
    have a2' := HX.out.cell 2 _ rfl
    by_cases hm : mayD n0 = true ∧ 2 ≤ n0.keys.length
    rotate_left
    · rw [no_halves hm] at h1 h2 ⊢
      obtain ⟨_, _, rfl, k1, l1⟩ := h1
      obtain ⟨_, _, rfl, k2, l2⟩ := h2
      obtain ⟨kp, kpc, rfl, _, _, _⟩ := ks_cap k1
      obtain ⟨vp, vpc, rfl, _, _, _⟩ := ks_cap l1
      obtain ⟨kq, kqc, rfl, _, _, _⟩ := ks_cap k2
      obtain ⟨vq, vqc, rfl, _, _, _⟩ := ks_cap l2
      clear k1 l1 k2 l2 hm
      dsimp only
      simp only [List.length_nil]
      have HA : Hid (∀ o p, Below wj.heap.size wj ((wj.alloc o).alloc p)) := fun o p => ((Below.refl _ _).alloc (Nat.le_refl _) o).alloc (by rw [size_alloc]; omega) p
      go_wp2_with fail
      refine (live_any _).mono ?_
      rintro e wl ⟨rfl, hb⟩
      have HB := Lib.hid (HB.out.trans (((HA.out _ _).trans (hb.mono (HA.out _ _).size)).mono HB.out.size))
      clear hb
      go_wp2
      go_ret
      exact ⟨rfl, HB.out⟩
    obtain ⟨P, Q, R, S, hsp, hP, hR, hp1, hq1, hck⟩ := halves hm.1 hm.2
    rw [hsp] at h1 h2 ⊢
    clear hsp hm
    dsimp only at h1 h2 ⊢
    obtain ⟨_, _, rfl, k1, l1⟩ := h1
    obtain ⟨_, _, rfl, k2, l2⟩ := h2
    dsimp only at k1 l1 k2 l2 ⊢
    obtain ⟨kp, kpc, rfl, _, _, _⟩ := ks_cap k1
    obtain ⟨vp, vpc, rfl, _, _, _⟩ := ks_cap l1
    obtain ⟨kq, kqc, rfl, _, _, _⟩ := ks_cap k2
    obtain ⟨vq, vqc, rfl, _, _, _⟩ := ks_cap l2
    have HPQ := Lib.hid hP
    have HRS := Lib.hid hR
    have HCK := Lib.hid hck
    have HLN : Hid (P.length ≤ 260 ∧ Q.length ≤ 260 ∧ R.length ≤ 260 ∧ S.length ≤ 260) := by
      have e1 := congrArg List.length hP
      have e2 := congrArg List.length hR
      rw [List.length_append] at e1 e2
      have := HSM.out
      show _ ∧ _ ∧ _ ∧ _
      omega
    have HZP : Hid (∀ s ∈ P ++ R, s.size ≤ maxLen) := fun s hs => by
      rcases List.mem_append.1 hs with h | h
      · exact HZ.out s (List.mem_append.2 (.inl (by rw [← hP]; exact List.mem_append.2 (.inl h))))
      · exact HZ.out s (List.mem_append.2 (.inr (by rw [← hR]; exact List.mem_append.2 (.inl h))))
    have HZQ : Hid (∀ s ∈ Q ++ S, s.size ≤ maxLen) := fun s hs => by
      rcases List.mem_append.1 hs with h | h
      · exact HZ.out s (List.mem_append.2 (.inl (by rw [← hP]; exact List.mem_append.2 (.inr h))))
      · exact HZ.out s (List.mem_append.2 (.inr (by rw [← hR]; exact List.mem_append.2 (.inr h))))
    have K1 := Lib.hid k1
    have L1 := Lib.hid l1
    have K2 := Lib.hid k2
    have L2 := Lib.hid l2
    clear k1 l1 k2 l2 hP hR hck
    have p1 : ((P.length : Int) = 0) = False := eq_false (by omega)
    have p2 : ((Q.length : Int) = 0) = False := eq_false (by omega)
    have p3 : (P.length = 0) = False := eq_false hp1
    have p4 : (Q.length = 0) = False := eq_false hq1
    clear hp1 hq1
    have p5 : ((P.length : Int) == 0) = false := by simp [p3]
    have p6 : ((Q.length : Int) == 0) = false := by simp [p4]
    have p7 : (P = []) = False := eq_false (by rintro rfl; simp at p3)
    have p8 : (Q = []) = False := eq_false (by rintro rfl; simp at p4)
    have HJ : Hid (Below wj.heap.size wj (((wj.alloc (.cells #[.bool n0.leaf, .slice kp P.length kpc, .slice vp R.length vpc] 30 (0, 0))).alloc (.cells #[.bool n0.leaf, .slice kq Q.length kqc, .slice vq S.length vqc] 30 (0, 0))).alloc (.cells #[.bool n0.leaf, .slice none 0 0, .slice none 0 0] 24 (0, 0)))) := (((Below.refl _ _).alloc (Nat.le_refl _) _).alloc (by rw [size_alloc]; omega) _).alloc (by rw [size_alloc, size_alloc]; omega) _
    have HP : Hid (Box (((wj.alloc (.cells #[.bool n0.leaf, .slice kp P.length kpc, .slice vp R.length vpc] 30 (0, 0))).alloc (.cells #[.bool n0.leaf, .slice kq Q.length kqc, .slice vq S.length vqc] 30 (0, 0))).alloc (.cells #[.bool n0.leaf, .slice none 0 0, .slice none 0 0] 24 (0, 0))) wj.heap.size 30 #[.bool n0.leaf, .slice kp P.length kpc, .slice vp R.length vpc]) := ((Box.new wj 30 #[.bool n0.leaf, .slice kp P.length kpc, .slice vp R.length vpc]).alloc _).alloc _
    have HQ : Hid (Box (((wj.alloc (.cells #[.bool n0.leaf, .slice kp P.length kpc, .slice vp R.length vpc] 30 (0, 0))).alloc (.cells #[.bool n0.leaf, .slice kq Q.length kqc, .slice vq S.length vqc] 30 (0, 0))).alloc (.cells #[.bool n0.leaf, .slice none 0 0, .slice none 0 0] 24 (0, 0))) (wj.heap.size + 1) 30 #[.bool n0.leaf, .slice kq Q.length kqc, .slice vq S.length vqc]) := (box_second wj _ 30 #[.bool n0.leaf, .slice kq Q.length kqc, .slice vq S.length vqc]).alloc _
    have HW : Hid (Box (((wj.alloc (.cells #[.bool n0.leaf, .slice kp P.length kpc, .slice vp R.length vpc] 30 (0, 0))).alloc (.cells #[.bool n0.leaf, .slice kq Q.length kqc, .slice vq S.length vqc] 30 (0, 0))).alloc (.cells #[.bool n0.leaf, .slice none 0 0, .slice none 0 0] 24 (0, 0))) (wj.heap.size + 1 + 1) 24 #[.bool n0.leaf, .slice none 0 0, .slice none 0 0]) := box_third wj _ _ 24 #[.bool n0.leaf, .slice none 0 0, .slice none 0 0]
    have HS0 : Hid (((((wj.alloc (.cells #[.bool n0.leaf, .slice kp P.length kpc, .slice vp R.length vpc] 30 (0, 0))).alloc (.cells #[.bool n0.leaf, .slice kq Q.length kqc, .slice vq S.length vqc] 30 (0, 0))).alloc (.cells #[.bool n0.leaf, .slice none 0 0, .slice none 0 0] 24 (0, 0)))).heap.size = wj.heap.size + 1 + 1 + 1) := by show _ = _; rw [size_alloc, size_alloc, size_alloc]
    have HJX := Lib.hid HX.out.lt
    clear a0 a1' a2'
    have HNE : Hid (∀ k ∈ [wj.heap.size + 1 + 1], wj.heap.size ≤ k) := fun k hk => by rw [List.mem_singleton] at hk; omega
    go_wp2_with (at_builtin; refine wp_keys_rows _ rfl _ _ rfl (wj.heap.size + 1 + 1 + 1) _ _ _ [] P rfl (Ks.nil _ _) rfl (K1.out.keep HJ.out) (by have := HLN.out; simp only [List.length_nil]; omega) (by rw [HS0.out]; exact Nat.le_refl _) ?_)
    intro kv wk hk hg
    have hb := (Below.refl _ _).grown hg (Nat.le_refl _) (fun k hk => by simp [Value.ownBlock] at hk)
    obtain ⟨W0, hW0⟩ : ∃ z, z = (((wj.alloc (.cells #[.bool n0.leaf, .slice kp P.length kpc, .slice vp R.length vpc] 30 (0, 0))).alloc (.cells #[.bool n0.leaf, .slice kq Q.length kqc, .slice vq S.length vqc] 30 (0, 0))).alloc (.cells #[.bool n0.leaf, .slice none 0 0, .slice none 0 0] 24 (0, 0))) := ⟨_, rfl⟩
    rw [← hW0] at HJ HP HQ HW HS0 hb
    clear hW0 hg
    obtain ⟨b6, hb6⟩ : ∃ b, b = wj.heap.size + 1 + 1 := ⟨_, rfl⟩
    obtain ⟨b4, hb4⟩ : ∃ b, b = wj.heap.size + 1 := ⟨_, rfl⟩
    obtain ⟨b3, hb3⟩ : ∃ b, b = wj.heap.size := ⟨_, rfl⟩
    rw [← hb6] at HW HS0 HNE hk ⊢
    rw [← hb4] at HQ ⊢
    rw [← hb3] at HP ⊢
    have HBB : Hid (b3 = wj.heap.size ∧ b4 = b3 + 1 ∧ b6 = b3 + 1 + 1) := by show _ ∧ _ ∧ _; omega
    clear hb3 hb4 hb6
    have HSZ : Hid (b6 + 1 ≤ wk.heap.size) := by show _ ≤ _; rw [← HS0.out]; exact hb.size
    have HJ := Lib.hid (HJ.out.trans (hb.mono HJ.out.size))
    have HP := Lib.hid (HP.out.keep hb HP.out.lt)
    have HQ := Lib.hid (HQ.out.keep hb HQ.out.lt)
    have HW := Lib.hid (HW.out.keep hb HW.out.lt)
    obtain ⟨ka, kc, rfl, _, _, _⟩ := ks_cap hk
    have HK := Lib.hid hk
    clear hb hk HS0
    have HJX := HJX
    have hC : Chg [b6] wk (wk.setCell ⟨b6, 1, none⟩ (.slice ka P.length kc)) := (Chg.refl _ _).set _ 1 _ (.inl (by simp))
    have HJ2 := Lib.hid (HJ.out.trans (hC.below HJ.out.size HNE.out))
    have HP2 : Hid (Box (wk.setCell ⟨b6, 1, none⟩ (.slice ka P.length kc)) b3 30 #[.bool n0.leaf, .slice kp P.length kpc, .slice vp R.length vpc]) := HP.out.of (hC.block _ HP.out.lt (by rw [List.mem_singleton]; have := HBB.out; omega))
    have HQ2 : Hid (Box (wk.setCell ⟨b6, 1, none⟩ (.slice ka P.length kc)) b4 30 #[.bool n0.leaf, .slice kq Q.length kqc, .slice vq S.length vqc]) := HQ.out.of (hC.block _ HQ.out.lt (by rw [List.mem_singleton]; have := HBB.out; omega))
    have HW2 := Lib.hid (HW.out.set 1 (.slice ka P.length kc))
    have HK2 := Lib.hid (HK.out.chg hC (fun k h1 h2 => by rw [List.mem_singleton] at h2; have := HK.out.own_block k h1; omega))
    have HSZ2 : Hid (b6 + 1 ≤ (wk.setCell ⟨b6, 1, none⟩ (.slice ka P.length kc)).heap.size) := by show _ ≤ _; exact Nat.le_trans HSZ.out hC.size
    have hne1 : ¬ b3 = b6 := by have := HBB.out; omega
    have hne2 : ¬ b4 = b6 := by have := HBB.out; omega
    have hne3 : ¬ w.heap.size = b6 := by have := HBB.out; have := HJX.out; omega
    have c0 := HW.out.cell 0 _ rfl
    have c1 := HW.out.cell 1 _ rfl
    have c2 := HW.out.cell 2 _ rfl
    have fj := HW.out.free 1
    have g0 := HW2.out.cell 0 _ rfl
    have g1 := HW2.out.cell 1 _ rfl
    have g2 := HW2.out.cell 2 _ rfl
    have d0 := HQ2.out.cell 1 _ rfl
    have e0 := HQ.out.cell 1 _ rfl
    clear hC HP HQ HW HJ HSZ HK
    go_wp2_with (at_builtin; refine wp_keys_rows _ rfl _ _ rfl (b6 + 1) _ _ _ P Q rfl HK2.out rfl (K2.out.keep HJ2.out) (by have := HLN.out; omega) HSZ2.out ?_)
    intro kv wm hk hg
    have hb := (Below.refl (b6 + 1) _).grown hg HSZ2.out (fun k hk => HK2.out.own_block k hk)
    rw [HPQ.out] at hk
    clear hg HK2
    clear c0 c1 c2 fj g0 g1 g2 hne1 hne2 hne3 d0 e0
    obtain ⟨z_, hz⟩ : ∃ z, z = (wk.setCell ⟨b6, 1, none⟩ (.slice ka P.length kc)) := ⟨_, rfl⟩
    rw [← hz] at HJ2 HP2 HQ2 HW2 HSZ2 hb 
    clear hz
    have HP := Lib.hid (HP2.out.keep hb (by have := HBB.out; have := HSZ2.out; omega))
    have HQ := Lib.hid (HQ2.out.keep hb (by have := HBB.out; have := HSZ2.out; omega))
    have HW := Lib.hid (HW2.out.keep hb (by have := HBB.out; have := HSZ2.out; omega))
    have HSZ := Lib.hid (Nat.le_trans HSZ2.out hb.size)
    have HJ := Lib.hid (HJ2.out.trans (hb.mono (by have := HBB.out; have := HSZ2.out; omega)))
    obtain ⟨ka, kc, rfl, _, _, _⟩ := ks_cap hk
    have HK := Lib.hid hk
    clear hb hk HP2 HQ2 HW2 HSZ2 HJ2
    have hC : Chg [b6] wm (wm.setCell ⟨b6, 1, none⟩ (.slice ka n0.keys.length kc)) := (Chg.refl _ _).set _ 1 _ (.inl (by simp))
    have HJ2 := Lib.hid (HJ.out.trans (hC.below HJ.out.size HNE.out))
    have HP2 : Hid (Box (wm.setCell ⟨b6, 1, none⟩ (.slice ka n0.keys.length kc)) b3 30 #[.bool n0.leaf, .slice kp P.length kpc, .slice vp R.length vpc]) := HP.out.of (hC.block _ HP.out.lt (by rw [List.mem_singleton]; have := HBB.out; omega))
    have HQ2 : Hid (Box (wm.setCell ⟨b6, 1, none⟩ (.slice ka n0.keys.length kc)) b4 30 #[.bool n0.leaf, .slice kq Q.length kqc, .slice vq S.length vqc]) := HQ.out.of (hC.block _ HQ.out.lt (by rw [List.mem_singleton]; have := HBB.out; omega))
    have HW2 := Lib.hid (HW.out.set 1 (.slice ka n0.keys.length kc))
    have HK2 := Lib.hid (HK.out.chg hC (fun k h1 h2 => by rw [List.mem_singleton] at h2; have := HK.out.own_block k h1; omega))
    have HSZ2 : Hid (b6 + 1 ≤ (wm.setCell ⟨b6, 1, none⟩ (.slice ka n0.keys.length kc)).heap.size) := by show _ ≤ _; exact Nat.le_trans HSZ.out hC.size
    have hne1 : ¬ b3 = b6 := by have := HBB.out; omega
    have hne2 : ¬ b4 = b6 := by have := HBB.out; omega
    have hne3 : ¬ w.heap.size = b6 := by have := HBB.out; have := HJX.out; omega
    have c0 := HW.out.cell 0 _ rfl
    have c1 := HW.out.cell 1 _ rfl
    have c2 := HW.out.cell 2 _ rfl
    have fj := HW.out.free 1
    have g0 := HW2.out.cell 0 _ rfl
    have g1 := HW2.out.cell 1 _ rfl
    have g2 := HW2.out.cell 2 _ rfl
    have d0 := HP2.out.cell 2 _ rfl
    have e0 := HP.out.cell 2 _ rfl
    clear hC HP HQ HW HJ HSZ HK
    obtain ⟨s2, hs2⟩ : ∃ s, s = (wm.setCell ⟨b6, 1, none⟩ (.slice ka n0.keys.length kc)).heap.size := ⟨_, rfl⟩
    have HS2a : Hid (s2 = (wm.setCell ⟨b6, 1, none⟩ (.slice ka n0.keys.length kc)).heap.size) := hs2
    clear hs2
    go_wp2_with (at_builtin; refine wp_keys_rows _ rfl _ _ rfl s2 _ _ _ [] R rfl (Ks.nil _ _) rfl (L1.out.keep HJ2.out) (by have := HLN.out; simp only [List.length_nil]; omega) (by rw [HS2a.out]; exact Nat.le_refl _) ?_)
    intro vv wv hv hg
    have hb := (Below.refl s2 _).grown hg (by rw [HS2a.out]; exact Nat.le_refl _) (fun k hk => by simp [Value.ownBlock] at hk)
    clear hg
    clear c0 c1 c2 fj g0 g1 g2 hne1 hne2 hne3 d0 e0
    obtain ⟨z_, hz⟩ : ∃ z, z = (wm.setCell ⟨b6, 1, none⟩ (.slice ka n0.keys.length kc)) := ⟨_, rfl⟩
    rw [← hz] at HJ2 HP2 HQ2 HW2 HSZ2 HS2a hb HK2
    clear hz
    have HKU : Hid (∀ k, (Value.slice ka n0.keys.length kc).ownBlock = some k → k < s2) := fun k hk => by rw [HS2a.out]; exact HK2.out.lt k hk
    have HS2 : Hid (b6 + 1 ≤ s2) := by show _ ≤ _; rw [HS2a.out]; exact HSZ2.out
    have HSV : Hid (s2 ≤ wv.heap.size) := by show _ ≤ _; rw [HS2a.out]; exact hb.size
    have hss := HS2.out
    have HP := Lib.hid (HP2.out.keep hb (by have := HBB.out; have := HS2.out; omega))
    have HQ := Lib.hid (HQ2.out.keep hb (by have := HBB.out; have := HS2.out; omega))
    have HW := Lib.hid (HW2.out.keep hb (by have := HBB.out; have := HS2.out; omega))
    have HSZ := Lib.hid (Nat.le_trans HSZ2.out hb.size)
    have HJ := Lib.hid (HJ2.out.trans (hb.mono (by have := HBB.out; have := HS2.out; omega)))
    have HK := Lib.hid (HK2.out.under hb HKU.out)
    obtain ⟨va, vc, rfl, _, _, _⟩ := ks_cap hv
    have HV := Lib.hid hv
    clear hb hv hss HP2 HQ2 HW2 HSZ2 HJ2 HK2 HS2a
    have hC : Chg [b6] wv (wv.setCell ⟨b6, 2, none⟩ (.slice va R.length vc)) := (Chg.refl _ _).set _ 2 _ (.inl (by simp))
    have HJ2 := Lib.hid (HJ.out.trans (hC.below HJ.out.size HNE.out))
    have HP2 : Hid (Box (wv.setCell ⟨b6, 2, none⟩ (.slice va R.length vc)) b3 30 #[.bool n0.leaf, .slice kp P.length kpc, .slice vp R.length vpc]) := HP.out.of (hC.block _ HP.out.lt (by rw [List.mem_singleton]; have := HBB.out; omega))
    have HQ2 : Hid (Box (wv.setCell ⟨b6, 2, none⟩ (.slice va R.length vc)) b4 30 #[.bool n0.leaf, .slice kq Q.length kqc, .slice vq S.length vqc]) := HQ.out.of (hC.block _ HQ.out.lt (by rw [List.mem_singleton]; have := HBB.out; omega))
    have HW2 := Lib.hid (HW.out.set 2 (.slice va R.length vc))
    have HK2 := Lib.hid (HK.out.chg hC (fun k h1 h2 => by rw [List.mem_singleton] at h2; have := HK.out.own_block k h1; omega))
    have HV2 := Lib.hid (HV.out.chg hC (fun k h1 h2 => by rw [List.mem_singleton] at h2; have := HV.out.own_block k h1; have := HS2.out; omega))
    have HSZ2 : Hid (b6 + 1 ≤ (wv.setCell ⟨b6, 2, none⟩ (.slice va R.length vc)).heap.size) := by show _ ≤ _; exact Nat.le_trans HSZ.out hC.size
    have hne1 : ¬ b3 = b6 := by have := HBB.out; omega
    have hne2 : ¬ b4 = b6 := by have := HBB.out; omega
    have hne3 : ¬ w.heap.size = b6 := by have := HBB.out; have := HJX.out; omega
    have c0 := HW.out.cell 0 _ rfl
    have c1 := HW.out.cell 1 _ rfl
    have c2 := HW.out.cell 2 _ rfl
    have fj := HW.out.free 2
    have g0 := HW2.out.cell 0 _ rfl
    have g1 := HW2.out.cell 1 _ rfl
    have g2 := HW2.out.cell 2 _ rfl
    have d0 := HQ2.out.cell 2 _ rfl
    have e0 := HQ.out.cell 2 _ rfl
    clear hC HP HQ HW HJ HSZ HK HV
    have HSV2 : Hid (s2 ≤ (wv.setCell ⟨b6, 2, none⟩ (.slice va R.length vc)).heap.size) := by show _ ≤ _; exact Nat.le_trans HSV.out (by simp)
    go_wp2_with (at_builtin; refine wp_keys_rows _ rfl _ _ rfl s2 _ _ _ R S rfl HV2.out rfl (L2.out.keep HJ2.out) (by have := HLN.out; omega) HSV2.out ?_)
    intro vv wx hv hg
    have hb := (Below.refl s2 _).grown hg HSV2.out (fun k hk => HV2.out.own_block k hk)
    rw [HRS.out] at hv
    clear hg HV2 HSV
    clear c0 c1 c2 fj g0 g1 g2 hne1 hne2 hne3 d0 e0
    obtain ⟨z_, hz⟩ : ∃ z, z = (wv.setCell ⟨b6, 2, none⟩ (.slice va R.length vc)) := ⟨_, rfl⟩
    rw [← hz] at HJ2 HP2 HQ2 HW2 HSZ2 HSV2 hb HK2
    clear hz
    have HP := Lib.hid (HP2.out.keep hb (by have := HBB.out; have := HS2.out; omega))
    have HQ := Lib.hid (HQ2.out.keep hb (by have := HBB.out; have := HS2.out; omega))
    have HW := Lib.hid (HW2.out.keep hb (by have := HBB.out; have := HS2.out; omega))
    have HSZ := Lib.hid (Nat.le_trans HSZ2.out hb.size)
    have HJ := Lib.hid (HJ2.out.trans (hb.mono (by have := HBB.out; have := HS2.out; omega)))
    have HK := Lib.hid (HK2.out.under hb HKU.out)
    obtain ⟨va, vc, rfl, _, _, _⟩ := ks_cap hv
    have HV := Lib.hid hv
    clear hb hv HP2 HQ2 HW2 HSZ2 HJ2 HK2 HSV2
    have HX := Lib.hid (HX.out.keep HJ.out HX.out.lt)
    have hC : Chg [b6] wx (wx.setCell ⟨b6, 2, none⟩ (.slice va n0.vals.length vc)) := (Chg.refl _ _).set _ 2 _ (.inl (by simp))
    have HJ2 := Lib.hid (HJ.out.trans (hC.below HJ.out.size HNE.out))
    have HP2 : Hid (Box (wx.setCell ⟨b6, 2, none⟩ (.slice va n0.vals.length vc)) b3 30 #[.bool n0.leaf, .slice kp P.length kpc, .slice vp R.length vpc]) := HP.out.of (hC.block _ HP.out.lt (by rw [List.mem_singleton]; have := HBB.out; omega))
    have HQ2 : Hid (Box (wx.setCell ⟨b6, 2, none⟩ (.slice va n0.vals.length vc)) b4 30 #[.bool n0.leaf, .slice kq Q.length kqc, .slice vq S.length vqc]) := HQ.out.of (hC.block _ HQ.out.lt (by rw [List.mem_singleton]; have := HBB.out; omega))
    have HW2 := Lib.hid (HW.out.set 2 (.slice va n0.vals.length vc))
    have HK2 := Lib.hid (HK.out.chg hC (fun k h1 h2 => by rw [List.mem_singleton] at h2; have := HK.out.own_block k h1; omega))
    have HV2 := Lib.hid (HV.out.chg hC (fun k h1 h2 => by rw [List.mem_singleton] at h2; have := HV.out.own_block k h1; have := HS2.out; omega))
    have HSZ2 : Hid (b6 + 1 ≤ (wx.setCell ⟨b6, 2, none⟩ (.slice va n0.vals.length vc)).heap.size) := by show _ ≤ _; exact Nat.le_trans HSZ.out hC.size
    have hne1 : ¬ b3 = b6 := by have := HBB.out; omega
    have hne2 : ¬ b4 = b6 := by have := HBB.out; omega
    have hne3 : ¬ w.heap.size = b6 := by have := HBB.out; have := HJX.out; omega
    have c0 := HW.out.cell 0 _ rfl
    have c1 := HW.out.cell 1 _ rfl
    have c2 := HW.out.cell 2 _ rfl
    have fj := HW.out.free 2
    have g0 := HW2.out.cell 0 _ rfl
    have g1 := HW2.out.cell 1 _ rfl
    have g2 := HW2.out.cell 2 _ rfl
    clear hC HP HQ HW HJ HSZ HK HV
    have HX2 := Lib.hid (HX.out.keep ((Below.refl b6 wx).setCell (p := ⟨b6, 2, none⟩) (Nat.le_refl _) (.slice va n0.vals.length vc)) (by have := HBB.out; have := HJX.out; omega))
    have d0 := HX2.out.cell 0 _ rfl
    have d1 := HX2.out.cell 1 _ rfl
    have d2 := HX2.out.cell 2 _ rfl
    have e0 := HX.out.cell 0 _ rfl
    have e1 := HX.out.cell 1 _ rfl
    have e2 := HX.out.cell 2 _ rfl
    clear HX
    have hsm : sameD n0 n0 = true := (same_iff _ _).2 rfl
    have HVW : Hid (Value.agg #[.bool n0.leaf, .slice ka n0.keys.length kc, .slice va n0.vals.length vc] = nodeV ka kc va vc n0) := rfl
    go_wp2_with fail
    clear c0 c1 c2 fj g0 g1 g2 hne1 hne2 hne3  d0 d1 d2 e0 e1 e2
    obtain ⟨z_, hz⟩ : ∃ z, z = (wx.setCell ⟨b6, 2, none⟩ (.slice va n0.vals.length vc)) := ⟨_, rfl⟩
    rw [← hz] at HJ2 HP2 HQ2 HK2 HV2 HX2 ⊢
    clear hz HW2 HSZ2
    have HIW : Hid (NodeIn z_ ka va n0) := ⟨ks_sl2 HK2.out, ks_sl2 HV2.out, HIN.out.kl, HIN.out.vl⟩
    rw [HVW.out]
    try rw [HV0.out]
    refine (rsame_any ka kc va vc n0 ka0 kc0 va0 vc0 n0 _ HIW.out (HIN.out.keep (HB.out.trans (HJ2.out.mono HB.out.size)))).mono ?_
    rintro e wn ⟨rfl, hb⟩
    rw [hsm]
    have HP := HP2
    have HQ := HQ2
    have HJ := HJ2
    have HX := HX2
    clear HP2 HQ2 HJ2 HX2 HK2 HV2 HIW
    have HP := Lib.hid (HP.out.keep hb HP.out.lt)
    have HQ := Lib.hid (HQ.out.keep hb HQ.out.lt)
    have HX := Lib.hid (HX.out.keep hb HX.out.lt)
    have HJ := Lib.hid (HJ.out.trans (hb.mono HJ.out.size))
    clear hb
    have x0 := HX.out.cell 0 _ rfl
    have p0_ := HP.out.cell 0 _ rfl
    have q0_ := HQ.out.cell 0 _ rfl
    have x1 := HX.out.cell 1 _ rfl
    have p1_ := HP.out.cell 1 _ rfl
    have q1_ := HQ.out.cell 1 _ rfl
    have x2 := HX.out.cell 2 _ rfl
    have p2_ := HP.out.cell 2 _ rfl
    have q2_ := HQ.out.cell 2 _ rfl
    have hbl : (n0.leaf != n0.leaf) = false := by simp
    go_wp2_with fail
    try rw [HV0.out]
    refine (lown_node ka0 kc0 va0 vc0 n0 _).mono ?_
    rintro e wo ⟨rfl, hb⟩
    have HP := Lib.hid (HP.out.keep hb HP.out.lt)
    have HQ := Lib.hid (HQ.out.keep hb HQ.out.lt)
    have HX := Lib.hid (HX.out.keep hb HX.out.lt)
    have HJ := Lib.hid (HJ.out.trans (hb.mono HJ.out.size))
    clear hb
    have x0 := HX.out.cell 0 _ rfl
    have p0_ := HP.out.cell 0 _ rfl
    have q0_ := HQ.out.cell 0 _ rfl
    have x1 := HX.out.cell 1 _ rfl
    have p1_ := HP.out.cell 1 _ rfl
    have q1_ := HQ.out.cell 1 _ rfl
    have x2 := HX.out.cell 2 _ rfl
    have p2_ := HP.out.cell 2 _ rfl
    have q2_ := HQ.out.cell 2 _ rfl
    go_wp2_with fail
    refine (size_any ka0 kc0 va0 vc0 n0 _ (HIN.out.keep (HB.out.trans (HJ.out.mono HB.out.size))) HZ.out).mono ?_
    rintro e ws2 ⟨rfl, hb⟩
    have HP := Lib.hid (HP.out.keep hb HP.out.lt)
    have HQ := Lib.hid (HQ.out.keep hb HQ.out.lt)
    have HX := Lib.hid (HX.out.keep hb HX.out.lt)
    have HJ := Lib.hid (HJ.out.trans (hb.mono HJ.out.size))
    clear hb
    have x0 := HX.out.cell 0 _ rfl
    have p0_ := HP.out.cell 0 _ rfl
    have q0_ := HQ.out.cell 0 _ rfl
    have x1 := HX.out.cell 1 _ rfl
    have p1_ := HP.out.cell 1 _ rfl
    have q1_ := HQ.out.cell 1 _ rfl
    have x2 := HX.out.cell 2 _ rfl
    have p2_ := HP.out.cell 2 _ rfl
    have q2_ := HQ.out.cell 2 _ rfl
    by_cases hs : sizeD n0 ≤ 1383
    rotate_left
    · have hs2 : ((1383 : Int) < (sizeD n0 : Int)) = True := eq_true (by omega)
      clear hs
      go_wp2_with fail
      refine (live_any _).mono ?_
      rintro e wl ⟨rfl, hb⟩
      have HJ := Lib.hid (HJ.out.trans (hb.mono HJ.out.size))
      clear hb
      go_wp2
      go_ret
      exact ⟨rfl, HB.out.trans (HJ.out.mono HB.out.size)⟩
    have hs2 : ((1383 : Int) < (sizeD n0 : Int)) = False := eq_false (by omega)
    obtain ⟨k1, k2⟩ := HCK.out hs
    clear hs
    have HVA : Hid (Value.agg #[.bool n0.leaf, .slice kp P.length kpc, .slice vp R.length vpc] = nodeV kp kpc vp vpc ⟨n0.leaf, P, R⟩) := rfl
    have HVB : Hid (Value.agg #[.bool n0.leaf, .slice kq Q.length kqc, .slice vq S.length vqc] = nodeV kq kqc vq vqc ⟨n0.leaf, Q, S⟩) := rfl
    have K1c := Lib.hid k1
    have K2c := Lib.hid k2
    clear k1 k2
    go_wp2_with fail
    rw [HVA.out]
    refine (check_any kp kpc vp vpc ⟨n0.leaf, P, R⟩ _ ⟨ks_sl2 (K1.out.keep HJ.out), ks_sl2 (L1.out.keep HJ.out), by have := HLN.out; show P.length ≤ 100000; omega, by have := HLN.out; show R.length ≤ 100000; omega⟩ HZP.out).mono ?_
    rintro e wt ⟨rfl, hb⟩
    rw [K1c.out]
    have HP := Lib.hid (HP.out.keep hb HP.out.lt)
    have HQ := Lib.hid (HQ.out.keep hb HQ.out.lt)
    have HX := Lib.hid (HX.out.keep hb HX.out.lt)
    have HJ := Lib.hid (HJ.out.trans (hb.mono HJ.out.size))
    clear hb
    have x0 := HX.out.cell 0 _ rfl
    have p0_ := HP.out.cell 0 _ rfl
    have q0_ := HQ.out.cell 0 _ rfl
    have x1 := HX.out.cell 1 _ rfl
    have p1_ := HP.out.cell 1 _ rfl
    have q1_ := HQ.out.cell 1 _ rfl
    have x2 := HX.out.cell 2 _ rfl
    have p2_ := HP.out.cell 2 _ rfl
    have q2_ := HQ.out.cell 2 _ rfl
    go_wp2_with fail
    rw [HVB.out]
    refine (check_any kq kqc vq vqc ⟨n0.leaf, Q, S⟩ _ ⟨ks_sl2 (K2.out.keep HJ.out), ks_sl2 (L2.out.keep HJ.out), by have := HLN.out; show Q.length ≤ 100000; omega, by have := HLN.out; show S.length ≤ 100000; omega⟩ HZQ.out).mono ?_
    rintro e wt ⟨rfl, hb⟩
    rw [K2c.out]
    have HP := Lib.hid (HP.out.keep hb HP.out.lt)
    have HQ := Lib.hid (HQ.out.keep hb HQ.out.lt)
    have HX := Lib.hid (HX.out.keep hb HX.out.lt)
    have HJ := Lib.hid (HJ.out.trans (hb.mono HJ.out.size))
    clear hb
    have x0 := HX.out.cell 0 _ rfl
    have p0_ := HP.out.cell 0 _ rfl
    have q0_ := HQ.out.cell 0 _ rfl
    have x1 := HX.out.cell 1 _ rfl
    have p1_ := HP.out.cell 1 _ rfl
    have q1_ := HQ.out.cell 1 _ rfl
    have x2 := HX.out.cell 2 _ rfl
    have p2_ := HP.out.cell 2 _ rfl
    have q2_ := HQ.out.cell 2 _ rfl
    go_wp2_with fail
    refine (live_any _).mono ?_
    rintro e wl ⟨rfl, hb⟩
    have HJ := Lib.hid (HJ.out.trans (hb.mono HJ.out.size))
    clear hb
    go_wp2
    go_ret
    exact ⟨rfl, HB.out.trans (HJ.out.mono HB.out.size)⟩
end Go.Proofs.Ytlkkgboaicjaiaa.nodeHalves
