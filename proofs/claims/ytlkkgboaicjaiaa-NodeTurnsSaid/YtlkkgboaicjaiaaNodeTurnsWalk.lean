/-
  The walk of NodeTurns.
-/
import Derived.Test.YtlkkgboaicjaiaaNodeWk
import Derived.Test.YtlkkgboaicjaiaaNodeZ
import Derived.Test.YtlkkgboaicjaiaaNodeY
import Derived.Test.YtlkkgboaicjaiaaNodeD
import Derived.Test.YtlkkgboaicjaiaaNodeKeepsWalk
import Derived.Test.YtlkkgboaicjaiaaFrame
import Derived.Test.YtlkkgboaicjaiaaOpenNode
namespace Go.Proofs.Ytlkkgboaicjaiaa.nodeTurns
open Go.RowKit Go.Proofs.Ytlkkgboaicjaiaa.nodeKeeps Go.ChangeShapes Go.WideShapes Go.ChangeAt

theorem without_len (d : NodeD) (k : ByteArray) : (withoutD d k).keys.length ≤ d.keys.length ∧ (withoutD d k).vals.length ≤ d.vals.length := by
  unfold withoutD
  split
  · simp only [List.length_eraseIdx]; constructor <;> split <;> omega
  · exact ⟨Nat.le_refl _, Nat.le_refl _⟩
set_option maxRecDepth 100000 in
set_option maxHeartbeats 4000000 in
theorem walk (w : World) (ka0 : Option Addr) (kc0 : Nat) (va0 : Option Addr) (vc0 : Nat) (n0 : NodeD) (g0 : ArgN w ka0 kc0 va0 vc0 n0) (a1 : ByteArray) (w1 : a1.size ≤ 140737488351232) (a2 : ByteArray) (w2 : a2.size ≤ 140737488351232) :
    Calls Try.prog 5 #[nodeV ka0 kc0 va0 vc0 n0, .string a1, .string a2] w fun e w' => e = .returned (.bool true) ∧ Below w.heap.size w w' := by
  have HG := Lib.hid g0
  have HZ := Lib.hid g0.sizes
  have HB0 : Hid (∀ o, Below w.heap.size w (w.alloc o)) := fun o => (Below.refl _ _).alloc (Nat.le_refl _) o
  clear g0
  have HV : Hid (Value.agg #[.bool n0.leaf, .slice ka0 n0.keys.length kc0, .slice va0 n0.vals.length vc0] = nodeV ka0 kc0 va0 vc0 n0) := rfl
  have HX := Lib.hid (Box.new w 24 #[.bool n0.leaf, .slice ka0 n0.keys.length kc0, .slice va0 n0.vals.length vc0])
  have HB := Lib.hid (HB0.out (.cells #[.bool n0.leaf, .slice ka0 n0.keys.length kc0, .slice va0 n0.vals.length vc0] 24 (0, 0)))
  unfold nodeV
  go_enter Try.func5, Try.ntmps5
  go_wp2_with fail
  rw [HV.out]
  refine (small_any ka0 kc0 va0 vc0 n0 _ (HG.out.keep HB.out)).mono ?_
  rintro e ws ⟨rfl, hb⟩
  have HX := Lib.hid (HX.out.keep hb HX.out.lt)
  have HB := Lib.hid (HB.out.trans (hb.mono HB.out.size))
  clear hb
  have a0 := HX.out.cell 0 _ rfl
  have a1' := HX.out.cell 1 _ rfl
  have a2' := HX.out.cell 2 _ rfl
  cases hsm : smallD n0
  · clear hsm
    go_wp2_with fail
    refine (live_any _).mono ?_
    rintro e w1 ⟨rfl, hb⟩
    have HX := Lib.hid (HX.out.keep hb HX.out.lt)
    have HB := Lib.hid (HB.out.trans (hb.mono HB.out.size))
    clear hb
    have a0 := HX.out.cell 0 _ rfl
    have a1' := HX.out.cell 1 _ rfl
    have a2' := HX.out.cell 2 _ rfl
    go_wp2
    go_ret
    exact ⟨rfl, HB.out⟩
  · have HIN := Lib.hid (HG.out.inn hsm)
    have HSM := Lib.hid (small_len hsm)
    clear hsm
    by_cases hk2 : a1.size ≤ 400
    rotate_left
    · have hk2t : ((400 : Int) < (a1.size : Int)) = True := eq_true (by omega)
      clear hk2
      go_wp2_with fail
      refine (live_any _).mono ?_
      rintro e w2 ⟨rfl, hb⟩
      have HX := Lib.hid (HX.out.keep hb HX.out.lt)
      have HB := Lib.hid (HB.out.trans (hb.mono HB.out.size))
      clear hb
      have a0 := HX.out.cell 0 _ rfl
      have a1' := HX.out.cell 1 _ rfl
      have a2' := HX.out.cell 2 _ rfl
      go_wp2
      go_ret
      exact ⟨rfl, HB.out⟩
    have hk2f : ((400 : Int) < (a1.size : Int)) = False := eq_false (by omega)
    by_cases hk3 : a2.size ≤ 300
    rotate_left
    · have hk3t : ((300 : Int) < (a2.size : Int)) = True := eq_true (by omega)
      clear hk3
      go_wp2_with fail
      refine (live_any _).mono ?_
      rintro e w3 ⟨rfl, hb⟩
      have HX := Lib.hid (HX.out.keep hb HX.out.lt)
      have HB := Lib.hid (HB.out.trans (hb.mono HB.out.size))
      clear hb
      have a0 := HX.out.cell 0 _ rfl
      have a1' := HX.out.cell 1 _ rfl
      have a2' := HX.out.cell 2 _ rfl
      go_wp2
      go_ret
      exact ⟨rfl, HB.out⟩
    have hk3f : ((300 : Int) < (a2.size : Int)) = False := eq_false (by omega)
    have HK1 : Hid (a1.size ≤ maxLen ∧ a2.size ≤ maxLen) := by show _ ∧ _; unfold maxLen; omega
    clear hk2 hk3
    go_wp2_with fail
    try rw [HV.out]
    refine (lown_node ka0 kc0 va0 vc0 n0 _).mono ?_
    rintro e w4 ⟨rfl, hb⟩
    have HX := Lib.hid (HX.out.keep hb HX.out.lt)
    have HB := Lib.hid (HB.out.trans (hb.mono HB.out.size))
    clear hb
    have a0 := HX.out.cell 0 _ rfl
    have a1' := HX.out.cell 1 _ rfl
    have a2' := HX.out.cell 2 _ rfl
    go_wp2_with fail
    try rw [HV.out]
    refine (split_any ka0 kc0 va0 vc0 n0 _ (HIN.out.keep HB.out) HZ.out HG.out.kl HG.out.vl).mono ?_
    rintro e wj ⟨v1, v2, rfl, h1, h2, hb⟩
    have HX := Lib.hid (HX.out.keep hb HX.out.lt)
    have HB := Lib.hid (HB.out.trans (hb.mono HB.out.size))
    clear hb
    have a0 := HX.out.cell 0 _ rfl
    have a1' := HX.out.cell 1 _ rfl
    have a2' := HX.out.cell 2 _ rfl
    have hsl := split_len n0
    obtain ⟨S, hS⟩ : ∃ S, S = splitD n0 := ⟨_, rfl⟩
    have HSP : Hid (splitD n0 = S) := hS.symm
    rw [← hS] at h1 h2 hsl ⊢
    clear hS
    obtain ⟨A, B, X⟩ := S
    dsimp only at h1 h2 hsl ⊢
    obtain ⟨kp, kpc, vp, vpc, rfl, hi, _, _⟩ := h1.view (by have := HSM.out; omega) (by have := HSM.out; omega)
    have HIA := Lib.hid hi
    clear hi
    obtain ⟨kq, kqc, vq, vqc, rfl, hi, _, _⟩ := h2.view (by have := HSM.out; omega) (by have := HSM.out; omega)
    have HIB := Lib.hid hi
    clear hi h1 h2
    have HA : Hid (∀ o p, Below wj.heap.size wj ((wj.alloc o).alloc p)) := fun o p => ((Below.refl _ _).alloc (Nat.le_refl _) o).alloc (by rw [size_alloc]; omega) p
    have q0 : ∀ o p, ((wj.alloc o).alloc p).cell? ⟨w.heap.size, 0, none⟩ = some (.bool n0.leaf) := fun o p => ((HX.out.alloc o).alloc p).cell 0 _ rfl
    have q1 : ∀ o p, ((wj.alloc o).alloc p).cell? ⟨w.heap.size, 1, none⟩ = some (.slice ka0 n0.keys.length kc0) := fun o p => ((HX.out.alloc o).alloc p).cell 1 _ rfl
    have q2 : ∀ o p, ((wj.alloc o).alloc p).cell? ⟨w.heap.size, 2, none⟩ = some (.slice va0 n0.vals.length vc0) := fun o p => ((HX.out.alloc o).alloc p).cell 2 _ rfl
    clear a0 a1' a2'
    unfold nodeV
    go_wp2_with fail
    have hb := HA.out (.cells #[.bool A.leaf, .slice kp A.keys.length kpc, .slice vp A.vals.length vpc] 30 (0, 0)) (.cells #[.bool B.leaf, .slice kq B.keys.length kqc, .slice vq B.vals.length vqc] 30 (0, 0))
    have H7 : Hid (Box ((wj.alloc (.cells #[.bool A.leaf, .slice kp A.keys.length kpc, .slice vp A.vals.length vpc] 30 (0, 0))).alloc (.cells #[.bool B.leaf, .slice kq B.keys.length kqc, .slice vq B.vals.length vqc] 30 (0, 0))) wj.heap.size 30 #[.bool A.leaf, .slice kp A.keys.length kpc, .slice vp A.vals.length vpc]) := (Box.new _ _ _).alloc _
    have H8 : Hid (Box ((wj.alloc (.cells #[.bool A.leaf, .slice kp A.keys.length kpc, .slice vp A.vals.length vpc] 30 (0, 0))).alloc (.cells #[.bool B.leaf, .slice kq B.keys.length kqc, .slice vq B.vals.length vqc] 30 (0, 0))) (wj.heap.size + 1) 30 #[.bool B.leaf, .slice kq B.keys.length kqc, .slice vq B.vals.length vqc]) := box_second _ _ _ _
    obtain ⟨wq, hwq⟩ : ∃ z, z = ((wj.alloc (.cells #[.bool A.leaf, .slice kp A.keys.length kpc, .slice vp A.vals.length vpc] 30 (0, 0))).alloc (.cells #[.bool B.leaf, .slice kq B.keys.length kqc, .slice vq B.vals.length vqc] 30 (0, 0))) := ⟨_, rfl⟩
    rw [← hwq] at hb H7 H8 ⊢
    clear hwq q0 q1 q2 HA
    obtain ⟨b8, hb8⟩ : ∃ b, b = wj.heap.size + 1 := ⟨_, rfl⟩
    obtain ⟨b7, hb7⟩ : ∃ b, b = wj.heap.size := ⟨_, rfl⟩
    rw [← hb8] at H8 ⊢
    rw [← hb7] at H7 ⊢
    clear hb7 hb8
    have HX := Lib.hid (HX.out.keep hb HX.out.lt)
    have HIA := Lib.hid (HIA.out.keep hb)
    have HIB := Lib.hid (HIB.out.keep hb)
    have HB := Lib.hid (HB.out.trans (hb.mono HB.out.size))
    clear hb
    try rw [HV.out]
    refine (rsplit_any ka0 kc0 va0 vc0 n0 _ (HIN.out.keep HB.out) HZ.out HG.out.kl HG.out.vl).mono ?_
    rintro e wr ⟨v1, v2, rfl, h1, h2, hb⟩
    have HX := Lib.hid (HX.out.keep hb HX.out.lt)
    have H7 := Lib.hid (H7.out.keep hb H7.out.lt)
    have H8 := Lib.hid (H8.out.keep hb H8.out.lt)
    have HIA := Lib.hid (HIA.out.keep hb)
    have HIB := Lib.hid (HIB.out.keep hb)
    have HB := Lib.hid (HB.out.trans (hb.mono HB.out.size))
    clear hb
    rw [HSP.out] at h1 h2 ⊢
    dsimp only at h1 h2 ⊢
    obtain ⟨kr, krc, vr, vrc, rfl, hi⟩ := h1
    have HIC := Lib.hid hi
    clear hi
    obtain ⟨ks, ksc, vs, vsc, rfl, hi⟩ := h2
    have HID := Lib.hid hi
    clear hi hsl
    unfold nodeV
    go_wp2_with fail
    have hb : Below wr.heap.size wr ((wr.alloc (.cells #[.bool A.leaf, .slice kr A.keys.length krc, .slice vr A.vals.length vrc] 24 (0, 0))).alloc (.cells #[.bool B.leaf, .slice ks B.keys.length ksc, .slice vs B.vals.length vsc] 24 (0, 0))) := ((Below.refl _ _).alloc (Nat.le_refl _) _).alloc (by rw [size_alloc]; omega) _
    have H9 : Hid (Box ((wr.alloc (.cells #[.bool A.leaf, .slice kr A.keys.length krc, .slice vr A.vals.length vrc] 24 (0, 0))).alloc (.cells #[.bool B.leaf, .slice ks B.keys.length ksc, .slice vs B.vals.length vsc] 24 (0, 0))) wr.heap.size 24 #[.bool A.leaf, .slice kr A.keys.length krc, .slice vr A.vals.length vrc]) := (Box.new _ _ _).alloc _
    have H10 : Hid (Box ((wr.alloc (.cells #[.bool A.leaf, .slice kr A.keys.length krc, .slice vr A.vals.length vrc] 24 (0, 0))).alloc (.cells #[.bool B.leaf, .slice ks B.keys.length ksc, .slice vs B.vals.length vsc] 24 (0, 0))) (wr.heap.size + 1) 24 #[.bool B.leaf, .slice ks B.keys.length ksc, .slice vs B.vals.length vsc]) := box_second _ _ _ _
    obtain ⟨wt, hwt⟩ : ∃ z, z = ((wr.alloc (.cells #[.bool A.leaf, .slice kr A.keys.length krc, .slice vr A.vals.length vrc] 24 (0, 0))).alloc (.cells #[.bool B.leaf, .slice ks B.keys.length ksc, .slice vs B.vals.length vsc] 24 (0, 0))) := ⟨_, rfl⟩
    rw [← hwt] at hb H9 H10 ⊢
    clear hwt
    obtain ⟨b10, hb10⟩ : ∃ b, b = wr.heap.size + 1 := ⟨_, rfl⟩
    obtain ⟨b9, hb9⟩ : ∃ b, b = wr.heap.size := ⟨_, rfl⟩
    rw [← hb10] at H10 ⊢
    rw [← hb9] at H9 ⊢
    clear hb9 hb10
    have HX := Lib.hid (HX.out.keep hb HX.out.lt)
    have H7 := Lib.hid (H7.out.keep hb H7.out.lt)
    have H8 := Lib.hid (H8.out.keep hb H8.out.lt)
    have HIA := Lib.hid (HIA.out.keep hb)
    have HIB := Lib.hid (HIB.out.keep hb)
    have HIC := Lib.hid (HIC.out.keep hb)
    have HID := Lib.hid (HID.out.keep hb)
    have HB := Lib.hid (HB.out.trans (hb.mono HB.out.size))
    clear hb
    have hse : ∀ d : NodeD, sameD d d = true := fun d => (same_iff d d).2 rfl
    have HSE := Lib.hid hse
    clear hse
    refine wp_region_tree (fun W => W.cell? ⟨w.heap.size, 0, none⟩ = some (.bool n0.leaf) ∧ W.cell? ⟨w.heap.size, 1, none⟩ = some (.slice ka0 n0.keys.length kc0) ∧ W.cell? ⟨w.heap.size, 2, none⟩ = some (.slice va0 n0.vals.length vc0) ∧ W.cell? ⟨b7, 0, none⟩ = some (.bool A.leaf) ∧ W.cell? ⟨b7, 1, none⟩ = some (.slice kp A.keys.length kpc) ∧ W.cell? ⟨b7, 2, none⟩ = some (.slice vp A.vals.length vpc) ∧ W.cell? ⟨b8, 0, none⟩ = some (.bool B.leaf) ∧ W.cell? ⟨b8, 1, none⟩ = some (.slice kq B.keys.length kqc) ∧ W.cell? ⟨b8, 2, none⟩ = some (.slice vq B.vals.length vqc) ∧ W.cell? ⟨b9, 0, none⟩ = some (.bool A.leaf) ∧ W.cell? ⟨b9, 1, none⟩ = some (.slice kr A.keys.length krc) ∧ W.cell? ⟨b9, 2, none⟩ = some (.slice vr A.vals.length vrc) ∧ W.cell? ⟨b10, 0, none⟩ = some (.bool B.leaf) ∧ W.cell? ⟨b10, 1, none⟩ = some (.slice ks B.keys.length ksc) ∧ W.cell? ⟨b10, 2, none⟩ = some (.slice vs B.vals.length vsc)) 37 (.quiet 0 (.quiet 2 (.quiet 3 (.quiet 6 (.quiet 7 (.quiet 8 (.make 1 (.make 4 (.make 5 (.make 9 (.make 10 (.quiet 11 (.quiet 12 (.quiet 14 (.quiet 17 (.quiet 18 (.make 13 (.make 15 (.make 16 (.make 19 (.make 20 (.quiet 21 (.quiet 22 (.quiet 23 (.quiet 25 (.make 24 (.make 26 (.quiet 27 (.quiet 28 (.quiet 29 (.quiet 31 (.make 30 (.make 32 (.quiet 33 (.quiet 34 (.quiet 35 (.quiet 36 .nil))))))))))))))))))))))))))))))))))))) (by kernel_rfl) (by kernel_rfl) ⟨HX.out.cell 0 _ rfl, HX.out.cell 1 _ rfl, HX.out.cell 2 _ rfl, H7.out.cell 0 _ rfl, H7.out.cell 1 _ rfl, H7.out.cell 2 _ rfl, H8.out.cell 0 _ rfl, H8.out.cell 1 _ rfl, H8.out.cell 2 _ rfl, H9.out.cell 0 _ rfl, H9.out.cell 1 _ rfl, H9.out.cell 2 _ rfl, H10.out.cell 0 _ rfl, H10.out.cell 1 _ rfl, H10.out.cell 2 _ rfl⟩ ?_
    simp only [List.drop_succ_cons, List.drop_zero]
    iterate 6 (apply wpTr_step rfl; (intro W hS K hK; obtain ⟨t0, t1, t2, t3, t4, t5, t6, t7, t8, t9, t10, t11, t12, t13, t14⟩ := hS; go_simp; exact hK _ rfl))
    refine wpTr_make rfl (fun K' hK => ?_)
    go_simp
    try rw [HV.out]
    have HBd : Hid (Below w.heap.size w wt.drew) := HB.out.drew
    refine (lown_node ka0 kc0 va0 vc0 n0 _).mono ?_
    rintro e w_ ⟨rfl, hb⟩
    have hb : Below wt.heap.size wt w_ := (Below.refl _ _).drew.trans hb
    have HX := Lib.hid (HX.out.keep hb HX.out.lt)
    have H7 := Lib.hid (H7.out.keep hb H7.out.lt)
    have H8 := Lib.hid (H8.out.keep hb H8.out.lt)
    have H9 := Lib.hid (H9.out.keep hb H9.out.lt)
    have H10 := Lib.hid (H10.out.keep hb H10.out.lt)
    have HIA := Lib.hid (HIA.out.keep hb)
    have HIB := Lib.hid (HIB.out.keep hb)
    have HIC := Lib.hid (HIC.out.keep hb)
    have HID := Lib.hid (HID.out.keep hb)
    have HB := Lib.hid (HB.out.trans (hb.mono HB.out.size))
    clear hb
    refine hK _ _ _ (fun _ h => h) ⟨HX.out.cell 0 _ rfl, HX.out.cell 1 _ rfl, HX.out.cell 2 _ rfl, H7.out.cell 0 _ rfl, H7.out.cell 1 _ rfl, H7.out.cell 2 _ rfl, H8.out.cell 0 _ rfl, H8.out.cell 1 _ rfl, H8.out.cell 2 _ rfl, H9.out.cell 0 _ rfl, H9.out.cell 1 _ rfl, H9.out.cell 2 _ rfl, H10.out.cell 0 _ rfl, H10.out.cell 1 _ rfl, H10.out.cell 2 _ rfl⟩ ?_
    clear hK K'
    have hl := with_len n0 a1 a2
    obtain ⟨D, hD⟩ : ∃ D, D = withD n0 a1 a2 := ⟨_, rfl⟩
    have HWD : Hid (withD n0 a1 a2 = D) := hD.symm
    rw [← hD] at hl
    have HL1 : Hid (D.keys.length ≤ 300 ∧ D.vals.length ≤ 300) := by have := HSM.out; show _ ∧ _; omega
    clear hD hl
    have hl := without_len n0 a1
    obtain ⟨E, hD⟩ : ∃ E, E = withoutD n0 a1 := ⟨_, rfl⟩
    have HWE : Hid (withoutD n0 a1 = E) := hD.symm
    rw [← hD] at hl
    have HL2 : Hid (E.keys.length ≤ 300 ∧ E.vals.length ≤ 300) := by have := HSM.out; show _ ∧ _; omega
    clear hD hl
    refine wpTr_make rfl (fun K' hK => ?_)
    go_simp
    refine (with_any ka0 kc0 va0 vc0 n0 a1 a2 _ (HIN.out.keep HB.out) HZ.out HK1.out.1 HK1.out.2).mono ?_
    rintro e w_ ⟨v, rfl, ho, hb⟩
    rw [HWD.out] at ho
    obtain ⟨kd, kdc, vd, vdc, rfl, hi, _, _⟩ := ho.view (by have := HL1.out; omega) (by have := HL1.out; omega)
    have HJ1 := Lib.hid hi
    clear ho hi
    have HX := Lib.hid (HX.out.keep hb HX.out.lt)
    have H7 := Lib.hid (H7.out.keep hb H7.out.lt)
    have H8 := Lib.hid (H8.out.keep hb H8.out.lt)
    have H9 := Lib.hid (H9.out.keep hb H9.out.lt)
    have H10 := Lib.hid (H10.out.keep hb H10.out.lt)
    have HIA := Lib.hid (HIA.out.keep hb)
    have HIB := Lib.hid (HIB.out.keep hb)
    have HIC := Lib.hid (HIC.out.keep hb)
    have HID := Lib.hid (HID.out.keep hb)
    have HB := Lib.hid (HB.out.trans (hb.mono HB.out.size))
    clear hb
    refine hK _ _ _ (fun _ h => h) ⟨HX.out.cell 0 _ rfl, HX.out.cell 1 _ rfl, HX.out.cell 2 _ rfl, H7.out.cell 0 _ rfl, H7.out.cell 1 _ rfl, H7.out.cell 2 _ rfl, H8.out.cell 0 _ rfl, H8.out.cell 1 _ rfl, H8.out.cell 2 _ rfl, H9.out.cell 0 _ rfl, H9.out.cell 1 _ rfl, H9.out.cell 2 _ rfl, H10.out.cell 0 _ rfl, H10.out.cell 1 _ rfl, H10.out.cell 2 _ rfl⟩ ?_
    clear hK K'
    refine wpTr_make rfl (fun K' hK => ?_)
    go_simp
    refine (told_node kd kdc vd vdc D _).mono ?_
    rintro e w_ ⟨rfl, hb⟩
    have HX := Lib.hid (HX.out.keep hb HX.out.lt)
    have H7 := Lib.hid (H7.out.keep hb H7.out.lt)
    have H8 := Lib.hid (H8.out.keep hb H8.out.lt)
    have H9 := Lib.hid (H9.out.keep hb H9.out.lt)
    have H10 := Lib.hid (H10.out.keep hb H10.out.lt)
    have HIA := Lib.hid (HIA.out.keep hb)
    have HIB := Lib.hid (HIB.out.keep hb)
    have HIC := Lib.hid (HIC.out.keep hb)
    have HID := Lib.hid (HID.out.keep hb)
    have HJ1 := Lib.hid (HJ1.out.keep hb)
    have HB := Lib.hid (HB.out.trans (hb.mono HB.out.size))
    clear hb
    refine hK _ _ _ (fun _ h => h) ⟨HX.out.cell 0 _ rfl, HX.out.cell 1 _ rfl, HX.out.cell 2 _ rfl, H7.out.cell 0 _ rfl, H7.out.cell 1 _ rfl, H7.out.cell 2 _ rfl, H8.out.cell 0 _ rfl, H8.out.cell 1 _ rfl, H8.out.cell 2 _ rfl, H9.out.cell 0 _ rfl, H9.out.cell 1 _ rfl, H9.out.cell 2 _ rfl, H10.out.cell 0 _ rfl, H10.out.cell 1 _ rfl, H10.out.cell 2 _ rfl⟩ ?_
    clear hK K'
    refine wpTr_make rfl (fun K' hK => ?_)
    go_simp
    try rw [HV.out]
    refine (rwith_any ka0 kc0 va0 vc0 n0 a1 a2 _ (HIN.out.keep HB.out) HZ.out HK1.out.1 HK1.out.2).mono ?_
    rintro e w_ ⟨v, rfl, ho, hb⟩
    rw [HWD.out] at ho
    obtain ⟨kf, kfc, vf, vfc, rfl, hi⟩ := ho
    have HJ2 := Lib.hid hi
    clear hi
    have HX := Lib.hid (HX.out.keep hb HX.out.lt)
    have H7 := Lib.hid (H7.out.keep hb H7.out.lt)
    have H8 := Lib.hid (H8.out.keep hb H8.out.lt)
    have H9 := Lib.hid (H9.out.keep hb H9.out.lt)
    have H10 := Lib.hid (H10.out.keep hb H10.out.lt)
    have HIA := Lib.hid (HIA.out.keep hb)
    have HIB := Lib.hid (HIB.out.keep hb)
    have HIC := Lib.hid (HIC.out.keep hb)
    have HID := Lib.hid (HID.out.keep hb)
    have HJ1 := Lib.hid (HJ1.out.keep hb)
    have HB := Lib.hid (HB.out.trans (hb.mono HB.out.size))
    clear hb
    refine hK _ _ _ (fun _ h => h) ⟨HX.out.cell 0 _ rfl, HX.out.cell 1 _ rfl, HX.out.cell 2 _ rfl, H7.out.cell 0 _ rfl, H7.out.cell 1 _ rfl, H7.out.cell 2 _ rfl, H8.out.cell 0 _ rfl, H8.out.cell 1 _ rfl, H8.out.cell 2 _ rfl, H9.out.cell 0 _ rfl, H9.out.cell 1 _ rfl, H9.out.cell 2 _ rfl, H10.out.cell 0 _ rfl, H10.out.cell 1 _ rfl, H10.out.cell 2 _ rfl⟩ ?_
    clear hK K'
    refine wpTr_make rfl (fun K' hK => ?_)
    go_simp
    refine (rsame_any kd kdc vd vdc D kf kfc vf vfc D _ HJ1.out HJ2.out).mono ?_
    rintro e w_ ⟨rfl, hb⟩
    rw [HSE.out]
    have HX := Lib.hid (HX.out.keep hb HX.out.lt)
    have H7 := Lib.hid (H7.out.keep hb H7.out.lt)
    have H8 := Lib.hid (H8.out.keep hb H8.out.lt)
    have H9 := Lib.hid (H9.out.keep hb H9.out.lt)
    have H10 := Lib.hid (H10.out.keep hb H10.out.lt)
    have HIA := Lib.hid (HIA.out.keep hb)
    have HIB := Lib.hid (HIB.out.keep hb)
    have HIC := Lib.hid (HIC.out.keep hb)
    have HID := Lib.hid (HID.out.keep hb)
    have HJ1 := Lib.hid (HJ1.out.keep hb)
    have HJ2 := Lib.hid (HJ2.out.keep hb)
    have HB := Lib.hid (HB.out.trans (hb.mono HB.out.size))
    clear hb
    refine hK _ _ _ (fun _ h => h) ⟨HX.out.cell 0 _ rfl, HX.out.cell 1 _ rfl, HX.out.cell 2 _ rfl, H7.out.cell 0 _ rfl, H7.out.cell 1 _ rfl, H7.out.cell 2 _ rfl, H8.out.cell 0 _ rfl, H8.out.cell 1 _ rfl, H8.out.cell 2 _ rfl, H9.out.cell 0 _ rfl, H9.out.cell 1 _ rfl, H9.out.cell 2 _ rfl, H10.out.cell 0 _ rfl, H10.out.cell 1 _ rfl, H10.out.cell 2 _ rfl⟩ ?_
    clear hK K'
    iterate 5 (apply wpTr_step rfl; (intro W hS K hK; obtain ⟨t0, t1, t2, t3, t4, t5, t6, t7, t8, t9, t10, t11, t12, t13, t14⟩ := hS; go_simp; exact hK _ rfl))
    refine wpTr_make rfl (fun K' hK => ?_)
    go_simp
    try rw [HV.out]
    refine (lown_node ka0 kc0 va0 vc0 n0 _).mono ?_
    rintro e w_ ⟨rfl, hb⟩
    have HX := Lib.hid (HX.out.keep hb HX.out.lt)
    have H7 := Lib.hid (H7.out.keep hb H7.out.lt)
    have H8 := Lib.hid (H8.out.keep hb H8.out.lt)
    have H9 := Lib.hid (H9.out.keep hb H9.out.lt)
    have H10 := Lib.hid (H10.out.keep hb H10.out.lt)
    have HIA := Lib.hid (HIA.out.keep hb)
    have HIB := Lib.hid (HIB.out.keep hb)
    have HIC := Lib.hid (HIC.out.keep hb)
    have HID := Lib.hid (HID.out.keep hb)
    have HJ1 := Lib.hid (HJ1.out.keep hb)
    have HJ2 := Lib.hid (HJ2.out.keep hb)
    have HB := Lib.hid (HB.out.trans (hb.mono HB.out.size))
    clear hb
    refine hK _ _ _ (fun _ h => h) ⟨HX.out.cell 0 _ rfl, HX.out.cell 1 _ rfl, HX.out.cell 2 _ rfl, H7.out.cell 0 _ rfl, H7.out.cell 1 _ rfl, H7.out.cell 2 _ rfl, H8.out.cell 0 _ rfl, H8.out.cell 1 _ rfl, H8.out.cell 2 _ rfl, H9.out.cell 0 _ rfl, H9.out.cell 1 _ rfl, H9.out.cell 2 _ rfl, H10.out.cell 0 _ rfl, H10.out.cell 1 _ rfl, H10.out.cell 2 _ rfl⟩ ?_
    clear hK K'
    refine wpTr_make rfl (fun K' hK => ?_)
    go_simp
    refine (without_any ka0 kc0 va0 vc0 n0 a1 _ (HIN.out.keep HB.out) HZ.out).mono ?_
    rintro e w_ ⟨v, rfl, ho, hb⟩
    rw [HWE.out] at ho
    obtain ⟨ke, kec, ve, vec, rfl, hi, _, _⟩ := ho.view (by have := HL2.out; omega) (by have := HL2.out; omega)
    have HJ3 := Lib.hid hi
    clear ho hi
    have HX := Lib.hid (HX.out.keep hb HX.out.lt)
    have H7 := Lib.hid (H7.out.keep hb H7.out.lt)
    have H8 := Lib.hid (H8.out.keep hb H8.out.lt)
    have H9 := Lib.hid (H9.out.keep hb H9.out.lt)
    have H10 := Lib.hid (H10.out.keep hb H10.out.lt)
    have HIA := Lib.hid (HIA.out.keep hb)
    have HIB := Lib.hid (HIB.out.keep hb)
    have HIC := Lib.hid (HIC.out.keep hb)
    have HID := Lib.hid (HID.out.keep hb)
    have HJ1 := Lib.hid (HJ1.out.keep hb)
    have HJ2 := Lib.hid (HJ2.out.keep hb)
    have HB := Lib.hid (HB.out.trans (hb.mono HB.out.size))
    clear hb
    refine hK _ _ _ (fun _ h => h) ⟨HX.out.cell 0 _ rfl, HX.out.cell 1 _ rfl, HX.out.cell 2 _ rfl, H7.out.cell 0 _ rfl, H7.out.cell 1 _ rfl, H7.out.cell 2 _ rfl, H8.out.cell 0 _ rfl, H8.out.cell 1 _ rfl, H8.out.cell 2 _ rfl, H9.out.cell 0 _ rfl, H9.out.cell 1 _ rfl, H9.out.cell 2 _ rfl, H10.out.cell 0 _ rfl, H10.out.cell 1 _ rfl, H10.out.cell 2 _ rfl⟩ ?_
    clear hK K'
    refine wpTr_make rfl (fun K' hK => ?_)
    go_simp
    refine (told_node ke kec ve vec E _).mono ?_
    rintro e w_ ⟨rfl, hb⟩
    have HX := Lib.hid (HX.out.keep hb HX.out.lt)
    have H7 := Lib.hid (H7.out.keep hb H7.out.lt)
    have H8 := Lib.hid (H8.out.keep hb H8.out.lt)
    have H9 := Lib.hid (H9.out.keep hb H9.out.lt)
    have H10 := Lib.hid (H10.out.keep hb H10.out.lt)
    have HIA := Lib.hid (HIA.out.keep hb)
    have HIB := Lib.hid (HIB.out.keep hb)
    have HIC := Lib.hid (HIC.out.keep hb)
    have HID := Lib.hid (HID.out.keep hb)
    have HJ1 := Lib.hid (HJ1.out.keep hb)
    have HJ2 := Lib.hid (HJ2.out.keep hb)
    have HJ3 := Lib.hid (HJ3.out.keep hb)
    have HB := Lib.hid (HB.out.trans (hb.mono HB.out.size))
    clear hb
    refine hK _ _ _ (fun _ h => h) ⟨HX.out.cell 0 _ rfl, HX.out.cell 1 _ rfl, HX.out.cell 2 _ rfl, H7.out.cell 0 _ rfl, H7.out.cell 1 _ rfl, H7.out.cell 2 _ rfl, H8.out.cell 0 _ rfl, H8.out.cell 1 _ rfl, H8.out.cell 2 _ rfl, H9.out.cell 0 _ rfl, H9.out.cell 1 _ rfl, H9.out.cell 2 _ rfl, H10.out.cell 0 _ rfl, H10.out.cell 1 _ rfl, H10.out.cell 2 _ rfl⟩ ?_
    clear hK K'
    refine wpTr_make rfl (fun K' hK => ?_)
    go_simp
    try rw [HV.out]
    refine (rwithout_any ka0 kc0 va0 vc0 n0 a1 _ (HIN.out.keep HB.out) HZ.out).mono ?_
    rintro e w_ ⟨v, rfl, ho, hb, _⟩
    rw [HWE.out] at ho
    obtain ⟨kg, kgc, vg, vgc, rfl, hi⟩ := ho
    have HJ4 := Lib.hid hi
    clear hi
    have HX := Lib.hid (HX.out.keep hb HX.out.lt)
    have H7 := Lib.hid (H7.out.keep hb H7.out.lt)
    have H8 := Lib.hid (H8.out.keep hb H8.out.lt)
    have H9 := Lib.hid (H9.out.keep hb H9.out.lt)
    have H10 := Lib.hid (H10.out.keep hb H10.out.lt)
    have HIA := Lib.hid (HIA.out.keep hb)
    have HIB := Lib.hid (HIB.out.keep hb)
    have HIC := Lib.hid (HIC.out.keep hb)
    have HID := Lib.hid (HID.out.keep hb)
    have HJ1 := Lib.hid (HJ1.out.keep hb)
    have HJ2 := Lib.hid (HJ2.out.keep hb)
    have HJ3 := Lib.hid (HJ3.out.keep hb)
    have HB := Lib.hid (HB.out.trans (hb.mono HB.out.size))
    clear hb
    refine hK _ _ _ (fun _ h => h) ⟨HX.out.cell 0 _ rfl, HX.out.cell 1 _ rfl, HX.out.cell 2 _ rfl, H7.out.cell 0 _ rfl, H7.out.cell 1 _ rfl, H7.out.cell 2 _ rfl, H8.out.cell 0 _ rfl, H8.out.cell 1 _ rfl, H8.out.cell 2 _ rfl, H9.out.cell 0 _ rfl, H9.out.cell 1 _ rfl, H9.out.cell 2 _ rfl, H10.out.cell 0 _ rfl, H10.out.cell 1 _ rfl, H10.out.cell 2 _ rfl⟩ ?_
    clear hK K'
    refine wpTr_make rfl (fun K' hK => ?_)
    go_simp
    refine (rsame_any ke kec ve vec E kg kgc vg vgc E _ HJ3.out HJ4.out).mono ?_
    rintro e w_ ⟨rfl, hb⟩
    rw [HSE.out]
    have HX := Lib.hid (HX.out.keep hb HX.out.lt)
    have H7 := Lib.hid (H7.out.keep hb H7.out.lt)
    have H8 := Lib.hid (H8.out.keep hb H8.out.lt)
    have H9 := Lib.hid (H9.out.keep hb H9.out.lt)
    have H10 := Lib.hid (H10.out.keep hb H10.out.lt)
    have HIA := Lib.hid (HIA.out.keep hb)
    have HIB := Lib.hid (HIB.out.keep hb)
    have HIC := Lib.hid (HIC.out.keep hb)
    have HID := Lib.hid (HID.out.keep hb)
    have HJ1 := Lib.hid (HJ1.out.keep hb)
    have HJ2 := Lib.hid (HJ2.out.keep hb)
    have HJ3 := Lib.hid (HJ3.out.keep hb)
    have HJ4 := Lib.hid (HJ4.out.keep hb)
    have HB := Lib.hid (HB.out.trans (hb.mono HB.out.size))
    clear hb
    refine hK _ _ _ (fun _ h => h) ⟨HX.out.cell 0 _ rfl, HX.out.cell 1 _ rfl, HX.out.cell 2 _ rfl, H7.out.cell 0 _ rfl, H7.out.cell 1 _ rfl, H7.out.cell 2 _ rfl, H8.out.cell 0 _ rfl, H8.out.cell 1 _ rfl, H8.out.cell 2 _ rfl, H9.out.cell 0 _ rfl, H9.out.cell 1 _ rfl, H9.out.cell 2 _ rfl, H10.out.cell 0 _ rfl, H10.out.cell 1 _ rfl, H10.out.cell 2 _ rfl⟩ ?_
    clear hK K'
    iterate 4 (apply wpTr_step rfl; (intro W hS K hK; obtain ⟨t0, t1, t2, t3, t4, t5, t6, t7, t8, t9, t10, t11, t12, t13, t14⟩ := hS; go_simp; exact hK _ rfl))
    have HVA : Hid (Value.agg #[.bool A.leaf, .slice kp A.keys.length kpc, .slice vp A.vals.length vpc] = nodeV kp kpc vp vpc A) := rfl
    have HVB : Hid (Value.agg #[.bool B.leaf, .slice kq B.keys.length kqc, .slice vq B.vals.length vqc] = nodeV kq kqc vq vqc B) := rfl
    have HVC : Hid (Value.agg #[.bool A.leaf, .slice kr A.keys.length krc, .slice vr A.vals.length vrc] = nodeV kr krc vr vrc A) := rfl
    have HVD : Hid (Value.agg #[.bool B.leaf, .slice ks B.keys.length ksc, .slice vs B.vals.length vsc] = nodeV ks ksc vs vsc B) := rfl
    refine wpTr_make rfl (fun K' hK => ?_)
    go_simp
    try rw [HVA.out]
    refine (told_node kp kpc vp vpc A _).mono ?_
    rintro e w_ ⟨rfl, hb⟩
    have HX := Lib.hid (HX.out.keep hb HX.out.lt)
    have H7 := Lib.hid (H7.out.keep hb H7.out.lt)
    have H8 := Lib.hid (H8.out.keep hb H8.out.lt)
    have H9 := Lib.hid (H9.out.keep hb H9.out.lt)
    have H10 := Lib.hid (H10.out.keep hb H10.out.lt)
    have HIA := Lib.hid (HIA.out.keep hb)
    have HIB := Lib.hid (HIB.out.keep hb)
    have HIC := Lib.hid (HIC.out.keep hb)
    have HID := Lib.hid (HID.out.keep hb)
    have HJ1 := Lib.hid (HJ1.out.keep hb)
    have HJ2 := Lib.hid (HJ2.out.keep hb)
    have HJ3 := Lib.hid (HJ3.out.keep hb)
    have HJ4 := Lib.hid (HJ4.out.keep hb)
    have HB := Lib.hid (HB.out.trans (hb.mono HB.out.size))
    clear hb
    refine hK _ _ _ (fun _ h => h) ⟨HX.out.cell 0 _ rfl, HX.out.cell 1 _ rfl, HX.out.cell 2 _ rfl, H7.out.cell 0 _ rfl, H7.out.cell 1 _ rfl, H7.out.cell 2 _ rfl, H8.out.cell 0 _ rfl, H8.out.cell 1 _ rfl, H8.out.cell 2 _ rfl, H9.out.cell 0 _ rfl, H9.out.cell 1 _ rfl, H9.out.cell 2 _ rfl, H10.out.cell 0 _ rfl, H10.out.cell 1 _ rfl, H10.out.cell 2 _ rfl⟩ ?_
    clear hK K'
    refine wpTr_make rfl (fun K' hK => ?_)
    go_simp
    try rw [HVC.out]
    refine (rsame_any kp kpc vp vpc A kr krc vr vrc A _ HIA.out HIC.out).mono ?_
    rintro e w_ ⟨rfl, hb⟩
    rw [HSE.out]
    have HX := Lib.hid (HX.out.keep hb HX.out.lt)
    have H7 := Lib.hid (H7.out.keep hb H7.out.lt)
    have H8 := Lib.hid (H8.out.keep hb H8.out.lt)
    have H9 := Lib.hid (H9.out.keep hb H9.out.lt)
    have H10 := Lib.hid (H10.out.keep hb H10.out.lt)
    have HIA := Lib.hid (HIA.out.keep hb)
    have HIB := Lib.hid (HIB.out.keep hb)
    have HIC := Lib.hid (HIC.out.keep hb)
    have HID := Lib.hid (HID.out.keep hb)
    have HJ1 := Lib.hid (HJ1.out.keep hb)
    have HJ2 := Lib.hid (HJ2.out.keep hb)
    have HJ3 := Lib.hid (HJ3.out.keep hb)
    have HJ4 := Lib.hid (HJ4.out.keep hb)
    have HB := Lib.hid (HB.out.trans (hb.mono HB.out.size))
    clear hb
    refine hK _ _ _ (fun _ h => h) ⟨HX.out.cell 0 _ rfl, HX.out.cell 1 _ rfl, HX.out.cell 2 _ rfl, H7.out.cell 0 _ rfl, H7.out.cell 1 _ rfl, H7.out.cell 2 _ rfl, H8.out.cell 0 _ rfl, H8.out.cell 1 _ rfl, H8.out.cell 2 _ rfl, H9.out.cell 0 _ rfl, H9.out.cell 1 _ rfl, H9.out.cell 2 _ rfl, H10.out.cell 0 _ rfl, H10.out.cell 1 _ rfl, H10.out.cell 2 _ rfl⟩ ?_
    clear hK K'
    iterate 4 (apply wpTr_step rfl; (intro W hS K hK; obtain ⟨t0, t1, t2, t3, t4, t5, t6, t7, t8, t9, t10, t11, t12, t13, t14⟩ := hS; go_simp; exact hK _ rfl))
    refine wpTr_make rfl (fun K' hK => ?_)
    go_simp
    try rw [HVB.out]
    refine (told_node kq kqc vq vqc B _).mono ?_
    rintro e w_ ⟨rfl, hb⟩
    have HX := Lib.hid (HX.out.keep hb HX.out.lt)
    have H7 := Lib.hid (H7.out.keep hb H7.out.lt)
    have H8 := Lib.hid (H8.out.keep hb H8.out.lt)
    have H9 := Lib.hid (H9.out.keep hb H9.out.lt)
    have H10 := Lib.hid (H10.out.keep hb H10.out.lt)
    have HIA := Lib.hid (HIA.out.keep hb)
    have HIB := Lib.hid (HIB.out.keep hb)
    have HIC := Lib.hid (HIC.out.keep hb)
    have HID := Lib.hid (HID.out.keep hb)
    have HJ1 := Lib.hid (HJ1.out.keep hb)
    have HJ2 := Lib.hid (HJ2.out.keep hb)
    have HJ3 := Lib.hid (HJ3.out.keep hb)
    have HJ4 := Lib.hid (HJ4.out.keep hb)
    have HB := Lib.hid (HB.out.trans (hb.mono HB.out.size))
    clear hb
    refine hK _ _ _ (fun _ h => h) ⟨HX.out.cell 0 _ rfl, HX.out.cell 1 _ rfl, HX.out.cell 2 _ rfl, H7.out.cell 0 _ rfl, H7.out.cell 1 _ rfl, H7.out.cell 2 _ rfl, H8.out.cell 0 _ rfl, H8.out.cell 1 _ rfl, H8.out.cell 2 _ rfl, H9.out.cell 0 _ rfl, H9.out.cell 1 _ rfl, H9.out.cell 2 _ rfl, H10.out.cell 0 _ rfl, H10.out.cell 1 _ rfl, H10.out.cell 2 _ rfl⟩ ?_
    clear hK K'
    refine wpTr_make rfl (fun K' hK => ?_)
    go_simp
    try rw [HVD.out]
    refine (rsame_any kq kqc vq vqc B ks ksc vs vsc B _ HIB.out HID.out).mono ?_
    rintro e w_ ⟨rfl, hb⟩
    rw [HSE.out]
    have HX := Lib.hid (HX.out.keep hb HX.out.lt)
    have H7 := Lib.hid (H7.out.keep hb H7.out.lt)
    have H8 := Lib.hid (H8.out.keep hb H8.out.lt)
    have H9 := Lib.hid (H9.out.keep hb H9.out.lt)
    have H10 := Lib.hid (H10.out.keep hb H10.out.lt)
    have HIA := Lib.hid (HIA.out.keep hb)
    have HIB := Lib.hid (HIB.out.keep hb)
    have HIC := Lib.hid (HIC.out.keep hb)
    have HID := Lib.hid (HID.out.keep hb)
    have HJ1 := Lib.hid (HJ1.out.keep hb)
    have HJ2 := Lib.hid (HJ2.out.keep hb)
    have HJ3 := Lib.hid (HJ3.out.keep hb)
    have HJ4 := Lib.hid (HJ4.out.keep hb)
    have HB := Lib.hid (HB.out.trans (hb.mono HB.out.size))
    clear hb
    refine hK _ _ _ (fun _ h => h) ⟨HX.out.cell 0 _ rfl, HX.out.cell 1 _ rfl, HX.out.cell 2 _ rfl, H7.out.cell 0 _ rfl, H7.out.cell 1 _ rfl, H7.out.cell 2 _ rfl, H8.out.cell 0 _ rfl, H8.out.cell 1 _ rfl, H8.out.cell 2 _ rfl, H9.out.cell 0 _ rfl, H9.out.cell 1 _ rfl, H9.out.cell 2 _ rfl, H10.out.cell 0 _ rfl, H10.out.cell 1 _ rfl, H10.out.cell 2 _ rfl⟩ ?_
    clear hK K'
    iterate 4 (apply wpTr_step rfl; (intro W hS K hK; obtain ⟨t0, t1, t2, t3, t4, t5, t6, t7, t8, t9, t10, t11, t12, t13, t14⟩ := hS; go_simp; exact hK _ rfl))
    refine wpTr_nil ?_
    go_wp2_with fail
    refine (live_any _).mono ?_
    rintro e wl ⟨rfl, hb⟩
    have HB := Lib.hid (HB.out.trans (hb.mono HB.out.size))
    clear hb
    go_wp2
    go_ret
    exact ⟨rfl, HB.out⟩
end Go.Proofs.Ytlkkgboaicjaiaa.nodeTurns
