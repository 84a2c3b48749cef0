/-
  The walk of NodeFound.
-/
import Derived.Test.YtlkkgboaicjaiaaNodeWk
import Derived.Test.YtlkkgboaicjaiaaNodeFm
import Derived.Test.YtlkkgboaicjaiaaNodeKeepsWalk
import Derived.Test.YtlkkgboaicjaiaaFrame
import Derived.Test.YtlkkgboaicjaiaaOpenNode
namespace Go.Proofs.Ytlkkgboaicjaiaa.nodeFound
open Go.RowKit Go.Proofs.Ytlkkgboaicjaiaa.nodeKeeps Go.ChangeShapes Go.WideShapes Go.ChangeAt

theorem without_len (d : NodeD) (k : ByteArray) : (withoutD d k).keys.length ≤ d.keys.length ∧ (withoutD d k).vals.length ≤ d.vals.length := by
  unfold withoutD
  split
  · simp only [List.length_eraseIdx]; constructor <;> split <;> omega
  · exact ⟨Nat.le_refl _, Nat.le_refl _⟩
theorem without_sz (d : NodeD) (k : ByteArray) (h : ∀ s ∈ d.keys ++ d.vals, s.size ≤ maxLen) : ∀ s ∈ (withoutD d k).keys ++ (withoutD d k).vals, s.size ≤ maxLen := by
  unfold withoutD
  split
  · intro s hs
    rcases List.mem_append.1 hs with h1 | h1
    · exact h s (List.mem_append.2 (.inl (List.mem_of_mem_eraseIdx h1)))
    · exact h s (List.mem_append.2 (.inr (List.mem_of_mem_eraseIdx h1)))
  · exact h
set_option maxRecDepth 100000 in
set_option maxHeartbeats 4000000 in
theorem walk (w : World) (ka0 : Option Addr) (kc0 : Nat) (va0 : Option Addr) (vc0 : Nat) (n0 : NodeD) (ky0 vl0 ot0 : ByteArray) (g0 : ArgN w ka0 kc0 va0 vc0 n0) (zk0 : ky0.size ≤ maxLen) (zv0 : vl0.size ≤ maxLen) (zo0 : ot0.size ≤ maxLen) :
    Calls Try.prog 8 #[.agg #[.bool n0.leaf, .slice ka0 n0.keys.length kc0, .slice va0 n0.vals.length vc0, .string ky0, .string vl0, .string ot0]] w fun e w' => e = .returned (.bool true) ∧ Below w.heap.size w w' := by
  have HG := Lib.hid g0
  have HZ := Lib.hid g0.sizes
  have HK0 : Hid (ky0.size ≤ maxLen ∧ vl0.size ≤ maxLen ∧ ot0.size ≤ maxLen) := ⟨zk0, zv0, zo0⟩
  have HB0 : Hid (∀ o, Below w.heap.size w (w.alloc o)) := fun o => (Below.refl _ _).alloc (Nat.le_refl _) o
  clear g0 zk0 zv0 zo0
  have HV : Hid (Value.agg #[.bool n0.leaf, .slice ka0 n0.keys.length kc0, .slice va0 n0.vals.length vc0] = nodeV ka0 kc0 va0 vc0 n0) := rfl
  have HC := Lib.hid (Box.new w 58 #[.bool n0.leaf, .slice ka0 n0.keys.length kc0, .slice va0 n0.vals.length vc0, .string ky0, .string vl0, .string ot0])
  have HB : Hid (Below w.heap.size w (w.alloc (.cells #[.bool n0.leaf, .slice ka0 n0.keys.length kc0, .slice va0 n0.vals.length vc0, .string ky0, .string vl0, .string ot0] 58 (0, 0))).drew) := (HB0.out _).drew
  have HA : Hid (∀ o, Below w.heap.size w (((w.alloc (.cells #[.bool n0.leaf, .slice ka0 n0.keys.length kc0, .slice va0 n0.vals.length vc0, .string ky0, .string vl0, .string ot0] 58 (0, 0))).drew).alloc o)) := fun o => HB.out.alloc (by have := HB.out.size; exact this) o
  have HCA : Hid (∀ o, Box (((w.alloc (.cells #[.bool n0.leaf, .slice ka0 n0.keys.length kc0, .slice va0 n0.vals.length vc0, .string ky0, .string vl0, .string ot0] 58 (0, 0))).drew).alloc o) w.heap.size 58 #[.bool n0.leaf, .slice ka0 n0.keys.length kc0, .slice va0 n0.vals.length vc0, .string ky0, .string vl0, .string ot0]) := fun o => Box.alloc (HC.out : Box (w.alloc (.cells #[.bool n0.leaf, .slice ka0 n0.keys.length kc0, .slice va0 n0.vals.length vc0, .string ky0, .string vl0, .string ot0] 58 (0, 0))).drew _ _ _) o
  have HX : Hid (Box (((w.alloc (.cells #[.bool n0.leaf, .slice ka0 n0.keys.length kc0, .slice va0 n0.vals.length vc0, .string ky0, .string vl0, .string ot0] 58 (0, 0))).drew).alloc (.cells #[.bool n0.leaf, .slice ka0 n0.keys.length kc0, .slice va0 n0.vals.length vc0] 24 (0, 0))) (w.heap.size + 1) 24 #[.bool n0.leaf, .slice ka0 n0.keys.length kc0, .slice va0 n0.vals.length vc0]) := by have := Box.new ((w.alloc (.cells #[.bool n0.leaf, .slice ka0 n0.keys.length kc0, .slice va0 n0.vals.length vc0, .string ky0, .string vl0, .string ot0] 58 (0, 0))).drew) 24 #[.bool n0.leaf, .slice ka0 n0.keys.length kc0, .slice va0 n0.vals.length vc0]; show Box _ _ _ _; have e : ((w.alloc (.cells #[.bool n0.leaf, .slice ka0 n0.keys.length kc0, .slice va0 n0.vals.length vc0, .string ky0, .string vl0, .string ot0] 58 (0, 0))).drew).heap.size = w.heap.size + 1 := size_alloc _ _; rw [← e]; exact this
  go_enter Try.func8, Try.ntmps8
  go_wp2_with fail
  refine wp_region_tree (fun W => W.cell? ⟨w.heap.size, 0, none⟩ = some (.bool n0.leaf) ∧ W.cell? ⟨w.heap.size, 1, none⟩ = some (.slice ka0 n0.keys.length kc0) ∧ W.cell? ⟨w.heap.size, 2, none⟩ = some (.slice va0 n0.vals.length vc0) ∧ W.cell? ⟨w.heap.size, 3, none⟩ = some (.string ky0) ∧ W.cell? ⟨w.heap.size, 4, none⟩ = some (.string vl0) ∧ W.cell? ⟨w.heap.size, 5, none⟩ = some (.string ot0)) 12 (.quiet 0 (.quiet 1 (.quiet 2 (.quiet 3 (.quiet 4 (.quiet 5 (.quiet 6 (.quiet 7 (.make 8 (.make 9 (.quiet 10 (.quiet 11 .nil)))))))))))) (by kernel_rfl) (by kernel_rfl) ⟨HC.out.cell 0 _ rfl, HC.out.cell 1 _ rfl, HC.out.cell 2 _ rfl, HC.out.cell 3 _ rfl, HC.out.cell 4 _ rfl, HC.out.cell 5 _ rfl⟩ ?_
  simp only [List.drop_succ_cons, List.drop_zero]
  iterate 8 (apply wpTr_step rfl; (intro W hS K hK; obtain ⟨q0, q1, q2, q3, q4, q5⟩ := hS; go_simp; exact hK _ rfl))
  refine wpTr_make rfl (fun K' hK => ?_)
  go_simp
  refine hK _ _ _ (fun _ h => h) ⟨(HCA.out _).cell 0 _ rfl, (HCA.out _).cell 1 _ rfl, (HCA.out _).cell 2 _ rfl, (HCA.out _).cell 3 _ rfl, (HCA.out _).cell 4 _ rfl, (HCA.out _).cell 5 _ rfl⟩ ?_
  clear hK K'
  refine wpTr_make rfl (fun K' hK => ?_)
  go_simp
  refine hK _ _ _ (fun _ h => h) ⟨(HCA.out _).cell 0 _ rfl, (HCA.out _).cell 1 _ rfl, (HCA.out _).cell 2 _ rfl, (HCA.out _).cell 3 _ rfl, (HCA.out _).cell 4 _ rfl, (HCA.out _).cell 5 _ rfl⟩ ?_
  clear hK K'
  iterate 2 (apply wpTr_step rfl; (intro W hS K hK; obtain ⟨q0, q1, q2, q3, q4, q5⟩ := hS; go_simp; exact hK _ rfl))
  refine wpTr_nil ?_
  obtain ⟨w2, hw2⟩ : ∃ z, z = ((w.alloc (.cells #[.bool n0.leaf, .slice ka0 n0.keys.length kc0, .slice va0 n0.vals.length vc0, .string ky0, .string vl0, .string ot0] 58 (0, 0))).alloc (.cells #[.bool n0.leaf, .slice ka0 n0.keys.length kc0, .slice va0 n0.vals.length vc0] 24 (0, 0))).drew := ⟨_, rfl⟩
  have HB : Hid (Below w.heap.size w w2) := by show Below _ _ _; rw [hw2]; exact HA.out _
  have HX : Hid (Box w2 (w.heap.size + 1) 24 #[.bool n0.leaf, .slice ka0 n0.keys.length kc0, .slice va0 n0.vals.length vc0]) := by show Box _ _ _ _; rw [hw2]; exact HX.out
  rw [← hw2]
  clear hw2 HA HCA HC
  obtain ⟨b3, hb3⟩ : ∃ b, b = w.heap.size + 1 := ⟨_, rfl⟩
  rw [← hb3] at HX ⊢
  clear hb3
  have hx_0 := HX.out.cell 0 _ rfl
  have hx_1 := HX.out.cell 1 _ rfl
  have hx_2 := HX.out.cell 2 _ rfl
  go_wp2_with fail
  try rw [HV.out]
  refine (small_any ka0 kc0 va0 vc0 n0 _ (HG.out.keep HB.out)).mono ?_
  rintro e w_ ⟨rfl, hb⟩
  have HX := Lib.hid (HX.out.keep hb HX.out.lt)
  have HB := Lib.hid (HB.out.trans (hb.mono HB.out.size))
  clear hb
  have hx_0 := HX.out.cell 0 _ rfl
  have hx_1 := HX.out.cell 1 _ rfl
  have hx_2 := HX.out.cell 2 _ rfl
  cases hsm : smallD n0
  · clear hsm
    go_wp2_with fail
    refine (live_any _).mono ?_
    rintro e wl ⟨rfl, hb⟩
    have HB := Lib.hid (HB.out.trans (hb.mono HB.out.size))
    clear hb
    go_wp2
    go_ret
    exact ⟨rfl, HB.out⟩
  · have HIN := Lib.hid (HG.out.inn hsm)
    have HSM := Lib.hid (small_len hsm)
    clear hsm
    by_cases hk1 : n0.keys.length ≤ 100
    rotate_left
    · have hk2 : ((100 : Int) < (n0.keys.length : Int)) = True := eq_true (by omega)
      clear hk1
      go_wp2_with fail
      refine (live_any _).mono ?_
      rintro e wl ⟨rfl, hb⟩
      have HB := Lib.hid (HB.out.trans (hb.mono HB.out.size))
      clear hb
      go_wp2
      go_ret
      exact ⟨rfl, HB.out⟩
    have hk2 : ((100 : Int) < (n0.keys.length : Int)) = False := eq_false (by omega)
    have HL1 := Lib.hid hk1
    clear hk1
    go_wp2_with fail
    try rw [HV.out]
    refine (rmay_any ka0 kc0 va0 vc0 n0 _ (HIN.out.keep HB.out) HZ.out).mono ?_
    rintro e w_ ⟨rfl, hb⟩
    have HX := Lib.hid (HX.out.keep hb HX.out.lt)
    have HB := Lib.hid (HB.out.trans (hb.mono HB.out.size))
    clear hb
    have hx_0 := HX.out.cell 0 _ rfl
    have hx_1 := HX.out.cell 1 _ rfl
    have hx_2 := HX.out.cell 2 _ rfl
    cases hm : mayD n0
    · clear hm
      go_wp2_with fail
      refine (live_any _).mono ?_
      rintro e wl ⟨rfl, hb⟩
      have HB := Lib.hid (HB.out.trans (hb.mono HB.out.size))
      clear hb
      go_wp2
      go_ret
      exact ⟨rfl, HB.out⟩
    · have HM := Lib.hid hm
      clear hm
      go_wp2_with fail
      refine (rkey_any ky0 _ HK0.out.1).mono ?_
      rintro e wz ⟨rfl, hw⟩
      rw [← hw]
      clear hw
      cases hkb : keyB ky0
      · clear hkb
        go_wp2_with fail
        refine (live_any _).mono ?_
        rintro e wl ⟨rfl, hb⟩
        have HB := Lib.hid (HB.out.trans (hb.mono HB.out.size))
        clear hb
        go_wp2
        go_ret
        exact ⟨rfl, HB.out⟩
      · have HKB := Lib.hid hkb
        clear hkb
        by_cases hv1 : vl0.size ≤ 120
        rotate_left
        · have hv2 : ((120 : Int) < (vl0.size : Int)) = True := eq_true (by omega)
          clear hv1
          go_wp2_with fail
          refine (live_any _).mono ?_
          rintro e wl ⟨rfl, hb⟩
          have HB := Lib.hid (HB.out.trans (hb.mono HB.out.size))
          clear hb
          go_wp2
          go_ret
          exact ⟨rfl, HB.out⟩
        have hv2 : ((120 : Int) < (vl0.size : Int)) = False := eq_false (by omega)
        have HOK : Hid (okE ky0 vl0 = true) := by have := HKB.out; unfold keyB at this; rw [decide_eq_true_eq] at this; show _ = _; unfold okE; rw [decide_eq_true_eq]; omega
        clear hv1
        have HNE : Hid ((ot0.toList == ky0.toList) = false → ot0 ≠ ky0) := fun h e => by rw [e] at h; simp at h
        cases ho : (ot0.toList == ky0.toList)
        rotate_left
        · skip
          go_wp2_with fail
          refine (live_any _).mono ?_
          rintro e wl ⟨rfl, hb⟩
          have HB := Lib.hid (HB.out.trans (hb.mono HB.out.size))
          clear hb
          go_wp2
          go_ret
          exact ⟨rfl, HB.out⟩
        have FD := Lib.hid (found HM.out HOK.out (HNE.out ho) HL1.out)
        have hl := with_len n0 ky0 vl0
        have hz := with_sz n0 ky0 vl0 HZ.out HK0.out.1 HK0.out.2.1
        obtain ⟨X, hX⟩ : ∃ X, X = withD n0 ky0 vl0 := ⟨_, rfl⟩
        rw [← hX] at FD hl hz
        have hl2 := without_len X ky0
        have hz2 := without_sz X ky0 hz
        obtain ⟨Y, hY⟩ : ∃ Y, Y = withoutD X ky0 := ⟨_, rfl⟩
        rw [← hY] at FD hl2 hz2
        have HX_ : Hid (withD n0 ky0 vl0 = X) := hX.symm
        have HY_ : Hid (withoutD X ky0 = Y) := hY.symm
        clear hX hY
        have HLS : Hid (X.keys.length ≤ 1000 ∧ X.vals.length ≤ 1000 ∧ Y.keys.length ≤ 1000 ∧ Y.vals.length ≤ 1000) := by have := HSM.out; show _ ∧ _ ∧ _ ∧ _; omega
        have HZX := Lib.hid hz
        have HZY := Lib.hid hz2
        clear hl hz hl2 hz2
        go_wp2_with fail
        try rw [HV.out]
        refine (lown_node ka0 kc0 va0 vc0 n0 _).mono ?_
        rintro e w_ ⟨rfl, hb⟩
        have HX := Lib.hid (HX.out.keep hb HX.out.lt)
        have HB := Lib.hid (HB.out.trans (hb.mono HB.out.size))
        clear hb
        have hx_0 := HX.out.cell 0 _ rfl
        have hx_1 := HX.out.cell 1 _ rfl
        have hx_2 := HX.out.cell 2 _ rfl
        go_wp2_with fail
        try rw [HV.out]
        refine (with_any ka0 kc0 va0 vc0 n0 ky0 vl0 _ (HIN.out.keep HB.out) HZ.out HK0.out.1 HK0.out.2.1).mono ?_
        rintro e w3 ⟨v, rfl, ho, hb⟩
        rw [HX_.out] at ho
        obtain ⟨kx, kxc, vx, vxc, rfl, hi, _, _⟩ := ho.view (by have := HLS.out; omega) (by have := HLS.out; omega)
        have HIX := Lib.hid hi
        clear ho hi
        have HX := Lib.hid (HX.out.keep hb HX.out.lt)
        have HB := Lib.hid (HB.out.trans (hb.mono HB.out.size))
        clear hb
        have hx_0 := HX.out.cell 0 _ rfl
        have hx_1 := HX.out.cell 1 _ rfl
        have hx_2 := HX.out.cell 2 _ rfl
        have HP := Lib.hid (Box.new w3 30 #[.bool X.leaf, .slice kx X.keys.length kxc, .slice vx X.vals.length vxc])
        have HA : Hid (∀ o, Below w3.heap.size w3 (w3.alloc o)) := fun o => (Below.refl _ _).alloc (Nat.le_refl _) o
        clear hx_0 hx_1 hx_2
        unfold nodeV
        simp only
        go_wp2_with fail
        generalize hwh : w3.alloc (.cells #[.bool X.leaf, .slice kx X.keys.length kxc, .slice vx X.vals.length vxc] 30 (0, 0)) = wh
        have hb := HA.out (.cells #[.bool X.leaf, .slice kx X.keys.length kxc, .slice vx X.vals.length vxc] 30 (0, 0))
        rw [hwh] at HP hb
        clear hwh HA
        have HX := Lib.hid (HX.out.keep hb HX.out.lt)
        have HIX := Lib.hid (HIX.out.keep hb)
        have HB := Lib.hid (HB.out.trans (hb.mono HB.out.size))
        clear hb
        have hx_0 := HX.out.cell 0 _ rfl
        have hx_1 := HX.out.cell 1 _ rfl
        have hx_2 := HX.out.cell 2 _ rfl
        obtain ⟨b7, hb7⟩ : ∃ b, b = w3.heap.size := ⟨_, rfl⟩
        rw [← hb7] at HP ⊢
        clear hb7
        have HVX : Hid (Value.agg #[.bool X.leaf, .slice kx X.keys.length kxc, .slice vx X.vals.length vxc] = nodeV kx kxc vx vxc X) := rfl
        rw [HVX.out]
        refine (without_any kx kxc vx vxc X ky0 _ HIX.out HZX.out).mono ?_
        rintro e w4 ⟨v, rfl, ho, hb⟩
        rw [HY_.out] at ho
        obtain ⟨ky, kyc, vy, vyc, rfl, hi, _, _⟩ := ho.view (by have := HLS.out; omega) (by have := HLS.out; omega)
        have HIY := Lib.hid hi
        clear ho hi
        have HX := Lib.hid (HX.out.keep hb HX.out.lt)
        have HP := Lib.hid (HP.out.keep hb HP.out.lt)
        have HIX := Lib.hid (HIX.out.keep hb)
        have HB := Lib.hid (HB.out.trans (hb.mono HB.out.size))
        clear hb
        have hx_0 := HX.out.cell 0 _ rfl
        have hx_1 := HX.out.cell 1 _ rfl
        have hx_2 := HX.out.cell 2 _ rfl
        have hp_0 := HP.out.cell 0 _ rfl
        have hp_1 := HP.out.cell 1 _ rfl
        have hp_2 := HP.out.cell 2 _ rfl
        have HQ := Lib.hid (Box.new w4 30 #[.bool Y.leaf, .slice ky Y.keys.length kyc, .slice vy Y.vals.length vyc])
        have HA : Hid (∀ o, Below w4.heap.size w4 (w4.alloc o)) := fun o => (Below.refl _ _).alloc (Nat.le_refl _) o
        have x0 : ∀ o, (w4.alloc o).cell? ⟨b7, 0, none⟩ = some (.bool X.leaf) := fun o => (HP.out.alloc o).cell 0 _ rfl
        have x1 : ∀ o, (w4.alloc o).cell? ⟨b7, 1, none⟩ = some (.slice kx X.keys.length kxc) := fun o => (HP.out.alloc o).cell 1 _ rfl
        have x2 : ∀ o, (w4.alloc o).cell? ⟨b7, 2, none⟩ = some (.slice vx X.vals.length vxc) := fun o => (HP.out.alloc o).cell 2 _ rfl
        clear hx_0 hx_1 hx_2 hp_0 hp_1 hp_2
        unfold nodeV
        simp only
        go_wp2_with fail
        generalize hwh : w4.alloc (.cells #[.bool Y.leaf, .slice ky Y.keys.length kyc, .slice vy Y.vals.length vyc] 30 (0, 0)) = wh
        have hb := HA.out (.cells #[.bool Y.leaf, .slice ky Y.keys.length kyc, .slice vy Y.vals.length vyc] 30 (0, 0))
        rw [hwh] at HQ hb
        clear hwh HA x0 x1 x2
        have HX := Lib.hid (HX.out.keep hb HX.out.lt)
        have HP := Lib.hid (HP.out.keep hb HP.out.lt)
        have HIX := Lib.hid (HIX.out.keep hb)
        have HIY := Lib.hid (HIY.out.keep hb)
        have HB := Lib.hid (HB.out.trans (hb.mono HB.out.size))
        clear hb
        have hx_0 := HX.out.cell 0 _ rfl
        have hx_1 := HX.out.cell 1 _ rfl
        have hx_2 := HX.out.cell 2 _ rfl
        have hp_0 := HP.out.cell 0 _ rfl
        have hp_1 := HP.out.cell 1 _ rfl
        have hp_2 := HP.out.cell 2 _ rfl
        obtain ⟨b8, hb8⟩ : ∃ b, b = w4.heap.size := ⟨_, rfl⟩
        rw [← hb8] at HQ ⊢
        clear hb8
        have HVY : Hid (Value.agg #[.bool Y.leaf, .slice ky Y.keys.length kyc, .slice vy Y.vals.length vyc] = nodeV ky kyc vy vyc Y) := rfl
        have hq_0 := HQ.out.cell 0 _ rfl
        have hq_1 := HQ.out.cell 1 _ rfl
        have hq_2 := HQ.out.cell 2 _ rfl
        try rw [HVX.out]
        refine (find_any kx kxc vx vxc X ky0 _ HIX.out HZX.out).mono ?_
        rintro e w_ ⟨rfl, hb⟩
        rw [FD.out.is]
        have hat := FD.out.at_
        obtain ⟨at0, hat0⟩ : ∃ a, a = (findD X ky0).1 := ⟨_, rfl⟩
        rw [← hat0] at hat ⊢
        have HAT := Lib.hid hat
        clear hat hat0
        have HX := Lib.hid (HX.out.keep hb HX.out.lt)
        have HP := Lib.hid (HP.out.keep hb HP.out.lt)
        have HQ := Lib.hid (HQ.out.keep hb HQ.out.lt)
        have HIX := Lib.hid (HIX.out.keep hb)
        have HIY := Lib.hid (HIY.out.keep hb)
        have HB := Lib.hid (HB.out.trans (hb.mono HB.out.size))
        clear hb
        have hx_0 := HX.out.cell 0 _ rfl
        have hx_1 := HX.out.cell 1 _ rfl
        have hx_2 := HX.out.cell 2 _ rfl
        have hp_0 := HP.out.cell 0 _ rfl
        have hp_1 := HP.out.cell 1 _ rfl
        have hp_2 := HP.out.cell 2 _ rfl
        have hq_0 := HQ.out.cell 0 _ rfl
        have hq_1 := HQ.out.cell 1 _ rfl
        have hq_2 := HQ.out.cell 2 _ rfl
        go_wp2_with fail
        try rw [HVY.out]
        refine (find_any ky kyc vy vyc Y ky0 _ HIY.out HZY.out).mono ?_
        rintro e w_ ⟨rfl, hb⟩
        rw [FD.out.no]
        have HX := Lib.hid (HX.out.keep hb HX.out.lt)
        have HP := Lib.hid (HP.out.keep hb HP.out.lt)
        have HQ := Lib.hid (HQ.out.keep hb HQ.out.lt)
        have HIX := Lib.hid (HIX.out.keep hb)
        have HIY := Lib.hid (HIY.out.keep hb)
        have HB := Lib.hid (HB.out.trans (hb.mono HB.out.size))
        clear hb
        have hx_0 := HX.out.cell 0 _ rfl
        have hx_1 := HX.out.cell 1 _ rfl
        have hx_2 := HX.out.cell 2 _ rfl
        have hp_0 := HP.out.cell 0 _ rfl
        have hp_1 := HP.out.cell 1 _ rfl
        have hp_2 := HP.out.cell 2 _ rfl
        have hq_0 := HQ.out.cell 0 _ rfl
        have hq_1 := HQ.out.cell 1 _ rfl
        have hq_2 := HQ.out.cell 2 _ rfl
        go_wp2_with fail
        try rw [HV.out]
        refine (lown_node ka0 kc0 va0 vc0 n0 _).mono ?_
        rintro e w_ ⟨rfl, hb⟩
        have HX := Lib.hid (HX.out.keep hb HX.out.lt)
        have HP := Lib.hid (HP.out.keep hb HP.out.lt)
        have HQ := Lib.hid (HQ.out.keep hb HQ.out.lt)
        have HIX := Lib.hid (HIX.out.keep hb)
        have HIY := Lib.hid (HIY.out.keep hb)
        have HB := Lib.hid (HB.out.trans (hb.mono HB.out.size))
        clear hb
        have hx_0 := HX.out.cell 0 _ rfl
        have hx_1 := HX.out.cell 1 _ rfl
        have hx_2 := HX.out.cell 2 _ rfl
        have hp_0 := HP.out.cell 0 _ rfl
        have hp_1 := HP.out.cell 1 _ rfl
        have hp_2 := HP.out.cell 2 _ rfl
        have hq_0 := HQ.out.cell 0 _ rfl
        have hq_1 := HQ.out.cell 1 _ rfl
        have hq_2 := HQ.out.cell 2 _ rfl
        go_wp2_with fail
        try rw [HV.out]
        refine (find_any ka0 kc0 va0 vc0 n0 ot0 _ (HIN.out.keep HB.out) HZ.out).mono ?_
        rintro e w_ ⟨rfl, hb⟩
        obtain ⟨had, hhad⟩ : ∃ b, b = (findD n0 ot0).2 := ⟨_, rfl⟩
        have HS1 : Hid ((findD X ot0).2 = had) := FD.out.same1.trans hhad.symm
        have HS2 : Hid ((findD Y ot0).2 = had) := FD.out.same2.trans hhad.symm
        rw [← hhad]
        clear hhad
        have HX := Lib.hid (HX.out.keep hb HX.out.lt)
        have HP := Lib.hid (HP.out.keep hb HP.out.lt)
        have HQ := Lib.hid (HQ.out.keep hb HQ.out.lt)
        have HIX := Lib.hid (HIX.out.keep hb)
        have HIY := Lib.hid (HIY.out.keep hb)
        have HB := Lib.hid (HB.out.trans (hb.mono HB.out.size))
        clear hb
        have hx_0 := HX.out.cell 0 _ rfl
        have hx_1 := HX.out.cell 1 _ rfl
        have hx_2 := HX.out.cell 2 _ rfl
        have hp_0 := HP.out.cell 0 _ rfl
        have hp_1 := HP.out.cell 1 _ rfl
        have hp_2 := HP.out.cell 2 _ rfl
        have hq_0 := HQ.out.cell 0 _ rfl
        have hq_1 := HQ.out.cell 1 _ rfl
        have hq_2 := HQ.out.cell 2 _ rfl
        go_wp2_with fail
        try rw [HVX.out]
        refine (find_any kx kxc vx vxc X ot0 _ HIX.out HZX.out).mono ?_
        rintro e w_ ⟨rfl, hb⟩
        rw [HS1.out]
        have HX := Lib.hid (HX.out.keep hb HX.out.lt)
        have HP := Lib.hid (HP.out.keep hb HP.out.lt)
        have HQ := Lib.hid (HQ.out.keep hb HQ.out.lt)
        have HIX := Lib.hid (HIX.out.keep hb)
        have HIY := Lib.hid (HIY.out.keep hb)
        have HB := Lib.hid (HB.out.trans (hb.mono HB.out.size))
        clear hb
        have hx_0 := HX.out.cell 0 _ rfl
        have hx_1 := HX.out.cell 1 _ rfl
        have hx_2 := HX.out.cell 2 _ rfl
        have hp_0 := HP.out.cell 0 _ rfl
        have hp_1 := HP.out.cell 1 _ rfl
        have hp_2 := HP.out.cell 2 _ rfl
        have hq_0 := HQ.out.cell 0 _ rfl
        have hq_1 := HQ.out.cell 1 _ rfl
        have hq_2 := HQ.out.cell 2 _ rfl
        go_wp2_with fail
        try rw [HVY.out]
        refine (find_any ky kyc vy vyc Y ot0 _ HIY.out HZY.out).mono ?_
        rintro e w_ ⟨rfl, hb⟩
        rw [HS2.out]
        have HX := Lib.hid (HX.out.keep hb HX.out.lt)
        have HP := Lib.hid (HP.out.keep hb HP.out.lt)
        have HQ := Lib.hid (HQ.out.keep hb HQ.out.lt)
        have HIX := Lib.hid (HIX.out.keep hb)
        have HIY := Lib.hid (HIY.out.keep hb)
        have HB := Lib.hid (HB.out.trans (hb.mono HB.out.size))
        clear hb
        have hx_0 := HX.out.cell 0 _ rfl
        have hx_1 := HX.out.cell 1 _ rfl
        have hx_2 := HX.out.cell 2 _ rfl
        have hp_0 := HP.out.cell 0 _ rfl
        have hp_1 := HP.out.cell 1 _ rfl
        have hp_2 := HP.out.cell 2 _ rfl
        have hq_0 := HQ.out.cell 0 _ rfl
        have hq_1 := HQ.out.cell 1 _ rfl
        have hq_2 := HQ.out.cell 2 _ rfl
        obtain ⟨hlt, hge⟩ := List.getElem?_eq_some_iff.1 HAT.out
        obtain ⟨bv, ov, hve, _, hvc⟩ := HIX.out.vs.get at0 hlt
        rw [hge] at hvc
        subst hve
        have hlt2 : ((at0 : Int) < (X.vals.length : Int)) = True := eq_true (by omega)
        have hlt3 : (at0 < X.vals.length) = True := eq_true hlt
        clear hge
        go_wp2_with fail
        refine (live_any _).mono ?_
        rintro e wl ⟨rfl, hb⟩
        have HB := Lib.hid (HB.out.trans (hb.mono HB.out.size))
        clear hb
        go_wp2
        go_ret
        exact ⟨rfl, HB.out⟩
end Go.Proofs.Ytlkkgboaicjaiaa.nodeFound
