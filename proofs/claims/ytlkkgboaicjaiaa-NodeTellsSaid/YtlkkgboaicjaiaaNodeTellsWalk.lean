/-
  The walk of NodeTells.
-/
import Derived.Test.YtlkkgboaicjaiaaNodeWk
import Derived.Test.YtlkkgboaicjaiaaNodeU
import Derived.Test.YtlkkgboaicjaiaaNodeW
import Derived.Test.YtlkkgboaicjaiaaFrame
import Derived.Test.YtlkkgboaicjaiaaOpenNode
namespace Go.Proofs.Ytlkkgboaicjaiaa.nodeTells
open Go.RowKit Go.ChangeShapes Go.WideShapes Go.ChangeAt

set_option maxRecDepth 100000 in
set_option maxHeartbeats 4000000 in
theorem walk (w : World) (ka0 : Option Addr) (kc0 : Nat) (va0 : Option Addr) (vc0 : Nat) (n0 : NodeD) (g0 : ArgN w ka0 kc0 va0 vc0 n0) (a1 : ByteArray) (w1 : a1.size ≤ 140737488351232) :
    Calls Try.prog 3 #[nodeV ka0 kc0 va0 vc0 n0, .string a1] w fun e w' => e = .returned (.bool true) ∧ Below w.heap.size w w' := by
  have HG := Lib.hid g0
  have HZ := Lib.hid g0.sizes
  have HB0 : Hid (∀ o, Below w.heap.size w (w.alloc o)) := fun o => (Below.refl _ _).alloc (Nat.le_refl _) o
  clear g0
  have HV : Hid (Value.agg #[.bool n0.leaf, .slice ka0 n0.keys.length kc0, .slice va0 n0.vals.length vc0] = nodeV ka0 kc0 va0 vc0 n0) := rfl
  have HX := Lib.hid (Box.new w 24 #[.bool n0.leaf, .slice ka0 n0.keys.length kc0, .slice va0 n0.vals.length vc0])
  have HB := Lib.hid (HB0.out (.cells #[.bool n0.leaf, .slice ka0 n0.keys.length kc0, .slice va0 n0.vals.length vc0] 24 (0, 0)))
  unfold nodeV
  go_enter Try.func3, Try.ntmps3
  go_wp2_with fail
  rw [HV.out]
  refine (small_any ka0 kc0 va0 vc0 n0 _ (HG.out.keep HB.out)).mono ?_
  rintro e ws ⟨rfl, hb⟩
  have HX := Lib.hid (HX.out.keep hb HX.out.lt)
  have HB := Lib.hid (HB.out.trans (hb.mono HB.out.size))
  clear hb
  have a0 := HX.out.cell 0 _ rfl
  have a1' := HX.out.cell 1 _ rfl
  have a2 := HX.out.cell 2 _ rfl
  cases hsm : smallD n0
  · clear hsm
    go_wp2_with fail
    refine (live_any _).mono ?_
    rintro e w1 ⟨rfl, hb⟩
    have HX := Lib.hid (HX.out.keep hb HX.out.lt)
    have HB := Lib.hid (HB.out.trans (hb.mono HB.out.size))
    clear hb
    have a0 := HX.out.cell 0 _ rfl
    have a1' := HX.out.cell 1 _ rfl
    have a2 := HX.out.cell 2 _ rfl
    go_wp2
    go_ret
    exact ⟨rfl, HB.out⟩
  · have HIN := Lib.hid (HG.out.inn hsm)
    clear hsm
    by_cases hk : a1.size ≤ 400
    rotate_left
    · have hk2 : ((400 : Int) < (a1.size : Int)) = True := eq_true (by omega)
      clear hk
      go_wp2_with fail
      refine (live_any _).mono ?_
      rintro e w2 ⟨rfl, hb⟩
      have HX := Lib.hid (HX.out.keep hb HX.out.lt)
      have HB := Lib.hid (HB.out.trans (hb.mono HB.out.size))
      clear hb
      have a0 := HX.out.cell 0 _ rfl
      have a1' := HX.out.cell 1 _ rfl
      have a2 := HX.out.cell 2 _ rfl
      go_wp2
      go_ret
      exact ⟨rfl, HB.out⟩
    have hk2 : ((400 : Int) < (a1.size : Int)) = False := eq_false (by omega)
    clear hk
    go_wp2_with fail
    try rw [HV.out]
    refine (lown_node ka0 kc0 va0 vc0 n0 _).mono ?_
    rintro e w3 ⟨rfl, hb⟩
    have HX := Lib.hid (HX.out.keep hb HX.out.lt)
    have HB := Lib.hid (HB.out.trans (hb.mono HB.out.size))
    clear hb
    have a0 := HX.out.cell 0 _ rfl
    have a1' := HX.out.cell 1 _ rfl
    have a2 := HX.out.cell 2 _ rfl
    go_wp2_with fail
    try rw [HV.out]
    refine (encode_any ka0 kc0 va0 vc0 n0 _ (HIN.out.keep HB.out) HZ.out).mono ?_
    rintro e w4 ⟨rfl, hb⟩
    have HX := Lib.hid (HX.out.keep hb HX.out.lt)
    have HB := Lib.hid (HB.out.trans (hb.mono HB.out.size))
    clear hb
    have a0 := HX.out.cell 0 _ rfl
    have a1' := HX.out.cell 1 _ rfl
    have a2 := HX.out.cell 2 _ rfl
    go_wp2_with fail
    try rw [HV.out]
    refine (rencode_any ka0 kc0 va0 vc0 n0 _ (HIN.out.keep HB.out) HZ.out).mono ?_
    rintro e w5 ⟨rfl, hb⟩
    have HX := Lib.hid (HX.out.keep hb HX.out.lt)
    have HB := Lib.hid (HB.out.trans (hb.mono HB.out.size))
    clear hb
    have a0 := HX.out.cell 0 _ rfl
    have a1' := HX.out.cell 1 _ rfl
    have a2 := HX.out.cell 2 _ rfl
    go_wp2_with fail
    try rw [HV.out]
    refine (lown_node ka0 kc0 va0 vc0 n0 _).mono ?_
    rintro e w6 ⟨rfl, hb⟩
    have HX := Lib.hid (HX.out.keep hb HX.out.lt)
    have HB := Lib.hid (HB.out.trans (hb.mono HB.out.size))
    clear hb
    have a0 := HX.out.cell 0 _ rfl
    have a1' := HX.out.cell 1 _ rfl
    have a2 := HX.out.cell 2 _ rfl
    go_wp2_with fail
    try rw [HV.out]
    refine (find_any ka0 kc0 va0 vc0 n0 a1 _ (HIN.out.keep HB.out) HZ.out).mono ?_
    rintro e w7 ⟨rfl, hb⟩
    have HX := Lib.hid (HX.out.keep hb HX.out.lt)
    have HB := Lib.hid (HB.out.trans (hb.mono HB.out.size))
    clear hb
    have a0 := HX.out.cell 0 _ rfl
    have a1' := HX.out.cell 1 _ rfl
    have a2 := HX.out.cell 2 _ rfl
    go_wp2_with fail
    try rw [HV.out]
    refine (rfind_any ka0 kc0 va0 vc0 n0 a1 _ (HIN.out.keep HB.out) HZ.out).mono ?_
    rintro e w8 ⟨rfl, hb⟩
    have HX := Lib.hid (HX.out.keep hb HX.out.lt)
    have HB := Lib.hid (HB.out.trans (hb.mono HB.out.size))
    clear hb
    have a0 := HX.out.cell 0 _ rfl
    have a1' := HX.out.cell 1 _ rfl
    have a2 := HX.out.cell 2 _ rfl
    obtain ⟨F, hF⟩ : ∃ F, F = findD n0 a1 := ⟨_, rfl⟩
    rw [← hF]
    clear hF
    generalize encR n0 = E at *
    obtain ⟨f1, f2⟩ := F
    go_wp2_with fail
    refine wp_region_tree (fun W => W.cell? ⟨w.heap.size, 0, none⟩ = some (.bool n0.leaf) ∧ W.cell? ⟨w.heap.size, 1, none⟩ = some (.slice ka0 n0.keys.length kc0) ∧ W.cell? ⟨w.heap.size, 2, none⟩ = some (.slice va0 n0.vals.length vc0)) 31 (.quiet 0 (.quiet 1 (.quiet 2 (.quiet 3 (.quiet 4 (.quiet 5 (.quiet 6 (.quiet 7 (.quiet 8 (.quiet 9 (.quiet 10 (.quiet 11 (.quiet 12 (.quiet 13 (.quiet 14 (.quiet 15 (.quiet 16 (.quiet 17 (.quiet 18 (.quiet 19 (.quiet 22 (.make 20 (.make 21 (.make 23 (.quiet 24 (.quiet 25 (.quiet 26 (.quiet 27 (.quiet 30 (.make 28 (.make 29 .nil))))))))))))))))))))))))))))))) (by kernel_rfl) (by kernel_rfl) ⟨a0, a1', a2⟩ ?_
    simp only [List.drop_succ_cons, List.drop_zero]
    clear a0 a1' a2
    iterate 21 (apply wpTr_step rfl; (intro W hS K hK; obtain ⟨q0, q1, q2⟩ := hS; go_simp; exact hK _ rfl))
    have HX : Hid (Box (World.drew w8) w.heap.size 24 #[.bool n0.leaf, .slice ka0 n0.keys.length kc0, .slice va0 n0.vals.length vc0]) := HX.out
    have HB : Hid (Below w.heap.size w (World.drew w8)) := HB.out.drew
    refine wpTr_make rfl (fun K' hK => ?_)
    go_simp
    try rw [HV.out]
    refine (lown_node ka0 kc0 va0 vc0 n0 _).mono ?_
    rintro e w9 ⟨rfl, hb⟩
    have HX := Lib.hid (HX.out.keep hb HX.out.lt)
    have HB := Lib.hid (HB.out.trans (hb.mono HB.out.size))
    clear hb
    have a0 := HX.out.cell 0 _ rfl
    have a1' := HX.out.cell 1 _ rfl
    have a2 := HX.out.cell 2 _ rfl
    refine hK _ _ _ (fun _ h => h) ⟨a0, a1', a2⟩ ?_
    clear hK K' a0 a1' a2
    refine wpTr_make rfl (fun K' hK => ?_)
    go_simp
    try rw [HV.out]
    refine (check_any ka0 kc0 va0 vc0 n0 _ (HIN.out.keep HB.out) HZ.out).mono ?_
    rintro e w10 ⟨rfl, hb⟩
    have HX := Lib.hid (HX.out.keep hb HX.out.lt)
    have HB := Lib.hid (HB.out.trans (hb.mono HB.out.size))
    clear hb
    have a0 := HX.out.cell 0 _ rfl
    have a1' := HX.out.cell 1 _ rfl
    have a2 := HX.out.cell 2 _ rfl
    refine hK _ _ _ (fun _ h => h) ⟨a0, a1', a2⟩ ?_
    clear hK K' a0 a1' a2
    refine wpTr_make rfl (fun K' hK => ?_)
    go_simp
    try rw [HV.out]
    refine (rcheck_any ka0 kc0 va0 vc0 n0 _ (HIN.out.keep HB.out) HZ.out).mono ?_
    rintro e w11 ⟨rfl, hb⟩
    have HX := Lib.hid (HX.out.keep hb HX.out.lt)
    have HB := Lib.hid (HB.out.trans (hb.mono HB.out.size))
    clear hb
    have a0 := HX.out.cell 0 _ rfl
    have a1' := HX.out.cell 1 _ rfl
    have a2 := HX.out.cell 2 _ rfl
    refine hK _ _ _ (fun _ h => h) ⟨a0, a1', a2⟩ ?_
    clear hK K' a0 a1' a2
    iterate 5 (apply wpTr_step rfl; (intro W hS K hK; obtain ⟨q0, q1, q2⟩ := hS; go_simp; exact hK _ rfl))
    refine wpTr_make rfl (fun K' hK => ?_)
    go_simp
    try rw [HV.out]
    refine (lown_node ka0 kc0 va0 vc0 n0 _).mono ?_
    rintro e w12 ⟨rfl, hb⟩
    have HX := Lib.hid (HX.out.keep hb HX.out.lt)
    have HB := Lib.hid (HB.out.trans (hb.mono HB.out.size))
    clear hb
    have a0 := HX.out.cell 0 _ rfl
    have a1' := HX.out.cell 1 _ rfl
    have a2 := HX.out.cell 2 _ rfl
    refine hK _ _ _ (fun _ h => h) ⟨a0, a1', a2⟩ ?_
    clear hK K' a0 a1' a2
    refine wpTr_make rfl (fun K' hK => ?_)
    go_simp
    try rw [HV.out]
    refine (size_any ka0 kc0 va0 vc0 n0 _ (HIN.out.keep HB.out) HZ.out).mono ?_
    rintro e w13 ⟨rfl, hb⟩
    have HX := Lib.hid (HX.out.keep hb HX.out.lt)
    have HB := Lib.hid (HB.out.trans (hb.mono HB.out.size))
    clear hb
    have a0 := HX.out.cell 0 _ rfl
    have a1' := HX.out.cell 1 _ rfl
    have a2 := HX.out.cell 2 _ rfl
    refine hK _ _ _ (fun _ h => h) ⟨a0, a1', a2⟩ ?_
    clear hK K' a0 a1' a2
    refine wpTr_nil ?_
    have a0 := HX.out.cell 0 _ rfl
    have a1' := HX.out.cell 1 _ rfl
    have a2 := HX.out.cell 2 _ rfl
    go_wp2_with fail
    try rw [HV.out]
    refine (rsize_any ka0 kc0 va0 vc0 n0 _ (HIN.out.keep HB.out) HZ.out).mono ?_
    rintro e w14 ⟨rfl, hb⟩
    have HX := Lib.hid (HX.out.keep hb HX.out.lt)
    have HB := Lib.hid (HB.out.trans (hb.mono HB.out.size))
    clear hb
    have a0 := HX.out.cell 0 _ rfl
    have a1' := HX.out.cell 1 _ rfl
    have a2 := HX.out.cell 2 _ rfl
    go_wp2_with fail
    refine (live_any _).mono ?_
    rintro e w15 ⟨rfl, hb⟩
    have HX := Lib.hid (HX.out.keep hb HX.out.lt)
    have HB := Lib.hid (HB.out.trans (hb.mono HB.out.size))
    clear hb
    have a0 := HX.out.cell 0 _ rfl
    have a1' := HX.out.cell 1 _ rfl
    have a2 := HX.out.cell 2 _ rfl
    go_wp2
    go_ret
    exact ⟨rfl, HB.out⟩
end Go.Proofs.Ytlkkgboaicjaiaa.nodeTells
