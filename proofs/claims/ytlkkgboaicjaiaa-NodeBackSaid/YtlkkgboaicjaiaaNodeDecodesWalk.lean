/-
  The walk of NodeDecodes.
-/
import Derived.Test.YtlkkgboaicjaiaaNodeWk
import Derived.Test.YtlkkgboaicjaiaaNodeV
import Derived.Test.YtlkkgboaicjaiaaFrame
import Derived.Test.YtlkkgboaicjaiaaOpenNode
namespace Go.Proofs.Ytlkkgboaicjaiaa.nodeDecodes
open Go.RowKit Go.ChangeShapes Go.WideShapes Go.ChangeAt

theorem dec_len (s : ByteArray) : (decP s).1.keys.length ≤ 255 ∧ (decP s).1.vals.length ≤ 255 := by
  have h : (rawD s).keys.length ≤ 255 ∧ (rawD s).vals.length ≤ 255 := by
    unfold rawD ofE
    simp only [List.length_map, entsK_len]
    have := valN_lt s 1 1
    omega
  unfold decP
  split
  · exact ⟨Nat.zero_le _, Nat.zero_le _⟩
  · split
    · exact ⟨Nat.zero_le _, Nat.zero_le _⟩
    · exact h
set_option maxRecDepth 100000 in
set_option maxHeartbeats 4000000 in
theorem walk (w : World) (a0 : ByteArray) (w0 : a0.size ≤ 140737488351232) :
    Calls Try.prog 4 #[.string a0] w fun e w' => e = .returned (.bool true) ∧ Below w.heap.size w w' := by
  by_cases hk : a0.size ≤ 1100
  rotate_left
  · have hk2 : ((1100 : Int) < (a0.size : Int)) = True := eq_true (by omega)
    clear hk
    go_enter Try.func4, Try.ntmps4
    go_wp2_with fail
    refine (live_any _).mono ?_
    rintro e w1 ⟨rfl, hb⟩
    have HB := Lib.hid hb
    clear hb
    go_wp2
    go_ret
    exact ⟨rfl, HB.out⟩
  have hk2 : ((1100 : Int) < (a0.size : Int)) = False := eq_false (by omega)
  have HSZ : Hid (a0.size ≤ 100000) := by show _ ≤ _; omega
  clear hk
  go_enter Try.func4, Try.ntmps4
  go_wp2_with fail
  refine (decode_any a0 _ HSZ.out).mono ?_
  rintro e w1 ⟨nv, rfl, ho, hb⟩
  have hl := dec_len a0
  obtain ⟨q, hq⟩ : ∃ q, q = decP a0 := ⟨_, rfl⟩
  rw [← hq] at ho hl ⊢
  have HQ : Hid (decR a0 = q) := by rw [hq]; exact (dec_eq a0).symm
  clear hq
  obtain ⟨D, c⟩ := q
  obtain ⟨ka, kc, va, vc, rfl, hi, _, _⟩ := ho.view (by simp only at hl ⊢; omega) (by simp only at hl ⊢; omega)
  have HL := Lib.hid hl
  have HB1 := Lib.hid hb
  have HI1 := Lib.hid hi
  have HX1 := Lib.hid (Box.new w1 30 #[.bool D.leaf, .slice ka D.keys.length kc, .slice va D.vals.length vc])
  have HA1 : Hid (∀ o, Below w1.heap.size w1 (w1.alloc o)) := fun o => (Below.refl _ _).alloc (Nat.le_refl _) o
  clear ho hi hb hl
  unfold nodeV
  simp only
  go_wp2_with fail
  generalize hw2 : w1.alloc (.cells #[.bool D.leaf, .slice ka D.keys.length kc, .slice va D.vals.length vc] 30 (0, 0)) = w2
  have hb2 := HA1.out (.cells #[.bool D.leaf, .slice ka D.keys.length kc, .slice va D.vals.length vc] 30 (0, 0))
  rw [hw2] at HX1 hb2
  obtain ⟨b3, hb3⟩ : ∃ b3, b3 = w1.heap.size := ⟨_, rfl⟩
  rw [← hb3] at HX1 ⊢
  have HB2 := Lib.hid (HB1.out.trans (hb2.mono HB1.out.size))
  have HI2 := Lib.hid (HI1.out.keep hb2)
  clear hw2 hb2 hb3 HA1 HB1 HI1
  refine (rdecode_any a0 _ HSZ.out).mono ?_
  rintro e w3 ⟨nv, rfl, ho, hb⟩
  rw [HQ.out] at ho ⊢
  obtain ⟨kb, kd, vb, vd, rfl, hi, _, _⟩ := ho.view (by have := HL.out; simp only at this ⊢; omega) (by have := HL.out; simp only at this ⊢; omega)
  have HB3 := Lib.hid (HB2.out.trans (hb.mono HB2.out.size))
  have HX3 := Lib.hid (HX1.out.keep hb HX1.out.lt)
  have HI3 := Lib.hid (HI2.out.keep hb)
  have HJ3 := Lib.hid hi
  have HY3 := Lib.hid (Box.new w3 24 #[.bool D.leaf, .slice kb D.keys.length kd, .slice vb D.vals.length vd])
  have HA3 : Hid (∀ o, Below w3.heap.size w3 (w3.alloc o)) := fun o => (Below.refl _ _).alloc (Nat.le_refl _) o
  clear ho hi hb HX1 HB2 HI2
  unfold nodeV
  simp only
  go_wp2_with fail
  generalize hw4 : w3.alloc (.cells #[.bool D.leaf, .slice kb D.keys.length kd, .slice vb D.vals.length vd] 24 (0, 0)) = w4
  have hb4 := HA3.out (.cells #[.bool D.leaf, .slice kb D.keys.length kd, .slice vb D.vals.length vd] 24 (0, 0))
  rw [hw4] at HY3 hb4
  obtain ⟨b5, hb5⟩ : ∃ b5, b5 = w3.heap.size := ⟨_, rfl⟩
  rw [← hb5] at HY3 ⊢
  have HB4 : Hid (Below w.heap.size w w4.drew) := (HB3.out.trans (hb4.mono HB3.out.size)).drew
  have HX4 : Hid (Box w4.drew b3 30 #[.bool D.leaf, .slice ka D.keys.length kc, .slice va D.vals.length vc]) := HX3.out.keep hb4.drew HX3.out.lt
  have HY4 : Hid (Box w4.drew b5 24 #[.bool D.leaf, .slice kb D.keys.length kd, .slice vb D.vals.length vd]) := HY3.out
  have HI4 : Hid (NodeIn w4.drew ka va D) := HI3.out.keep hb4.drew
  have HJ4 : Hid (NodeIn w4.drew kb vb D) := HJ3.out.keep hb4.drew
  have a0' := HX4.out.cell 0 _ rfl
  have a1 := HX4.out.cell 1 _ rfl
  have a2 := HX4.out.cell 2 _ rfl
  have d0 := HY4.out.cell 0 _ rfl
  have d1 := HY4.out.cell 1 _ rfl
  have d2 := HY4.out.cell 2 _ rfl
  clear hw4 hb4 hb5 HA3 HB3 HX3 HY3 HI3 HJ3
  have hsm : sameD D D = true := (same_iff _ _).2 rfl
  refine wp_region_tree (fun W => W.cell? ⟨b3, 0, none⟩ = some (.bool D.leaf) ∧ W.cell? ⟨b3, 1, none⟩ = some (.slice ka D.keys.length kc) ∧ W.cell? ⟨b3, 2, none⟩ = some (.slice va D.vals.length vc) ∧ W.cell? ⟨b5, 0, none⟩ = some (.bool D.leaf) ∧ W.cell? ⟨b5, 1, none⟩ = some (.slice kb D.keys.length kd) ∧ W.cell? ⟨b5, 2, none⟩ = some (.slice vb D.vals.length vd)) 7 (.quiet 0 (.quiet 2 (.make 1 (.make 3 (.quiet 4 (.quiet 5 (.quiet 6 .nil))))))) (by kernel_rfl) (by kernel_rfl) ⟨a0', a1, a2, d0, d1, d2⟩ ?_
  simp only [List.drop_succ_cons, List.drop_zero]
  clear a0' a1 a2 d0 d1 d2
  iterate 2 (apply wpTr_step rfl; (intro W hS K hK; obtain ⟨q0, q1, q2, q3, q4, q5⟩ := hS; go_simp; exact hK _ rfl))
  refine wpTr_make rfl (fun K' hK => ?_)
  go_simp
  refine (told_node ka kc va vc D w4.drew).mono ?_
  rintro e w5 ⟨rfl, hb⟩
  have HB5 := Lib.hid (HB4.out.trans (hb.mono HB4.out.size))
  have HX5 := Lib.hid (HX4.out.keep hb HX4.out.lt)
  have HY5 := Lib.hid (HY4.out.keep hb HY4.out.lt)
  have HI5 := Lib.hid (HI4.out.keep hb)
  have HJ5 := Lib.hid (HJ4.out.keep hb)
  clear hb HB4 HX4 HY4 HI4 HJ4
  refine hK _ _ _ (fun _ h => h) ⟨HX5.out.cell 0 _ rfl, HX5.out.cell 1 _ rfl, HX5.out.cell 2 _ rfl, HY5.out.cell 0 _ rfl, HY5.out.cell 1 _ rfl, HY5.out.cell 2 _ rfl⟩ ?_
  clear hK K'
  refine wpTr_make rfl (fun K' hK => ?_)
  go_simp
  refine (rsame_any ka kc va vc D kb kd vb vd D _ HI5.out HJ5.out).mono ?_
  rintro e w6 ⟨rfl, hb⟩
  rw [hsm]
  have HB6 := Lib.hid (HB5.out.trans (hb.mono HB5.out.size))
  have HX6 := Lib.hid (HX5.out.keep hb HX5.out.lt)
  have HY6 := Lib.hid (HY5.out.keep hb HY5.out.lt)
  clear hb
  refine hK _ _ _ (fun _ h => h) ⟨HX6.out.cell 0 _ rfl, HX6.out.cell 1 _ rfl, HX6.out.cell 2 _ rfl, HY6.out.cell 0 _ rfl, HY6.out.cell 1 _ rfl, HY6.out.cell 2 _ rfl⟩ ?_
  clear hK K'
  iterate 3 (apply wpTr_step rfl; (intro W hS K hK; obtain ⟨q0, q1, q2, q3, q4, q5⟩ := hS; go_simp; exact hK _ rfl))
  refine wpTr_nil ?_
  go_wp2_with fail
  refine (live_any _).mono ?_
  rintro e w7 ⟨rfl, hb⟩
  have HB7 := Lib.hid (HB6.out.trans (hb.mono HB6.out.size))
  clear hb
  go_wp2
  go_ret
  exact ⟨rfl, HB7.out⟩
end Go.Proofs.Ytlkkgboaicjaiaa.nodeDecodes
