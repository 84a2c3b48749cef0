/-
  The walk of ClogEncodes.
-/
import Derived.Test.YtljjcchdhnficaaDoorClogLive
import Derived.Test.YtljjcchdhnficaaDoorClogH
import Derived.Test.YtljjcchdhnficaaDoorClogK
import Derived.Test.YtljjcchdhnficaaDoorMg0
import Derived.Test.YtljjcchdhnficaaDoorMg32
namespace Go.Proofs.YtljjcchdhnficaaDoor.clogEncodes
open Go.RowKit

set_option maxRecDepth 100000 in
set_option maxHeartbeats 2000000 in
theorem walk (w : World) (hK : Kt w) (q0 : Int) (x0 : Option Addr) (c0 : Nat) (l0 : List CgE) (s0 : SlC w x0 l0) (m0 : l0.length ≤ maxLen) :
    Calls Tryd.prog 3 #[.agg #[.int .i64 q0, .slice x0 l0.length c0]] w fun e w' => e = .returned (.bool true) ∧ Below w.heap.size w w' := by
  have HK := Lib.hid hK
  have HP := Lib.hid hK.pos
  have BX := Lib.hid (Box.new w 24 #[.int .i64 q0, .slice x0 l0.length c0])
  have L0 := Lib.hid ((Below.refl w.heap.size w).alloc (Nat.le_refl _) (.cells #[.int .i64 q0, .slice x0 l0.length c0] 24))
  have S0 := Lib.hid (s0.keep ((Below.refl w.heap.size w).alloc (Nat.le_refl _) (.cells #[.int .i64 q0, .slice x0 l0.length c0] 24)))
  clear hK s0
  go_enter Tryd.func3, Tryd.ntmps3
  go_wp2_with fail
  generalize World.alloc w _ = v0 at *
  obtain ⟨g, hg⟩ : ∃ g, g = w.heap.size := ⟨_, rfl⟩
  rw [← hg] at BX ⊢
  clear hg
  have k0 := BX.out.cell 0 _ rfl
  have k1 := BX.out.cell 1 _ rfl
  go_wp2_with fail
  refine (csmall_any q0 x0 c0 l0 v0 S0.out m0).mono ?_
  rintro e v1 ⟨rfl, hb⟩
  have B1 := Lib.hid (BX.out.keep hb BX.out.lt)
  have L1 := Lib.hid (L0.out.trans (hb.mono L0.out.size))
  have S1 := Lib.hid (S0.out.keep hb)
  clear hb BX L0 S0 k0 k1
  by_cases hs : SmC l0
  rotate_left
  · rw [decide_eq_false hs]
    clear hs
    go_wp2_with fail
    refine (clive_any _ (HK.out.below L1.out HP.out)).mono ?_
    rintro e vz ⟨rfl, hb⟩
    have LZ := Lib.hid (L1.out.trans (hb.mono L1.out.size))
    clear hb
    go_wp2
    go_ret
    exact ⟨rfl, LZ.out⟩
  rw [decide_eq_true hs]
  have hl40 : l0.length ≤ 40 := hs.2
  have k0 := B1.out.cell 0 _ rfl
  have k1 := B1.out.cell 1 _ rfl
  go_wp2_with fail
  refine (cown_any q0 x0 c0 l0 v1 S1.out (by omega)).mono ?_
  rintro e v2 ⟨v, rfl, hp, hb⟩
  obtain ⟨oa, oc, rfl, ho⟩ := hp.view
  have B2 := Lib.hid (B1.out.keep hb B1.out.lt)
  have L2 := Lib.hid (L1.out.trans (hb.mono L1.out.size))
  have S2 := Lib.hid (S1.out.keep hb)
  have O2 := Lib.hid ho
  clear hb hp ho B1 L1 S1 k0 k1
  go_wp2_with fail
  refine (cencode_any q0 oa oc l0 v2 O2.out (HK.out.below L2.out HP.out)).mono ?_
  rintro e v3 ⟨rfl, hb⟩
  have B3 := Lib.hid (B2.out.keep hb B2.out.lt)
  have L3 := Lib.hid (L2.out.trans (hb.mono L2.out.size))
  have S3 := Lib.hid (S2.out.keep hb)
  clear hb B2 L2 S2 O2
  have HS40 := Lib.hid hl40
  have k0 := B3.out.cell 0 _ rfl
  have k1 := B3.out.cell 1 _ rfl
  obtain ⟨s, hse⟩ : ∃ s, s = (encC q0 l0).1 := ⟨_, rfl⟩
  obtain ⟨n, hne⟩ : ∃ n, n = (encC q0 l0).2 := ⟨_, rfl⟩
  have HSE := Lib.hid hse
  have HNE := Lib.hid hne
  rw [← hse, ← hne]
  clear hse hne hs hl40
  go_wp2_with fail
  have hre := crencode_any q0 x0 c0 l0 v3 S3.out
  rw [← HSE.out, ← HNE.out] at hre
  refine hre.mono ?_
  rintro e v4 ⟨rfl, hb⟩
  have B4 := Lib.hid (B3.out.keep hb B3.out.lt)
  have L4 := Lib.hid (L3.out.trans (hb.mono L3.out.size))
  have S4 := Lib.hid (S3.out.keep hb)
  clear hb hre B3 L3 S3 k0 k1
  go_wp2_with fail
  have k0 := B4.out.cell 0 _ rfl
  have k1 := B4.out.cell 1 _ rfl
  have hd := (Below.refl v4.heap.size v4).drew
  have B5 := Lib.hid (B4.out.keep hd B4.out.lt)
  have L5 := Lib.hid (L4.out.trans (hd.mono L4.out.size))
  have S5 := Lib.hid (S4.out.keep hd)
  clear hd B4 L4 S4
  refine wp_region_tree (fun W => W.cell? ⟨g, 0, none⟩ = some (.int .i64 q0) ∧ W.cell? ⟨g, 1, none⟩ = some (.slice x0 l0.length c0)) 13 (.quiet 0 (.quiet 1 (.quiet 2 (.quiet 3 (.quiet 4 (.quiet 5 (.quiet 6 (.quiet 7 (.quiet 8 (.quiet 9 (.quiet 12 (.make 10 (.make 11 .nil))))))))))))) (by kernel_rfl) (by kernel_rfl) ⟨k0, k1⟩ ?_
  simp only [List.drop_succ_cons, List.drop_zero]
  clear k0 k1
  iterate 11 (apply wpTr_step rfl; (intro W hS K hK; obtain ⟨z0, z1⟩ := hS; go_simp; exact hK _ rfl))
  refine wpTr_make rfl (fun K' hK => ?_)
  go_simp
  refine (cown_any q0 x0 c0 l0 _ S5.out (by have := HS40.out; omega)).mono ?_
  rintro e v6 ⟨v, rfl, hp, hb⟩
  obtain ⟨oa, oc, rfl, ho⟩ := hp.view
  have B6 := Lib.hid (B5.out.keep hb B5.out.lt)
  have L6 := Lib.hid (L5.out.trans (hb.mono L5.out.size))
  have S6 := Lib.hid (S5.out.keep hb)
  have O6 := Lib.hid ho
  clear hb hp ho B5 L5 S5
  refine hK _ _ _ (fun _ h => h) ⟨B6.out.cell 0 _ rfl, B6.out.cell 1 _ rfl⟩ ?_
  clear hK K'
  refine wpTr_make rfl (fun K' hK => ?_)
  go_simp
  refine (ccheck_any q0 oa oc l0 _ O6.out).mono ?_
  rintro e v7 ⟨rfl, hb⟩
  have B7 := Lib.hid (B6.out.keep hb B6.out.lt)
  have L7 := Lib.hid (L6.out.trans (hb.mono L6.out.size))
  have S7 := Lib.hid (S6.out.keep hb)
  clear hb B6 L6 S6 O6
  obtain ⟨ck, hck⟩ : ∃ ck, ck = chkC q0 l0 := ⟨_, rfl⟩
  have HCK := Lib.hid hck
  rw [← hck]
  clear hck
  refine hK _ _ _ (fun _ h => h) ⟨B7.out.cell 0 _ rfl, B7.out.cell 1 _ rfl⟩ ?_
  clear hK K' B7
  refine wpTr_nil ?_
  go_wp2_with fail
  have hrc := crcheck_any q0 x0 c0 l0 v7 S7.out
  rw [← HCK.out] at hrc
  refine hrc.mono ?_
  rintro e v8 ⟨rfl, hb⟩
  have L8 := Lib.hid (L7.out.trans (hb.mono L7.out.size))
  clear hb hrc L7 S7
  go_wp2_with fail
  refine (clive_any _ (HK.out.below L8.out HP.out)).mono ?_
  rintro e vz ⟨rfl, hb⟩
  have LZ := Lib.hid (L8.out.trans (hb.mono L8.out.size))
  clear hb
  go_wp2
  go_ret
  exact ⟨rfl, LZ.out⟩
end Go.Proofs.YtljjcchdhnficaaDoor.clogEncodes
