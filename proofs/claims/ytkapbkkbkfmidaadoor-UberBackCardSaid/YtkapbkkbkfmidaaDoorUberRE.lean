/-
  The reference's root: Encode, in the words of the program's own.
-/
import Derived.Test.YtkapbkkbkfmidaaDoorUberA
import Derived.Test.YtkapbkkbkfmidaaDoorMg13
import Derived.Test.YtkapbkkbkfmidaaDoorOf
import Derived.Test.YtkapbkkbkfmidaaDoorSched2
namespace Go.Proofs.YtkapbkkbkfmidaaDoor
open Go.RowKit

set_option maxRecDepth 100000 in
set_option maxHeartbeats 1000000 in
theorem rencode_any (u : UbD) (w : World) (hs : u.load.size ≤ 140737488351232) : Calls Tryd.prog 17 #[ubV u] w fun e w' => e = .returned (.tuple #[.string (encU u).1, .int .i64 (encU u).2]) ∧ Below w.heap.size w w' := by
  by_cases hm : mayU u
  · rw [encU_ok hm]
    have HS := Lib.hid (bodyU_size hm)
    have HS9 : Hid (u.load.size ≤ 960) := hm.2.2
    have HB : Hid (bodyU u = markB ++ putB u.txg 6 ++ textB u.load 2) := rfl
    have hbx : Below w.heap.size w (w.alloc (.cells #[.int .i64 u.txg, .string u.load] 26 (0, 0))) := (Below.refl _ _).alloc (Nat.le_refl _) _
    have BX := Box.new w 26 #[.int .i64 u.txg, .string u.load]
    have HX := Lib.hid hbx
    have h0 : 0 ≤ u.txg := hm.1
    have h1 : u.txg ≤ 1099511627776 := hm.2.1
    have h3 : (u.load.size : Int) ≤ 960 := by have := hm.2.2; omega
    clear hm hs hbx
    obtain ⟨t, l⟩ := u
    unfold ubV
    simp only at *
    have hpt := putB_size t 6
    have htl : (textB l 2).size ≤ 1000 := by
      unfold textB
      split
      · exact Nat.zero_le _
      · rw [ByteArray.size_append]; have := putB_size l.size 2; have := HS9.out; omega
    have hl9 := HS9.out
    generalize hpb : putB t 6 = pb at *
    generalize htb : textB l 2 = tb at *
    have HPB := Lib.hid hpb
    have HTB := Lib.hid htb
    clear hpb htb
    go_enter Tryd.func17, Tryd.ntmps17
    go_wp2_with fail
    generalize World.alloc _ _ = wx at *
    have c0 : wx.drew.cell? ⟨w.heap.size, 0, none⟩ = some (.int .i64 t) := BX.cell 0 _ rfl
    have c1 : wx.drew.cell? ⟨w.heap.size, 1, none⟩ = some (.string l) := BX.cell 1 _ rfl
    have HLB : Hid (w.heap.size < wx.drew.heap.size) := BX.lt
    have LH := Lib.hid HX.out.drew
    clear BX HX h0 h1 h3
    refine wp_region_sched (fun W => W.cell? ⟨w.heap.size, 0, none⟩ = some (.int .i64 t) ∧ W.cell? ⟨w.heap.size, 1, none⟩ = some (.string l)) 7 [(0, false), (1, false), (4, false), (5, false), (2, true), (3, false), (6, true)] (by kernel_rfl) (by kernel_rfl) ⟨c0, c1⟩ ?_
    simp only [List.drop_succ_cons, List.drop_zero]
    iterate 4 (apply wpSch_step rfl; (intro W hS K hK; obtain ⟨r1, r2⟩ := hS; go_simp; exact hK _ rfl))
    refine wpSch_make rfl (fun K' hK => ?_)
    go_simp
    refine (rput_any t 6 _).mono ?_
    rintro e w2 ⟨rfl, hb⟩
    rw [HPB.out]
    have c0 := (hb.cell (p := ⟨w.heap.size, 0, none⟩) HLB.out).trans c0
    have c1 := (hb.cell (p := ⟨w.heap.size, 1, none⟩) HLB.out).trans c1
    have LH := Lib.hid (LH.out.trans (hb.mono LH.out.size))
    have HLB : Hid (w.heap.size < w2.heap.size) := Nat.lt_of_lt_of_le HLB.out hb.size
    refine hK _ _ _ (fun _ h => h) ⟨c0, c1⟩ ?_
    clear hK K' hb
    have hcat : ¬ (9223372036854775807 < 2 + pb.size) := by omega
    apply wpSch_step rfl
    · intro W hS K hK
      obtain ⟨r1, r2⟩ := hS
      go_simp
      exact hK _ rfl
    refine wpSch_make rfl (fun K' hK => ?_)
    go_simp
    refine (rtext_any l 2 _ (by omega)).mono ?_
    rintro e w3 ⟨rfl, hb⟩
    rw [HTB.out]
    have c0 := (hb.cell (p := ⟨w.heap.size, 0, none⟩) HLB.out).trans c0
    have c1 := (hb.cell (p := ⟨w.heap.size, 1, none⟩) HLB.out).trans c1
    have LH := Lib.hid (LH.out.trans (hb.mono LH.out.size))
    refine hK _ _ _ (fun _ h => h) ⟨c0, c1⟩ ?_
    clear hK K' hb c0 c1 HLB
    refine wpSch_nil ?_
    have HBB : Hid ((⟨#[80, 70]⟩ : ByteArray) ++ pb ++ tb = bodyU ⟨t, l⟩) := by show _ = _; rw [HB.out]; rfl
    have hbs : ((⟨#[80, 70]⟩ : ByteArray) ++ pb ++ tb).size ≤ 2000 := by rw [HBB.out, HS.out]; omega
    go_wp2_with fail
    refine (rof_any _ _ (Nat.le_trans hbs (by decide))).mono ?_
    rintro e w4 ⟨rfl, hb⟩
    rw [HBB.out] at hbs ⊢
    have LL := Lib.hid (LH.out.trans (hb.mono LH.out.size))
    have hsz := sha_size (bodyU ⟨t, l⟩)
    generalize hsh : sha (bodyU ⟨t, l⟩) = sh at *
    have HSH := Lib.hid hsh
    clear hb hsh
    go_wp2
    go_ret2
    exact ⟨by rw [HSH.out]; rfl, LL.out⟩
  · rw [show encU u = (⟨#[]⟩, 1) from if_neg hm]
    obtain ⟨t, l⟩ := u
    unfold ubV
    by_cases h0 : 0 ≤ t
    · by_cases h1 : t ≤ 1099511627776
      · have h3 : (960 : Int) < (l.size : Int) := by
          have : ¬ l.size ≤ 960 := fun h => hm ⟨h0, h1, h⟩
          omega
        have h4 : decide ((l.size : Int) ≤ 960) = false := decide_eq_false (by omega)
        clear hm hs
        go_enter Tryd.func17, Tryd.ntmps17
        go_wp2
        go_ret2
        exact ⟨rfl, (Below.refl _ _).alloc (Nat.le_refl _) _⟩
      · have h3 : 1099511627776 < t := by omega
        clear hm hs h1
        go_enter Tryd.func17, Tryd.ntmps17
        go_wp2
        go_ret2
        exact ⟨rfl, (Below.refl _ _).alloc (Nat.le_refl _) _⟩
    · have h3 : t < 0 := by omega
      clear hm hs h0
      go_enter Tryd.func17, Tryd.ntmps17
      go_wp2
      go_ret2
      exact ⟨rfl, (Below.refl _ _).alloc (Nat.le_refl _) _⟩
end Go.Proofs.YtkapbkkbkfmidaaDoor
