/-
  The reference's Encode.
-/
import Derived.Test.YtlkkgboaicjaiaaNodeT
import Derived.Test.YtlkkgboaicjaiaaNodeP
import Derived.Test.YtlkkgboaicjaiaaText
namespace Go.Proofs.Ytlkkgboaicjaiaa
open Go.RowKit Go.ChangeShapes Go.WideShapes Go.ChangeAt

set_option maxRecDepth 100000 in
set_option maxHeartbeats 2000000 in
theorem rencode_any (ka : Option Addr) (kc : Nat) (va : Option Addr) (vc : Nat) (d : NodeD) (w : World) (h : NodeIn w ka va d) (hz : ∀ s ∈ d.keys ++ d.vals, s.size ≤ maxLen) :
    Calls Try.prog 14 #[nodeV ka kc va vc d] w fun e w' => e = .returned (.tuple #[.string (encR d), .int .i64 (chkN d)]) ∧ Below w.heap.size w w' := by
  have H := Lib.hid h
  have HZ := Lib.hid hz
  have hkl := h.kl
  have HB0 : Hid (∀ o, Below w.heap.size w (w.alloc o)) := fun o => (Below.refl _ _).alloc (Nat.le_refl _) o
  clear h hz
  have HV : Hid (Value.agg #[.bool d.leaf, .slice ka d.keys.length kc, .slice va d.vals.length vc] = nodeV ka kc va vc d) := rfl
  obtain ⟨R, hR⟩ : ∃ R, R = encR d := ⟨_, rfl⟩
  obtain ⟨C, hC⟩ : ∃ C, C = chkN d := ⟨_, rfl⟩
  rw [← hR, ← hC]
  unfold nodeV
  go_enter Try.func14, Try.ntmps14
  go_wp2_with fail
  rw [HV.out]
  refine (rcheck_any ka kc va vc d _ (H.out.keep (HB0.out _)) HZ.out).mono ?_
  rintro e w1 ⟨rfl, hb⟩
  rw [← hC]
  have HX : Hid (Box w1 w.heap.size 24 #[.bool d.leaf, .slice ka d.keys.length kc, .slice va d.vals.length vc]) := (Box.new _ _ _).keep hb (by rw [size_alloc]; omega)
  have HB1 := Lib.hid ((HB0.out _).trans (hb.mono (by rw [size_alloc]; omega)))
  clear hb
  by_cases h0 : C = 0
  · have hs := enc_small (hC.symm.trans h0)
    have HR : Hid (R = encD d) := by show _ = _; rw [hR]; unfold encR; rw [if_pos (hC.symm.trans h0)]
    have HM := Lib.hid (may_bounds hs.2)
    have HES := Lib.hid hs.1
    clear hR hC hs
    subst h0
    obtain ⟨MB, hMB⟩ : ∃ MB, MB = markB d.leaf := ⟨_, rfl⟩
    have HENC : Hid (encD d = (MB ++ putB d.keys.length 1) ++ encL (d.keys.drop 0) (d.vals.drop 0)) := by show _ = _; rw [hMB]; rfl
    have c0 := HX.out.cell 0 _ rfl
    have c1 := HX.out.cell 1 _ rfl
    cases hlf : d.leaf
    · have hmb : MB = ⟨#[73]⟩ := by rw [hMB, hlf]; rfl
      rw [hlf] at c0 HX
      clear hMB
      subst hmb
      go_wp2_with fail
      refine (rput_any d.keys.length 1 _).mono ?_
      rintro e w2 ⟨rfl, hb⟩
      have HP1 := Lib.hid (putB_size d.keys.length 1)
      have HX2 := Lib.hid (HX.out.keep hb HX.out.lt)
      have HB2 := Lib.hid (HB1.out.trans (hb.mono HB1.out.size))
      clear hb HX HB1 c0 c1
      generalize hpb : putB d.keys.length 1 = PB at *
      have HPB := Lib.hid hpb
      clear hpb
      have hps := HP1.out
      have c1 := HX2.out.cell 1 _ rfl
      go_wp2_with fail
      go_loopw [5, 6] (fun t i wr => ∃ (k : Nat) (acc : ByteArray), k ≤ d.keys.length ∧ t = .string acc ∧ i = .int .i64 k ∧ Hid (encD d = acc ++ encL (d.keys.drop k) (d.vals.drop k)) ∧ Hid (Below w.heap.size w wr) ∧ Hid (Box wr w.heap.size 24 #[.bool false, .slice ka d.keys.length kc, .slice va d.vals.length vc])) (fun _ i _ => d.keys.length - (intOf i).toNat)
      case atStart => exact ⟨0, _, Nat.zero_le _, rfl, rfl, HENC, HB2, HX2⟩
      case round =>
        clear HB2 HX2 c1
        obtain ⟨k, acc, hk, rfl, rfl, HE, HL, HX⟩ := hrel
        have c1 := HX.out.cell 1 _ rfl
        by_cases hlt : k < d.keys.length
        · have h2v : k < d.vals.length := by have := HM.out.eq; omega
          have HN := H.out.keep HL.out
          obtain ⟨b, off, hka, hb1, hc⟩ := HN.ks.get k hlt
          obtain ⟨b2, off2, hva, hb2, hc2⟩ := HN.vs.get k h2v
          subst hka hva
          have HD := Lib.hid (encL_drop d.keys d.vals k hlt h2v)
          have z1 := HM.out.ks d.keys[k] (by simp)
          have z2 := HM.out.vs d.vals[k] (by simp)
          have c2 := HX.out.cell 2 _ rfl
          have h1i : (k : Int) < (d.keys.length : Int) := by omega
          have h2i : (k : Int) < (d.vals.length : Int) := by omega
          have h0i : (0 : Int) ≤ (k : Int) := by omega
          generalize d.keys[k] = x at *
          generalize d.vals[k] = y at *
          have hsz : acc.size + (txtB x y).size ≤ 960 := by
            have h1 := HES.out
            rw [HE.out, HD.out, two_le, two_le] at h1
            omega
          have hxy : txtB x y = textB x 2 ++ textB y 1 := rfl
          rw [hxy] at HD hsz
          rw [two_le] at hsz
          go_wp2_with fail
          refine wp_region_tree (fun W => W.cell? ⟨w.heap.size, 1, none⟩ = some (.slice (some ⟨b, off, none⟩) d.keys.length kc) ∧ W.cell? ⟨w.heap.size, 2, none⟩ = some (.slice (some ⟨b2, off2, none⟩) d.vals.length vc) ∧ W.cell? ⟨b, off + k, none⟩ = some (.string x) ∧ W.cell? ⟨b2, off2 + k, none⟩ = some (.string y)) 14 (.quiet 0 (.quiet 1 (.quiet 2 (.quiet 3 (.quiet 4 (.quiet 5 (.quiet 8 (.quiet 9 (.quiet 10 (.quiet 11 (.quiet 12 (.make 6 (.quiet 7 (.make 13 .nil)))))))))))))) (by kernel_rfl) (by kernel_rfl) ⟨c1, c2, hc, hc2⟩ ?_
          simp only [List.drop_succ_cons, List.drop_zero]
          iterate 11 (apply wpTr_step rfl; (intro W hS K hK; obtain ⟨q0, q1, q2, q3⟩ := hS; go_simp; exact hK _ rfl))
          refine wpTr_make rfl (fun K' hK => ?_)
          go_simp
          refine (rtext_any x 2 wr.drew (by omega)).mono ?_
          rintro e w5 ⟨rfl, hb5⟩
          have hd := (Below.refl wr.heap.size wr).drew
          have hbx := hd.trans (hb5.mono hd.size)
          have HX5 := Lib.hid (HX.out.keep hbx HX.out.lt)
          have HL5 := Lib.hid (HL.out.trans (hbx.mono HL.out.size))
          have k1 := HX5.out.cell 1 _ rfl
          have k2 := HX5.out.cell 2 _ rfl
          have k3 : w5.cell? ⟨b, off + k, none⟩ = some (.string x) := (hbx.cell (p := ⟨b, off + k, none⟩) hb1).trans hc
          have k4 : w5.cell? ⟨b2, off2 + k, none⟩ = some (.string y) := (hbx.cell (p := ⟨b2, off2 + k, none⟩) hb2).trans hc2
          refine hK _ _ _ (fun _ h => h) ⟨k1, k2, k3, k4⟩ ?_
          clear hK K' hb5 hd hbx HN hc hc2 c1 c2
          generalize textB x 2 = tx at *
          have hq1 : ¬ 9223372036854775807 < acc.size + tx.size := by omega
          apply wpTr_step rfl
          · intro W hS K hK
            obtain ⟨q0, q1, q2, q3⟩ := hS
            go_simp
            exact hK _ rfl
          refine wpTr_make rfl (fun K' hK => ?_)
          go_simp
          refine (rtext_any y 1 _ (by omega)).mono ?_
          rintro e w6 ⟨rfl, hb6⟩
          have k1 := (HX5.out.keep hb6 HX5.out.lt).cell 1 _ rfl
          have k2 := (HX5.out.keep hb6 HX5.out.lt).cell 2 _ rfl
          have k3' : w6.cell? ⟨b, off + k, none⟩ = some (.string x) := (hb6.cell (p := ⟨b, off + k, none⟩) (lt_of_cell k3)).trans k3
          have k4' : w6.cell? ⟨b2, off2 + k, none⟩ = some (.string y) := (hb6.cell (p := ⟨b2, off2 + k, none⟩) (lt_of_cell k4)).trans k4
          refine hK _ _ _ (fun _ h => h) ⟨k1, k2, k3', k4'⟩ ?_
          clear hK K'
          refine wpTr_nil ?_
          have HX6 := Lib.hid (HX5.out.keep hb6 HX5.out.lt)
          have HL6 := Lib.hid (HL5.out.trans (hb6.mono HL5.out.size))
          clear hb6 k1 k2 k3 k4 k3' k4'
          generalize textB y 1 = ty at *
          have hq2 : ¬ 9223372036854775807 < acc.size + tx.size + ty.size := by omega
          have hq3 : (acc ++ tx).size = acc.size + tx.size := two_le acc tx
          have HE7 : Hid (encD d = (acc ++ tx ++ ty) ++ encL (d.keys.drop (k + 1)) (d.vals.drop (k + 1))) := by show _ = _; rw [HE.out, HD.out]; simp only [ByteArray.append_assoc]
          go_wp2
          go_roundw
          case rel => exact ⟨k + 1, _, by omega, rfl, by go_num, HE7, HL6, HX6⟩
          case measure => simp [intOf]; omega
        · have hkl : k = d.keys.length := by omega
          have HAC : Hid (R = acc) := by
            show _ = _
            have h1 := HM.out.eq
            rw [HR.out, HE.out, List.drop_of_length_le (by omega), List.drop_of_length_le (by omega), encL_nil]
            apply bl_ext; rw [bl_append]; simp [bl]
          subst hkl
          go_wp2
          go_ret2
          exact ⟨by rw [HAC.out]; rfl, HL.out⟩
    · have hmb : MB = ⟨#[76]⟩ := by rw [hMB, hlf]; rfl
      rw [hlf] at c0 HX
      clear hMB
      subst hmb
      go_wp2_with fail
      refine (rput_any d.keys.length 1 _).mono ?_
      rintro e w2 ⟨rfl, hb⟩
      have HP1 := Lib.hid (putB_size d.keys.length 1)
      have HX2 := Lib.hid (HX.out.keep hb HX.out.lt)
      have HB2 := Lib.hid (HB1.out.trans (hb.mono HB1.out.size))
      clear hb HX HB1 c0 c1
      generalize hpb : putB d.keys.length 1 = PB at *
      have HPB := Lib.hid hpb
      clear hpb
      have hps := HP1.out
      have c1 := HX2.out.cell 1 _ rfl
      go_wp2_with fail
      go_loopw [5, 6] (fun t i wr => ∃ (k : Nat) (acc : ByteArray), k ≤ d.keys.length ∧ t = .string acc ∧ i = .int .i64 k ∧ Hid (encD d = acc ++ encL (d.keys.drop k) (d.vals.drop k)) ∧ Hid (Below w.heap.size w wr) ∧ Hid (Box wr w.heap.size 24 #[.bool true, .slice ka d.keys.length kc, .slice va d.vals.length vc])) (fun _ i _ => d.keys.length - (intOf i).toNat)
      case atStart => exact ⟨0, _, Nat.zero_le _, rfl, rfl, HENC, HB2, HX2⟩
      case round =>
        clear HB2 HX2 c1
        obtain ⟨k, acc, hk, rfl, rfl, HE, HL, HX⟩ := hrel
        have c1 := HX.out.cell 1 _ rfl
        by_cases hlt : k < d.keys.length
        · have h2v : k < d.vals.length := by have := HM.out.eq; omega
          have HN := H.out.keep HL.out
          obtain ⟨b, off, hka, hb1, hc⟩ := HN.ks.get k hlt
          obtain ⟨b2, off2, hva, hb2, hc2⟩ := HN.vs.get k h2v
          subst hka hva
          have HD := Lib.hid (encL_drop d.keys d.vals k hlt h2v)
          have z1 := HM.out.ks d.keys[k] (by simp)
          have z2 := HM.out.vs d.vals[k] (by simp)
          have c2 := HX.out.cell 2 _ rfl
          have h1i : (k : Int) < (d.keys.length : Int) := by omega
          have h2i : (k : Int) < (d.vals.length : Int) := by omega
          have h0i : (0 : Int) ≤ (k : Int) := by omega
          generalize d.keys[k] = x at *
          generalize d.vals[k] = y at *
          have hsz : acc.size + (txtB x y).size ≤ 960 := by
            have h1 := HES.out
            rw [HE.out, HD.out, two_le, two_le] at h1
            omega
          have hxy : txtB x y = textB x 2 ++ textB y 1 := rfl
          rw [hxy] at HD hsz
          rw [two_le] at hsz
          go_wp2_with fail
          refine wp_region_tree (fun W => W.cell? ⟨w.heap.size, 1, none⟩ = some (.slice (some ⟨b, off, none⟩) d.keys.length kc) ∧ W.cell? ⟨w.heap.size, 2, none⟩ = some (.slice (some ⟨b2, off2, none⟩) d.vals.length vc) ∧ W.cell? ⟨b, off + k, none⟩ = some (.string x) ∧ W.cell? ⟨b2, off2 + k, none⟩ = some (.string y)) 14 (.quiet 0 (.quiet 1 (.quiet 2 (.quiet 3 (.quiet 4 (.quiet 5 (.quiet 8 (.quiet 9 (.quiet 10 (.quiet 11 (.quiet 12 (.make 6 (.quiet 7 (.make 13 .nil)))))))))))))) (by kernel_rfl) (by kernel_rfl) ⟨c1, c2, hc, hc2⟩ ?_
          simp only [List.drop_succ_cons, List.drop_zero]
          iterate 11 (apply wpTr_step rfl; (intro W hS K hK; obtain ⟨q0, q1, q2, q3⟩ := hS; go_simp; exact hK _ rfl))
          refine wpTr_make rfl (fun K' hK => ?_)
          go_simp
          refine (rtext_any x 2 wr.drew (by omega)).mono ?_
          rintro e w5 ⟨rfl, hb5⟩
          have hd := (Below.refl wr.heap.size wr).drew
          have hbx := hd.trans (hb5.mono hd.size)
          have HX5 := Lib.hid (HX.out.keep hbx HX.out.lt)
          have HL5 := Lib.hid (HL.out.trans (hbx.mono HL.out.size))
          have k1 := HX5.out.cell 1 _ rfl
          have k2 := HX5.out.cell 2 _ rfl
          have k3 : w5.cell? ⟨b, off + k, none⟩ = some (.string x) := (hbx.cell (p := ⟨b, off + k, none⟩) hb1).trans hc
          have k4 : w5.cell? ⟨b2, off2 + k, none⟩ = some (.string y) := (hbx.cell (p := ⟨b2, off2 + k, none⟩) hb2).trans hc2
          refine hK _ _ _ (fun _ h => h) ⟨k1, k2, k3, k4⟩ ?_
          clear hK K' hb5 hd hbx HN hc hc2 c1 c2
          generalize textB x 2 = tx at *
          have hq1 : ¬ 9223372036854775807 < acc.size + tx.size := by omega
          apply wpTr_step rfl
          · intro W hS K hK
            obtain ⟨q0, q1, q2, q3⟩ := hS
            go_simp
            exact hK _ rfl
          refine wpTr_make rfl (fun K' hK => ?_)
          go_simp
          refine (rtext_any y 1 _ (by omega)).mono ?_
          rintro e w6 ⟨rfl, hb6⟩
          have k1 := (HX5.out.keep hb6 HX5.out.lt).cell 1 _ rfl
          have k2 := (HX5.out.keep hb6 HX5.out.lt).cell 2 _ rfl
          have k3' : w6.cell? ⟨b, off + k, none⟩ = some (.string x) := (hb6.cell (p := ⟨b, off + k, none⟩) (lt_of_cell k3)).trans k3
          have k4' : w6.cell? ⟨b2, off2 + k, none⟩ = some (.string y) := (hb6.cell (p := ⟨b2, off2 + k, none⟩) (lt_of_cell k4)).trans k4
          refine hK _ _ _ (fun _ h => h) ⟨k1, k2, k3', k4'⟩ ?_
          clear hK K'
          refine wpTr_nil ?_
          have HX6 := Lib.hid (HX5.out.keep hb6 HX5.out.lt)
          have HL6 := Lib.hid (HL5.out.trans (hb6.mono HL5.out.size))
          clear hb6 k1 k2 k3 k4 k3' k4'
          generalize textB y 1 = ty at *
          have hq2 : ¬ 9223372036854775807 < acc.size + tx.size + ty.size := by omega
          have hq3 : (acc ++ tx).size = acc.size + tx.size := two_le acc tx
          have HE7 : Hid (encD d = (acc ++ tx ++ ty) ++ encL (d.keys.drop (k + 1)) (d.vals.drop (k + 1))) := by show _ = _; rw [HE.out, HD.out]; simp only [ByteArray.append_assoc]
          go_wp2
          go_roundw
          case rel => exact ⟨k + 1, _, by omega, rfl, by go_num, HE7, HL6, HX6⟩
          case measure => simp [intOf]; omega
        · have hkl : k = d.keys.length := by omega
          have HAC : Hid (R = acc) := by
            show _ = _
            have h1 := HM.out.eq
            rw [HR.out, HE.out, List.drop_of_length_le (by omega), List.drop_of_length_le (by omega), encL_nil]
            apply bl_ext; rw [bl_append]; simp [bl]
          subst hkl
          go_wp2
          go_ret2
          exact ⟨by rw [HAC.out]; rfl, HL.out⟩

  · have HR : Hid (R = ⟨#[]⟩) := by show _ = _; rw [hR]; unfold encR; rw [if_neg (fun h => h0 (hC.trans h))]
    have hce : (C == 0) = false := by rw [beq_eq_false_iff_ne]; exact h0
    clear hR hC
    go_wp2
    go_ret2
    exact ⟨by rw [HR.out]; rfl, HB1.out⟩
end Go.Proofs.Ytlkkgboaicjaiaa
