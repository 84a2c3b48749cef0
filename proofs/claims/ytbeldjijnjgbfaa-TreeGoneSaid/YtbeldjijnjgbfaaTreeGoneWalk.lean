/-
  The walk of TreeGone.
-/
import Derived.Test.YtbeldjijnjgbfaaMg41
import Derived.Test.YtbeldjijnjgbfaaMg0
import Derived.Test.YtbeldjijnjgbfaaMg39
namespace Go.Proofs.Ytbeldjijnjgbfaa.treeGone
open Go Go.RowKit Go.ChangeShapes Go.WideShapes Go.ChangeAt

/-- The pairs' keys are keys of the script. -/
def KeyIn (l : List OpT) (E : List Ent) : Prop := ∀ x ∈ E, ∃ p, ∃ h : p < l.length, x.1 = l[p].2.1
/-- .. and none of those that the first j changes of the rotated script name. -/
def KeyOut (l : List OpT) (t j : Nat) (E : List Ent) : Prop := ∀ x ∈ E, ∀ i, i < j → ∀ h : (i + t % l.length) % l.length < l.length, x.1 ≠ l[(i + t % l.length) % l.length].2.1
theorem key_put {l : List OpT} {E : List Ent} (h : KeyIn l E) {j : Nat} (hj : j < l.length) {key val : ByteArray} (hk : key = l[j].2.1) : KeyIn l (insE key val (dropE key E)) := fun x hx => by
  rcases insE_mem hx with h1 | h1
  · exact ⟨j, hj, by rw [h1]; exact hk⟩
  · exact h x (dropE_mem h1).1
theorem key_del {l : List OpT} {E : List Ent} (h : KeyIn l E) (key : ByteArray) : KeyIn l (dropE key E) := fun x hx => h x (dropE_mem hx).1
theorem out_del {l : List OpT} {E : List Ent} {t j i2 : Nat} (h : KeyOut l t j E) (hi : i2 = (j + t % l.length) % l.length) (hr : i2 < l.length) : KeyOut l t (j + 1) (dropE l[i2].2.1 E) := fun x hx i hi2 hb => by
  subst hi
  obtain ⟨h1, h2⟩ := dropE_mem hx
  rcases Nat.lt_or_ge i j with h3 | h3
  · exact h x h1 i h3 hb
  · have : i = j := by omega
    subst this
    exact h2
theorem out_all {l : List OpT} {E : List Ent} {t : Nat} (h : KeyIn l E) (k : KeyOut l t l.length E) : E = [] := by
  cases E with
  | nil => rfl
  | cons x r =>
    obtain ⟨p, hp, e⟩ := h x (by simp)
    obtain ⟨i, hi, e2⟩ := rot_all (t := t) hp
    have hb : (i + t % l.length) % l.length < l.length := by omega
    have := k x (by simp) i hi hb
    refine absurd ?_ this
    simp only [e2]
    exact e
/-- What stands behind j puts. -/
def GoA (kb : Nat) (l : List OpT) (w0 : World) (j : Nat) (rt : ByteArray) (w : World) : Prop := ∃ S E F, LwT kb S F w0 w j ∧ InvR S rt E j ∧ KeyIn l E
/-- .. and j deletes. -/
def GoB (kb : Nat) (l : List OpT) (t : Nat) (w0 : World) (j : Nat) (rt : ByteArray) (w : World) : Prop := ∃ S E F, LwT kb S F w0 w (l.length + j) ∧ InvR S rt E (l.length + j) ∧ KeyIn l E ∧ KeyOut l t j E
set_option maxRecDepth 100000 in
set_option maxHeartbeats 8000000 in
theorem walk (w : World) (x0 : Option Addr) (c0 : Nat) (l0 : List OpT) (s0 : SlE w 3 OpTK x0 l0) (m0 : l0.length ≤ maxLen) (a1 : Int) (_w1 : (Lit.int .i64 a1).wf = true) :
    Calls Try.prog 8 #[.slice x0 l0.length c0, .int .i64 a1] w fun e w' => e = .returned (.bool true) ∧ Below w.heap.size w w' := by
  have HS := Lib.hid s0
  clear s0
  by_cases h60 : 60 < l0.length
  · have d1 : (60 : Int) < (l0.length : Int) := by omega
    go_enter Try.func8, Try.ntmps8
    go_wp2_with fail
    refine (small_any x0 c0 l0 w (HS.out.rowT (Below.refl _ _)) m0).mono ?_
    rintro e w9 ⟨rfl, rfl⟩
    cases smT l0
    · go_wp2_with fail
      refine (live_any _).mono ?_
      rintro e w9 ⟨rfl, hb⟩
      have HB9 := Lib.hid hb
      clear hb
      go_wp2
      go_ret
      exact ⟨rfl, HB9.out⟩
    · go_wp2_with fail
      refine (live_any _).mono ?_
      rintro e w9 ⟨rfl, hb⟩
      have HB9 := Lib.hid hb
      clear hb
      go_wp2
      go_ret
      exact ⟨rfl, HB9.out⟩
  have d1 : ¬ (60 : Int) < (l0.length : Int) := by omega
  by_cases hz : l0.length = 0
  · have d2 : ((l0.length : Int) == (0 : Int)) = true := by simp [hz]
    have d2p : (l0.length : Int) = 0 := by omega
    clear hz
    go_enter Try.func8, Try.ntmps8
    go_wp2_with fail
    refine (small_any x0 c0 l0 w (HS.out.rowT (Below.refl _ _)) m0).mono ?_
    rintro e w9 ⟨rfl, rfl⟩
    cases smT l0
    · go_wp2_with fail
      refine (live_any _).mono ?_
      rintro e w9 ⟨rfl, hb⟩
      have HB9 := Lib.hid hb
      clear hb
      go_wp2
      go_ret
      exact ⟨rfl, HB9.out⟩
    · go_wp2_with fail
      refine (live_any _).mono ?_
      rintro e w9 ⟨rfl, hb⟩
      have HB9 := Lib.hid hb
      clear hb
      go_wp2
      go_ret
      exact ⟨rfl, HB9.out⟩
  have d2 : ((l0.length : Int) == (0 : Int)) = false := by rw [beq_eq_false_iff_ne]; omega
  by_cases hneg : a1 < 0
  · go_enter Try.func8, Try.ntmps8
    go_wp2_with fail
    refine (small_any x0 c0 l0 w (HS.out.rowT (Below.refl _ _)) m0).mono ?_
    rintro e w9 ⟨rfl, rfl⟩
    cases smT l0
    · go_wp2_with fail
      refine (live_any _).mono ?_
      rintro e w9 ⟨rfl, hb⟩
      have HB9 := Lib.hid hb
      clear hb
      go_wp2
      go_ret
      exact ⟨rfl, HB9.out⟩
    · go_wp2_with fail
      refine (live_any _).mono ?_
      rintro e w9 ⟨rfl, hb⟩
      have HB9 := Lib.hid hb
      clear hb
      go_wp2
      go_ret
      exact ⟨rfl, HB9.out⟩
  cases hsm : smT l0
  · go_enter Try.func8, Try.ntmps8
    go_wp2_with fail
    refine (small_any x0 c0 l0 w (HS.out.rowT (Below.refl _ _)) m0).mono ?_
    rintro e w9 ⟨rfl, rfl⟩
    rw [hsm]
    go_wp2_with fail
    refine (live_any _).mono ?_
    rintro e w9 ⟨rfl, hb⟩
    have HB9 := Lib.hid hb
    clear hb
    go_wp2
    go_ret
    exact ⟨rfl, HB9.out⟩
  have HSM := Lib.hid (smT_of hsm).1
  have HA1 : Hid (0 ≤ a1) := by show 0 ≤ a1; omega
  obtain ⟨n, hn⟩ : ∃ n, n = l0.length := ⟨_, rfl⟩
  have HN := Lib.hid hn
  have hn0 : 0 < n := by omega
  have hn1 : n ≤ 60 := by omega
  go_enter Try.func8, Try.ntmps8
  go_wp2_with fail
  refine (small_any x0 c0 l0 w (HS.out.rowT (Below.refl _ _)) m0).mono ?_
  rintro e w9 ⟨rfl, rfl⟩
  rw [hsm]
  clear hsm
  obtain ⟨kb, hkb⟩ : ∃ kb, kb = w.heap.size := ⟨_, rfl⟩
  obtain ⟨wk, hwk⟩ : ∃ wk, wk = w.alloc (.cells #[.slice none 0 0, .int .i64 100000] 28 (0, 0)) := ⟨_, rfl⟩
  have HKB := Lib.hid hkb
  have HI0 : Hid (GoA kb l0 w 0 noT wk) := ⟨⟨[], 100000⟩, [], [kb], by rw [hwk, hkb]; exact LwT.new w, InvR.nil _, fun x hx => by cases hx⟩
  have hwk2 := hwk.symm
  have hkb2 := hkb.symm
  clear hwk hkb
  go_wp2_with fail
  clear hwk2 hkb2
  rw [← hn] at d1 d2 ⊢
  clear hn hneg h60 hz
  go_loopw [6, 7] (fun rv i wr => ∃ (j : Nat) (rt : ByteArray), j ≤ n ∧ i = .int .i64 j ∧ rv = .string rt ∧ Hid (GoA kb l0 w j rt wr)) (fun _ i _ => ((n : Int) - RowKit.intOf i).toNat)
  case atStart => exact ⟨0, noT, Nat.zero_le _, rfl, rfl, HI0⟩
  case round =>
    clear HI0
    rename_i hjk
    obtain ⟨j, rt, hj, rfl, rfl, HI⟩ := hrel
    by_cases hlt : j < n
    · clear hjk
      obtain ⟨S, E, F, hL, hI, hK⟩ := HI.out
      have hltl : j < l0.length := by have := HN.out; omega
      have hbw : Below w.heap.size w wr := by rw [← HKB.out]; exact hL.bel
      obtain ⟨b, off, hx0, hb0, q0, q1, q2, z1, z2⟩ := HS.out.top hbw j hltl
      subst hx0
      have h0j : (0 : Int) ≤ (j : Int) := by omega
      have h1j : (j : Int) < (n : Int) := by omega
      obtain ⟨key, hkey⟩ : ∃ key, key = l0[j].2.1 := ⟨_, rfl⟩
      obtain ⟨val, hval⟩ : ∃ val, val = l0[j].2.2 := ⟨_, rfl⟩
      rw [← hkey] at q1 z1
      rw [← hval] at q2 z2
      have HL := Lib.hid hL
      have HIV := Lib.hid hI
      have HKI := Lib.hid hK
      have HKE : Hid (∀ v, KeyIn l0 (insE key v (dropE key E))) := fun v => key_put hK hltl hkey
      have hbk : b < kb := by rw [HKB.out]; exact hb0
      have HBK := Lib.hid hbk
      have hrs := hI.small
      clear hL hI hK hkey hval hltl hb0 q0 hbw
      go_wp2_with fail
      have e1 : wr.drew.cell? ⟨b, off + j * 3 + 1, none⟩ = some (.string key) := q1
      have e2 : wr.drew.cell? ⟨b, off + j * 3 + 2, none⟩ = some (.string val) := q2
      refine wp_region_tree (fun W => W.cell? ⟨b, off + j * 3 + 1, none⟩ = some (.string key) ∧ W.cell? ⟨b, off + j * 3 + 2, none⟩ = some (.string val)) 18 (.quiet 0 (.quiet 1 (.quiet 2 (.quiet 3 (.quiet 4 (.quiet 5 (.quiet 6 (.quiet 7 (.quiet 8 (.quiet 9 (.quiet 10 (.quiet 11 (.quiet 12 (.make 13 (.quiet 14 (.quiet 15 (.quiet 16 (.quiet 17 .nil)))))))))))))))))) (by kernel_rfl) (by kernel_rfl) ⟨e1, e2⟩ ?_
      simp only [List.drop_succ_cons, List.drop_zero]
      iterate 13 (apply wpTr_step rfl; (intro W hS K hK; obtain ⟨y0, y1⟩ := hS; go_simp; exact hK _ rfl))
      refine wpTr_make rfl (fun K' hK => ?_)
      go_simp
      have HLd : Hid (LwT kb S F w wr.drew j) := HL.out.keep ((Below.refl _ _).drew)
      refine (tputs_any kb F S rt key val _ HLd.out.kp (by unfold maxLen; omega) z1 z2).mono ?_
      rintro e w2 ⟨rfl, F2, k2, c2, n2⟩
      have hb2 := HLd.out.below c2
      refine hK _ _ _ (fun _ h => h) ⟨(hb2.cell (p := ⟨b, off + j * 3 + 1, none⟩) HBK.out).trans e1, (hb2.cell (p := ⟨b, off + j * 3 + 2, none⟩) HBK.out).trans e2⟩ ?_
      clear hK K'
      iterate 4 (apply wpTr_step rfl; (intro W hS K hK; obtain ⟨y0, y1⟩ := hS; go_simp; exact hK _ rfl))
      refine wpTr_nil ?_
      clear e1 e2 q1 q2 z1 z2 hb2
      cases hok : okE key val
      · rw [put_arg hok] at k2 ⊢
        have HN2 : Hid (GoA kb l0 w (j + 1) rt w2) := ⟨S, E, F2, HLd.out.step k2 c2 n2 (GrowS.refl S) (Nat.le_add_right _ _), HIV.out.more (Nat.le_succ _), HKI.out⟩
        clear k2 c2 n2 hok
        go_wp2_with fail
        go_roundw
        case rel => exact ⟨j + 1, rt, by omega, by go_num, rfl, HN2⟩
        case measure => simp [RowKit.intOf]; omega
      · have hw := inv_put HIV.out (by omega) (HLd.out.has (by omega)) hok
        have HN2 : Hid (GoA kb l0 w (j + 1) (putT S rt key val).1.1 w2) := ⟨(putT S rt key val).2, insE key val (dropE key E), F2, HLd.out.step k2 c2 n2 hw.gr hw.ln, hw.inv, HKE.out val⟩
        rw [hw.ok]
        generalize (putT S rt key val).1.1 = rt2 at *
        clear k2 c2 n2 hok hw
        go_wp2_with fail
        go_roundw
        case rel => exact ⟨j + 1, rt2, by omega, by go_num, rfl, HN2⟩
        case measure => simp [RowKit.intOf]; omega
    · have hjl : j = n := by omega
      obtain ⟨c, hcdef⟩ : ∃ c : Nat, (c : Int) = a1 % (n : Int) := ⟨(a1 % (n : Int)).toNat, Int.toNat_of_nonneg (Int.emod_nonneg a1 (show (n : Int) ≠ 0 by omega))⟩
      obtain ⟨t, ht⟩ : ∃ t : Nat, (t : Int) = a1 := ⟨a1.toNat, Int.toNat_of_nonneg HA1.out⟩
      have HCT : Hid (t % l0.length = c) := by
        show t % l0.length = c
        have h5 : ((t % n : Nat) : Int) = (c : Int) := by rw [Int.natCast_emod, ht]; exact hcdef.symm
        rw [← HN.out]
        exact Int.ofNat.inj h5
      have hcn : c < n := by have h := Int.emod_lt_of_pos a1 (show (0 : Int) < (n : Int) by omega); rw [← hcdef] at h; omega
      have k1 : Int.tmod a1 (n : Int) = (c : Int) := by rw [Int.tmod_eq_emod_of_nonneg HA1.out]; exact hcdef.symm
      have k2 : ((n : Int) == 0) = false := by rw [beq_eq_false_iff_ne]; omega
      have k3 : ¬ (n : Int) = 0 := by omega
      have HI1 : Hid (GoB kb l0 t w 0 rt wr) := by
        obtain ⟨S, E, F, h1, h2, h3⟩ := HI.out
        rw [hjl, HN.out] at h1 h2
        exact ⟨S, E, F, h1, h2, h3, fun x hx i hi => by omega⟩
      clear hcdef ht HI hjl hj
      go_wp2_with fail
      go_loopw [6, 10] (fun rv i wr => ∃ (j : Nat) (rt : ByteArray), j ≤ n ∧ i = .int .i64 j ∧ rv = .string rt ∧ Hid (GoB kb l0 t w j rt wr)) (fun _ i _ => ((n : Int) - RowKit.intOf i).toNat)
      case atStart => exact ⟨0, rt, Nat.zero_le _, rfl, rfl, HI1⟩
      case round =>
        clear HI1
        rename_i hjk
        obtain ⟨j, rt, hj, rfl, rfl, HI⟩ := hrel
        by_cases hlt : j < n
        · clear hjk
          obtain ⟨S, E, F, hL, hI, hK, hO⟩ := HI.out
          have hbw : Below w.heap.size w wr := by rw [← HKB.out]; exact hL.bel
          obtain ⟨i2, hi2⟩ : ∃ i2, i2 = (j + c) % n := ⟨_, rfl⟩
          have hr0 : i2 < n := by rw [hi2]; exact Nat.mod_lt _ hn0
          have hrl : i2 < l0.length := by have := HN.out; omega
          obtain ⟨b, off, hx0, hb0, q0, q1, q2, z1, z2⟩ := HS.out.top hbw i2 hrl
          subst hx0
          have h0j : (0 : Int) ≤ (j : Int) := by omega
          have h1j : (j : Int) < (n : Int) := by omega
          have k4 : IntKind.i64.wrap ((j : Int) + (c : Int)) = (j : Int) + (c : Int) := IntWalk.i64_in _ ⟨by omega, by omega⟩
          have k5 : Int.tmod ((j : Int) + (c : Int)) (n : Int) = (i2 : Int) := by rw [Int.tmod_eq_emod_of_nonneg (by omega), hi2, ← Int.natCast_add]; exact (Int.natCast_emod _ _).symm
          have HKO : Hid (KeyOut l0 t (j + 1) (dropE l0[i2].2.1 E)) := out_del hO (by rw [HCT.out, ← HN.out]; exact hi2) hrl
          have HKI := Lib.hid (key_del hK l0[i2].2.1)
          have r0 : (0 : Int) ≤ (i2 : Int) := by omega
          have r1 : (i2 : Int) < (n : Int) := by omega
          have hjn : l0.length + j < 120 := by have := HN.out; omega
          generalize l0[i2] = x at *
          obtain ⟨d, key, val⟩ := x
          have HL := Lib.hid hL
          have HIV := Lib.hid hI
          have HJN := Lib.hid hjn
          have HZ : Hid (key.size ≤ maxLen) := z1
          have hrs := hI.small
          clear hL hI hK hO hb0 hi2 hr0 hrl hbw z1 z2 hjn
          obtain ⟨gb, hgb⟩ : ∃ gb, gb = wr.heap.size := ⟨_, rfl⟩
          obtain ⟨wa, hwa⟩ : ∃ wa, wa = wr.alloc (.cells #[.int .i64 d, .string key, .string val] 33 (0, 0)) := ⟨_, rfl⟩
          have HBA : Hid (Below wr.heap.size wr wa) := by show Below _ _ _; rw [hwa]; exact (Below.refl _ _).alloc (Nat.le_refl _) _
          have HBX : Hid (Box wa gb 33 #[.int .i64 d, .string key, .string val]) := by show Box _ _ _ _; rw [hwa, hgb]; exact Box.new _ _ _
          have e1 := HBX.out.cell 1 _ rfl
          have hwa2 := hwa.symm
          have hgb2 := hgb.symm
          clear hwa hgb
          go_wp2_with fail
          clear hwa2 hgb2 e1 q0 q1 q2 k4 k5 r0 r1
          have HLA := Lib.hid (HL.out.keep HBA.out)
          refine (tdel_any kb F S rt key wa HLA.out.kp (by unfold maxLen; omega) HZ.out).mono ?_
          rintro e w2 ⟨rfl, F2, k2, c2, n2⟩
          cases hv : lookT E key with
          | none =>
            rw [inv_gone HIV.out hv] at k2 ⊢
            have HN2 : Hid (GoB kb l0 t w (j + 1) rt w2) := ⟨S, dropE key E, F2, HLA.out.step k2 c2 n2 (GrowS.refl S) (Nat.le_add_right _ _), by rw [look_drop hv]; exact HIV.out.more (Nat.le_succ _), HKI.out, HKO.out⟩
            clear k2 c2 n2 hv
            go_wp2_with fail
            go_roundw
            case rel => exact ⟨j + 1, rt, by omega, by go_num, rfl, HN2⟩
            case measure => simp [RowKit.intOf]; omega
          | some v =>
            have hw := inv_del HIV.out HJN.out (HLA.out.has (by have := HJN.out; omega)) hv
            have HN2 : Hid (GoB kb l0 t w (j + 1) (delT S rt key).1.1 w2) := ⟨(delT S rt key).2, dropE key E, F2, HLA.out.step k2 c2 n2 hw.gr hw.ln, hw.inv, HKI.out, HKO.out⟩
            rw [hw.ok]
            generalize (delT S rt key).1.1 = rt2 at *
            clear k2 c2 n2 hv hw
            go_wp2_with fail
            go_roundw
            case rel => exact ⟨j + 1, rt2, by omega, by go_num, rfl, HN2⟩
            case measure => simp [RowKit.intOf]; omega
        · have hjl : j = n := by omega
          obtain ⟨S, E, F, hL, hI, hK, hO⟩ := HI.out
          rw [hjl, HN.out] at hO
          have hrt := hI.empty (out_all hK hO)
          have HBW : Hid (Below w.heap.size w wr) := by show Below _ _ _; rw [← HKB.out]; exact hL.bel
          clear hL hI hK hO HI hjl
          subst hrt
          go_wp2_with fail
          refine (live_any _).mono ?_
          rintro e w9 ⟨rfl, hb⟩
          have HB9 := Lib.hid (HBW.out.trans (hb.mono HBW.out.size))
          clear hb
          go_wp2
          go_ret
          exact ⟨rfl, HB9.out⟩
end Go.Proofs.Ytbeldjijnjgbfaa.treeGone
