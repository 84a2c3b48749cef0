/-
  The walk of TreeScripts.
-/
import Derived.Test.YtbeldjijnjgbfaaMg43
import Derived.Test.YtbeldjijnjgbfaaMg0
import Derived.Test.YtbeldjijnjgbfaaMg41
namespace Go.Proofs.Ytbeldjijnjgbfaa.treeScripts
open Go Go.RowKit Go.ChangeShapes Go.WideShapes Go.ChangeAt

/-- What stands behind j changes: the tree, the document's pairs, and those of some time before. -/
def ScA (kb : Nat) (w0 : World) (j : Nat) (rt : ByteArray) (lv : Value) (hf : ByteArray) (wv : Value) (w : World) : Prop :=
  ∃ S F E H, LwT kb S F w0 w j ∧ InvR S rt E j ∧ PqZ (· ∉ F) w lv E ∧ InvR S hf H j ∧ PqZ (· ∉ F) w wv H
theorem get_inv {S : StD} {root : ByteArray} {E : List Ent} {n : Nat} (h : InvR S root E n) (key : ByteArray) : getT S root key = rgetT E key := by
  obtain ⟨⟨i, W, h1, h2, _⟩, _⟩ := h
  rcases h1 with ⟨rfl, rfl, _, _⟩ | ⟨h3, _, n, h4, h5⟩
  · rw [get_empty]; rfl
  · rw [get_is h5 h4 (by omega) (by omega)]; rfl
theorem scan_inv {S : StD} {root : ByteArray} {E : List Ent} {n : Nat} (h : InvR S root E n) (fr : ByteArray) (many : Int) : scanT S root fr many = ((E.filter (fun x => !ltK x.1 fr)).take many.toNat, 0) := by
  obtain ⟨⟨i, W, h1, h2, _⟩, _⟩ := h
  exact scan_is h1 (by omega) fr many
set_option maxRecDepth 100000 in
set_option maxHeartbeats 16000000 in
theorem walk (w : World) (x0 : Option Addr) (c0 : Nat) (l0 : List OpT) (s0 : SlE w 3 OpTK x0 l0) (m0 : l0.length ≤ maxLen) (a1 : ByteArray) (_w1 : a1.size ≤ 140737488351232) (a2 : Int) (_w2 : (Lit.int .i64 a2).wf = true) :
    Calls Try.prog 3 #[.slice x0 l0.length c0, .string a1, .int .i64 a2] w fun e w' => e = .returned (.bool true) ∧ Below w.heap.size w w' := by
  have HS := Lib.hid s0
  clear s0
  by_cases h400 : 400 < a1.size
  · have d1 : (400 : Int) < (a1.size : Int) := by omega
    go_enter Try.func3, Try.ntmps3
    go_wp2_with fail
    refine (small_any x0 c0 l0 w (HS.out.rowT (Below.refl _ _)) m0).mono ?_
    rintro e w9 ⟨rfl, rfl⟩
    cases smT l0
    · go_wp2_with fail
      refine (live_any _).mono ?_
      rintro e w9 ⟨rfl, hb⟩
      have HB9 := Lib.hid hb
      clear hb
      go_wp2
      go_ret
      exact ⟨rfl, HB9.out⟩
    · go_wp2_with fail
      refine (live_any _).mono ?_
      rintro e w9 ⟨rfl, hb⟩
      have HB9 := Lib.hid hb
      clear hb
      go_wp2
      go_ret
      exact ⟨rfl, HB9.out⟩
  have d1 : ¬ (400 : Int) < (a1.size : Int) := by omega
  cases hsm : smT l0
  · go_enter Try.func3, Try.ntmps3
    go_wp2_with fail
    refine (small_any x0 c0 l0 w (HS.out.rowT (Below.refl _ _)) m0).mono ?_
    rintro e w9 ⟨rfl, rfl⟩
    rw [hsm]
    go_wp2_with fail
    refine (live_any _).mono ?_
    rintro e w9 ⟨rfl, hb⟩
    have HB9 := Lib.hid hb
    clear hb
    go_wp2
    go_ret
    exact ⟨rfl, HB9.out⟩
  obtain ⟨n, hn⟩ : ∃ n, n = l0.length := ⟨_, rfl⟩
  have HN := Lib.hid hn
  have hn1 : n ≤ 120 := by rw [hn]; exact (smT_of hsm).2
  have HZA : Hid (a1.size ≤ maxLen) := by show _ ≤ _; unfold maxLen; omega
  obtain ⟨q, hq⟩ : ∃ q, q = n / 2 := ⟨_, rfl⟩
  have hqn : q ≤ n := by omega
  have kq : Int.tdiv (n : Int) 2 = (q : Int) := by rw [Int.tdiv_eq_ediv_of_nonneg (by omega), hq]; omega
  clear hq
  go_enter Try.func3, Try.ntmps3
  go_wp2_with fail
  refine (small_any x0 c0 l0 w (HS.out.rowT (Below.refl _ _)) m0).mono ?_
  rintro e w9 ⟨rfl, rfl⟩
  rw [hsm]
  clear hsm
  obtain ⟨kb, hkb⟩ : ∃ kb, kb = w.heap.size := ⟨_, rfl⟩
  obtain ⟨wk, hwk⟩ : ∃ wk, wk = w.alloc (.cells #[.slice none 0 0, .int .i64 100000] 28 (0, 0)) := ⟨_, rfl⟩
  have HKB := Lib.hid hkb
  have HI0 : Hid (ScA kb w 0 noT (.slice none 0 0) noT (.slice none 0 0) wk) := ⟨⟨[], 100000⟩, [kb], [], [], by rw [hwk, hkb]; exact LwT.new w, InvR.nil _, PqZ.nil _ _, InvR.nil _, PqZ.nil _ _⟩
  have hwk2 := hwk.symm
  have hkb2 := hkb.symm
  clear hwk hkb
  go_wp2_with fail
  clear hwk2 hkb2
  rw [← hn]
  clear hn h400
  go_loopw [8, 9, 10, 11, 12] (fun rv lv hv wv i wr => ∃ (j : Nat) (rt hf : ByteArray), j ≤ n ∧ i = .int .i64 j ∧ rv = .string rt ∧ hv = .string hf ∧ Hid (ScA kb w j rt lv hf wv wr)) (fun _ _ _ _ i _ => ((n : Int) - RowKit.intOf i).toNat)
  case atStart => exact ⟨0, noT, noT, Nat.zero_le _, rfl, rfl, rfl, HI0⟩
  case round =>
    clear HI0
    rename_i hjk
    obtain ⟨j, rt, hf, hj, rfl, rfl, rfl, HI⟩ := hrel
    by_cases hlt : j < n
    · clear hjk
      have hltl : j < l0.length := by have := HN.out; omega
      have h0j : (0 : Int) ≤ (j : Int) := by omega
      have h1j : (j : Int) < (n : Int) := by omega
      obtain ⟨S, F, E, H, hL, hI, hP, hI2, hP2⟩ := HI.out
      have hbw : Below w.heap.size w wr := by rw [← HKB.out]; exact hL.bel
      obtain ⟨b, off, hx0, hb0, q0, q1, q2, z1, z2⟩ := HS.out.top hbw j hltl
      subst hx0
      generalize l0[j] = x at *
      obtain ⟨xd, xk, xv⟩ := x
      have HL := Lib.hid hL
      have HIA := Lib.hid hI
      have HIB := Lib.hid hI2
      have HPA := Lib.hid hP
      have HPB := Lib.hid hP2
      have HZ1 : Hid (xk.size ≤ maxLen) := z1
      have HZ2 : Hid (xv.size ≤ maxLen) := z2
      clear hL hI hP hI2 hP2 hb0 hbw hltl z1 z2 HI
      go_wp2_with fail
      refine (does_any kb F S rt _ E (xd, xk, xv) wr HL.out.kp HPA.out (by have := HIA.out.small; unfold maxLen; omega) (by have := HIA.out.2; omega) HZ1.out HZ2.out).mono ?_
      rintro e w2 ⟨v2, F2, rfl, k2, c2, n2, p2⟩
      have hd := does_inv HIA.out (by omega) (HL.out.has (by omega)) E (xd, xk, xv)
      have he := does_is HIA.out (by omega) (HL.out.has (by omega)) (xd, xk, xv)
      have HL2 := Lib.hid (HL.out.step k2 c2 n2 hd.gr hd.ln)
      have HB2 := Lib.hid ((HIB.out.grow hd.gr).more (Nat.le_succ j))
      have HQ2 := Lib.hid (HPB.out.tod c2 n2)
      obtain ⟨X, hX⟩ : ∃ X, X = doesT S rt E (xd, xk, xv) := ⟨_, rfl⟩
      obtain ⟨E2, hE2⟩ : ∃ E2, E2 = chgT E (xd, xk, xv) := ⟨_, rfl⟩
      have hinv := hd.inv
      rw [← hX] at he p2 HL2 HB2 hinv ⊢
      rw [← hE2] at he hinv
      obtain ⟨⟨rt2, l2, ok⟩, S2⟩ := X
      have h3 : l2 = E2 := congrArg (·.1) he
      have h4 : ok = true := congrArg (·.2) he
      subst h3 h4
      have HA2 := Lib.hid hinv
      have HP2 := Lib.hid p2
      clear hd he k2 c2 n2 hX hE2 hinv p2 q0 q1 q2 HL HIA HIB HPA HPB
      by_cases hjq : j = q
      · have d2 : ((j : Int) == (q : Int)) = true := by simp [hjq]
        have HN2 : Hid (ScA kb w (j + 1) rt2 v2 rt2 v2 w2) := ⟨S2, F2, l2, l2, HL2.out, HA2.out, HP2.out, HA2.out, HP2.out⟩
        clear hjq
        go_wp2_with fail
        go_roundw
        case rel => exact ⟨j + 1, rt2, rt2, by omega, by go_num, rfl, rfl, HN2⟩
        case measure => simp [RowKit.intOf]; omega
      · have d2 : ((j : Int) == (q : Int)) = false := by rw [beq_eq_false_iff_ne]; omega
        have HN2 : Hid (ScA kb w (j + 1) rt2 v2 hf _ w2) := ⟨S2, F2, l2, H, HL2.out, HA2.out, HP2.out, HB2.out, HQ2.out⟩
        clear hjq
        go_wp2_with fail
        go_roundw
        case rel => exact ⟨j + 1, rt2, hf, by omega, by go_num, rfl, rfl, HN2⟩
        case measure => simp [RowKit.intOf]; omega
    · have hjl : j = n := by omega
      obtain ⟨S, F, E, H, hL, hI, hP, hI2, hP2⟩ := HI.out
      have hrs := hI.small
      have hrt := hI2.small
      have HL := Lib.hid hL
      have HPA := Lib.hid hP
      have HPB := Lib.hid hP2
      have HEL : Hid (E.length ≤ 120) := by show _ ≤ _; have := hI.2; omega
      have HHL : Hid (H.length ≤ 120) := by show _ ≤ _; have := hI2.2; omega
      have HG := Lib.hid (get_inv hI a1)
      have HSA := Lib.hid (scan_all hI (by omega))
      have HSC := Lib.hid (scan_all hI2 (by omega))
      have HSB := Lib.hid (scan_inv hI a1 a2)
      have HSL : Hid (((E.filter (fun x => !ltK x.1 a1)).take a2.toNat).length ≤ 120) := by
        show _ ≤ _
        have h5 : (E.filter (fun x => !ltK x.1 a1)).length ≤ E.length := List.length_filter_le _ _
        have h6 := HEL.out
        rw [List.length_take]; omega
      clear hL hI hP hI2 hP2 HI hjl
      go_wp2_with fail
      refine (tget_any kb F S rt a1 _ HL.out.kp (by unfold maxLen; omega) HZA.out).mono ?_
      rintro e w2 ⟨rfl, hb2⟩
      rw [HG.out]
      have HL := Lib.hid (HL.out.keep hb2)
      have HPA := Lib.hid (HPA.out.keep hb2)
      have HPB := Lib.hid (HPB.out.keep hb2)
      clear hb2 HG
      go_wp2_with fail
      refine (rget_any _ _ E a1 _ HPA.out (by have := HEL.out; omega)).mono ?_
      rintro e w3 ⟨rfl, rfl⟩
      obtain ⟨G, hG⟩ : ∃ G, G = rgetT E a1 := ⟨_, rfl⟩
      rw [← hG]
      clear hG
      obtain ⟨gv, ge⟩ := G
      go_wp2_with fail
      refine (scan_any kb F S rt noT 1000 _ HL.out.kp (by omega) (by decide)).mono ?_
      rintro e w3 ⟨v1, rfl, hz1, hb3⟩
      rw [HSA.out] at hz1 ⊢
      have HZ1 := Lib.hid hz1
      have HL := Lib.hid (HL.out.keep hb3)
      have HPA := Lib.hid (HPA.out.keep hb3)
      have HPB := Lib.hid (HPB.out.keep hb3)
      clear hz1 hb3 HSA
      go_wp2_with fail
      refine (scan_any kb F S rt a1 a2 _ HL.out.kp (by omega) HZA.out).mono ?_
      rintro e w3 ⟨v2, rfl, hz2, hb3⟩
      rw [HSB.out] at hz2 ⊢
      obtain ⟨M, hM⟩ : ∃ M, M = (E.filter (fun x => !ltK x.1 a1)).take a2.toNat := ⟨_, rfl⟩
      rw [← hM] at hz2 ⊢
      rw [← hM] at HSL
      have HM := Lib.hid hM
      have HZ2 := Lib.hid hz2
      have HZ1 := Lib.hid (HZ1.out.keep hb3)
      have HL := Lib.hid (HL.out.keep hb3)
      have HPA := Lib.hid (HPA.out.keep hb3)
      have HPB := Lib.hid (HPB.out.keep hb3)
      clear hz2 hb3 HSB hM
      go_wp2_with fail
      refine (scan_any kb F S hf noT 1000 _ HL.out.kp (by omega) (by decide)).mono ?_
      rintro e w3 ⟨v3, rfl, hz3, hb3⟩
      rw [HSC.out] at hz3 ⊢
      have HZ3 := Lib.hid hz3
      have HZ1 := Lib.hid (HZ1.out.keep hb3)
      have HZ2 := Lib.hid (HZ2.out.keep hb3)
      have HL := Lib.hid (HL.out.keep hb3)
      have HPA := Lib.hid (HPA.out.keep hb3)
      have HPB := Lib.hid (HPB.out.keep hb3)
      clear hz3 hb3 HSC
      go_wp2_with fail
      refine (told_any _ v1 E _ HZ1.out (by have := HEL.out; omega)).mono ?_
      rintro e w3 ⟨t1, rfl, ht1, hb3⟩
      have HT1 := Lib.hid ht1
      have HZ2 := Lib.hid (HZ2.out.keep hb3)
      have HZ3 := Lib.hid (HZ3.out.keep hb3)
      have HL := Lib.hid (HL.out.keep hb3)
      have HPA := Lib.hid (HPA.out.keep hb3)
      have HPB := Lib.hid (HPB.out.keep hb3)
      clear ht1 hb3
      go_wp2_with fail
      refine (rsame_any _ _ t1 _ E E _ HT1.out HPA.out).mono ?_
      rintro e w3 ⟨rfl, hb3⟩
      rw [decide_eq_true (rfl : E = E)]
      have HZ2 := Lib.hid (HZ2.out.keep hb3)
      have HZ3 := Lib.hid (HZ3.out.keep hb3)
      have HL := Lib.hid (HL.out.keep hb3)
      have HPA := Lib.hid (HPA.out.keep hb3)
      have HPB := Lib.hid (HPB.out.keep hb3)
      clear hb3 HT1
      go_wp2_with fail
      refine (told_any _ v2 M _ HZ2.out (by have := HSL.out; omega)).mono ?_
      rintro e w3 ⟨t2, rfl, ht2, hb3⟩
      have HT2 := Lib.hid ht2
      have HZ3 := Lib.hid (HZ3.out.keep hb3)
      have HL := Lib.hid (HL.out.keep hb3)
      have HPA := Lib.hid (HPA.out.keep hb3)
      have HPB := Lib.hid (HPB.out.keep hb3)
      clear ht2 hb3
      go_wp2_with fail
      refine (rscan_any _ _ E a1 a2 _ HPA.out (by have := HEL.out; omega)).mono ?_
      rintro e w3 ⟨t3, rfl, ht3, hb3⟩
      rw [← HM.out] at ht3
      have HT3 := Lib.hid ht3
      have HT2 := Lib.hid (HT2.out.keep hb3)
      have HZ3 := Lib.hid (HZ3.out.keep hb3)
      have HL := Lib.hid (HL.out.keep hb3)
      have HPA := Lib.hid (HPA.out.keep hb3)
      have HPB := Lib.hid (HPB.out.keep hb3)
      clear ht3 hb3
      go_wp2_with fail
      refine (rsame_any _ _ t2 t3 M M _ HT2.out HT3.out).mono ?_
      rintro e w3 ⟨rfl, hb3⟩
      rw [decide_eq_true (rfl : M = M)]
      have HZ3 := Lib.hid (HZ3.out.keep hb3)
      have HL := Lib.hid (HL.out.keep hb3)
      have HPA := Lib.hid (HPA.out.keep hb3)
      have HPB := Lib.hid (HPB.out.keep hb3)
      clear hb3 HT2 HT3
      go_wp2_with fail
      refine (told_any _ v3 H _ HZ3.out (by have := HHL.out; omega)).mono ?_
      rintro e w3 ⟨t4, rfl, ht4, hb3⟩
      have HT4 := Lib.hid ht4
      have HL := Lib.hid (HL.out.keep hb3)
      have HPA := Lib.hid (HPA.out.keep hb3)
      have HPB := Lib.hid (HPB.out.keep hb3)
      clear ht4 hb3
      go_wp2_with fail
      refine (rsame_any _ _ t4 _ H H _ HT4.out HPB.out).mono ?_
      rintro e w3 ⟨rfl, hb3⟩
      rw [decide_eq_true (rfl : H = H)]
      have HL := Lib.hid (HL.out.keep hb3)
      have HPA := Lib.hid (HPA.out.keep hb3)
      have HPB := Lib.hid (HPB.out.keep hb3)
      clear hb3 HT4
      have HBW : Hid (Below w.heap.size w w3) := by show Below _ _ _; rw [← HKB.out]; exact HL.out.bel
      go_wp2_with fail
      refine (live_any _).mono ?_
      rintro e w9 ⟨rfl, hb⟩
      have HB9 := Lib.hid (HBW.out.trans (hb.mono HBW.out.size))
      clear hb
      go_wp2
      go_ret
      exact ⟨rfl, HB9.out⟩
end Go.Proofs.Ytbeldjijnjgbfaa.treeScripts
