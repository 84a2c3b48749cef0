/-
  The walk of TreeNodes.
-/
import Derived.Test.YtbeldjijnjgbfaaMg43
import Derived.Test.YtbeldjijnjgbfaaMg0
import Derived.Test.YtbeldjijnjgbfaaMg40
namespace Go.Proofs.Ytbeldjijnjgbfaa.treeNodes
open Go Go.RowKit Go.ChangeShapes Go.WideShapes Go.ChangeAt

def NoA (kb : Nat) (w0 : World) (j : Nat) (rt : ByteArray) (w : World) : Prop := ∃ S F E, LwT kb S F w0 w j ∧ InvR S rt E j
theorem get_ref {S : StD} {r t : ByteArray} (hg : getS S r = (t, 0)) : r.size = 6 := by
  unfold getS at hg
  split at hg
  · cases hg
  · rename_i n h5
    unfold numT at h5
    split at h5
    · cases h5
    · split at h5
      · assumption
      · cases h5
theorem str_eql (x y : ByteArray) (h : x ≠ y) : (x.toList == y.toList) = false := by rw [beq_key]; simpa using h
set_option maxRecDepth 100000 in
set_option maxHeartbeats 16000000 in
theorem walk (w : World) (x0 : Option Addr) (c0 : Nat) (l0 : List OpT) (s0 : SlE w 3 OpTK x0 l0) (m0 : l0.length ≤ maxLen) :
    Calls Try.prog 5 #[.slice x0 l0.length c0] w fun e w' => e = .returned (.bool true) ∧ Below w.heap.size w w' := by
  have HS := Lib.hid s0
  clear s0
  cases hsm : smT l0
  · go_enter Try.func5, Try.ntmps5
    go_wp2_with fail
    refine (small_any x0 c0 l0 w (HS.out.rowT (Below.refl _ _)) m0).mono ?_
    rintro e w9 ⟨rfl, rfl⟩
    rw [hsm]
    go_wp2_with fail
    refine (live_any _).mono ?_
    rintro e w9 ⟨rfl, hb⟩
    have HB9 := Lib.hid hb
    clear hb
    go_wp2
    go_ret
    exact ⟨rfl, HB9.out⟩
  obtain ⟨n, hn⟩ : ∃ n, n = l0.length := ⟨_, rfl⟩
  have HN := Lib.hid hn
  have hn1 : n ≤ 120 := by rw [hn]; exact (smT_of hsm).2
  go_enter Try.func5, Try.ntmps5
  go_wp2_with fail
  refine (small_any x0 c0 l0 w (HS.out.rowT (Below.refl _ _)) m0).mono ?_
  rintro e w9 ⟨rfl, rfl⟩
  rw [hsm]
  clear hsm
  obtain ⟨kb, hkb⟩ : ∃ kb, kb = w.heap.size := ⟨_, rfl⟩
  obtain ⟨wk, hwk⟩ : ∃ wk, wk = w.alloc (.cells #[.slice none 0 0, .int .i64 100000] 28 (0, 0)) := ⟨_, rfl⟩
  have HKB := Lib.hid hkb
  have HI0 : Hid (NoA kb w 0 noT wk) := ⟨⟨[], 100000⟩, [kb], [], by rw [hwk, hkb]; exact LwT.new w, InvR.nil _⟩
  have hwk2 := hwk.symm
  have hkb2 := hkb.symm
  clear hwk hkb
  go_wp2_with fail
  clear hwk2 hkb2
  rw [← hn]
  clear hn
  go_loopw [4, 5] (fun rv i wr => ∃ (j : Nat) (rt : ByteArray), j ≤ n ∧ i = .int .i64 j ∧ rv = .string rt ∧ Hid (NoA kb w j rt wr)) (fun _ i _ => ((n : Int) - RowKit.intOf i).toNat)
  case atStart => exact ⟨0, noT, Nat.zero_le _, rfl, rfl, HI0⟩
  case round =>
    clear HI0
    rename_i hjk
    obtain ⟨j, rt, hj, rfl, rfl, HI⟩ := hrel
    by_cases hlt : j < n
    · clear hjk
      have hltl : j < l0.length := by have := HN.out; omega
      have h0j : (0 : Int) ≤ (j : Int) := by omega
      have h1j : (j : Int) < (n : Int) := by omega
      obtain ⟨S, F, E, hL, hI⟩ := HI.out
      have hbw : Below w.heap.size w wr := by rw [← HKB.out]; exact hL.bel
      obtain ⟨b, off, hx0, hb0, q0, q1, q2, z1, z2⟩ := HS.out.top hbw j hltl
      subst hx0
      generalize l0[j] = x at *
      obtain ⟨xd, xk, xv⟩ := x
      have HL := Lib.hid hL
      have HIA := Lib.hid hI
      have HZ1 : Hid (xk.size ≤ maxLen) := z1
      have HZ2 : Hid (xv.size ≤ maxLen) := z2
      clear hL hI hb0 hbw hltl z1 z2 HI
      go_wp2_with fail
      refine (does_any kb F S rt _ [] (xd, xk, xv) wr HL.out.kp (PqZ.nil _ _) (by have := HIA.out.small; unfold maxLen; omega) (by simp) HZ1.out HZ2.out).mono ?_
      rintro e w2 ⟨v2, F2, rfl, k2, c2, n2, p2⟩
      have hd := does_inv HIA.out (by omega) (HL.out.has (by omega)) [] (xd, xk, xv)
      have HN2 : Hid (NoA kb w (j + 1) (doesT S rt [] (xd, xk, xv)).1.1 w2) := ⟨_, F2, _, HL.out.step k2 c2 n2 hd.gr hd.ln, hd.inv⟩
      obtain ⟨X, hX⟩ : ∃ X, X = doesT S rt [] (xd, xk, xv) := ⟨_, rfl⟩
      rw [← hX] at HN2 ⊢
      obtain ⟨⟨rt2, l2, ok⟩, S2⟩ := X
      clear hd k2 c2 n2 hX p2 q0 q1 q2 HL HIA
      go_wp2_with fail
      go_roundw
      case rel => exact ⟨j + 1, rt2, by omega, by go_num, rfl, HN2⟩
      case measure => simp [RowKit.intOf]; omega
    · have hjl : j = n := by omega
      obtain ⟨S, F, E, hL, hI⟩ := HI.out
      have hrs := hI.small
      have HEL : Hid (E.length ≤ 120) := by show _ ≤ _; have := hI.2; omega
      obtain ⟨L, hLL, hrf, hnd, hcn, hat⟩ := nodes_at hI
      have HL := Lib.hid hL
      have HIV := Lib.hid hI
      have HRF := Lib.hid hrf
      have HND := Lib.hid hnd
      have HCN := Lib.hid hcn
      have HAT := Lib.hid hat
      have HLQ := Lib.hid hLL
      have HSC := Lib.hid (scan_many hI (by omega))
      clear hL hI hLL hrf hnd hcn hat HI hjl
      go_wp2_with fail
      refine (refs_any kb F S rt _ HL.out.kp (by omega)).mono ?_
      rintro e w2 ⟨v1, rfl, hk1, hb2⟩
      rw [HRF.out] at hk1 ⊢
      have HK1 := Lib.hid hk1
      have HL2 := Lib.hid (HL.out.keep hb2)
      clear hk1 hb2 HL HRF
      go_wp2_with fail
      refine (scan_any kb F S rt noT 100000 _ HL2.out.kp (by omega) (by decide)).mono ?_
      rintro e w3 ⟨v2, rfl, hz2, hb3⟩
      rw [HSC.out] at hz2 ⊢
      have HZ2 := Lib.hid hz2
      have HK1 := Lib.hid (HK1.out.keep hb3)
      have HL3 := Lib.hid (HL2.out.keep hb3)
      clear hz2 hb3 HL2 HSC
      obtain ⟨R, hR⟩ : ∃ R, R = L.map (·.1) := ⟨_, rfl⟩
      rw [← hR] at HK1
      rw [← hR] at HND
      obtain ⟨ra, rc, rfl, hsl⟩ := HK1.out.view
      obtain ⟨pa, pc, rfl⟩ := HZ2.out.form
      have HSL := Lib.hid hsl
      have HRL : Hid (R.length = L.length) := by show _ = _; rw [hR, List.length_map]
      have HRG : Hid (∀ i (h : i < R.length) (h2 : i < L.length), R[i] = L[i].1) := fun i h h2 => by
        subst hR
        exact List.getElem_map ..
      have HBW : Hid (Below w.heap.size w w3) := by show Below _ _ _; rw [← HKB.out]; exact HL3.out.bel
      have HRM : Hid (R.length ≤ 200000) := by
        obtain ⟨v, hv, _⟩ := HL3.out.kp
        show _ ≤ _
        have := nodesT_len hv.ok rt noT
        rw [← HLQ.out] at this
        have := HRL.out
        omega
      clear hsl
      by_cases hz : rt = noT
      · have hI2 := HIV.out
        have hL0 : L = [] := by rw [HLQ.out, hz]; rfl
        have hr0 : R = [] := by rw [hR, hL0]; rfl
        have hE0 : E = [] := by have := HCN.out; rw [hL0] at this; exact List.eq_nil_of_length_eq_zero this.symm
        subst hz
        rw [hr0, hE0]
        clear HRG HRL hr0 hE0 hL0 hI2 HAT HND HRM HCN HIV HLQ HSL HK1 HZ2 hR
        go_wp2_with fail
        go_loopw [13, 14] (fun nv iv wr => nv = .int .i64 0 ∧ iv = .int .i64 0 ∧ Hid (Below w.heap.size w wr)) (fun _ _ _ => 0)
        case atStart => exact ⟨rfl, rfl, HBW⟩
        case round =>
          obtain ⟨rfl, rfl, HB⟩ := hrel
          go_wp2_with fail
          refine (live_any _).mono ?_
          rintro e w9 ⟨rfl, hb⟩
          have HB9 := Lib.hid (HB.out.trans (hb.mono HB.out.size))
          clear hb
          go_wp2
          go_ret
          exact ⟨rfl, HB9.out⟩
      · have hz6 : rt.size ≠ 0 := fun h => hz (nil_size h)
        obtain ⟨r9, h9⟩ := nodes_head (S := S) (fr := noT) hz6
        rw [← HLQ.out, ← hR] at h9
        have hR0 : 0 < R.length := by rw [h9]; simp
        have hR1 : R[0] = rt := by
          have h5 : R[0]? = some rt := by rw [h9]; rfl
          rw [List.getElem?_eq_getElem hR0] at h5
          exact Option.some.inj h5
        obtain ⟨rb, roff, hra, hrb, hr0⟩ := HSL.out.get 0 hR0
        subst hra
        rw [hR1, Nat.add_zero] at hr0
        have HRC : Hid (∀ W, Below w3.heap.size w3 W → ∀ i (h : i < R.length), W.cell? ⟨rb, roff + i, none⟩ = some (.string R[i])) := fun W hW i hi => by
          obtain ⟨b5, o5, h5, _, h6⟩ := (HSL.out.keep hW).get i hi
          injection h5 with h5
          injection h5 with h5 h7 _
          subst h5 h7
          exact h6
        have g1 : rt.toList.isEmpty = false := by
          have e := beq_key rt noT
          have e0 : noT.toList = [] := by rw [ByteArray.toList_eq]
          rw [e0, decide_eq_false hz] at e
          rw [← e]
          cases rt.toList <;> rfl
        have g2 : ((R.length : Int) == (0 : Int)) = false := by rw [beq_eq_false_iff_ne]; omega
        have g3 : (0 : Int) < (R.length : Int) := by omega
        have HPT : Hid (∀ W, Below w3.heap.size w3 W → PrZ (w2.heap.size ≤ ·) W (.slice pa E.length pc) E) := fun W hW => HZ2.out.keep hW
        clear hz hz6 h9 hR0 hR1 HSL HK1 HZ2 hR HLQ HIV
        go_wp2_with fail
        clear hr0 g1 hrb
        have hrm : R.length ≤ 200000 := HRM.out
        go_loopw [13, 14] (fun nv iv wr => ∃ i c : Nat, i ≤ R.length ∧ iv = .int .i64 i ∧ nv = .int .i64 c ∧ Hid (c = cntN L i) ∧ Hid (Below w3.heap.size w3 wr)) (fun _ iv _ => ((R.length : Int) - RowKit.intOf iv).toNat)
        case atStart => exact ⟨0, 0, Nat.zero_le _, rfl, rfl, rfl, Below.refl _ _⟩
        case round =>
          rename_i hik
          obtain ⟨i, c, hi, rfl, rfl, HC, HB⟩ := hrel
          by_cases hlt : i < R.length
          · clear hik
            obtain ⟨t, d, hf⟩ := HAT.out i (by rw [← HRL.out]; exact hlt)
            rw [← HRG.out i hlt (by rw [← HRL.out]; exact hlt)] at hf
            have HF := Lib.hid hf
            have HLT : Hid (i < R.length) := hlt
            have h0i : (0 : Int) ≤ (i : Int) := by omega
            have h1i : (i : Int) < (R.length : Int) := by omega
            have HRS : Hid (R[i].size ≤ maxLen) := by
              have := get_ref hf.got
              show _ ≤ _; unfold maxLen; omega
            obtain ⟨ref, href⟩ : ∃ ref, ref = R[i]'hlt := ⟨_, rfl⟩
            have hq : wr.cell? ⟨rb, roff + i, none⟩ = some (.string ref) := by rw [href]; exact HRC.out wr HB.out i hlt
            have HRE := Lib.hid href
            obtain ⟨kv, hkv, _⟩ := (HL3.out.kp.keep HB.out)
            have HKV := Lib.hid hkv
            have HTS := Lib.hid (get_txt hkv.ok hf.got)
            clear hkv hf href
            go_wp2_with fail
            refine (kget_any kb kv S ref wr HKV.out (by rw [HRE.out]; exact HRS.out)).mono ?_
            rintro e w4 ⟨rfl, rfl⟩
            have hgt := HF.out.got
            rw [← HRE.out] at hgt
            rw [hgt]
            clear hgt HKV HRS hq
            go_wp2_with fail
            refine (decode_any t wr HTS.out).mono ?_
            rintro e w4 ⟨v, rfl, hn4, hb4⟩
            rw [HF.out.dec] at hn4 ⊢
            have hn4 : NodeOwn w4 wr.heap.size v d := hn4
            obtain ⟨kv, vv, rfl, hk, hv⟩ := hn4
            obtain ⟨⟨a1, c1, rfl⟩, ⟨a2, c2, rfl⟩⟩ := own_rows hk hv
            have HB4 := Lib.hid (HB.out.trans (hb4.mono HB.out.size))
            have HK := Lib.hid hk
            have HV := Lib.hid hv
            clear hb4 hk hv
            obtain ⟨w5, hw5⟩ : ∃ w5, w5 = w4.alloc (.cells #[.bool d.leaf, .slice a1 d.keys.length c1, .slice a2 d.vals.length c2] 51 (0, 0)) := ⟨_, rfl⟩
            obtain ⟨m, hm⟩ : ∃ m, m = w4.heap.size := ⟨_, rfl⟩
            have BN : Hid (Box w5 m 51 #[.bool d.leaf, .slice a1 d.keys.length c1, .slice a2 d.vals.length c2]) := by show Box _ _ _ _; rw [hw5, hm]; exact Box.new _ _ _
            have hb5 : Below w4.heap.size w4 w5 := by rw [hw5]; exact (Below.refl _ _).alloc (Nat.le_refl _) _
            have HB5 := Lib.hid (HB4.out.trans (hb5.mono HB4.out.size))
            have HK5 := Lib.hid (HK.out.keep hb5)
            have HV5 := Lib.hid (HV.out.keep hb5)
            have hw6 := hw5.symm
            have hm6 := hm.symm
            clear hw5 hm hb5 HK HV HB4
            have b0 := BN.out.cell 0 _ rfl
            have b1 := BN.out.cell 1 _ rfl
            have b2 := BN.out.cell 2 _ rfl
            have g5 : ((d.keys.length : Int) == (0 : Int)) = false := by
              have h5 := HF.out.ne
              have : d.keys.length ≠ 0 := fun h => h5 (List.eq_nil_of_length_eq_zero h)
              rw [beq_eq_false_iff_ne]; omega
            have HSM : Hid (SmN 255 d) := by
              have h5 := dec_sm t
              rw [HF.out.dec] at h5
              exact h5
            have HNI : Hid (NodeIn w5 a1 a2 d) := by
              obtain ⟨_, _, e1, s1⟩ := HK5.out.view
              obtain ⟨_, _, e2, s2⟩ := HV5.out.view
              injection e1 with e1 _ _
              injection e2 with e2 _ _
              subst e1 e2
              exact ⟨s1, s2, by have := HSM.out.kl; omega, by have := HSM.out.vl; omega⟩
            go_wp2_with fail
            clear hw6 hm6
            refine (check_any a1 c1 a2 c2 d w5 HNI.out HSM.out.max).mono ?_
            rintro e w6 ⟨rfl, hb6⟩
            rw [HF.out.chk]
            have HB6 := Lib.hid (HB5.out.trans (hb6.mono HB5.out.size))
            have HBN6 := Lib.hid (BN.out.keep hb6 BN.out.lt)
            have HNI6 := Lib.hid (HNI.out.keep hb6)
            clear hb6 b0 b1 b2 g5 HK5 HV5 HB5 BN HNI
            go_wp2_with fail
            go_loopw [19] (fun jv wr => ∃ j : Nat, j ≤ i ∧ jv = .int .i64 j ∧ Hid (Below w6.heap.size w6 wr)) (fun jv _ => ((i : Int) - RowKit.intOf jv).toNat)
            case atStart => exact ⟨0, Nat.zero_le _, rfl, Below.refl _ _⟩
            case round =>
              rename_i hjk
              obtain ⟨j, hj, rfl, HBJ⟩ := hrel
              have HBX : Hid (Below w3.heap.size w3 wr) := HB6.out.trans (HBJ.out.mono HB6.out.size)
              by_cases hlj : j < i
              · clear hjk
                have hjr : j < R.length := by omega
                have h0j : (0 : Int) ≤ (j : Int) := by omega
                have h1j : (j : Int) < (R.length : Int) := by omega
                have hne : R[j]'hjr ≠ R[i]'HLT.out := List.pairwise_iff_getElem.1 HND.out j i hjr HLT.out hlj
                obtain ⟨rj, hrj⟩ : ∃ rj, rj = R[j]'hjr := ⟨_, rfl⟩
                have p0 : wr.cell? ⟨rb, roff + j, none⟩ = some (.string rj) := by rw [hrj]; exact HRC.out wr HBX.out j hjr
                have p1 : wr.cell? ⟨rb, roff + i, none⟩ = some (.string ref) := by rw [HRE.out]; exact HRC.out wr HBX.out i HLT.out
                have hq : (rj.toList == ref.toList) = false := str_eql _ _ (by rw [hrj, HRE.out]; exact hne)
                have HDR : Hid (Below w6.heap.size w6 wr.drew) := HBJ.out.drew
                clear hne hrj
                go_wp2_with fail
                have e1 : wr.drew.cell? ⟨rb, roff + j, none⟩ = some (.string rj) := p0
                have e2 : wr.drew.cell? ⟨rb, roff + i, none⟩ = some (.string ref) := p1
                refine wp_region_tree (fun W => W.cell? ⟨rb, roff + j, none⟩ = some (.string rj) ∧ W.cell? ⟨rb, roff + i, none⟩ = some (.string ref)) 8 (.quiet 0 (.quiet 1 (.quiet 2 (.quiet 3 (.quiet 4 (.quiet 5 (.quiet 6 (.quiet 7 .nil)))))))) (by kernel_rfl) (by kernel_rfl) ⟨e1, e2⟩ ?_
                simp only [List.drop_succ_cons, List.drop_zero]
                iterate 8 (apply wpTr_step rfl; (intro W hS K hK; obtain ⟨y0, y1⟩ := hS; go_simp; exact hK _ rfl))
                refine wpTr_nil ?_
                clear e1 e2 p0 p1
                go_wp2_with fail
                go_roundw
                case rel => exact ⟨j + 1, by omega, by go_num, HDR⟩
                case measure => simp [RowKit.intOf]; omega
              · have HBN7 := Lib.hid (HBN6.out.keep HBJ.out HBN6.out.lt)
                have HNI7 := Lib.hid (HNI6.out.keep HBJ.out)
                have HNX := Lib.hid HF.out.nx
                have hkl : d.keys.length ≤ 255 := HSM.out.kl
                have HVL : Hid (d.keys.length = d.vals.length) := HF.out.len
                obtain ⟨w7, hw7⟩ : ∃ w7, w7 = wr := ⟨_, rfl⟩
                rw [← hw7] at HBX HBN7 HNI7 ⊢
                have HW7 : Hid (w7 = wr) := hw7
                clear hw7 HBJ HBN6 HNI6
                cases hlf : d.leaf
                · rw [hlf] at HBN7
                  have HN2 : Hid (c = cntN L (i + 1)) := by show _ = _; rw [HNX.out, hlf, if_neg (by decide)]; exact HC.out
                  have b0 := HBN7.out.cell 0 _ rfl
                  have b1 := HBN7.out.cell 1 _ rfl
                  have g6 : (0 : Int) < (d.keys.length : Int) := by
                    have h5 := HF.out.ne
                    have : d.keys.length ≠ 0 := fun h => h5 (List.eq_nil_of_length_eq_zero h)
                    omega
                  clear hlf
                  go_wp2_with fail
                  go_loopw [13, 20] (fun nv jv wr => nv = .int .i64 c ∧ jv = .int .i64 0 ∧ Hid (w7 = wr)) (fun _ _ _ => 0)
                  case atStart => exact ⟨rfl, rfl, rfl⟩
                  case round =>
                    obtain ⟨rfl, rfl, HW⟩ := hrel
                    have hw := HW.out
                    subst hw
                    go_wp2_with fail
                    go_roundw
                    case rel => exact ⟨i + 1, c, by omega, by go_num, rfl, HN2, HBX⟩
                    case measure => simp [RowKit.intOf]; omega
                · rw [hlf] at HBN7
                  have HPR := Lib.hid (HF.out.pr hlf)
                  have HN2 : Hid (cntN L (i + 1) = c + d.keys.length) := by show _ = _; rw [HNX.out, hlf, if_pos rfl, HC.out]
                  clear hlf
                  go_wp2_with fail
                  go_loopw [13, 20] (fun nv jv wr => ∃ j p : Nat, j ≤ d.keys.length ∧ jv = .int .i64 j ∧ nv = .int .i64 p ∧ Hid (p = c + j) ∧ Hid (Below w7.heap.size w7 wr)) (fun _ jv _ => ((d.keys.length : Int) - RowKit.intOf jv).toNat)
                  case atStart => exact ⟨0, c, Nat.zero_le _, rfl, rfl, rfl, by rw [HW7.out]; exact Below.refl _ _⟩
                  case round =>
                    rename_i hpk
                    obtain ⟨j, p, hj2, rfl, rfl, HP, HB7⟩ := hrel
                    have HBN8 := Lib.hid (HBN7.out.keep HB7.out HBN7.out.lt)
                    have b0 := HBN8.out.cell 0 _ rfl
                    have b1 := HBN8.out.cell 1 _ rfl
                    have b2 := HBN8.out.cell 2 _ rfl
                    by_cases hlj2 : j < d.keys.length
                    · clear hpk
                      have h0j : (0 : Int) ≤ (j : Int) := by omega
                      have h1j : (j : Int) < (d.keys.length : Int) := by omega
                      have h2j : (j : Int) < (d.vals.length : Int) := by have := HVL.out; omega
                      have hpr := HPR.out j hlj2
                      rw [← HC.out, ← HP.out] at hpr
                      obtain ⟨hpl, hpe⟩ := List.getElem?_eq_some_iff.1 hpr
                      have h0p : (0 : Int) ≤ (p : Int) := by omega
                      have h1p : (p : Int) < (E.length : Int) := by omega
                      have h2p : ¬ (E.length : Int) ≤ (p : Int) := by omega
                      obtain ⟨pg, hpa, c0', c1'⟩ := (HPT.out wr (HBX.out.trans (HB7.out.mono HBX.out.size))).at p hpl
                      have hpa : pa = some ⟨pg, 0, none⟩ := hpa
                      subst hpa
                      rw [hpe] at c0' c1'
                      obtain ⟨kb1, ko, hka, _, y0⟩ := (HNI7.out.keep HB7.out).ks.get j hlj2
                      obtain ⟨vb1, vo, hva, _, y1⟩ := (HNI7.out.keep HB7.out).vs.get j (by have := HVL.out; omega)
                      subst hka hva
                      obtain ⟨key, hkey⟩ : ∃ key, key = d.keys.getD j noT := ⟨_, rfl⟩
                      obtain ⟨val, hval⟩ : ∃ val, val = d.vals.getD j noT := ⟨_, rfl⟩
                      have hk5 : d.keys[j]'hlj2 = key := by rw [hkey, List.getD_eq_getElem?_getD, List.getElem?_eq_getElem hlj2]; rfl
                      have hv5 : d.vals[j]'(by have := HVL.out; omega) = val := by rw [hval, List.getD_eq_getElem?_getD, List.getElem?_eq_getElem (by have := HVL.out; omega)]; rfl
                      have z0 : wr.cell? ⟨pg, p * 2, none⟩ = some (.string key) := by rw [hkey]; exact c0'
                      have z1 : wr.cell? ⟨pg, p * 2 + 1, none⟩ = some (.string val) := by rw [hval]; exact c1'
                      have z2 : wr.cell? ⟨kb1, ko + j, none⟩ = some (.string key) := by rw [← hk5]; exact y0
                      have z3 : wr.cell? ⟨vb1, vo + j, none⟩ = some (.string val) := by rw [← hv5]; exact y1
                      have HDR : Hid (Below w7.heap.size w7 wr.drew) := HB7.out.drew
                      have HP1 : Hid (p + 1 = c + (j + 1)) := by show _ = _; rw [HP.out]; omega
                      have hpb : p ≤ 120 := by have := HEL.out; omega
                      clear hk5 hv5 hkey hval c0' c1' y0 y1 hpr hpe
                      go_wp2_with fail
                      have e1 : wr.drew.cell? ⟨pg, p * 2, none⟩ = some (.string key) := z0
                      have e2 : wr.drew.cell? ⟨pg, p * 2 + 1, none⟩ = some (.string val) := z1
                      have e3 : wr.drew.cell? ⟨kb1, ko + j, none⟩ = some (.string key) := z2
                      have e4 : wr.drew.cell? ⟨vb1, vo + j, none⟩ = some (.string val) := z3
                      have e5 : wr.drew.cell? ⟨m, 1, none⟩ = some (.slice (some ⟨kb1, ko, none⟩) d.keys.length c1) := b1
                      have e6 : wr.drew.cell? ⟨m, 2, none⟩ = some (.slice (some ⟨vb1, vo, none⟩) d.vals.length c2) := b2
                      refine wp_region_tree (fun W => W.cell? ⟨pg, p * 2, none⟩ = some (.string key) ∧ W.cell? ⟨pg, p * 2 + 1, none⟩ = some (.string val) ∧ W.cell? ⟨kb1, ko + j, none⟩ = some (.string key) ∧ W.cell? ⟨vb1, vo + j, none⟩ = some (.string val) ∧ W.cell? ⟨m, 1, none⟩ = some (.slice (some ⟨kb1, ko, none⟩) d.keys.length c1) ∧ W.cell? ⟨m, 2, none⟩ = some (.slice (some ⟨vb1, vo, none⟩) d.vals.length c2)) 28 (.quiet 0 (.quiet 1 (.quiet 2 (.quiet 3 (.quiet 4 (.quiet 5 (.quiet 6 (.quiet 7 (.quiet 8 (.quiet 9 (.quiet 10 (.quiet 11 (.quiet 12 (.quiet 13 (.quiet 14 (.quiet 15 (.quiet 16 (.quiet 17 (.quiet 18 (.quiet 19 (.quiet 20 (.quiet 21 (.quiet 22 (.quiet 23 (.quiet 24 (.quiet 25 (.quiet 26 (.quiet 27 .nil)))))))))))))))))))))))))))) (by kernel_rfl) (by kernel_rfl) ⟨e1, e2, e3, e4, e5, e6⟩ ?_
                      simp only [List.drop_succ_cons, List.drop_zero]
                      iterate 28 (apply wpTr_step rfl; (intro W hS K hK; obtain ⟨y0, y1, y2, y3, y4, y5⟩ := hS; go_simp; exact hK _ rfl))
                      refine wpTr_nil ?_
                      clear e1 e2 e3 e4 e5 e6 z0 z1 z2 z3 b0 b1 b2
                      go_wp2_with fail
                      go_roundw
                      case rel => exact ⟨j + 1, p + 1, by omega, by go_num, by go_num, HP1, HDR⟩
                      case measure => simp [RowKit.intOf]; omega
                    · have hje : j = d.keys.length := by omega
                      have HN3 : Hid (p = cntN L (i + 1)) := by show _ = _; rw [HN2.out, HP.out, hje]
                      have HBX8 := Lib.hid (HBX.out.trans (HB7.out.mono HBX.out.size))
                      clear hje
                      go_wp2_with fail
                      go_roundw
                      case rel => exact ⟨i + 1, p, by omega, by go_num, rfl, HN3, HBX8⟩
                      case measure => simp [RowKit.intOf]; omega
          · have hie : i = R.length := by omega
            have HCE : Hid (c = E.length) := by show _ = _; rw [HC.out, hie, HRL.out]; exact HCN.out
            have g5 : ((c : Int) == (E.length : Int)) = true := by have := HCE.out; simp [this]
            have HBF : Hid (Below w.heap.size w wr) := HBW.out.trans (HB.out.mono HBW.out.size)
            clear hie
            go_wp2_with fail
            refine (live_any _).mono ?_
            rintro e w9 ⟨rfl, hb⟩
            have HB9 := Lib.hid (HBF.out.trans (hb.mono HBF.out.size))
            clear hb
            go_wp2
            go_ret
            exact ⟨rfl, HB9.out⟩
end Go.Proofs.Ytbeldjijnjgbfaa.treeNodes
