/-
  Texts put together: TcS, TcT.
-/
import Derived.Test.YtbeldjijnjgbfaaMg30
namespace Go.Proofs.Ytbeldjijnjgbfaa
open Go Go.RowKit Go.ChangeShapes Go.WideShapes Go.ChangeAt

theorem putT_arg {S : StD} {root key val : ByteArray} (h : chkN ⟨true, [key], [val]⟩ ≠ 0) : putT S root key val = ((noT, 1), S) := by unfold putT; rw [if_pos h]
theorem putT_err {S : StD} {root key val : ByteArray} (h0 : chkN ⟨true, [key], [val]⟩ = 0) (h : (downT S root key).2.2 ≠ 0) : putT S root key val = ((noT, (downT S root key).2.2), S) := by unfold putT; rw [if_neg (by simp [h0]), if_pos h]
theorem putT_ok {S : StD} {root key val : ByteArray} (h0 : chkN ⟨true, [key], [val]⟩ = 0) (h : (downT S root key).2.2 = 0) : putT S root key val = upN S (downT S root key).1 (withD (downT S root key).2.1 key val) := by unfold putT; rw [if_neg (by simp [h0]), if_neg (by simp [h])]
theorem one_row (w : World) (a : ByteArray) : Sl (w.alloc (.cells #[.string a] 9 (0, 0))) Value.string (some ⟨w.heap.size, 0, none⟩) [a] := by
  intro _
  refine ⟨w.heap.size, 0, rfl, by rw [size_alloc]; omega, fun i x hx => ?_⟩
  have hb := Box.new w 9 #[.string a]
  match i, hx with
  | 0, hx => simp at hx; subst hx; exact hb.cell 0 _ rfl
  | i + 1, hx => simp at hx
set_option maxRecDepth 100000 in
set_option maxHeartbeats 4000000 in
theorem tputs_any (kb : Nat) (F : List Nat) (S : StD) (root key val : ByteArray) (w : World) (h : KpF kb S F w) (hr : root.size ≤ maxLen) (hk : key.size ≤ maxLen) (hv : val.size ≤ maxLen) :
    Calls Try.prog 18 #[kpV kb, .string root, .string key, .string val] w (UpTo kb F (putT S root key val) w) := by
  have hkp := kp_nil kb
  have HF := Lib.hid h
  have HFL := Lib.hid (kp_below h)
  have HG := Lib.hid (downT_gd S root key)
  have HKZ := Lib.hid hk
  have HVZ := Lib.hid hv
  obtain ⟨w1, hw1⟩ : ∃ w1, w1 = ((w.alloc (.cells #[.string key] 9 (0, 0))).alloc (.cells #[.string val] 9 (0, 0))).alloc (.cells #[.bool true, .slice (some ⟨w.heap.size, 0, none⟩) 1 1, .slice (some ⟨w.heap.size + 1, 0, none⟩) 1 1] 51 (0, 0)) := ⟨_, rfl⟩
  have HB1 : Hid (Below w.heap.size w w1) := by
    show Below _ _ _
    rw [hw1]
    exact (((Below.refl _ _).alloc (Nat.le_refl _) _).alloc (by rw [size_alloc]; omega) _).alloc (by rw [size_alloc, size_alloc]; omega) _
  have hb01 := (Below.refl (w.alloc (.cells #[.string key] 9 (0, 0))).heap.size (w.alloc (.cells #[.string key] 9 (0, 0)))).alloc (Nat.le_refl _) (.cells #[.string val] 9 (0, 0))
  have hb12 := (Below.refl ((w.alloc (.cells #[.string key] 9 (0, 0))).alloc (.cells #[.string val] 9 (0, 0))).heap.size ((w.alloc (.cells #[.string key] 9 (0, 0))).alloc (.cells #[.string val] 9 (0, 0)))).alloc (Nat.le_refl _) (.cells #[.bool true, .slice (some ⟨w.heap.size, 0, none⟩) 1 1, .slice (some ⟨w.heap.size + 1, 0, none⟩) 1 1] 51 (0, 0))
  have HNI : Hid (NodeIn w1 (some ⟨w.heap.size, 0, none⟩) (some ⟨w.heap.size + 1, 0, none⟩) ⟨true, [key], [val]⟩) := by
    refine ⟨?_, ?_, by show 1 ≤ _; decide, by show 1 ≤ _; decide⟩
    · rw [hw1]; exact ((one_row w key).keep hb01).keep hb12
    · have h := one_row (w.alloc (.cells #[.string key] 9 (0, 0))) val
      rw [size_alloc w] at h
      rw [hw1]
      exact h.keep hb12
  have BE : Hid (Box w1 (w.heap.size + 1 + 1) 51 #[.bool true, .slice (some ⟨w.heap.size, 0, none⟩) 1 1, .slice (some ⟨w.heap.size + 1, 0, none⟩) 1 1]) := by show Box _ _ _ _; rw [hw1]; exact box_third _ _ _ _ _
  have HK1 := Lib.hid (HF.out.keep HB1.out)
  have HD := fun W (hb : Below w.heap.size w W) => down_any kb F S root key W (HF.out.keep hb) hr hk
  obtain ⟨R, hR⟩ : ∃ R, R = putT S root key val := ⟨_, rfl⟩
  obtain ⟨PS, hPS⟩ : ∃ PS, PS = UpTo kb F R w := ⟨_, rfl⟩
  rw [← hR, ← hPS]
  have HPS := Lib.hid hPS
  have HE1 := Lib.hid (fun h => hR.trans (putT_arg (S := S) (root := root) h))
  have HE2 := Lib.hid (fun h0 h => hR.trans (putT_err (S := S) (root := root) (key := key) (val := val) h0 h))
  have HE3 := Lib.hid (fun h0 h => hR.trans (putT_ok (S := S) (root := root) (key := key) (val := val) h0 h))
  obtain ⟨Q, hQ⟩ : ∃ Q, Q = downT S root key := ⟨_, rfl⟩
  rw [← hQ] at HD HG HE2 HE3
  have HD := Lib.hid HD
  have hw2 := hw1.symm
  have b0 : w1.cell? ⟨w.heap.size + 1 + 1, 0, none⟩ = some (.bool true) := BE.out.cell 0 _ rfl
  have b1 : w1.cell? ⟨w.heap.size + 1 + 1, 1, none⟩ = some (.slice (some ⟨w.heap.size, 0, none⟩) 1 1) := BE.out.cell 1 _ rfl
  have b2 : w1.cell? ⟨w.heap.size + 1 + 1, 2, none⟩ = some (.slice (some ⟨w.heap.size + 1, 0, none⟩) 1 1) := BE.out.cell 2 _ rfl
  have HNV : Hid (Value.agg #[.bool true, .slice (some ⟨w.heap.size, 0, none⟩) 1 1, .slice (some ⟨w.heap.size + 1, 0, none⟩) 1 1] = nodeV (some ⟨w.heap.size, 0, none⟩) 1 (some ⟨w.heap.size + 1, 0, none⟩) 1 ⟨true, [key], [val]⟩) := rfl
  clear h hr hk hv hR hQ hPS hw1 hb01 hb12
  go_enter Try.func18, Try.ntmps18
  go_wp2_with fail
  rw [HNV.out]
  refine (check_any _ _ _ _ _ _ HNI.out (by intro s hs; simp at hs; rcases hs with rfl | rfl; exact HKZ.out; exact HVZ.out)).mono ?_
  rintro e w3 ⟨rfl, hb⟩
  have HB3 := Lib.hid (HB1.out.trans (hb.mono HB1.out.size))
  clear hb b0 b1 b2 hw2 BE
  by_cases hc : chkN ⟨true, [key], [val]⟩ = 0
  · rw [hc]
    have HE2 := Lib.hid (HE2.out hc)
    have HE3 := Lib.hid (HE3.out hc)
    clear hc
    go_wp2_with fail
    refine (HD.out _ HB3.out).mono ?_
    rintro e w4 ⟨sv, nv, rfl, hs, hn, hb⟩
    obtain ⟨x, rfl, hx⟩ := hn.ndz
    unfold NdV.val
    obtain ⟨w5, hw5⟩ : ∃ w5, w5 = w4.alloc (.cells #[.bool x.leaf, .slice x.ka x.kn x.kc, .slice x.va x.vn x.vc] 51 (0, 0)) := ⟨_, rfl⟩
    have hb2 : Below w4.heap.size w4 w5 := by rw [hw5]; exact (Below.refl _ _).alloc (Nat.le_refl _) _
    have BN : Hid (Box w5 w4.heap.size 51 #[.bool x.leaf, .slice x.ka x.kn x.kc, .slice x.va x.vn x.vc]) := by show Box _ _ _ _; rw [hw5]; exact Box.new _ _ _
    have HX := Lib.hid (hx.keep hb2)
    have HS := Lib.hid ((hs.mono (Z' := (· ∉ F)) (fun k _ hk hm => by have := HFL.out k hm; have := HB3.out.size; omega)).keep hb2)
    have HB := Lib.hid (HB3.out.trans ((hb.trans (hb2.mono hb.size)).mono HB3.out.size))
    have HAG : Hid (Value.agg #[.bool x.leaf, .slice x.ka x.kn x.kc, .slice x.va x.vn x.vc] = nodeV x.ka x.kc x.va x.vc Q.2.1) := hx.agg
    have HSM : Hid (SmN 255 Q.2.1) := HG.out.2.1.sm (by decide)
    have b0 : w5.cell? ⟨w4.heap.size, 0, none⟩ = some (.bool x.leaf) := BN.out.cell 0 _ rfl
    have b1 : w5.cell? ⟨w4.heap.size, 1, none⟩ = some (.slice x.ka x.kn x.kc) := BN.out.cell 1 _ rfl
    have b2 : w5.cell? ⟨w4.heap.size, 2, none⟩ = some (.slice x.va x.vn x.vc) := BN.out.cell 2 _ rfl
    have hw6 := hw5.symm
    clear hs hn hb hb2 hx hw5 HD
    by_cases he : Q.2.2 = 0
    · rw [he]
      have HRE := Lib.hid (HE3.out he)
      clear he
      go_wp2_with fail
      rw [HAG.out]
      refine (with_any x.ka x.kc x.va x.vc Q.2.1 key val _ (HX.out.nodeIn (by have := HSM.out.kl; omega) (by have := HSM.out.vl; omega)) HSM.out.max HKZ.out HVZ.out).mono ?_
      rintro e w7 ⟨nv, rfl, hn, hb⟩
      obtain ⟨y, rfl, hy⟩ := hn.ndz
      have HB5 := Lib.hid (HB.out.trans (hb.mono HB.out.size))
      have HY := Lib.hid (hy.mono (Z' := (· ∉ F)) (fun k _ hk hm => by have := HFL.out k hm; have := HB.out.size; have hk2 : w5.heap.size ≤ k := hk; omega))
      have HS5 := Lib.hid (HS.out.keep hb)
      have HK5 := Lib.hid (HF.out.keep HB5.out)
      clear hn hb hy b0 b1 b2 hw6
      go_wp2_with fail
      refine (up_any kb F S sv Q.1 y (withD Q.2.1 key val) _ HK5.out HS5.out HY.out (HG.out.2.1.with (by decide)) HG.out.1 HG.out.2.2).mono ?_
      rintro e w6 ⟨rfl, ht⟩
      rw [← HRE.out] at ht ⊢
      have HT := Lib.hid (ht.pre HB5.out)
      clear ht
      go_wp2
      rw [HPS.out]
      exact ⟨rfl, HT.out⟩
    · have HRE := Lib.hid (HE2.out he)
      have e1 : (Q.2.2 != 0) = true := by simpa using he
      clear he
      generalize Q.2.2 = c at *
      go_wp2
      rw [HPS.out, HRE.out]
      exact ⟨rfl, Tod.same (fixed_kp kb S) HF.out HB.out⟩
  · have HRE := Lib.hid (HE1.out hc)
    have e1 : (chkN ⟨true, [key], [val]⟩ != 0) = true := by simpa using hc
    clear hc
    generalize chkN ⟨true, [key], [val]⟩ = c at *
    go_wp2
    rw [HPS.out, HRE.out]
    exact ⟨rfl, Tod.same (fixed_kp kb S) HF.out HB3.out⟩
end Go.Proofs.Ytbeldjijnjgbfaa

namespace Go.Proofs.Ytbeldjijnjgbfaa
open Go Go.RowKit Go.ChangeShapes Go.WideShapes Go.ChangeAt

def restP (d : NodeD) (fr : ByteArray) (j : Nat) : List Ent := if d.leaf = true then ((d.keys.zip d.vals).drop j).filter (fun x => !ltK x.1 fr) else []
theorem rest_0 (d : NodeD) (fr : ByteArray) : restP d fr 0 = pairsN d fr := by unfold restP pairsN; rw [List.drop_zero]
theorem rest_no {d : NodeD} {fr : ByteArray} {j : Nat} (h1 : j < d.keys.length) (h2 : j < d.vals.length) (h : d.leaf = false ∨ ltK d.keys[j] fr = true) : restP d fr j = restP d fr (j + 1) := by
  unfold restP
  by_cases hl : d.leaf = true
  · rw [if_pos hl, if_pos hl]
    have hk : ltK d.keys[j] fr = true := by rcases h with h | h; rw [hl] at h; cases h; exact h
    rw [List.drop_eq_getElem_cons (by rw [List.length_zip]; omega), List.filter_cons_of_neg]
    rw [List.getElem_zip]
    simp [hk]
  · rw [if_neg hl, if_neg hl]
theorem rest_yes {d : NodeD} {fr : ByteArray} {j : Nat} (h1 : j < d.keys.length) (h2 : j < d.vals.length) (hl : d.leaf = true) (hk : ltK d.keys[j] fr = false) : restP d fr j = (d.keys[j], d.vals[j]) :: restP d fr (j + 1) := by
  unfold restP
  rw [if_pos hl, if_pos hl]
  rw [List.drop_eq_getElem_cons (by rw [List.length_zip]; omega), List.filter_cons_of_pos]
  · rw [List.getElem_zip]
  · rw [List.getElem_zip]
    simp [hk]
theorem rest_end {d : NodeD} {fr : ByteArray} {j : Nat} (h : d.keys.length ≤ j) : restP d fr j = [] := by
  unfold restP
  split
  · rw [List.drop_of_length_le (by rw [List.length_zip]; omega)]; rfl
  · rfl
set_option maxRecDepth 100000 in
set_option maxHeartbeats 4000000 in
theorem pairs_any (Z : Nat → Prop) (x : NdV) (d : NodeD) (fr : ByteArray) (w : World) (h : NdZ Z w x d) (hd : GdN 250 d) (_hf : fr.size ≤ maxLen) :
    Calls Try.prog 29 #[x.val, .string fr] w fun e w' => ∃ v, e = .returned v ∧ PrZ (w.heap.size ≤ ·) w' v (pairsN d fr) ∧ Below w.heap.size w w' := by
  obtain ⟨lf, ka, kn, kc, va, vn, vc⟩ := x
  have hkn : kn = d.keys.length := h.kn
  have hvn : vn = d.vals.length := h.vn
  subst hkn hvn
  have HLF : Hid (lf = d.leaf) := h.leaf
  have HX := Lib.hid (h.mono (Z' := (· < w.heap.size)) (fun k hk _ => hk))
  have HS : Hid (SmN 255 d) := hd.sm (by decide)
  have HLL := Lib.hid hd.len.2
  have hkl := HS.out.kl
  obtain ⟨R, hR⟩ : ∃ R, R = pairsN d fr := ⟨_, rfl⟩
  obtain ⟨PS, hPS⟩ : ∃ PS : Ending → World → Prop, PS = fun e w' => ∃ v, e = .returned v ∧ PrZ (w.heap.size ≤ ·) w' v R ∧ Below w.heap.size w w' := ⟨_, rfl⟩
  rw [← hR]
  have hgoal : Calls Try.prog 29 #[(NdV.val ⟨lf, ka, d.keys.length, kc, va, d.vals.length, vc⟩), .string fr] w PS := by
    have HPS := Lib.hid hPS
    have HR : Hid (R = [] ++ restP d fr 0) := by show _ = _; rw [List.nil_append, rest_0]; exact hR
    obtain ⟨W0, hW0⟩ : ∃ W0, W0 = w.alloc (.cells #[.bool lf, .slice ka d.keys.length kc, .slice va d.vals.length vc] 51 (0, 0)) := ⟨_, rfl⟩
    have hb : Below w.heap.size w W0 := by rw [hW0]; exact (Below.refl _ _).alloc (Nat.le_refl _) _
    have BN : Hid (Box W0 w.heap.size 51 #[.bool lf, .slice ka d.keys.length kc, .slice va d.vals.length vc]) := by show Box _ _ _ _; rw [hW0]; exact Box.new _ _ _
    have HX0 := Lib.hid (HX.out.keep hb)
    have HB0 := Lib.hid hb
    have hw1 := hW0.symm
    have b1 : W0.cell? ⟨w.heap.size, 1, none⟩ = some (.slice ka d.keys.length kc) := BN.out.cell 1 _ rfl
    clear h hd hR hPS hW0 hb
    unfold NdV.val
    go_enter Try.func29, Try.ntmps29
    go_wp2_with fail
    go_loopw [5, 11] (fun lv iv wr => ∃ (j : Nat) (acc : List Ent), j ≤ d.keys.length ∧ acc.length ≤ j ∧ iv = .int .i64 j ∧ Hid (R = acc ++ restP d fr j) ∧ Hid (Rw kPr wr (w.heap.size + 1) lv acc) ∧ Hid (Box wr w.heap.size 51 #[.bool lf, .slice ka d.keys.length kc, .slice va d.vals.length vc]) ∧ Hid (NdZ (· < w.heap.size) wr ⟨lf, ka, d.keys.length, kc, va, d.vals.length, vc⟩ d) ∧ Hid (Below w.heap.size w wr)) (fun _ iv _ => d.keys.length - (RowKit.intOf iv).toNat)
    case atStart => exact ⟨0, [], Nat.zero_le _, Nat.le_refl _, rfl, HR, Rw.nil _ _, BN, HX0, HB0⟩
    case round =>
      clear HR HX0 HB0 BN hw1 b1
      obtain ⟨j, acc, hj, hal, rfl, HR, HP, BN, HX, HB⟩ := hrel
      obtain ⟨la, lc, rfl, _, _⟩ := HP.out.form
      by_cases hlt : j < d.keys.length
      · have h2v : j < d.vals.length := by have := HLL.out; omega
        obtain ⟨ka2, kc2, hke, hks⟩ := ks_form2 HX.out.kr
        unfold NdV.k at hke
        injection hke with hka x1 x2
        clear x1 x2
        rw [← hka] at hks
        obtain ⟨gk, ok, hkx, _, hkc⟩ := hks.get j hlt
        obtain ⟨va2, vc2, hve, hvs⟩ := ks_form2 HX.out.vr
        unfold NdV.v at hve
        injection hve with hva x1 x2
        clear x1 x2
        rw [← hva] at hvs
        obtain ⟨gv, ov, hvx, _, hvc⟩ := hvs.get j h2v
        clear hka hks hva hvs
        have hkx : ka = some ⟨gk, ok, none⟩ := hkx
        have hvx : va = some ⟨gv, ov, none⟩ := hvx
        subst hkx hvx
        have c0 : wr.cell? ⟨w.heap.size, 0, none⟩ = some (.bool lf) := BN.out.cell 0 _ rfl
        have c2 : wr.cell? ⟨w.heap.size, 2, none⟩ = some (.slice (some ⟨gv, ov, none⟩) d.vals.length vc) := BN.out.cell 2 _ rfl
        have hge := fun W => str_geq d.keys[j] fr W
        have h1i : (j : Int) < (d.keys.length : Int) := by omega
        have h2i : (j : Int) < (d.vals.length : Int) := by omega
        have h0j : (0 : Int) ≤ (j : Int) := by omega
        have HNO := Lib.hid (fun h => HR.out.trans (by rw [rest_no (d := d) (fr := fr) hlt h2v h]))
        have HYES := Lib.hid (fun h1 h2 => HR.out.trans (by rw [rest_yes (d := d) (fr := fr) hlt h2v h1 h2]))
        generalize d.keys[j] = kk at *
        generalize d.vals[j] = vv at *
        have HJ := Lib.hid hj
        by_cases hyes : d.leaf = true ∧ ltK kk fr = false
        · have hlf : lf = true := HLF.out.trans hyes.1
          have hq : ∀ W, (binOp .geq 9 (.string kk) (.string fr)).run Try.prog W = .ok (.bool true) W := fun W => by rw [hge W, hyes.2]; rfl
          have HRN : Hid (R = (acc ++ [(kk, vv)]) ++ restP d fr (j + 1)) := by
            show _ = _
            rw [HYES.out hyes.1 hyes.2]; simp
          subst hlf
          clear hge hyes HNO HYES HR
          obtain ⟨W3, hW3⟩ : ∃ W3, W3 = wr.alloc (.cells #[.string kk, .string vv] 56 (0, 0)) := ⟨_, rfl⟩
          have BX : Hid (Box W3 wr.heap.size 56 #[.string kk, .string vv]) := by show Box _ _ _ _; rw [hW3]; exact Box.new _ _ _
          have hb3 : Below wr.heap.size wr W3 := by rw [hW3]; exact (Below.refl _ _).alloc (Nat.le_refl _) _
          have HW3 := Lib.hid hW3.symm
          have HP3 := Lib.hid (HP.out.keep hb3)
          have BN3 := Lib.hid (BN.out.keep hb3 BN.out.lt)
          have HX3 := Lib.hid (HX.out.keep hb3)
          have HB3 := Lib.hid (HB.out.trans (hb3.mono HB.out.size))
          have HSZ : Hid (w.heap.size + 1 ≤ W3.heap.size) := BN3.out.lt
          clear hW3 hb3
          go_wp2_with (at_builtin; refine wp_rw_push kPr_ok Try.underlying38 _ rfl _ _ rfl (w.heap.size + 1) _ acc rfl (by rw [HW3.out]; exact HP3.out) wr.heap.size 1 (kk, vv) rfl ?c1 (by omega) (by rw [HW3.out]; exact HSZ.out) ?_)
          case c1 =>
            intro j2 u hj2
            try rw [HW3.out]
            first | exact hj2 | exact BX.out.cell j2 u (by rw [← hj2]; show #[Value.string kk, Value.string vv][j2]? = [Value.string kk, Value.string vv][j2]?; simp)
          intro v' W4 hk4 hg4 ho4
          rw [HW3.out] at hg4
          have hlb : ∀ k, k ∈ (Value.slice la acc.length lc).ownBlock.toList → w.heap.size + 1 ≤ k := fun k hk => HP3.out.own_block k (by simpa using hk)
          have hc4 : Chg (Value.slice la acc.length lc).ownBlock.toList W3 W4 := Chg.grown hg4 (fun k hk => by simp [hk])
          have BN4 := Lib.hid (BN3.out.of (hc4.block _ BN3.out.lt (fun hm => by have := hlb _ hm; omega)))
          have HX4 := Lib.hid (HX3.out.chg hc4 (fun k hk hm => by have := hlb k hm; omega))
          have HB4 := Lib.hid (HB3.out.trans (hc4.below HB3.out.size (fun k hk => by have := hlb k hk; omega)))
          have HP4 := Lib.hid hk4
          have hal4 : (acc ++ [(kk, vv)]).length ≤ j + 1 := by simp; exact hal
          obtain ⟨la4, lc4, rfl, _, _⟩ := HP4.out.form
          clear hk4 hg4 ho4 hlb hc4 HP HP3 BN3 HX3 HB3 BX BN HX HB c0 c2
          go_wp2
          go_roundw
          case rel => exact ⟨j + 1, _, by omega, hal4, by go_num, HRN, HP4, BN4, HX4, HB4⟩
          case measure => simp [RowKit.intOf]; omega
        · have hno : d.leaf = false ∨ ltK kk fr = true := by
            cases hl : d.leaf
            · exact .inl rfl
            · cases hk : ltK kk fr
              · exact absurd ⟨hl, hk⟩ hyes
              · exact .inr rfl
          have HRN := Lib.hid (HNO.out hno)
          clear hyes HNO HYES HR
          cases lf
          · clear hno hge
            go_wp2
            go_roundw
            case rel => exact ⟨j + 1, acc, by omega, by omega, by go_num, HRN, HP, BN, HX, HB⟩
            case measure => simp [RowKit.intOf]; omega
          · have hk : ltK kk fr = true := by
              rcases hno with h | h
              · rw [← HLF.out] at h; cases h
              · exact h
            have hq : ∀ W, (binOp .geq 9 (.string kk) (.string fr)).run Try.prog W = .ok (.bool false) W := fun W => by rw [hge W, hk]; rfl
            clear hno hge hk
            go_wp2
            go_roundw
            case rel => exact ⟨j + 1, acc, by omega, by omega, by go_num, HRN, HP, BN, HX, HB⟩
            case measure => simp [RowKit.intOf]; omega
      · have hjl : j = d.keys.length := by omega
        have HRE : Hid (R = acc) := by show _ = _; rw [HR.out, rest_end (by omega), List.append_nil]
        subst hjl
        go_wp2
        rw [HPS.out, HRE.out]
        exact ⟨_, rfl, ⟨HP.out.low (Nat.zero_le _), fun k hk => by have := HP.out.own_block k hk; omega⟩, HB.out⟩
  rw [hPS] at hgoal
  exact hgoal
end Go.Proofs.Ytbeldjijnjgbfaa
