/-
  Texts put together: TcQ, TcR.
-/
import Derived.Test.YtbeldjijnjgbfaaMg29
namespace Go.Proofs.Ytbeldjijnjgbfaa
open Go Go.RowKit Go.ChangeShapes Go.WideShapes Go.ChangeAt

/-- What a change tells, and what became of the store. -/
def UpTo (kb : Nat) (F : List Nat) (R : (ByteArray × Int) × StD) (w : World) (e : Ending) (w' : World) : Prop := e = .returned (.tuple #[.string R.1.1, .int .i64 R.1.2]) ∧ Tod (KpF kb R.2) F w w'
set_option maxRecDepth 100000 in
set_option maxHeartbeats 8000000 in
theorem up_any (kb : Nat) (F : List Nat) (S : StD) (sv : Value) (l : List StepD) (x : NdV) (n : NodeD) (w : World) (h : KpF kb S F w) (hs : StZ (· ∉ F) w sv l) (hx : NdZ (· ∉ F) w x n) (hn : GdN 240 n) (hl : ∀ s ∈ l, GdN 239 s.1 ∧ 0 < s.1.keys.length ∧ s.2 < s.1.keys.length) (hll : l.length ≤ 21) :
    Calls Try.prog 30 #[kpV kb, sv, x.val] w (UpTo kb F (upN S l n) w) := by
  have HF := Lib.hid h
  have HX := Lib.hid hx
  have HS := Lib.hid hs
  have HLG := Lib.hid hl
  obtain ⟨R, hR⟩ : ∃ R, R = upN S l n := ⟨_, rfl⟩
  obtain ⟨PS, hPS⟩ : ∃ PS, PS = UpTo kb F R w := ⟨_, rfl⟩
  rw [← hR, ← hPS]
  have HPS := Lib.hid hPS
  obtain ⟨H, hH⟩ : ∃ H, H = l.length + 1 := ⟨_, rfl⟩
  have HH : Hid (H ≤ 1000) := by show H ≤ 1000; omega
  have HR : Hid (R = upR l.reverse S n H) := by show _ = _; rw [hR, hH]; rfl
  have HG : Hid (GdN 241 n) := hn.mono (by decide)
  obtain ⟨W0, hW0⟩ : ∃ W0, W0 = w.alloc (.cells #[.bool x.leaf, .slice x.ka x.kn x.kc, .slice x.va x.vn x.vc] 51 (0, 0)) := ⟨_, rfl⟩
  have hb : Below w.heap.size w W0 := by rw [hW0]; exact (Below.refl _ _).alloc (Nat.le_refl _) _
  have BN : Hid (Box W0 w.heap.size 51 #[.bool x.leaf, .slice x.ka x.kn x.kc, .slice x.va x.vn x.vc]) := by show Box _ _ _ _; rw [hW0]; exact Box.new _ _ _
  have HFL : Hid (∀ k ∈ F, k < w.heap.size) := (fixed_kp kb S).lt _ _ h
  have HK0 := Lib.hid (HF.out.keep hb)
  have HC0 : Hid (Chg F w W0) := Chg.of hb (Nat.le_refl _)
  have HX0 := Lib.hid ((HX.out.mono (Z' := fun k => k ∉ F ∧ k ≠ w.heap.size) (fun k hk hz => ⟨hz, by omega⟩)).keep hb)
  have HS0 := Lib.hid ((HS.out.mono (Z' := fun k => k ∉ F ∧ k < w.heap.size) (fun k hk hz => ⟨hz, hk⟩)).keep hb)
  have HNF : Hid (w.heap.size ∉ F) := fun hm => by have := HFL.out _ hm; omega
  have hw1 := hW0.symm
  obtain ⟨sa, sc, rfl, hsc, hsm⟩ := hs.form
  have hl0 := hll
  clear h hx hs hn hl hR hPS hW0 hb HF HX HS
  unfold NdV.val
  go_enter Try.func30, Try.ntmps30
  go_wp2_with fail
  have HHI : Hid ((H : Int) = (l.length : Int) + 1) := by show _ = _; omega
  clear hH
  go_loopw [1] (fun av wr => ∃ (l1 : List StepD) (n1 : NodeD) (y : NdV) (S1 : StD) (F1 : List Nat) (a1 : Option Addr), av = .slice a1 l1.length sc ∧ l1.length ≤ 21 ∧ l1.length ≤ sc ∧ Hid (∀ s ∈ l1, GdN 239 s.1 ∧ 0 < s.1.keys.length ∧ s.2 < s.1.keys.length) ∧ Hid (R = upR l1.reverse S1 n1 H) ∧ Hid (GdN 241 n1) ∧ Hid (KpF kb S1 F1 wr) ∧ Hid (Chg F w wr) ∧ Hid (∀ k ∈ F1, k ∈ F ∨ w.heap.size ≤ k) ∧ Hid (Box wr w.heap.size 51 #[.bool y.leaf, .slice y.ka y.kn y.kc, .slice y.va y.vn y.vc]) ∧ Hid (NdZ (fun k => k ∉ F1 ∧ k ≠ w.heap.size) wr y n1) ∧ Hid (StZ (fun k => k ∉ F1 ∧ k < w.heap.size) wr (.slice a1 l1.length sc) l1) ∧ Hid (w.heap.size ∉ F1)) (fun av _ => lenV av)
  case atStart => exact ⟨l, n, x, S, F, sa, rfl, hl0, hsc, HLG, HR, HG, HK0, HC0, fun k hk => .inl hk, BN, HX0, HS0, HNF⟩
  case round =>
    clear HLG HR HG HK0 HC0 BN HX0 HS0 HNF hw1 hll hl0 hsc
    obtain ⟨l1, n1, y, S1, F1, a1, rfl, hl1, hsc1, HL, HR, HG, HK, HC, HN, BN, HY, HS, HNF⟩ := hrel
    have HYV : Hid (Value.agg #[.bool y.leaf, .slice y.ka y.kn y.kc, .slice y.va y.vn y.vc] = y.val) := rfl
    have b0 : wr.cell? ⟨w.heap.size, 0, none⟩ = some (.bool y.leaf) := BN.out.cell 0 _ rfl
    have b1 : wr.cell? ⟨w.heap.size, 1, none⟩ = some (.slice y.ka y.kn y.kc) := BN.out.cell 1 _ rfl
    have b2 : wr.cell? ⟨w.heap.size, 2, none⟩ = some (.slice y.va y.vn y.vc) := BN.out.cell 2 _ rfl
    have hlc : l1 = [] ∨ ∃ l0 s, l1 = l0 ++ [s] := by
      rcases List.eq_nil_or_concat l1 with h | ⟨l0, s, h⟩
      · exact .inl h
      · exact .inr ⟨l0, s, by rw [h, List.concat_eq_append]⟩
    rcases hlc with rfl | ⟨l0, s, rfl⟩
    · rw [List.reverse_nil] at HR
      by_cases hone : n1.leaf = false ∧ n1.keys.length = 1
      · have HRE : Hid (R = ((n1.vals.headD noT, 0), S1)) := HR.out.trans (upr_one hone)
        have hlf : y.leaf = false := HY.out.leaf.trans hone.1
        have hkn : y.kn = 1 := HY.out.kn.trans hone.2
        have hvl : n1.vals.length = 1 := by rw [← HG.out.len.2]; exact hone.2
        have hvn : y.vn = 1 := HY.out.vn.trans hvl
        obtain ⟨va, vc, hve, hvs⟩ := ks_form2 HY.out.vr
        unfold NdV.v at hve
        injection hve with hva x1 x2
        clear x1 x2
        rw [← hva] at hvs
        obtain ⟨gv, ov, hvx, _, hvc⟩ := hvs.get 0 (by omega)
        have hhd : n1.vals.headD noT = n1.vals[0] := by
          rw [List.headD_eq_head?_getD, List.head?_eq_getElem?, List.getElem?_eq_getElem (by omega)]; rfl
        rw [hhd] at HRE
        rw [Nat.add_zero] at hvc
        generalize n1.vals[0] = rv at *
        rw [hlf] at b0
        rw [hkn] at b1
        rw [hvx, hvn] at b2
        clear hone hlf hkn hvl hvn hva hvs hvx hhd
        go_wp2
        rw [HPS.out, HRE.out]
        exact ⟨rfl, F1, HK.out, HC.out, HN.out⟩
      · cases hlf : y.leaf
        · have h1 : ((y.kn : Int) == 1) = false := by
            rw [beq_eq_false_iff_ne]
            intro e
            exact hone ⟨by rw [← HY.out.leaf]; exact hlf, by rw [← HY.out.kn]; omega⟩
          rw [hlf] at b0 HYV BN
          clear hlf
          go_wp2_with fail
          rw [HYV.out]
          refine (keep_any kb F1 S1 y n1 _ HK.out (HY.out.mono (fun k _ hk => hk.1)) (HG.out.mono (by decide))).mono ?_
          rintro e W2 ⟨kv, F2, rfl, hk2, hc2, hn2, hp2⟩
          have HK2 := Lib.hid hk2
          have HC2 : Hid (Chg F w W2) := HC.out.then hc2 (fun i hi => HN.out i hi)
          have HN2 : Hid (∀ k ∈ F2, k ∈ F ∨ w.heap.size ≤ k) := fun k hk => by
            rcases hn2 k hk with h | h
            · exact HN.out k h
            · exact .inr (Nat.le_trans HC.out.size h)
          have BN2 := Lib.hid (BN.out.of (hc2.block _ BN.out.lt HNF.out))
          have HS2 := Lib.hid (HS.out.tod2 hc2 hn2)
          have HNF2 : Hid (w.heap.size ∉ F2) := fun hm => by
            rcases hn2 _ hm with h | h
            · exact HNF.out h
            · have := BN.out.lt; omega
          have HP2 := Lib.hid hp2
          have HSM := Lib.hid (keepn_sm S1 HG.out (by decide))
          have HWZ : Hid (w.heap.size ≤ wr.heap.size ∧ wr.heap.size ≤ W2.heap.size) := ⟨HC.out.size, hc2.size⟩
          clear hk2 hc2 hn2 hp2 HK HC HN BN HS HNF HY b0 b1 b2
          by_cases hke : (keepN S1 n1).1.2 = 0
          · rw [hke]
            have HRE : Hid (R = topN (keepN S1 n1).2 (keepN S1 n1).1.1 H) := HR.out.trans (upr_top hone hke)
            clear hke
            go_wp2_with fail
            have htop := top_any kb F2 (keepN S1 n1).2 kv (keepN S1 n1).1.1 H W2 HK2.out HP2.out HSM.out.2 HSM.out.1 HH.out
            rw [HHI.out] at htop
            refine htop.mono ?_
            clear htop
            rintro e W3 ⟨rfl, F3, k3, c3, n3⟩
            rw [← HRE.out] at k3 ⊢
            have HT : Hid (Tod (KpF kb R.2) F w W3) := ⟨F3, k3, HC2.out.then c3 (fun i hi => HN2.out i hi), fun k hk => by
              rcases n3 k hk with h | h
              · exact HN2.out k h
              · exact .inr (Nat.le_trans HC2.out.size h)⟩
            clear k3 c3 n3
            go_wp2
            rw [HPS.out]
            exact ⟨rfl, HT.out⟩
          · have HRE : Hid (R = ((noT, (keepN S1 n1).1.2), (keepN S1 n1).2)) := HR.out.trans (upr_bad hone hke)
            have e1 : ((keepN S1 n1).1.2 != 0) = true := by simpa using hke
            clear hke
            generalize (keepN S1 n1).1.2 = ce at *
            go_wp2
            rw [HPS.out, HRE.out]
            exact ⟨rfl, F2, HK2.out, HC2.out, HN2.out⟩
        · rw [hlf] at b0 HYV BN
          clear hlf
          go_wp2_with fail
          rw [HYV.out]
          refine (keep_any kb F1 S1 y n1 _ HK.out (HY.out.mono (fun k _ hk => hk.1)) (HG.out.mono (by decide))).mono ?_
          rintro e W2 ⟨kv, F2, rfl, hk2, hc2, hn2, hp2⟩
          have HK2 := Lib.hid hk2
          have HC2 : Hid (Chg F w W2) := HC.out.then hc2 (fun i hi => HN.out i hi)
          have HN2 : Hid (∀ k ∈ F2, k ∈ F ∨ w.heap.size ≤ k) := fun k hk => by
            rcases hn2 k hk with h | h
            · exact HN.out k h
            · exact .inr (Nat.le_trans HC.out.size h)
          have BN2 := Lib.hid (BN.out.of (hc2.block _ BN.out.lt HNF.out))
          have HS2 := Lib.hid (HS.out.tod2 hc2 hn2)
          have HNF2 : Hid (w.heap.size ∉ F2) := fun hm => by
            rcases hn2 _ hm with h | h
            · exact HNF.out h
            · have := BN.out.lt; omega
          have HP2 := Lib.hid hp2
          have HSM := Lib.hid (keepn_sm S1 HG.out (by decide))
          have HWZ : Hid (w.heap.size ≤ wr.heap.size ∧ wr.heap.size ≤ W2.heap.size) := ⟨HC.out.size, hc2.size⟩
          clear hk2 hc2 hn2 hp2 HK HC HN BN HS HNF HY b0 b1 b2
          by_cases hke : (keepN S1 n1).1.2 = 0
          · rw [hke]
            have HRE : Hid (R = topN (keepN S1 n1).2 (keepN S1 n1).1.1 H) := HR.out.trans (upr_top hone hke)
            clear hke
            go_wp2_with fail
            have htop := top_any kb F2 (keepN S1 n1).2 kv (keepN S1 n1).1.1 H W2 HK2.out HP2.out HSM.out.2 HSM.out.1 HH.out
            rw [HHI.out] at htop
            refine htop.mono ?_
            clear htop
            rintro e W3 ⟨rfl, F3, k3, c3, n3⟩
            rw [← HRE.out] at k3 ⊢
            have HT : Hid (Tod (KpF kb R.2) F w W3) := ⟨F3, k3, HC2.out.then c3 (fun i hi => HN2.out i hi), fun k hk => by
              rcases n3 k hk with h | h
              · exact HN2.out k h
              · exact .inr (Nat.le_trans HC2.out.size h)⟩
            clear k3 c3 n3
            go_wp2
            rw [HPS.out]
            exact ⟨rfl, HT.out⟩
          · have HRE : Hid (R = ((noT, (keepN S1 n1).1.2), (keepN S1 n1).2)) := HR.out.trans (upr_bad hone hke)
            have e1 : ((keepN S1 n1).1.2 != 0) = true := by simpa using hke
            clear hke
            generalize (keepN S1 n1).1.2 = ce at *
            go_wp2
            rw [HPS.out, HRE.out]
            exact ⟨rfl, F2, HK2.out, HC2.out, HN2.out⟩
    · rw [List.reverse_append, List.reverse_singleton, List.singleton_append] at HR
      have hll : (l0 ++ [s]).length = l0.length + 1 := by simp
      rw [hll] at hl1 hsc1 ⊢
      go_wp2_with fail
      rw [HYV.out]
      refine (keep_any kb F1 S1 y n1 _ HK.out (HY.out.mono (fun k _ hk => hk.1)) (HG.out.mono (by decide))).mono ?_
      rintro e W2 ⟨kv, F2, rfl, hk2, hc2, hn2, hp2⟩
      have HK2 := Lib.hid hk2
      have HC2 : Hid (Chg F w W2) := HC.out.then hc2 (fun i hi => HN.out i hi)
      have HN2 : Hid (∀ k ∈ F2, k ∈ F ∨ w.heap.size ≤ k) := fun k hk => by
        rcases hn2 k hk with h | h
        · exact HN.out k h
        · exact .inr (Nat.le_trans HC.out.size h)
      have BN2 := Lib.hid (BN.out.of (hc2.block _ BN.out.lt HNF.out))
      have HS2 := Lib.hid (HS.out.tod2 hc2 hn2)
      have HNF2 : Hid (w.heap.size ∉ F2) := fun hm => by
        rcases hn2 _ hm with h | h
        · exact HNF.out h
        · have := BN.out.lt; omega
      have HP2 := Lib.hid hp2
      have HSM := Lib.hid (keepn_sm S1 HG.out (by decide))
      have HWZ : Hid (w.heap.size ≤ wr.heap.size ∧ wr.heap.size ≤ W2.heap.size) := ⟨HC.out.size, hc2.size⟩
      clear hk2 hc2 hn2 hp2 HK HC HN BN HS HNF HY b0 b1 b2
      by_cases hke : (keepN S1 n1).1.2 = 0
      · rw [hke]
        have HRE : Hid (R = upR l0.reverse (keepN S1 n1).2 (swapN s.1 s.2 (keepN S1 n1).1.1) H) := HR.out.trans (upr_go hke)
        clear hke
        obtain ⟨z, g, rfl, hz, z0, z1, z2, z3⟩ := HS2.out.at l0.length (by simp)
        have hgs : (l0 ++ [s])[l0.length]'(by simp) = s := by simp
        rw [hgs] at hz z3
        have hst := StZ.take HS2.out l0.length (by simp)
        rw [List.take_left] at hst
        have HST := Lib.hid hst
        have HLS := HL.out s (by simp)
        have HSWG : Hid (GdN 241 (swapN s.1 s.2 (keepN S1 n1).1.1)) := swap_gd HLS.1 HSM.out.2
        have HSW := Lib.hid (swapped_any _ _ z s.1 s.2 kv (keepN S1 n1).1.1 W2 hz (HLS.1.mono (by decide)) HLS.2.2 HP2.out HSM.out.2 HSM.out.1)
        have hSV : Value.agg #[.bool z.leaf, .slice z.ka z.kn z.kc, .slice z.va z.vn z.vc, .int .i64 (s.2 : Int)] = stV z s.2 := rfl
        have HSV := Lib.hid hSV
        have HL0 : Hid (∀ s ∈ l0, GdN 239 s.1 ∧ 0 < s.1.keys.length ∧ s.2 < s.1.keys.length) := fun t ht => HL.out t (List.mem_append_left _ ht)
        have hcs : (l0.length : Int) ≤ (sc : Int) := by omega
        clear hz hst HLS hSV hgs
        generalize swapN s.1 s.2 (keepN S1 n1).1.1 = n2 at *
        generalize s.2 = si at *
        go_wp2_with fail
        rw [HSV.out]
        refine HSW.out.mono ?_
        rintro e W3 ⟨nv, rfl, hno, hb⟩
        obtain ⟨u, rfl, hu⟩ := hno.ndz
        unfold NdV.val
        have BN3 := Lib.hid (BN2.out.keep hb BN2.out.lt)
        have HK3 := Lib.hid (HK2.out.keep hb)
        have HC3 : Hid (Chg F w W3) := HC2.out.trans (Chg.of hb (Nat.le_refl _))
        have HST3 := Lib.hid (HST.out.keep hb)
        have hfl2 := (fixed_kp kb (keepN S1 n1).2).lt _ _ HK2.out
        have HU3 := Lib.hid (hu.mono (Z' := fun k => k ∉ F2 ∧ k ≠ w.heap.size) (fun k _ hk => ⟨fun hm => by have := hfl2 k hm; have hk2 : W2.heap.size ≤ k := hk; omega, fun e => by have := BN2.out.lt; have hk2 : W2.heap.size ≤ k := hk; omega⟩))
        clear hno hu hb hfl2 z0 z1 z2 z3 BN2 HK2 HC2 HST HP2 HSW HS2
        have m0 := BN3.out.cell 0 _ rfl
        have m1 := BN3.out.cell 1 _ rfl
        have m2 := BN3.out.cell 2 _ rfl
        have f0 := BN3.out.free 0
        have f1 := BN3.out.free 1
        have f2 := BN3.out.free 2
        have hC := chg_set3 W3 w.heap.size (.bool u.leaf) (.slice u.ka u.kn u.kc) (.slice u.va u.vn u.vc)
        have BN4 := Lib.hid (box_set3 BN3.out (.bool u.leaf) (.slice u.ka u.kn u.kc) (.slice u.va u.vn u.vc))
        have HK4 := Lib.hid ((fixed_kp kb _).keep _ _ _ _ HK3.out hC (fun k hk hm => by simp at hm; subst hm; exact HNF2.out hk))
        have HC4 : Hid (Chg F w _) := HC3.out.then hC (fun i hi => by simp at hi; subst hi; exact .inr (Nat.le_refl _))
        have HST4 := Lib.hid (HST3.out.chg hC (fun k hk hm => by simp at hm; omega))
        have HU4 := Lib.hid (HU3.out.chg hC (fun k hk hm => by simp at hm; exact hk.2 hm))
        clear hC BN3 HK3 HC3 HST3 HU3
        go_wp2
        go_roundw
        case rel => exact ⟨l0, n2, u, _, F2, some ⟨g, 0, none⟩, rfl, by omega, by omega, HL0, HRE, HSWG, HK4, HC4, HN2, BN4, HU4, HST4, HNF2⟩
        case measure => simp [lenV]
      · have HRE : Hid (R = ((noT, (keepN S1 n1).1.2), (keepN S1 n1).2)) := HR.out.trans (upr_err hke)
        have e1 : ((keepN S1 n1).1.2 != 0) = true := by simpa using hke
        clear hke
        generalize (keepN S1 n1).1.2 = ce at *
        go_wp2
        rw [HPS.out, HRE.out]
        exact ⟨rfl, F2, HK2.out, HC2.out, HN2.out⟩
end Go.Proofs.Ytbeldjijnjgbfaa

namespace Go.Proofs.Ytbeldjijnjgbfaa
open Go Go.RowKit Go.ChangeShapes Go.WideShapes Go.ChangeAt

theorem kp_nil (kb : Nat) (W : World) : (binOp .eql 62 (kpV kb) .nilIface).run Try.prog W = .ok (.bool false) W := by kernel_rfl
theorem nil_nil (W : World) : (binOp .eql 62 .nilIface .nilIface).run Try.prog W = .ok (.bool true) W := by kernel_rfl
theorem getT_err {S : StD} {root key : ByteArray} (h : (downT S root key).2.2 ≠ 0) : getT S root key = (noT, (downT S root key).2.2) := by unfold getT; rw [if_pos h]
theorem getT_none {S : StD} {root key : ByteArray} (h : (downT S root key).2.2 = 0) (h2 : (findD (downT S root key).2.1 key).2 = false) : getT S root key = (noT, 8) := by unfold getT; rw [if_neg (by simp [h]), if_neg (by simp [h2])]
theorem getT_some {S : StD} {root key : ByteArray} (h : (downT S root key).2.2 = 0) (h2 : (findD (downT S root key).2.1 key).2 = true) : getT S root key = ((downT S root key).2.1.vals.getD (findD (downT S root key).2.1 key).1 noT, 0) := by unfold getT; rw [if_neg (by simp [h]), if_pos h2]
theorem find_is {d : NodeD} {key : ByteArray} (h : (findD d key).2 = true) : (findD d key).1 < d.keys.length := by
  unfold findD at h ⊢
  split at h
  · rename_i hm
    rw [if_pos hm]
    split at h
    · rename_i hi
      rw [if_pos hi]
      unfold isK at hi
      exact (List.getElem?_eq_some_iff.1 (of_decide_eq_true hi)).1
    · cases h
  · cases h
theorem kp_below {kb : Nat} {S : StD} {F : List Nat} {w : World} (h : KpF kb S F w) : ∀ k ∈ F, k < w.heap.size := (fixed_kp kb S).lt _ _ h
theorem tget_nil (root key : ByteArray) (w : World) : Calls Try.prog 12 #[.nilIface, .string root, .string key] w fun e w' => e = .returned (.tuple #[.string noT, .int .i64 1]) ∧ w = w' := by
  have hn := nil_nil
  go_enter Try.func12, Try.ntmps12
  go_wp2
  go_ret2
  exact ⟨rfl, rfl⟩
set_option maxRecDepth 100000 in
set_option maxHeartbeats 4000000 in
theorem tget_any (kb : Nat) (F : List Nat) (S : StD) (root key : ByteArray) (w : World) (h : KpF kb S F w) (hr : root.size ≤ maxLen) (hk : key.size ≤ maxLen) :
    Calls Try.prog 12 #[kpV kb, .string root, .string key] w fun e w' => e = .returned (.tuple #[.string (getT S root key).1, .int .i64 (getT S root key).2]) ∧ Below w.heap.size w w' := by
  have hkp := kp_nil kb
  have HD := Lib.hid (down_any kb F S root key w h hr hk)
  have HG := Lib.hid (downT_gd S root key)
  obtain ⟨R, hR⟩ : ∃ R, R = getT S root key := ⟨_, rfl⟩
  rw [← hR]
  have HE1 := Lib.hid (fun h => hR.trans (getT_err (S := S) (root := root) (key := key) h))
  have HE2 := Lib.hid (fun h h2 => hR.trans (getT_none (S := S) (root := root) (key := key) h h2))
  have HE3 := Lib.hid (fun h h2 => hR.trans (getT_some (S := S) (root := root) (key := key) h h2))
  obtain ⟨Q, hQ⟩ : ∃ Q, Q = downT S root key := ⟨_, rfl⟩
  rw [← hQ] at HD HG HE1 HE2 HE3
  clear h hr hk hR hQ
  go_enter Try.func12, Try.ntmps12
  go_wp2_with fail
  refine HD.out.mono ?_
  rintro e w1 ⟨sv, nv, rfl, hs, hn, hb⟩
  obtain ⟨x, rfl, hx⟩ := hn.ndz
  unfold NdV.val
  obtain ⟨w2, hw2⟩ : ∃ w2, w2 = w1.alloc (.cells #[.bool x.leaf, .slice x.ka x.kn x.kc, .slice x.va x.vn x.vc] 51 (0, 0)) := ⟨_, rfl⟩
  have hb2 : Below w1.heap.size w1 w2 := by rw [hw2]; exact (Below.refl _ _).alloc (Nat.le_refl _) _
  have BN : Hid (Box w2 w1.heap.size 51 #[.bool x.leaf, .slice x.ka x.kn x.kc, .slice x.va x.vn x.vc]) := by show Box _ _ _ _; rw [hw2]; exact Box.new _ _ _
  have HX := Lib.hid (hx.keep hb2)
  have HB := Lib.hid (hb.trans (hb2.mono hb.size))
  have HAG : Hid (Value.agg #[.bool x.leaf, .slice x.ka x.kn x.kc, .slice x.va x.vn x.vc] = nodeV x.ka x.kc x.va x.vc Q.2.1) := hx.agg
  have HSM : Hid (SmN 255 Q.2.1) := HG.out.2.1.sm (by decide)
  have b0 : w2.cell? ⟨w1.heap.size, 0, none⟩ = some (.bool x.leaf) := BN.out.cell 0 _ rfl
  have b1 : w2.cell? ⟨w1.heap.size, 1, none⟩ = some (.slice x.ka x.kn x.kc) := BN.out.cell 1 _ rfl
  have b2 : w2.cell? ⟨w1.heap.size, 2, none⟩ = some (.slice x.va x.vn x.vc) := BN.out.cell 2 _ rfl
  have hw3 := hw2.symm
  clear hs hn hb hb2 hx hw2 HD
  by_cases he : Q.2.2 = 0
  · rw [he]
    have HE := Lib.hid he
    clear he
    go_wp2_with fail
    rw [HAG.out]
    refine (find_any x.ka x.kc x.va x.vc Q.2.1 key _ (HX.out.nodeIn (by have := HSM.out.kl; omega) (by have := HSM.out.vl; omega)) HSM.out.max).mono ?_
    rintro e w4 ⟨rfl, hb⟩
    have BN4 := Lib.hid (BN.out.keep hb BN.out.lt)
    have HX4 := Lib.hid (HX.out.keep hb)
    have HB4 := Lib.hid (HB.out.trans (hb.mono HB.out.size))
    clear hb b0 b1 b2 hw3 BN HX HB
    cases hf : (findD Q.2.1 key).2
    · have HRE := Lib.hid (HE2.out HE.out hf)
      clear hf
      go_wp2
      go_ret2
      exact ⟨by rw [HRE.out]; rfl, HB4.out⟩
    · have hfi := find_is hf
      have hlen := HG.out.2.1.len
      obtain ⟨va, vc, hve, hvs⟩ := ks_form2 HX4.out.vr
      unfold NdV.v at hve
      injection hve with hva x1 x2
      clear x1 x2
      rw [← hva] at hvs
      have hfv : (findD Q.2.1 key).1 < Q.2.1.vals.length := by omega
      obtain ⟨gv, ov, hvx, _, hvc⟩ := hvs.get _ hfv
      have hgd : Q.2.1.vals.getD (findD Q.2.1 key).1 noT = Q.2.1.vals[(findD Q.2.1 key).1] := by simp [List.getD, hfv]
      have hre := HE3.out HE.out hf
      rw [hgd] at hre
      have HRE := Lib.hid hre
      have b2 : w4.cell? ⟨w1.heap.size, 2, none⟩ = some (.slice (some ⟨gv, ov, none⟩) x.vn x.vc) := by rw [← hvx]; exact BN4.out.cell 2 _ rfl
      have h0i : (0 : Int) ≤ ((findD Q.2.1 key).1 : Int) := by omega
      have h1i : ((findD Q.2.1 key).1 : Int) < (x.vn : Int) := by rw [HX4.out.vn]; omega
      generalize hrv : Q.2.1.vals[(findD Q.2.1 key).1] = rv at *
      clear hrv hf hfi hlen hva hvs hvx hgd hre hfv
      generalize (findD Q.2.1 key).1 = fi at *
      go_wp2
      go_ret2
      exact ⟨by rw [HRE.out]; rfl, HB4.out⟩
  · have HRE := Lib.hid (HE1.out he)
    have e1 : (Q.2.2 != 0) = true := by simpa using he
    clear he
    generalize Q.2.2 = c at *
    go_wp2
    go_ret2
    exact ⟨by rw [HRE.out]; rfl, HB.out⟩

theorem delT_err {S : StD} {root key : ByteArray} (h : (downT S root key).2.2 ≠ 0) : delT S root key = ((noT, (downT S root key).2.2), S) := by unfold delT; rw [if_pos h]
theorem delT_none {S : StD} {root key : ByteArray} (h : (downT S root key).2.2 = 0) (h2 : (findD (downT S root key).2.1 key).2 = false) : delT S root key = ((noT, 8), S) := by unfold delT; rw [if_neg (by simp [h]), if_pos h2]
theorem delT_some {S : StD} {root key : ByteArray} (h : (downT S root key).2.2 = 0) (h2 : (findD (downT S root key).2.1 key).2 = true) : delT S root key = upN S (downT S root key).1 (withoutD (downT S root key).2.1 key) := by unfold delT; rw [if_neg (by simp [h]), if_neg (by simp [h2])]
set_option maxRecDepth 100000 in
set_option maxHeartbeats 4000000 in
theorem tdel_any (kb : Nat) (F : List Nat) (S : StD) (root key : ByteArray) (w : World) (h : KpF kb S F w) (hr : root.size ≤ maxLen) (hk : key.size ≤ maxLen) :
    Calls Try.prog 19 #[kpV kb, .string root, .string key] w (UpTo kb F (delT S root key) w) := by
  have hkp := kp_nil kb
  have HF := Lib.hid h
  have HFL := Lib.hid (kp_below h)
  have HD := Lib.hid (down_any kb F S root key w h hr hk)
  have HG := Lib.hid (downT_gd S root key)
  obtain ⟨R, hR⟩ : ∃ R, R = delT S root key := ⟨_, rfl⟩
  obtain ⟨PS, hPS⟩ : ∃ PS, PS = UpTo kb F R w := ⟨_, rfl⟩
  rw [← hR, ← hPS]
  have HPS := Lib.hid hPS
  have HE1 := Lib.hid (fun h => hR.trans (delT_err (S := S) (root := root) (key := key) h))
  have HE2 := Lib.hid (fun h h2 => hR.trans (delT_none (S := S) (root := root) (key := key) h h2))
  have HE3 := Lib.hid (fun h h2 => hR.trans (delT_some (S := S) (root := root) (key := key) h h2))
  obtain ⟨Q, hQ⟩ : ∃ Q, Q = downT S root key := ⟨_, rfl⟩
  rw [← hQ] at HD HG HE1 HE2 HE3
  clear h hr hk hR hQ hPS
  go_enter Try.func19, Try.ntmps19
  go_wp2_with fail
  refine HD.out.mono ?_
  rintro e w1 ⟨sv, nv, rfl, hs, hn, hb⟩
  obtain ⟨x, rfl, hx⟩ := hn.ndz
  unfold NdV.val
  obtain ⟨w2, hw2⟩ : ∃ w2, w2 = w1.alloc (.cells #[.bool x.leaf, .slice x.ka x.kn x.kc, .slice x.va x.vn x.vc] 51 (0, 0)) := ⟨_, rfl⟩
  have hb2 : Below w1.heap.size w1 w2 := by rw [hw2]; exact (Below.refl _ _).alloc (Nat.le_refl _) _
  have BN : Hid (Box w2 w1.heap.size 51 #[.bool x.leaf, .slice x.ka x.kn x.kc, .slice x.va x.vn x.vc]) := by show Box _ _ _ _; rw [hw2]; exact Box.new _ _ _
  have HX := Lib.hid (hx.keep hb2)
  have HS := Lib.hid ((hs.mono (Z' := (· ∉ F)) (fun k _ hk hm => by have := HFL.out k hm; omega)).keep hb2)
  have HB := Lib.hid (hb.trans (hb2.mono hb.size))
  have HAG : Hid (Value.agg #[.bool x.leaf, .slice x.ka x.kn x.kc, .slice x.va x.vn x.vc] = nodeV x.ka x.kc x.va x.vc Q.2.1) := hx.agg
  have HSM : Hid (SmN 255 Q.2.1) := HG.out.2.1.sm (by decide)
  have b0 : w2.cell? ⟨w1.heap.size, 0, none⟩ = some (.bool x.leaf) := BN.out.cell 0 _ rfl
  have b1 : w2.cell? ⟨w1.heap.size, 1, none⟩ = some (.slice x.ka x.kn x.kc) := BN.out.cell 1 _ rfl
  have b2 : w2.cell? ⟨w1.heap.size, 2, none⟩ = some (.slice x.va x.vn x.vc) := BN.out.cell 2 _ rfl
  have hw3 := hw2.symm
  clear hs hn hb hb2 hx hw2 HD
  by_cases he : Q.2.2 = 0
  · rw [he]
    have HE := Lib.hid he
    clear he
    go_wp2_with fail
    rw [HAG.out]
    refine (find_any x.ka x.kc x.va x.vc Q.2.1 key _ (HX.out.nodeIn (by have := HSM.out.kl; omega) (by have := HSM.out.vl; omega)) HSM.out.max).mono ?_
    rintro e w4 ⟨rfl, hb⟩
    have BN4 := Lib.hid (BN.out.keep hb BN.out.lt)
    have HX4 := Lib.hid (HX.out.keep hb)
    have HS4 := Lib.hid (HS.out.keep hb)
    have HB4 := Lib.hid (HB.out.trans (hb.mono HB.out.size))
    clear hb b0 b1 b2 hw3 BN HX HB HS
    cases hf : (findD Q.2.1 key).2
    · have HRE := Lib.hid (HE2.out HE.out hf)
      clear hf
      go_wp2
      rw [HPS.out, HRE.out]
      exact ⟨rfl, Tod.same (fixed_kp kb S) HF.out HB4.out⟩
    · have HRE := Lib.hid (HE3.out HE.out hf)
      have b0 : w4.cell? ⟨w1.heap.size, 0, none⟩ = some (.bool x.leaf) := BN4.out.cell 0 _ rfl
      have b1 : w4.cell? ⟨w1.heap.size, 1, none⟩ = some (.slice x.ka x.kn x.kc) := BN4.out.cell 1 _ rfl
      have b2 : w4.cell? ⟨w1.heap.size, 2, none⟩ = some (.slice x.va x.vn x.vc) := BN4.out.cell 2 _ rfl
      clear hf
      go_wp2_with fail
      rw [HAG.out]
      refine (without_any x.ka x.kc x.va x.vc Q.2.1 key _ (HX4.out.nodeIn (by have := HSM.out.kl; omega) (by have := HSM.out.vl; omega)) HSM.out.max).mono ?_
      rintro e w5 ⟨nv, rfl, hn, hb⟩
      obtain ⟨y, rfl, hy⟩ := hn.ndz
      have HB5 := Lib.hid (HB4.out.trans (hb.mono HB4.out.size))
      have HY := Lib.hid (hy.mono (Z' := (· ∉ F)) (fun k _ hk hm => by have := HFL.out k hm; have := HB4.out.size; have hk2 : w4.heap.size ≤ k := hk; omega))
      have HS5 := Lib.hid (HS4.out.keep hb)
      have HK5 := Lib.hid (HF.out.keep HB5.out)
      clear hn hb hy b0 b1 b2
      go_wp2_with fail
      refine (up_any kb F S sv Q.1 y (withoutD Q.2.1 key) _ HK5.out HS5.out HY.out ((HG.out.2.1.without (by decide)).mono (by decide)) HG.out.1 HG.out.2.2).mono ?_
      rintro e w6 ⟨rfl, ht⟩
      rw [← HRE.out] at ht ⊢
      have HT := Lib.hid (ht.pre HB5.out)
      clear ht
      go_wp2
      rw [HPS.out]
      exact ⟨rfl, HT.out⟩
  · have HRE := Lib.hid (HE1.out he)
    have e1 : (Q.2.2 != 0) = true := by simpa using he
    clear he
    generalize Q.2.2 = c at *
    go_wp2
    rw [HPS.out, HRE.out]
    exact ⟨rfl, Tod.same (fixed_kp kb S) HF.out HB.out⟩
end Go.Proofs.Ytbeldjijnjgbfaa
