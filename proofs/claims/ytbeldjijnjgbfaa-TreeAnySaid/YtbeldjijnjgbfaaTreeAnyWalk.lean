/-
  The walk of TreeAny.
-/
import Derived.Test.YtbeldjijnjgbfaaMg43
import Derived.Test.YtbeldjijnjgbfaaMg0
import Derived.Test.YtbeldjijnjgbfaaMg41
namespace Go.Proofs.Ytbeldjijnjgbfaa.treeAny
open Go Go.RowKit Go.ChangeShapes Go.WideShapes Go.ChangeAt

def mnI (x y : Int) : Int := if y < x then y else x
def mxI (x y : Int) : Int := if y > x then y else x
theorem min5 (a b c d e : Int) (ats : Array TypeId) (ty : TypeId) (W : World) : (Builtin.min_ ats ty #[.int .i64 a, .int .i64 b, .int .i64 c, .int .i64 d, .int .i64 e]).run Try.prog W = .ok (.int .i64 (mnI (mnI (mnI (mnI a b) c) d) e)) W := by rfl
theorem max5 (a b c d e : Int) (ats : Array TypeId) (ty : TypeId) (W : World) : (Builtin.max_ ats ty #[.int .i64 a, .int .i64 b, .int .i64 c, .int .i64 d, .int .i64 e]).run Try.prog W = .ok (.int .i64 (mxI (mxI (mxI (mxI a b) c) d) e)) W := by rfl
theorem mn_low {a b : Int} (ha : 0 ≤ a) (hb : 0 ≤ b) : 0 ≤ mnI a b := by unfold mnI; split <;> assumption
theorem mx_high {a b : Int} (ha : a ≤ 15) (hb : b ≤ 15) : mxI a b ≤ 15 := by unfold mxI; split <;> assumption

set_option maxRecDepth 100000 in
set_option maxHeartbeats 8000000 in
theorem walk (w : World) (x0 : Option Addr) (c0 : Nat) (l0 : List ByteArray) (s0 : Sl w Value.string x0 l0) (w0 : ∀ s ∈ l0, s.size ≤ maxLen) (m0 : l0.length ≤ maxLen) (a1 : ByteArray) (w1 : a1.size ≤ 140737488351232) (o2 : OpT) (zk2 : o2.2.1.size ≤ maxLen) (zv2 : o2.2.2.size ≤ maxLen) :
    Calls Try.prog 6 #[.slice x0 l0.length c0, .string a1, topV o2] w fun e w' => e = .returned (.bool true) ∧ Below w.heap.size w w' := by
  have HS := Lib.hid s0
  have HW0 := Lib.hid w0
  obtain ⟨d, key, val⟩ := o2
  have ZK : key.size ≤ maxLen := zk2
  have ZV : val.size ≤ maxLen := zv2
  obtain ⟨gb, hgb⟩ : ∃ gb, gb = w.heap.size := ⟨_, rfl⟩
  obtain ⟨wa, hwa⟩ : ∃ wa, wa = w.alloc (.cells #[.int .i64 d, .string key, .string val] 33 (0, 0)) := ⟨_, rfl⟩
  have HBA : Hid (Below w.heap.size w wa) := by show Below _ _ _; rw [hwa]; exact (Below.refl _ _).alloc (Nat.le_refl _) _
  have HBX : Hid (Box wa gb 33 #[.int .i64 d, .string key, .string val]) := by show Box _ _ _ _; rw [hwa, hgb]; exact Box.new _ _ _
  have hwa2 := hwa.symm
  have hgb2 := hgb.symm
  have HGB := Lib.hid hgb
  clear hwa hgb s0 w0 zk2 zv2
  unfold topV
  by_cases h20 : 20 < l0.length
  · have d1 : (20 : Int) < (l0.length : Int) := by omega
    go_enter Try.func6, Try.ntmps6
    go_wp2_with fail
    refine (live_any _).mono ?_
    rintro e w9 ⟨rfl, hb⟩
    have HB9 := Lib.hid (HBA.out.trans (hb.mono HBA.out.size))
    clear hb
    go_wp2
    go_ret
    exact ⟨rfl, HB9.out⟩
  have d1 : ¬ (20 : Int) < (l0.length : Int) := by omega
  by_cases h100 : 100 < a1.size
  · have d2 : (100 : Int) < (a1.size : Int) := by omega
    go_enter Try.func6, Try.ntmps6
    go_wp2_with fail
    refine (live_any _).mono ?_
    rintro e w9 ⟨rfl, hb⟩
    have HB9 := Lib.hid (HBA.out.trans (hb.mono HBA.out.size))
    clear hb
    go_wp2
    go_ret
    exact ⟨rfl, HB9.out⟩
  have d2 : ¬ (100 : Int) < (a1.size : Int) := by omega
  obtain ⟨wb, hwb⟩ : ∃ wb, wb = wa.alloc (.cells #[.int .i64 d, .string key, .string val] 33 (0, 0)) := ⟨_, rfl⟩
  obtain ⟨ab, hab⟩ : ∃ ab, ab = wa.heap.size := ⟨_, rfl⟩
  have HBB : Hid (Below wa.heap.size wa wb) := by show Below _ _ _; rw [hwb]; exact (Below.refl _ _).alloc (Nat.le_refl _) _
  have HBY : Hid (Box wb ab 33 #[.int .i64 d, .string key, .string val]) := by show Box _ _ _ _; rw [hwb, hab]; exact Box.new _ _ _
  have HRT : Hid (RowT wb (some ⟨ab, 0, none⟩) [(d, key, val)]) := by
    intro i hi
    have : i = 0 := by simpa using hi
    subst this
    exact ⟨ab, 0, rfl, HBY.out.cell 0 _ rfl, HBY.out.cell 1 _ rfl, HBY.out.cell 2 _ rfl⟩
  have b0 := HBX.out.cell 0 _ rfl
  have b1 := HBX.out.cell 1 _ rfl
  have b2 := HBX.out.cell 2 _ rfl
  have hwb2 := hwb.symm
  have hab2 := hab.symm
  clear hwb hab
  go_enter Try.func6, Try.ntmps6
  go_wp2_with fail
  refine (small_any (some ⟨ab, 0, none⟩) 1 [(d, key, val)] wb HRT.out (by unfold maxLen; simp)).mono ?_
  rintro e w9 ⟨rfl, rfl⟩
  have HBAB := Lib.hid (HBA.out.trans (HBB.out.mono HBA.out.size))
  cases hsm : smT [(d, key, val)]
  · go_wp2_with fail
    refine (live_any _).mono ?_
    rintro e w9 ⟨rfl, hb⟩
    have HB9 := Lib.hid (HBAB.out.trans (hb.mono HBAB.out.size))
    clear hb
    go_wp2
    go_ret
    exact ⟨rfl, HB9.out⟩
  have HBX1 := Lib.hid (HBX.out.keep HBB.out HBX.out.lt)
  have HKL : Hid (key.size ≤ 400 ∧ val.size ≤ 200) := by
    have h : okT (d, key, val) && true && true = true := hsm
    unfold okT at h
    simp at h
    exact h
  clear hsm b0 b1 b2 hwa2 hgb2 hwb2 hab2 HRT HBY HBX
  obtain ⟨kb, hkb⟩ : ∃ kb, kb = wb.heap.size := ⟨_, rfl⟩
  obtain ⟨wk, hwk⟩ : ∃ wk, wk = wb.alloc (.cells #[.slice none 0 0, .int .i64 1000] 28 (0, 0)) := ⟨_, rfl⟩
  have HKB := Lib.hid hkb
  have HK0 : Hid (∃ F, KpF kb ⟨l0.take 0, 1000⟩ F wk ∧ ∀ i ∈ F, kb ≤ i) := ⟨[kb], by rw [hwk, hkb]; exact kp_new wb 1000 (by decide) (by decide), fun i hi => by rw [List.mem_singleton] at hi; omega⟩
  have HB0 : Hid (Below kb wb wk) := by show Below _ _ _; rw [hwk, hkb]; exact (Below.refl _ _).alloc (Nat.le_refl _) _
  have hwk2 := hwk.symm
  have hkb2 := hkb.symm
  clear hwk hkb
  go_wp2_with fail
  clear hwk2 hkb2
  go_loopw [8] (fun i wr => ∃ j : Nat, j ≤ l0.length ∧ i = .int .i64 j ∧ Hid (∃ F, KpF kb ⟨l0.take j, 1000⟩ F wr ∧ ∀ i ∈ F, kb ≤ i) ∧ Hid (Below kb wb wr)) (fun i _ => ((l0.length : Int) - RowKit.intOf i).toNat)
  case atStart => exact ⟨0, Nat.zero_le _, rfl, HK0, HB0⟩
  case round =>
    clear HK0 HB0
    obtain ⟨j, hj, rfl, HK, HB⟩ := hrel
    have HBW : Hid (Below w.heap.size w wr) := HBAB.out.trans (HB.out.mono (by have := HBAB.out.size; rw [HKB.out]; exact this))
    have HBX2 : Hid (Box wr gb 33 #[.int .i64 d, .string key, .string val]) := HBX1.out.keep HB.out (by rw [HKB.out]; exact HBX1.out.lt)
    by_cases hlt : j < l0.length
    · obtain ⟨tb, toff, hx0, htb, tc0⟩ := HS.out.get j hlt
      subst hx0
      have tc := (HBW.out.cell (p := ⟨tb, toff + j, none⟩) htb).trans tc0
      clear tc0
      have h0j : (0 : Int) ≤ (j : Int) := by omega
      have h1j : (j : Int) < (l0.length : Int) := by omega
      have HTK := Lib.hid (List.take_succ_eq_append_getElem hlt)
      have HTM : Hid (l0[j].size ≤ maxLen) := HW0.out _ (List.getElem_mem hlt)
      generalize l0[j] = t at *
      by_cases h11 : 1100 < t.size
      · have d3 : (1100 : Int) < (t.size : Int) := by omega
        go_wp2_with fail
        refine (live_any _).mono ?_
        rintro e w9 ⟨rfl, hb⟩
        have HB9 := Lib.hid (HBW.out.trans (hb.mono HBW.out.size))
        clear hb
        go_wp2
        go_ret
        exact ⟨rfl, HB9.out⟩
      have d3 : ¬ (1100 : Int) < (t.size : Int) := by omega
      obtain ⟨F, ⟨v, hk, hFe⟩, hFn⟩ := HK.out
      obtain ⟨L, hL⟩ : ∃ L, L = l0.take j := ⟨_, rfl⟩
      have HLL : Hid (l0.take (j + 1) = L ++ [t]) := by show _ = _; rw [HTK.out, hL]
      have hLn : L.length ≤ 20 := by rw [hL, List.length_take]; omega
      rw [← hL] at hk
      clear hL HTK HK
      obtain ⟨ka, kc, rfl, _⟩ := hk.row.view
      have HKA := Lib.hid hk
      have HFE := Lib.hid hFe
      have HFN := Lib.hid hFn
      have hkl := hk.box.lt
      have hkF : ∀ k, (Value.slice ka L.length kc).ownBlock = some k → kb ≤ k := fun k hk => hFn k (by rw [hFe, hk]; simp)
      have htk : tb < kb := by rw [HKB.out]; have := HBAB.out.size; omega
      have HKF := Lib.hid hkF
      have HTB := Lib.hid htk
      have e0 : wr.drew.cell? ⟨kb, 0, none⟩ = some (.slice ka L.length kc) := hk.box.cell 0 _ rfl
      have e1 : wr.drew.cell? ⟨tb, toff + j, none⟩ = some (.string t) := tc
      clear hk hFe hFn hkF
      go_wp2_with fail
      refine wp_region_tree (fun W => W.cell? ⟨kb, 0, none⟩ = some (.slice ka L.length kc) ∧ W.cell? ⟨tb, toff + j, none⟩ = some (.string t)) 11 (.quiet 0 (.quiet 1 (.quiet 2 (.quiet 3 (.quiet 4 (.quiet 5 (.quiet 6 (.quiet 7 (.quiet 8 (.make 9 (.make 10 .nil))))))))))) (by kernel_rfl) (by kernel_rfl) ⟨e0, e1⟩ ?_
      simp only [List.drop_succ_cons, List.drop_zero]
      iterate 9 (apply wpTr_step rfl; (intro W hS K hK; obtain ⟨q0, q1⟩ := hS; go_simp; exact hK _ rfl))
      refine wpTr_make rfl (fun K' hK => ?_)
      go_simp
      obtain ⟨wy, hwy⟩ : ∃ wy, wy = wr.drew.alloc (.cells #[.string t] 9 (0, 0)) := ⟨_, rfl⟩
      have hby : Below wr.heap.size wr wy := by rw [hwy]; exact ((Below.refl _ _).drew).alloc (Nat.le_refl _) _
      have hwy2 : (wr.alloc (.cells #[.string t] 9 (0, 0))).drew = wy := hwy.symm
      have HY := Lib.hid hwy2
      have HBY : Hid (Below wr.heap.size wr wy) := hby
      have HXY : Hid (Box wy wr.heap.size 9 #[.string t]) := by rw [hwy]; exact Box.new wr.drew _ _
      have HKY : Hid (KpAt wy kb (.slice ka L.length kc) ⟨L, 1000⟩) := HKA.out.keep hby
      have y0 : wy.cell? ⟨kb, 0, none⟩ = some (.slice ka L.length kc) := HKY.out.box.cell 0 _ rfl
      have y1 : wy.cell? ⟨tb, toff + j, none⟩ = some (.string t) := (hby.cell (p := ⟨tb, toff + j, none⟩) (by show tb < _; omega)).trans e1
      refine hK _ _ _ (fun _ h => h) (by rw [hwy2]; exact ⟨y0, y1⟩) ?_
      clear hK K' hwy hby
      rw [hwy2]
      clear hwy2
      refine wpTr_make rfl (fun K' hK => ?_)
      refine step_keys_push rfl (.tmp 53) (.tmp 58) rfl 0 (.slice ka L.length kc) L rfl HKY.out.row ⟨wr.heap.size, 0, none⟩ 1 1 [t] rfl rfl ?c1 (by omega) (Nat.zero_le _) ?_
      case c1 =>
        intro j2 u hj2
        match j2, hj2 with
        | 0, hj2 => (simp at hj2; subst hj2; exact HXY.out.cell 0 _ rfl)
        | (j2 + 1), hj2 => (simp at hj2)
      intro v' w2 hk2 hg2 ho2
      have HTD := Lib.hid (kp_push HKY.out hk2 hg2 ho2 (by show L.length < _; omega) (by omega))
      have hbx2 : Box w2 kb 28 #[.slice ka L.length kc, .int .i64 1000] := HKY.out.box.of (hg2.block kb HKY.out.box.lt (fun e => HKY.out.ne e.symm))
      have hb2 : Below kb wy w2 := (Chg.grown hg2 (S := (Value.slice ka L.length kc).ownBlock.toList) (fun k hk => by rw [hk]; simp)).below (Nat.le_of_lt HKY.out.box.lt) (fun k hk => HKF.out k (by simpa using hk))
      have u0 : w2.cell? ⟨kb, 0, none⟩ = some (.slice ka L.length kc) := hbx2.cell 0 _ rfl
      have u1 : w2.cell? ⟨tb, toff + j, none⟩ = some (.string t) := (hb2.cell (p := ⟨tb, toff + j, none⟩) HTB.out).trans y1
      refine hK _ _ _ (fun _ h => h) ⟨u0, u1⟩ ?_
      clear hK K'
      refine wpTr_nil ?_
      have g0 : w2.frozen? ⟨kb, 0, none⟩ = false := hbx2.free 0
      obtain ⟨a2, c2, rfl, _⟩ := ks_form2 hk2
      have hle : (L ++ [t]).length = L.length + 1 := by simp
      rw [hle] at HTD ⊢
      have HNX : Hid (∃ F, KpF kb ⟨l0.take (j + 1), 1000⟩ F (w2.setCell ⟨kb, 0, none⟩ (.slice a2 (L.length + 1) c2)) ∧ ∀ i ∈ F, kb ≤ i) := by
        obtain ⟨F9, f1, f2, f3⟩ := HTD.out
        refine ⟨F9, by rw [HLL.out]; exact f1, fun i hi => ?_⟩
        rcases f3 i hi with h | h
        · rcases List.mem_cons.1 h with h | h
          · omega
          · exact HKF.out i (by simpa using h)
        · have := HKY.out.box.lt; omega
      have HBN : Hid (Below kb wb (w2.setCell ⟨kb, 0, none⟩ (.slice a2 (L.length + 1) c2))) := by
        obtain ⟨F9, f1, f2, f3⟩ := HTD.out
        refine (HB.out.trans (HBY.out.mono (by omega))).trans (f2.below (Nat.le_of_lt HKY.out.box.lt) (fun i hi => ?_))
        rcases List.mem_cons.1 hi with h | h
        · omega
        · exact HKF.out i (by simpa using h)
      clear HTD hk2 hg2 ho2 u1 y0 y1 e0 e1 hle hb2 hbx2
      go_wp2_with fail
      go_roundw
      case rel => exact ⟨j + 1, by omega, by go_num, HNX, HBN⟩
      case measure => simp [RowKit.intOf]; omega
    · have hjl : j = l0.length := by omega
      subst hjl
      have b0 := HBX2.out.cell 0 _ rfl
      have b1 := HBX2.out.cell 1 _ rfl
      have b2 := HBX2.out.cell 2 _ rfl
      obtain ⟨F, hkf, hFn⟩ := HK.out
      obtain ⟨S, hS⟩ : ∃ S : StD, S = ⟨l0.take l0.length, 1000⟩ := ⟨_, rfl⟩
      rw [← hS] at hkf
      have HKK := Lib.hid hkf
      have HFN := Lib.hid hFn
      clear hS hkf hFn HK
      clear HS HW0 hj HGB
      go_wp2_with fail
      refine (tget_any kb F S a1 key wr HKK.out (by unfold maxLen; omega) ZK).mono ?_
      rintro e w9 ⟨rfl, hb9⟩
      obtain ⟨E1, hE1⟩ : ∃ E1, E1 = getT S a1 key := ⟨_, rfl⟩
      have HE1 : Hid (ErrR E1.2) := by rw [hE1]; exact err_getT _ _ _
      rw [← hE1]
      clear hE1
      have HKn := Lib.hid (HKK.out.keep hb9)
      have HBn := Lib.hid (HB.out.trans (hb9.mono (by have := HB.out.size; rw [HKB.out]; exact this)))
      have HZn := Lib.hid (HBX2.out.keep hb9 HBX2.out.lt)
      clear hb9 HKK HB HBX2 b0 b1 b2
      have HK := HKn
      have HB := HBn
      have HBX2 := HZn
      clear HKn HBn HZn
      have b0 := HBX2.out.cell 0 _ rfl
      have b1 := HBX2.out.cell 1 _ rfl
      have b2 := HBX2.out.cell 2 _ rfl
      go_wp2_with fail
      refine (scan_any kb F S a1 noT 10 _ HK.out (by omega) (by decide)).mono ?_
      rintro e w9 ⟨v2, rfl, _, hb9⟩
      obtain ⟨E2, hE2⟩ : ∃ E2, E2 = scanT S a1 noT 10 := ⟨_, rfl⟩
      have HE2 : Hid (ErrR E2.2) := by rw [hE2]; exact err_scanT _ _ _ _
      rw [← hE2]
      clear hE2
      have HKn := Lib.hid (HK.out.keep hb9)
      have HBn := Lib.hid (HB.out.trans (hb9.mono (by have := HB.out.size; rw [HKB.out]; exact this)))
      have HZn := Lib.hid (HBX2.out.keep hb9 HBX2.out.lt)
      clear hb9 HK HB HBX2 b0 b1 b2
      have HK := HKn
      have HB := HBn
      have HBX2 := HZn
      clear HKn HBn HZn
      have b0 := HBX2.out.cell 0 _ rfl
      have b1 := HBX2.out.cell 1 _ rfl
      have b2 := HBX2.out.cell 2 _ rfl
      go_wp2_with fail
      refine (refs_any kb F S a1 _ HK.out (by omega)).mono ?_
      rintro e w9 ⟨v3, rfl, _, hb9⟩
      obtain ⟨E3, hE3⟩ : ∃ E3, E3 = refsT S a1 := ⟨_, rfl⟩
      have HE3 : Hid (ErrR E3.2) := by rw [hE3]; exact err_refsT _ _
      rw [← hE3]
      clear hE3
      have HKn := Lib.hid (HK.out.keep hb9)
      have HBn := Lib.hid (HB.out.trans (hb9.mono (by have := HB.out.size; rw [HKB.out]; exact this)))
      have HZn := Lib.hid (HBX2.out.keep hb9 HBX2.out.lt)
      clear hb9 HK HB HBX2 b0 b1 b2
      have HK := HKn
      have HB := HBn
      have HBX2 := HZn
      clear HKn HBn HZn
      have b0 := HBX2.out.cell 0 _ rfl
      have b1 := HBX2.out.cell 1 _ rfl
      have b2 := HBX2.out.cell 2 _ rfl
      go_wp2_with fail
      refine (tputs_any kb F S a1 key val _ HK.out (by unfold maxLen; omega) ZK ZV).mono ?_
      rintro e w9 ⟨rfl, F9, k9, c9, n9⟩
      obtain ⟨E4, hE4⟩ : ∃ E4, E4 = putT S a1 key val := ⟨_, rfl⟩
      have HE4 : Hid (ErrR E4.1.2) := by rw [hE4]; exact err_putT _ _ _ _
      rw [← hE4] at k9 ⊢
      clear hE4
      have HKn := Lib.hid k9
      have HFn : Hid (∀ i ∈ F9, kb ≤ i) := fun i hi => by
        rcases n9 i hi with h | h
        · exact HFN.out i h
        · have := HB.out.size; rw [HKB.out] at *; omega
      have HBn := Lib.hid (HB.out.trans (c9.below (by have := HB.out.size; rw [HKB.out] at *; omega) HFN.out))
      have HZn : Hid (Box w9 gb 33 #[.int .i64 d, .string key, .string val]) := HBX2.out.keep (c9.below (by have := HB.out.size; rw [HKB.out] at *; omega) HFN.out) (by rw [HKB.out]; exact HBX1.out.lt)
      clear k9 c9 n9 HK HFN HB HBX2 b0 b1 b2
      have HK := HKn
      have HFN := HFn
      have HB := HBn
      have HBX2 := HZn
      clear HKn HBn HZn HFn
      have b0 := HBX2.out.cell 0 _ rfl
      have b1 := HBX2.out.cell 1 _ rfl
      have b2 := HBX2.out.cell 2 _ rfl
      go_wp2_with fail
      refine (tdel_any kb F9 E4.2 a1 key _ HK.out (by unfold maxLen; omega) ZK).mono ?_
      rintro e w9 ⟨rfl, F8, k9, c9, n9⟩
      obtain ⟨E5, hE5⟩ : ∃ E5, E5 = delT E4.2 a1 key := ⟨_, rfl⟩
      have HE5 : Hid (ErrR E5.1.2) := by rw [hE5]; exact err_delT _ _ _
      rw [← hE5] at k9 ⊢
      clear hE5
      have HKn := Lib.hid k9
      have HFn : Hid (∀ i ∈ F8, kb ≤ i) := fun i hi => by
        rcases n9 i hi with h | h
        · exact HFN.out i h
        · have := HB.out.size; rw [HKB.out] at *; omega
      have HBn := Lib.hid (HB.out.trans (c9.below (by have := HB.out.size; rw [HKB.out] at *; omega) HFN.out))
      have HZn : Hid (Box w9 gb 33 #[.int .i64 d, .string key, .string val]) := HBX2.out.keep (c9.below (by have := HB.out.size; rw [HKB.out] at *; omega) HFN.out) (by rw [HKB.out]; exact HBX1.out.lt)
      clear k9 c9 n9 HK HFN HB HBX2 b0 b1 b2
      have HK := HKn
      have HFN := HFn
      have HB := HBn
      have HBX2 := HZn
      clear HKn HBn HZn HFn
      have b0 := HBX2.out.cell 0 _ rfl
      have b1 := HBX2.out.cell 1 _ rfl
      have b2 := HBX2.out.cell 2 _ rfl
      clear b0 b1 b2
      have HBF : Hid (Below w.heap.size w w9) := HBAB.out.trans (HB.out.mono (by have := HBAB.out.size; rw [HKB.out]; exact this))
      clear HK HFN HB HBX2 HBX1 HBAB HBA HBB
      obtain ⟨e1, he1⟩ : ∃ e, e = E1.2 := ⟨_, rfl⟩
      obtain ⟨e2, he2⟩ : ∃ e, e = E2.2 := ⟨_, rfl⟩
      obtain ⟨e3, he3⟩ : ∃ e, e = E3.2 := ⟨_, rfl⟩
      obtain ⟨e4, he4⟩ : ∃ e, e = E4.1.2 := ⟨_, rfl⟩
      obtain ⟨e5, he5⟩ : ∃ e, e = E5.1.2 := ⟨_, rfl⟩
      rw [← he1, ← he2, ← he3, ← he4, ← he5]
      rw [← he1] at HE1
      rw [← he2] at HE2
      rw [← he3] at HE3
      rw [← he4] at HE4
      rw [← he5] at HE5
      clear he1 he2 he3 he4 he5
      have hmn := min5 e1 e2 e3 e4 e5
      have hmx := max5 e1 e2 e3 e4 e5
      have hlo : 0 ≤ mnI (mnI (mnI (mnI e1 e2) e3) e4) e5 := mn_low (mn_low (mn_low (mn_low HE1.out.1 HE2.out.1) HE3.out.1) HE4.out.1) HE5.out.1
      have hhi : mxI (mxI (mxI (mxI e1 e2) e3) e4) e5 ≤ 15 := mx_high (mx_high (mx_high (mx_high HE1.out.2 HE2.out.2) HE3.out.2) HE4.out.2) HE5.out.2
      generalize mnI (mnI (mnI (mnI e1 e2) e3) e4) e5 = mn at *
      generalize mxI (mxI (mxI (mxI e1 e2) e3) e4) e5 = mx at *
      go_wp2_with fail
      refine (live_any _).mono ?_
      rintro e w7 ⟨rfl, hb7⟩
      have HB7 := Lib.hid (HBF.out.trans (hb7.mono HBF.out.size))
      clear hb7
      go_wp2
      go_ret
      exact ⟨rfl, HB7.out⟩
end Go.Proofs.Ytbeldjijnjgbfaa.treeAny
