/-
  The walk of HeatOrder.
-/
import Derived.Test.YtgdlnifncmiebaaHeatLive
import Derived.Test.YtgdlnifncmiebaaHeatMath
import Derived.Test.YtgdlnifncmiebaaHeatMath
import Derived.Test.YtgdlnifncmiebaaHeatMath
import Derived.Test.YtgdlnifncmiebaaHeatMath
import Derived.Test.YtgdlnifncmiebaaHeatMath
import Derived.Test.YtgdlnifncmiebaaHeatMath
import Derived.Test.YtgdlnifncmiebaaFrame
namespace Go.Proofs.Ytgdlnifncmiebaa.heatOrder
open Go.RowKit Go.ChangeShapes Go.WideShapes Go.ChangeAt

theorem rot_get (l : List ByteArray) (c j i : Nat) (hc : c < l.length) (hj : j < l.length) (hi : i = (j + c) % l.length) (h : i < l.length) : (l.drop c ++ l.take c)[j]? = some l[i] := by
  have hd : (l.drop c).length = l.length - c := List.length_drop
  by_cases hlt : j < l.length - c
  · have e : (j + c) % l.length = j + c := Nat.mod_eq_of_lt (by omega)
    rw [List.getElem?_append_left (by omega), List.getElem?_drop, ← List.getElem?_eq_getElem h, hi, e, Nat.add_comm]
  · have e : (j + c) % l.length = j - (l.length - c) := by
      have h1 : j + c = (j - (l.length - c)) + l.length := by omega
      rw [h1, Nat.add_mod_right]
      exact Nat.mod_eq_of_lt (by omega)
    rw [List.getElem?_append_right (by omega), hd, List.getElem?_take_of_lt (by omega), ← List.getElem?_eq_getElem h, hi, e]
theorem rot_perm (l : List ByteArray) (c : Nat) : l.Perm (l.drop c ++ l.take c) := by
  have := List.perm_append_comm (l₁ := l.take c) (l₂ := l.drop c)
  rw [List.take_append_drop] at this
  exact this
theorem sl_cell {w w' : World} {a : Option Addr} {l : List ByteArray} (h : Sl w Value.string a l) (hb : Below w.heap.size w w') (j : Nat) (hj : j < l.length) : ∃ b off, a = some ⟨b, off, none⟩ ∧ b < w.heap.size ∧ ∀ i, (hi : i < l.length) → w'.cell? ⟨b, off + i, none⟩ = some (.string l[i]) := by
  obtain ⟨b, off, rfl, hlt, hc⟩ := h (by intro e; rw [e] at hj; simp at hj)
  exact ⟨b, off, rfl, hlt, fun i hi => (hb.cell (p := ⟨b, off + i, none⟩) hlt).trans (hc i _ (List.getElem?_eq_getElem hi))⟩

set_option maxRecDepth 100000 in
set_option maxHeartbeats 4000000 in
theorem walk (w : World) (x0 : Option Addr) (c0 : Nat) (l0 : List ByteArray) (s0 : Sl w Value.string x0 l0) (w0 : ∀ s ∈ l0, s.size ≤ maxLen) (_m0 : l0.length ≤ maxLen) (a1 : Int) (w1 : (Lit.int .i64 a1).wf = true) (a2 : Int) (w2 : (Lit.int .i64 a2).wf = true) :
    Calls Try.prog 7 #[.slice x0 l0.length c0, .int .i64 a1, .int .i64 a2] w fun e w' => e = .returned (.bool true) ∧ Below w.heap.size w w' := by
  have HS := Lib.hid s0
  have HIN1 := Lib.hid (in64_of w1)
  have HIN := Lib.hid (in64_of w2)
  have HWK := Lib.hid w0
  clear s0 w0 w1 w2
  by_cases hc0 : 40 < l0.length
  · have e0 : decide ((40 : Int) < (l0.length : Int)) = true := decide_eq_true (by omega)
    go_enter Try.func7, Try.ntmps7
    go_wp2_with fail
    refine (live_any _).mono ?_
    rintro e w9 ⟨rfl, hb⟩
    have HB9 : Hid (Below w.heap.size w w9) := hb
    clear hb
    go_wp2
    go_ret
    exact ⟨rfl, HB9.out⟩
  · have e0 : decide ((40 : Int) < (l0.length : Int)) = false := decide_eq_false (by omega)
    by_cases hc1 : l0.length = 0
    · have e1 : ((l0.length : Int) == 0) = true := by rw [hc1]; rfl
      go_enter Try.func7, Try.ntmps7
      go_wp2_with fail
      refine (live_any _).mono ?_
      rintro e w9 ⟨rfl, hb⟩
      have HB9 : Hid (Below w.heap.size w w9) := hb
      clear hb
      go_wp2
      go_ret
      exact ⟨rfl, HB9.out⟩
    · have e1 : ((l0.length : Int) == 0) = false := by rw [beq_eq_false_iff_ne]; omega
      by_cases hc2 : a1 < 0
      · have e2 : decide (a1 < 0) = true := decide_eq_true hc2
        go_enter Try.func7, Try.ntmps7
        go_wp2_with fail
        refine (live_any _).mono ?_
        rintro e w9 ⟨rfl, hb⟩
        have HB9 : Hid (Below w.heap.size w w9) := hb
        clear hb
        go_wp2
        go_ret
        exact ⟨rfl, HB9.out⟩
      · have e2 : decide (a1 < 0) = false := decide_eq_false hc2
        obtain ⟨n, hn⟩ : ∃ n, n = l0.length := ⟨_, rfl⟩
        have HN := Lib.hid hn
        have HA1 : Hid (0 ≤ a1) := by show 0 ≤ a1; omega
        have hn0 : 0 < n := by omega
        have hn1 : n ≤ 40 := by omega
        rw [← hn] at e0 e1 ⊢
        clear hn hc0 hc1 hc2
        go_enter Try.func7, Try.ntmps7
        go_wp2_with fail
        refine (one_new w.heap.size w (Nat.le_refl _)).mono ?_
        rintro e w1 ⟨b, rfl, ho, hb⟩
        have HO := Lib.hid ho
        have HB := Lib.hid hb
        clear ho hb
        go_wp2_with fail
        refine (heat_new w1).mono ?_
        rintro e w2 ⟨b2, F2, rfl, hf2, hb, hk2⟩
        have HO : Hid (OneH w.heap.size (Both NoP (HeatF b2 [])) b [] w2) := Sep.more fixed_no (fixed_heat b []) HO.out hb hf2 hk2
        have HB : Hid (Below w.heap.size w w2) := HB.out.trans (hb.mono HB.out.size)
        clear hf2 hb hk2 e0 e1 e2
        obtain ⟨c, hcdef⟩ : ∃ c : Nat, (c : Int) = a1 % (n : Int) := ⟨(a1 % (n : Int)).toNat, Int.toNat_of_nonneg (Int.emod_nonneg a1 (show (n : Int) ≠ 0 by omega))⟩
        have hcn : c < n := by have h := Int.emod_lt_of_pos a1 (show (0 : Int) < (n : Int) by omega); rw [← hcdef] at h; omega
        have k1 : Int.tmod a1 (n : Int) = (c : Int) := by rw [Int.tmod_eq_emod_of_nonneg (by have := HA1.out; omega)]; exact hcdef.symm
        have k2 : ((n : Int) == 0) = false := by simp; omega
        have k3 : ¬ (n : Int) = 0 := by omega
        clear hcdef
        go_wp2_with fail
        go_loopw [9] (fun i wr => ∃ j : Nat, j ≤ n ∧ i = .int .i64 j ∧ Hid (OneH w.heap.size (Both NoP (HeatF b2 (runK [] ((l0.drop c ++ l0.take c).take j) a2))) b (runK [] (l0.take j) a2) wr) ∧ Hid (Below w.heap.size w wr)) (fun i _ => n - (intOf i).toNat)
        case atStart => exact ⟨0, Nat.zero_le _, rfl, HO, HB⟩
        case round =>
          clear HO HB
          rename_i hkl1
          obtain ⟨j, hj, rfl, HO, HB⟩ := hrel
          by_cases hlt : j < n
          · clear hkl1
            have hltl : j < l0.length := by have := HN.out; omega
            obtain ⟨b1, off, rfl, hbl, hcell⟩ := sl_cell HS.out HB.out j hltl
            obtain ⟨i2, hi2⟩ : ∃ i2, i2 = (j + c) % n := ⟨_, rfl⟩
            have hr0 : i2 < n := by rw [hi2]; exact Nat.mod_lt _ hn0
            have hrl : i2 < l0.length := by have := HN.out; omega
            have q0 := hcell j hltl
            have q1 := hcell i2 hrl
            have h0 : (0 : Int) ≤ (j : Int) := by omega
            have hj1 : (j : Int) < (n : Int) := by omega
            have k4 : IntKind.i64.wrap ((j : Int) + (c : Int)) = (j : Int) + (c : Int) := IntWalk.i64_in _ ⟨by omega, by omega⟩
            have k5 : Int.tmod ((j : Int) + (c : Int)) (n : Int) = (i2 : Int) := by rw [Int.tmod_eq_emod_of_nonneg (by omega), hi2, ← Int.natCast_add]; exact (Int.natCast_emod _ _).symm
            have HT := Lib.hid (List.take_succ_eq_append_getElem hltl)
            have HR : Hid ((l0.drop c ++ l0.take c).take (j + 1) = (l0.drop c ++ l0.take c).take j ++ [l0[i2]]) := by
              show _ = _
              have hg := rot_get l0 c j i2 (by have := HN.out; omega) hltl (by rw [hi2, HN.out]) hrl
              have hlen : j < (l0.drop c ++ l0.take c).length := by rw [← (rot_perm l0 c).length_eq]; exact hltl
              rw [List.take_succ_eq_append_getElem hlen]
              rw [List.getElem?_eq_getElem hlen] at hg
              rw [Option.some.inj hg]
            have HX : Hid (l0[j].size ≤ maxLen) := HWK.out _ (List.getElem_mem hltl)
            have HX2 : Hid (l0[i2].size ≤ maxLen) := HWK.out _ (List.getElem_mem hrl)
            have HOKA : Hid (OkM (runK [] (l0.take j) a2)) := runk_ok HIN.out _ _ nil_ok (by simp only [List.length_nil, List.length_take]; omega)
            have HOKB : Hid (OkM (runK [] ((l0.drop c ++ l0.take c).take j) a2)) := runk_ok HIN.out _ _ nil_ok (by simp only [List.length_nil, List.length_take]; omega)
            generalize l0[j] = x at *
            generalize l0[i2] = y at *
            have r0 : (0 : Int) ≤ (i2 : Int) := by omega
            have r1 : (i2 : Int) < (n : Int) := by omega
            clear hcell hi2 hr0 hrl
            by_cases hx : 100 < x.size
            · have d0 : decide ((100 : Int) < (x.size : Int)) = true := decide_eq_true (by omega)
              go_wp2_with fail
              refine (live_any _).mono ?_
              rintro e w9 ⟨rfl, hb⟩
              have HB9 : Hid (Below w.heap.size w w9) := (HB.out.trans (hb.mono HB.out.size))
              clear hb
              go_wp2
              go_ret
              exact ⟨rfl, HB9.out⟩
            · have d0 : decide ((100 : Int) < (x.size : Int)) = false := decide_eq_false (by omega)
              clear hx
              have HF1 : Hid (Fixed (Both NoP (HeatF b2 (runK [] ((l0.drop c ++ l0.take c).take j) a2)))) := fixed_both fixed_no (fixed_heat _ _)
              have HF2 : Hid (Fixed (Both NoP (HeatF b (runK [] (l0.take (j + 1)) a2)))) := fixed_both fixed_no (fixed_heat _ _)
              go_wp2_with fail
              refine (one_touch HF1.out HO.out x a2 HX.out HOKA.out HIN.out).mono ?_
              rintro e w3 ⟨rfl, ho, hb⟩
              rw [← runk_snoc, ← HT.out] at ho
              have HO3 : Hid (OneH w.heap.size (Both NoP (HeatF b (runK [] (l0.take (j + 1)) a2))) b2 (runK [] ((l0.drop c ++ l0.take c).take j) a2) w3) := Sep.swap ho
              have HB3 := Lib.hid (HB.out.trans hb)
              have q2 := (hb.cell (p := ⟨b1, off + i2, none⟩) hbl).trans q1
              clear ho hb q0 q1 d0
              go_wp2_with fail
              refine (one_touch HF2.out HO3.out y a2 HX2.out HOKB.out HIN.out).mono ?_
              rintro e w4 ⟨rfl, ho, hb⟩
              rw [← runk_snoc, ← HR.out] at ho
              have HO4 : Hid (OneH w.heap.size (Both NoP (HeatF b2 (runK [] ((l0.drop c ++ l0.take c).take (j + 1)) a2))) b (runK [] (l0.take (j + 1)) a2) w4) := Sep.swap ho
              have HB4 := Lib.hid (HB3.out.trans hb)
              clear ho hb q2
              go_wp2
              go_roundw
              case rel => exact ⟨j + 1, by omega, by go_num, HO4, HB4⟩
              case measure => simp [intOf]; omega
          · have hjl : j = n := by omega
            subst hjl
            have HRL : Hid ((l0.drop c ++ l0.take c).length = l0.length) := (rot_perm l0 c).length_eq.symm
            have t1 : l0.take j = l0 := List.take_of_length_le (by have := HN.out; omega)
            have t2 : (l0.drop c ++ l0.take c).take j = l0.drop c ++ l0.take c := List.take_of_length_le (by have := HN.out; have := HRL.out; omega)
            rw [t1, t2] at HO
            clear t1 t2
            have HOKA : Hid (OkM (runK [] l0 a2)) := runk_ok HIN.out _ _ nil_ok (by simp only [List.length_nil]; have := HN.out; omega)
            have HOKB : Hid (OkM (runK [] (l0.drop c ++ l0.take c) a2)) := runk_ok HIN.out _ _ nil_ok (by simp only [List.length_nil]; have := HN.out; have := HRL.out; omega)
            have HPM : Hid ((runK [] l0 a2).Perm (runK [] (l0.drop c ++ l0.take c) a2)) := once_perm (once_run l0 [] [] (once_nil a2)) (once_run (l0.drop c ++ l0.take c) [] [] (once_nil a2)) (rot_perm l0 c)
            have HHL : Hid ((hotM (runK [] (l0.drop c ++ l0.take c) a2) a2 100).length ≤ 100000) := by
              show (((sortI _).take _).map _).length ≤ _
              rw [List.length_map, List.length_take]
              have : ((100 : Int)).toNat = 100 := rfl
              omega
            generalize runK [] l0 a2 = M at *
            generalize runK [] (l0.drop c ++ l0.take c) a2 = N at *
            have HF1 : Hid (Fixed (Both NoP (HeatF b2 N))) := fixed_both fixed_no (fixed_heat _ _)
            go_wp2_with fail
            refine (one_hot HF1.out HO.out a2 100 HOKA.out HIN.out.2).mono ?_
            rintro e w3 ⟨x, rfl, hx, ho, hb⟩
            rw [hot_perm HPM.out] at hx
            have HO3 : Hid (Sep w.heap.size (Both (Both NoP (HeatF b2 N)) (RowF x (hotM N a2 100))) (HeatF b M) w3) := OneH.row HF1.out HO.out hb hx
            have HB3 := Lib.hid (HB.out.trans (hb.mono HB.out.size))
            have hxk := hx.low (Nat.zero_le _)
            clear ho hb
            obtain ⟨F3, hf3, hlo3⟩ : ∃ F3, HeatF b2 N F3 w3 ∧ ∀ k ∈ F3, w.heap.size ≤ k := by
              obtain ⟨_, G, F, ⟨G1, G2, rfl, ⟨G3, G4, rfl, _, h5, _⟩, _, _⟩, _, _, h8⟩ := HO3.out
              exact ⟨G4, h5, fun k hk => h8 k (by simp [hk])⟩
            have HX := Lib.hid hxk
            have HF3 := Lib.hid hf3
            clear hx hxk hf3 hlo3
            go_wp2_with fail
            refine (hot_any b2 F3 N a2 100 w3 HF3.out HOKB.out HIN.out.2).mono ?_
            rintro e w4 ⟨y, rfl, hy, hb⟩
            have HB4 := Lib.hid (HB3.out.trans (hb.mono HB3.out.size))
            have hx4 := HX.out.keep hb
            have HM4 : Hid (∃ F, HeatF b M F w4) := by
              obtain ⟨_, G, F, _, h2, _⟩ := HO3.out
              exact ⟨F, (fixed_heat b M).keep _ _ _ _ h2 (Chg.of (S := []) hb (Nat.le_refl _)) (fun _ _ h => by cases h)⟩
            have HN4 : Hid (∃ F, HeatF b2 N F w4) := ⟨F3, (fixed_heat b2 N).keep _ _ _ _ HF3.out (Chg.of (S := []) hb (Nat.le_refl _)) (fun _ _ h => by cases h)⟩
            obtain ⟨xa, xc, rfl, xs⟩ := hx4.view
            obtain ⟨ya, yc, rfl, ys⟩ := hy.view
            have HXS := Lib.hid xs
            have HYS := Lib.hid ys
            clear hb hx4 xs hy ys HO HO3 HX HF3
            have HPL : Hid ((M.length : Int) = (N.length : Int)) := by have := HPM.out.length_eq; show _ = _; omega
            go_wp2_with fail
            refine (same_keys xa ya xc yc _ _ w4 HXS.out HYS.out HHL.out).mono ?_
            rintro e w5 ⟨rfl, hb⟩
            rw [decide_eq_true rfl]
            have HB5 := Lib.hid (HB4.out.trans (hb.mono HB4.out.size))
            have HM5 : Hid (∃ F, HeatF b M F w5) := by
              obtain ⟨F, h2⟩ := HM4.out
              exact ⟨F, (fixed_heat b M).keep _ _ _ _ h2 (Chg.of (S := []) hb (Nat.le_refl _)) (fun _ _ h => by cases h)⟩
            have HN5 : Hid (∃ F, HeatF b2 N F w5) := by
              obtain ⟨F, h2⟩ := HN4.out
              exact ⟨F, (fixed_heat b2 N).keep _ _ _ _ h2 (Chg.of (S := []) hb (Nat.le_refl _)) (fun _ _ h => by cases h)⟩
            clear hb HM4 HN4 HXS HYS
            obtain ⟨FM, hM5⟩ := HM5.out
            obtain ⟨FN, hN5⟩ := HN5.out
            have HLM := Lib.hid (len_any b FM M w5 hM5)
            have HLN := Lib.hid (len_any b2 FN N w5 hN5)
            clear hM5 hN5
            go_wp2_with fail
            refine HLM.out.mono ?_
            rintro e w6 ⟨rfl, rfl⟩
            rw [HPL.out]
            go_wp2_with fail
            refine HLN.out.mono ?_
            rintro e w6 ⟨rfl, rfl⟩
            go_wp2_with fail
            refine (live_any _).mono ?_
            rintro e w9 ⟨rfl, hb⟩
            have HB9 : Hid (Below w.heap.size w w9) := (HB5.out.trans (hb.mono HB5.out.size))
            clear hb
            go_wp2
            go_ret
            exact ⟨rfl, HB9.out⟩
end Go.Proofs.Ytgdlnifncmiebaa.heatOrder
