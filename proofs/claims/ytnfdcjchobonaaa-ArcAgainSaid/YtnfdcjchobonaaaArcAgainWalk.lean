/-
  The walk of ArcAgain.
-/
import Derived.Test.YtnfdcjchobonaaaArcRun
namespace Go.Proofs.Ytnfdcjchobonaaa.arcAgain
open Go.RowKit Go.ChangeShapes Go.WideShapes Go.ChangeAt

set_option maxRecDepth 100000 in
set_option maxHeartbeats 4000000 in
theorem walk (w : World) (a0 : Int) (_w0 : (Lit.int .i64 a0).wf = true) (x1 : Option Addr) (c1 : Nat) (l1 : List OpA) (s1 : SlE w 2 OpK x1 l1) (_m1 : l1.length ≤ maxLen) (a2 : ByteArray) (_w2 : a2.size ≤ 140737488351232) :
    Calls Try.prog 8 #[.int .i64 a0, .slice x1 l1.length c1, .string a2] w fun e w' => e = .returned (.bool true) ∧ Below w.heap.size w w' := by
  have HLV := Lib.hid (live_any w)
  have HS := Lib.hid s1
  clear s1
  by_cases hc0 : 100 < l1.length
  · have e1 : decide ((100 : Int) < (l1.length : Int)) = true := decide_eq_true (by omega)
    go_enter Try.func8, Try.ntmps8
    go_wp2_with fail
    refine HLV.out.mono ?_
    rintro e w2 ⟨rfl, hb⟩
    have HB2 := Lib.hid hb
    clear hb
    go_wp2
    go_ret
    exact ⟨rfl, HB2.out⟩
  · have e1 : decide ((100 : Int) < (l1.length : Int)) = false := decide_eq_false (by omega)
    by_cases hc1 : a0 < 1
    · have e2 : decide (a0 < 1) = true := decide_eq_true hc1
      go_enter Try.func8, Try.ntmps8
      go_wp2_with fail
      refine HLV.out.mono ?_
      rintro e w2 ⟨rfl, hb⟩
      have HB2 := Lib.hid hb
      clear hb
      go_wp2
      go_ret
      exact ⟨rfl, HB2.out⟩
    · have e2 : decide (a0 < 1) = false := decide_eq_false hc1
      by_cases hc2 : 64 < a0
      · have e3 : decide (64 < a0) = true := decide_eq_true hc2
        go_enter Try.func8, Try.ntmps8
        go_wp2_with fail
        refine HLV.out.mono ?_
        rintro e w2 ⟨rfl, hb⟩
        have HB2 := Lib.hid hb
        clear hb
        go_wp2
        go_ret
        exact ⟨rfl, HB2.out⟩
      · have e3 : decide (64 < a0) = false := decide_eq_false hc2
        by_cases hc3 : a2 = emp
        · subst hc3
          go_enter Try.func8, Try.ntmps8
          go_wp2_with fail
          refine HLV.out.mono ?_
          rintro e w2 ⟨rfl, hb⟩
          have HB2 := Lib.hid hb
          clear hb
          go_wp2
          go_ret
          exact ⟨rfl, HB2.out⟩
        · have h1 : l1.length ≤ 100 := by omega
          have h2 : 1 ≤ a0 := by omega
          have h3 : a0 ≤ 64 := by omega
          have h4 : a2 ≠ emp := hc3
          clear hc0 hc1 hc2 hc3
          obtain ⟨e4, e5⟩ := str_emp h4
          have H4 := Lib.hid h4
          have HN := Lib.hid (one_new w.heap.size a0 w (Nat.le_refl _) h2 h3)
          have HOK : Hid (∀ l : List OpA, OkA (runA (newD a0) l)) := fun l => run_ok l _ (new_ok h2 h3)
          have HLN : Hid (∀ l : List OpA, (runA (newD a0) l).len ≤ l.length) := fun l => by have := run_len l (newD a0); have := newD_len a0; omega
          clear h2 h3 h4 HLV
          go_enter Try.func8, Try.ntmps8
          go_wp2_with fail
          refine HN.out.mono ?_
          rintro e w1 ⟨b, rfl, ho, hb⟩
          have HO := Lib.hid ho
          have HB := Lib.hid hb
          clear ho hb HN
          clear e1 e2 e3
          go_wp2_with fail
          go_loopw [8] (fun i wr => ∃ j : Nat, j ≤ l1.length ∧ i = .int .i64 j ∧ Hid (OneA w.heap.size NoP b (runA (newD a0) (l1.take j)) wr) ∧ Hid (Below w.heap.size w wr)) (fun i _ => l1.length - (intOf i).toNat)
          case atStart => exact ⟨0, Nat.zero_le _, rfl, HO, HB⟩
          case round =>
            clear HO HB
            rename_i hkl1
            obtain ⟨j, hj, rfl, HO, HB⟩ := hrel
            by_cases hlt : j < l1.length
            · clear hkl1
              obtain ⟨b1, off, rfl, hbl, q0, q1⟩ := HS.out.aop HB.out j hlt
              have h0 : (0 : Int) ≤ (j : Int) := by omega
              have hj1 : (j : Int) < (l1.length : Int) := by omega
              have HT := Lib.hid (List.take_succ_eq_append_getElem hlt)
              have HAK := Lib.hid (one_ask fixed_no HO.out (l1[j].2) (by have := HLN.out (l1.take j); rw [List.length_take] at this; omega) (HOK.out _))
              generalize l1[j] = x at *
              obtain ⟨xd, xk⟩ := x
              dsimp only at q0 q1 HAK
              go_wp2_with fail
              refine HAK.out.mono ?_
              rintro e w2 ⟨rfl, ho, hb⟩
              rw [← run_snoc (newD a0) (l1.take j) (xd, xk), ← HT.out] at ho
              have HO2 := Lib.hid ho
              have HB2 := Lib.hid (HB.out.trans hb)
              clear ho hb q0 q1 HAK
              go_wp2
              go_roundw
              case rel => exact ⟨j + 1, by omega, by go_num, HO2, HB2⟩
              case measure => simp [intOf]; omega
            · have hjl : j = l1.length := by omega
              subst hjl
              rw [List.take_of_length_le (Nat.le_refl _)] at HO
              have HOD := Lib.hid (HOK.out l1)
              have HLD := Lib.hid (HLN.out l1)
              generalize runA (newD a0) l1 = d at *
              have HAK := Lib.hid (one_ask fixed_no HO.out a2 (by have := HLD.out; omega) HOD.out)
              go_wp2_with fail
              refine HAK.out.mono ?_
              rintro e w2 ⟨rfl, ho, hb⟩
              have HO2 := Lib.hid ho
              have HB2 := Lib.hid (HB.out.trans hb)
              have HI := Lib.hid (ask_in d H4.out)
              have HOD2 := Lib.hid (ask_ok HOD.out a2)
              have HLD2 := Lib.hid (ask_len d a2)
              clear ho hb HAK
              have HAK := Lib.hid (one_ask fixed_no HO2.out a2 (by have := HLD.out; have := HLD2.out; omega) HOD2.out)
              generalize (askA d a2).2.1 = g1 at *
              generalize (askA d a2).2.2 = g2 at *
              generalize (askA d a2).1 = d2 at *
              go_wp2_with fail
              refine HAK.out.mono ?_
              rintro e w3 ⟨rfl, ho, hb⟩
              obtain ⟨t1, t2, r, hr⟩ := ask_hit H4.out HI.out
              rw [t1, t2]
              have HO3 := Lib.hid ho
              have HB3 := Lib.hid (HB2.out.trans hb)
              have HR := Lib.hid hr
              have HOD3 := Lib.hid (ask_ok HOD2.out a2)
              have HLD3 := Lib.hid (ask_len d2 a2)
              clear ho hb HAK t1 t2 hr
              generalize (askA d2 a2).1 = d3 at *
              have HLI := Lib.hid (one_lists fixed_no HO3.out (by have := HLD.out; have := HLD2.out; have := HLD3.out; omega) HOD3.out)
              have hrl : r.length + 1 ≤ 200 := by have h5 := d3.le_len in3; rw [HR.out, List.length_append] at h5; have := HLD.out; have := HLD2.out; have := HLD3.out; simp at h5; omega
              go_wp2_with fail
              refine HLI.out.mono ?_
              rintro e w4 ⟨x2, x3, x4, x5, rfl, hr4, ho, hb⟩
              have HB4 := Lib.hid (HB3.out.trans (hb.mono HB3.out.size))
              have hk3 := hr4.k3
              rw [HR.out] at hk3
              obtain ⟨p3, q3, rfl, s3⟩ := hk3.view
              obtain ⟨b3, o3, rfl, hb3, hc3⟩ := s3 (by simp)
              have y3 := hc3 r.length a2 (by simp)
              have elen : (r ++ [a2]).length = r.length + 1 := by simp
              rw [elen]
              generalize r.length = n at *
              have e6 : IntKind.i64.wrap (((n + 1 : Nat) : Int) - 1) = (n : Int) := by rw [show ((n + 1 : Nat) : Int) - 1 = (n : Int) by omega]; exact i64_small _ (by omega) (by omega)
              have e7 : (0 : Int) ≤ (n : Int) := by omega
              have e8 : (n : Int) < ((n + 1 : Nat) : Int) := by omega
              have e9 : decide ((0 : Int) < ((n + 1 : Nat) : Int)) = true := decide_eq_true (by omega)
              have HLV := Lib.hid (live_any w4)
              clear hr4 ho hb hk3 s3 hb3 hc3 HR elen HLI
              go_wp2_with fail
              refine HLV.out.mono ?_
              rintro e w5 ⟨rfl, hb⟩
              have HB5 := Lib.hid (HB4.out.trans (hb.mono HB4.out.size))
              clear hb
              go_wp2
              go_ret
              exact ⟨rfl, HB5.out⟩
end Go.Proofs.Ytnfdcjchobonaaa.arcAgain
