/-
  The walk of ArcBounds.
-/
import Derived.Test.YtnfdcjchobonaaaArcRun
import Derived.Test.YtnfdcjchobonaaaArcBnd
import Derived.Test.YtnfdcjchobonaaaKeysR
namespace Go.Proofs.Ytnfdcjchobonaaa.arcBounds
open Go.RowKit Go.ChangeShapes Go.WideShapes Go.ChangeAt

/-- What holds behind each call. -/
structure AllA (c : Int) (i : Nat) (d : ArcD) : Prop where
  cz : d.c = c
  ok : OkA d
  inv : InvA d
  bnd : BndA d
  len : d.len ≤ i
theorem all_new {c : Int} (h1 : 1 ≤ c) (h2 : c ≤ 64) : AllA c 0 (newD c) := ⟨rfl, new_ok h1 h2, inv_new c, bnd_new h1, Nat.le_refl _⟩
theorem keep_c (d : ArcD) (k : ByteArray) : (keepA d k).1.c = d.c := by
  unfold keepA
  split
  · exact (again_ct _ k 4 false).1
  · split
    · exact (again_ct _ k 5 true).1
    · exact ((new_ct d).trans (put_ct _ 2 _)).1
theorem ask_c (d : ArcD) (k : ByteArray) : (askA d k).1.c = d.c := by
  unfold askA
  split
  · rfl
  · split
    · rfl
    · split
      · rfl
      · exact keep_c d k
theorem all_ask {c : Int} {i : Nat} {d : ArcD} (h : AllA c i d) (k : ByteArray) : AllA c (i + 1) (askA d k).1 :=
  ⟨(ask_c d k).trans h.cz, ask_ok h.ok k, ask_inv h.inv k, ask_bnd h.inv h.ok h.bnd k, by have := ask_len d k; have := h.len; omega⟩
theorem all_drop {c : Int} {i : Nat} {d : ArcD} (h : AllA c i d) (k : ByteArray) : AllA c (i + 1) (dropA d k).1 :=
  ⟨(drop_ct d k).1.trans h.cz, (drop_ct d k).ok h.ok, (drop_all k h.inv h.bnd).1, (drop_all k h.inv h.bnd).2, by have := dropq_len d k; have := h.len; omega⟩

theorem nodup_get {d : ArcD} (h : InvA d) (i j : Nat) (y z : ByteArray) (hij : i < j) (hi : (d.l 2 ++ d.l 3 ++ d.l 4 ++ d.l 5)[i]? = some y) (hj : (d.l 2 ++ d.l 3 ++ d.l 4 ++ d.l 5)[j]? = some z) : y ≠ z := by
  obtain ⟨h1, rfl⟩ := List.getElem?_eq_some_iff.1 hi
  obtain ⟨h2, rfl⟩ := List.getElem?_eq_some_iff.1 hj
  exact inv_nodup h i j hij h2

set_option maxRecDepth 100000 in
set_option maxHeartbeats 8000000 in
theorem walk (w : World) (a0 : Int) (_w0 : (Lit.int .i64 a0).wf = true) (x1 : Option Addr) (c1 : Nat) (l1 : List OpA) (s1 : SlE w 2 OpK x1 l1) (_m1 : l1.length ≤ maxLen) :
    Calls Try.prog 4 #[.int .i64 a0, .slice x1 l1.length c1] w fun e w' => e = .returned (.bool true) ∧ Below w.heap.size w w' := by
  have HLV := Lib.hid (live_any w)
  have HS := Lib.hid s1
  clear s1
  by_cases hc0 : 200 < l1.length
  · have e1 : decide ((200 : Int) < (l1.length : Int)) = true := decide_eq_true (by omega)
    go_enter Try.func4, Try.ntmps4
    go_wp2_with fail
    refine HLV.out.mono ?_
    rintro e w2 ⟨rfl, hb⟩
    have HB2 := Lib.hid hb
    clear hb
    go_wp2
    go_ret
    exact ⟨rfl, HB2.out⟩
  · have e1 : decide ((200 : Int) < (l1.length : Int)) = false := decide_eq_false (by omega)
    by_cases hc1 : a0 < 1
    · have e2 : decide (a0 < 1) = true := decide_eq_true hc1
      go_enter Try.func4, Try.ntmps4
      go_wp2_with fail
      refine HLV.out.mono ?_
      rintro e w2 ⟨rfl, hb⟩
      have HB2 := Lib.hid hb
      clear hb
      go_wp2
      go_ret
      exact ⟨rfl, HB2.out⟩
    · have e2 : decide (a0 < 1) = false := decide_eq_false hc1
      by_cases hc2 : 64 < a0
      · have e3 : decide (64 < a0) = true := decide_eq_true hc2
        go_enter Try.func4, Try.ntmps4
        go_wp2_with fail
        refine HLV.out.mono ?_
        rintro e w2 ⟨rfl, hb⟩
        have HB2 := Lib.hid hb
        clear hb
        go_wp2
        go_ret
        exact ⟨rfl, HB2.out⟩
      · have e3 : decide (64 < a0) = false := decide_eq_false hc2
        have h1 : l1.length ≤ 200 := by omega
        have h2 : 1 ≤ a0 := by omega
        have h3 : a0 ≤ 64 := by omega
        clear hc0 hc1 hc2
        have HN := Lib.hid (one_new w.heap.size a0 w (Nat.le_refl _) h2 h3)
        have HA0 := Lib.hid (all_new h2 h3)
        clear HLV
        go_enter Try.func4, Try.ntmps4
        go_wp2_with fail
        refine HN.out.mono ?_
        rintro e w1 ⟨b, rfl, ho, hb⟩
        have HO := Lib.hid ho
        have HB := Lib.hid hb
        clear ho hb HN e1 e2 e3
        go_wp2_with fail
        go_loopw [4, 6, 7, 8, 9, 10, 11, 12, 13] (fun _ s _ _ _ _ _ _ _ wr => ∃ j : Nat, j ≤ l1.length ∧ s = .int .i64 j ∧ Hid (∃ d, OneA w.heap.size NoP b d wr ∧ AllA a0 j d) ∧ Hid (Below w.heap.size w wr)) (fun _ s _ _ _ _ _ _ _ _ => l1.length - (intOf s).toNat)
        case atStart => exact ⟨0, Nat.zero_le _, rfl, ⟨_, HO.out, HA0.out⟩, HB⟩
        case round =>
          clear HO HB HA0
          rename_i hkl1
          obtain ⟨j, hj, rfl, HD, HB⟩ := hrel
          obtain ⟨d, ho, ha⟩ := HD.out
          have HO := Lib.hid ho
          have HA := Lib.hid ha
          clear ho ha HD
          by_cases hlt : j < l1.length
          · clear hkl1
            obtain ⟨b1, off, rfl, hbl, q0, q1⟩ := HS.out.aop HB.out j hlt
            have h0 : (0 : Int) ≤ (j : Int) := by omega
            have hj1 : (j : Int) < (l1.length : Int) := by omega
            have HLT := Lib.hid hlt
            generalize l1[j] = x at *
            obtain ⟨xd, xk⟩ := x
            dsimp only at q0 q1
            clear hlt hbl
            by_cases hx : xd = 0
            · subst hx
              have HAK := Lib.hid (one_ask fixed_no HO.out xk (by have := HA.out.len; omega) HA.out.ok)
              have HA2 := Lib.hid (all_ask HA.out xk)
              generalize (askA d xk).2.1 = g1 at *
              generalize (askA d xk).2.2 = g2 at *
              generalize (askA d xk).1 = d2 at *
              clear HA HO
              go_wp2_with fail
              refine HAK.out.mono ?_
              rintro e w2 ⟨rfl, ho, hb⟩
              have HO2 := Lib.hid ho
              have HB2 := Lib.hid (HB.out.trans hb)
              clear ho hb HAK HB q0 q1
              have HLI := Lib.hid (one_lists fixed_no HO2.out (by have := HA2.out.len; omega) HA2.out.ok)
              go_wp2_with fail
              refine HLI.out.mono ?_
              rintro e w4 ⟨x2, x3, x4, x5, rfl, hr4, ho, hb⟩
              have HB4 := Lib.hid (HB2.out.trans (hb.mono HB2.out.size))
              have HO4 := Lib.hid ho
              have HND := Lib.hid (nodup_get HA2.out.inv)
              have HLN : Hid (d2.len ≤ 300) := by show _ ≤ _; have := HA2.out.len; omega
              have HTG := Lib.hid (one_target HO4.out HA2.out.ok)
              obtain ⟨z1, z2, z3⟩ := HA2.out.bnd
              obtain ⟨_, _, z4, z5⟩ := HA2.out.ok
              rw [HA2.out.cz] at z1 z2 z3 z5
              have HAJ : Hid (AllA a0 (j + 1) d2) := HA2
              unfold ArcD.len at z3 HLN
              generalize d2.t = t at *
              have HK2 := Lib.hid hr4.k2
              have HK3 := Lib.hid hr4.k3
              have HK4 := Lib.hid hr4.k4
              have HK5 := Lib.hid hr4.k5
              obtain ⟨p2, q2, rfl, _⟩ := hr4.k2.view
              obtain ⟨p3, q3, rfl, _⟩ := hr4.k3.view
              obtain ⟨p4, q4, rfl, _⟩ := hr4.k4.view
              obtain ⟨p5, q5, rfl, _⟩ := hr4.k5.view
              clear hr4 ho hb HLI HO2 HB2 HA2
              generalize d2.l 2 = L2 at *
              generalize d2.l 3 = L3 at *
              generalize d2.l 4 = L4 at *
              generalize d2.l 5 = L5 at *
              have hln : L2.length + L3.length + L4.length + L5.length ≤ 300 := HLN.out
              have y1 : IntKind.i64.wrap ((L2.length : Int) + (L3.length : Int)) = (L2.length : Int) + (L3.length : Int) := i64_small _ (by omega) (by omega)
              have y2 : IntKind.i64.wrap ((L2.length : Int) + (L3.length : Int) + (L4.length : Int)) = (L2.length : Int) + (L3.length : Int) + (L4.length : Int) := i64_small _ (by omega) (by omega)
              have y3 : IntKind.i64.wrap ((L2.length : Int) + (L3.length : Int) + (L4.length : Int) + (L5.length : Int)) = (L2.length : Int) + (L3.length : Int) + (L4.length : Int) + (L5.length : Int) := i64_small _ (by omega) (by omega)
              have y4 : IntKind.i64.wrap (2 * a0) = 2 * a0 := i64_small _ (by omega) (by omega)
              have y5 : decide (a0 < (L2.length : Int) + (L3.length : Int)) = false := decide_eq_false (by omega)
              have y6 : decide (2 * a0 < (L2.length : Int) + (L3.length : Int) + (L4.length : Int) + (L5.length : Int)) = false := decide_eq_false (by omega)
              have y7 : decide (t < 0) = false := decide_eq_false (by omega)
              have y8 : decide (a0 < t) = false := decide_eq_false (by omega)
              clear z1 z2 z3 z4 z5
              go_wp2_with fail
              refine HTG.out.mono ?_
              rintro e w5 ⟨rfl, rfl⟩
              go_wp2_with fail
              refine HTG.out.mono ?_
              rintro e w5 ⟨rfl, rfl⟩
              clear y1 y2 y3 y4 y5 y6
              go_wp2_with (at_builtin; refine wp_keys_rows _ rfl _ _ rfl w4.heap.size _ _ (.slice p2 L2.length q2) [] L2 rfl (Ks.nil _ _) rfl HK2.out (by simp; omega) (Nat.le_refl _) ?_)
              intro v5 w5 hk hg
              have HB5 : Hid (Below w4.heap.size w4 w5) := (Below.refl _ _).grown hg (Nat.le_refl _) (fun k hk => by cases hk)
              have HV5 : Hid (Ks w5 w4.heap.size v5 L2) := hk
              have HX3 := Lib.hid (HK3.out.keep HB5.out)
              clear hk hg y7 y8
              go_wp2_with (at_builtin; refine wp_keys_rows _ rfl _ _ rfl w4.heap.size _ v5 (.slice p3 L3.length q3) L2 L3 rfl HV5.out rfl HX3.out (by omega) HB5.out.size ?_)
              intro v6 w6 hk hg
              have HB6 : Hid (Below w4.heap.size w4 w6) := HB5.out.trans ((Below.refl _ _).grown hg HB5.out.size (fun k hk => HV5.out.own_block k hk))
              have HV6 : Hid (Ks w6 w4.heap.size v6 (L2 ++ L3)) := hk
              have HX4 := Lib.hid (HK4.out.keep HB6.out)
              clear hk hg HX3
              go_wp2_with (at_builtin; refine wp_keys_rows _ rfl _ _ rfl w4.heap.size _ v6 (.slice p4 L4.length q4) (L2 ++ L3) L4 rfl HV6.out rfl HX4.out (by simp; omega) HB6.out.size ?_)
              intro v7 w7 hk hg
              have HB7 : Hid (Below w4.heap.size w4 w7) := HB6.out.trans ((Below.refl _ _).grown hg HB6.out.size (fun k hk => HV6.out.own_block k hk))
              have HV7 : Hid (Ks w7 w4.heap.size v7 (L2 ++ L3 ++ L4)) := by show Ks _ _ _ _; simpa only [List.append_assoc] using hk
              have HX5 := Lib.hid (HK5.out.keep HB7.out)
              clear hk hg HX4
              go_wp2_with (at_builtin; refine wp_keys_rows _ rfl _ _ rfl w4.heap.size _ v7 (.slice p5 L5.length q5) (L2 ++ L3 ++ L4) L5 rfl HV7.out rfl HX5.out (by simp; omega) HB7.out.size ?_)
              intro v8 w8 hk hg
              have HB8 : Hid (Below w4.heap.size w4 w8) := HB7.out.trans ((Below.refl _ _).grown hg HB7.out.size (fun k hk => HV7.out.own_block k hk))
              have hk : Ks w8 w4.heap.size v8 (L2 ++ L3 ++ L4 ++ L5) := by simpa only [List.append_assoc] using hk
              have hal : (L2 ++ L3 ++ L4 ++ L5).length ≤ 300 := by simp; omega
              generalize hT : L2 ++ L3 ++ L4 ++ L5 = T at *
              have HV8 : Hid (Ks w8 0 v8 T) := hk.low (Nat.zero_le _)
              have HO8 : Hid (OneA w.heap.size NoP b d2 w8) := OneA.keep fixed_no HO4.out HB8.out
              have HW8 := Lib.hid (HB4.out.trans (HB8.out.mono HB4.out.size))
              clear hk hg HX5 HV5 HV6 HV7 HB5 HB6 HB7 HB8 HO4 HB4 HK2 HK3 HK4 HK5 hT hln HLN HTG
              obtain ⟨p6, q6, rfl, _⟩ := HV8.out.view
              go_wp2_with fail
              go_loopw [12, 13] (fun s _ wr => ∃ m : Nat, m ≤ T.length ∧ s = .int .i64 m ∧ Hid (Below w8.heap.size w8 wr)) (fun s _ _ => T.length - (intOf s).toNat)
              case atStart => exact ⟨0, Nat.zero_le _, rfl, Below.refl _ _⟩
              case round =>
                rename_i hkl2
                obtain ⟨m, hm, rfl, HL⟩ := hrel
                by_cases hlt2 : m < T.length
                · clear hkl2
                  have HLT2 := Lib.hid hlt2
                  have hm0 : (0 : Int) ≤ (m : Int) := by omega
                  have hm1 : (m : Int) < (T.length : Int) := by omega
                  obtain ⟨g, rfl⟩ : ∃ g, p6 = some ⟨g, 0, none⟩ := by
                    rcases HV8.out.form with ⟨h5, h6⟩ | ⟨g, cap, h5, _⟩
                    · rw [h6] at hlt2; simp at hlt2
                    · simp only [Value.slice.injEq] at h5; exact ⟨g, h5.1⟩
                  have HC : Hid (∀ wr', Below w8.heap.size w8 wr' → ∀ k (hk : k < T.length), wr'.cell? ⟨g, k, none⟩ = some (.string T[k])) := by
                    intro wr' hb k hk
                    have h7 := HV8.out.keep hb
                    rw [World.ownsRow.cellAt h7 k (by omega), List.getElem?_map, List.getElem?_eq_getElem hk]
                    rfl
                  go_wp2_with fail
                  go_loopw [13] (fun s wr => ∃ k : Nat, k ≤ m ∧ s = .int .i64 k ∧ Hid (Below w8.heap.size w8 wr)) (fun s _ => m - (intOf s).toNat)
                  case atStart => exact ⟨0, Nat.zero_le _, rfl, HL⟩
                  case round =>
                    rename_i hkl3
                    clear HL
                    obtain ⟨k, hk, rfl, HL⟩ := hrel
                    by_cases hlt3 : k < m
                    · clear hkl3
                      have HLT3 := Lib.hid hlt3
                      have hk0 : (0 : Int) ≤ (k : Int) := by omega
                      have hk1 : (k : Int) < (T.length : Int) := by omega
                      have hk2 : (k : Int) < (m : Int) := by omega
                      have q0 := HC.out _ HL.out k (by omega)
                      have q1 := HC.out _ HL.out m hlt2
                      have hne := HND.out k m _ _ hlt3 (List.getElem?_eq_getElem (show k < T.length by omega)) (List.getElem?_eq_getElem hlt2)
                      have hkT : k < T.length := by omega
                      generalize T[k] = y at *
                      generalize T[m] = z at *
                      have eb : (y.toList == z.toList) = false := by rw [beq_key]; exact decide_eq_false hne
                      have HDN : Hid (∀ nq, Below w8.heap.size w8 (wr.drewN nq)) := fun nq => ⟨HL.out.os, HL.out.tape, HL.out.output, HL.out.size, HL.out.block⟩
                      clear hne hlt3
                      go_wp2_with fail
                      go_quiet (fail)
                      go_wp2
                      go_roundw
                      case rel => exact ⟨k + 1, HLT3.out, by go_num, HDN.out _⟩
                      case measure => have := HLT3.out; simp [intOf]; omega
                    · have hkm : k = m := by omega
                      subst hkm
                      go_wp2
                      go_roundw
                      case rel => exact ⟨k + 1, HLT2.out, by go_num, HL⟩
                      case measure => have := HLT2.out; simp [intOf]; omega
                · have hmT : m = T.length := by omega
                  subst hmT
                  have HO9 : Hid (OneA w.heap.size NoP b d2 wr) := OneA.keep fixed_no HO8.out HL.out
                  have HW9 := Lib.hid (HW8.out.trans (HL.out.mono HW8.out.size))
                  clear HO8 HW8
                  go_wp2
                  go_roundw
                  case rel => exact ⟨j + 1, HLT.out, by go_num, ⟨d2, HO9.out, HAJ.out⟩, HW9⟩
                  case measure => have := HLT.out; simp [intOf]; omega
            · have ex : (xd == 0) = false := by simpa using hx
              have HAK := Lib.hid (one_drop fixed_no HO.out xk (by have := HA.out.len; omega) HA.out.ok)
              have HA2 := Lib.hid (all_drop HA.out xk)
              generalize (dropA d xk).2 = g1 at *
              generalize (dropA d xk).1 = d2 at *
              clear HA HO hx
              go_wp2_with fail
              refine HAK.out.mono ?_
              rintro e w2 ⟨rfl, ho, hb⟩
              have HO2 := Lib.hid ho
              have HB2 := Lib.hid (HB.out.trans hb)
              clear ho hb HAK HB q0 q1 ex
              have HLI := Lib.hid (one_lists fixed_no HO2.out (by have := HA2.out.len; omega) HA2.out.ok)
              go_wp2_with fail
              refine HLI.out.mono ?_
              rintro e w4 ⟨x2, x3, x4, x5, rfl, hr4, ho, hb⟩
              have HB4 := Lib.hid (HB2.out.trans (hb.mono HB2.out.size))
              have HO4 := Lib.hid ho
              have HND := Lib.hid (nodup_get HA2.out.inv)
              have HLN : Hid (d2.len ≤ 300) := by show _ ≤ _; have := HA2.out.len; omega
              have HTG := Lib.hid (one_target HO4.out HA2.out.ok)
              obtain ⟨z1, z2, z3⟩ := HA2.out.bnd
              obtain ⟨_, _, z4, z5⟩ := HA2.out.ok
              rw [HA2.out.cz] at z1 z2 z3 z5
              have HAJ : Hid (AllA a0 (j + 1) d2) := HA2
              unfold ArcD.len at z3 HLN
              generalize d2.t = t at *
              have HK2 := Lib.hid hr4.k2
              have HK3 := Lib.hid hr4.k3
              have HK4 := Lib.hid hr4.k4
              have HK5 := Lib.hid hr4.k5
              obtain ⟨p2, q2, rfl, _⟩ := hr4.k2.view
              obtain ⟨p3, q3, rfl, _⟩ := hr4.k3.view
              obtain ⟨p4, q4, rfl, _⟩ := hr4.k4.view
              obtain ⟨p5, q5, rfl, _⟩ := hr4.k5.view
              clear hr4 ho hb HLI HO2 HB2 HA2
              generalize d2.l 2 = L2 at *
              generalize d2.l 3 = L3 at *
              generalize d2.l 4 = L4 at *
              generalize d2.l 5 = L5 at *
              have hln : L2.length + L3.length + L4.length + L5.length ≤ 300 := HLN.out
              have y1 : IntKind.i64.wrap ((L2.length : Int) + (L3.length : Int)) = (L2.length : Int) + (L3.length : Int) := i64_small _ (by omega) (by omega)
              have y2 : IntKind.i64.wrap ((L2.length : Int) + (L3.length : Int) + (L4.length : Int)) = (L2.length : Int) + (L3.length : Int) + (L4.length : Int) := i64_small _ (by omega) (by omega)
              have y3 : IntKind.i64.wrap ((L2.length : Int) + (L3.length : Int) + (L4.length : Int) + (L5.length : Int)) = (L2.length : Int) + (L3.length : Int) + (L4.length : Int) + (L5.length : Int) := i64_small _ (by omega) (by omega)
              have y4 : IntKind.i64.wrap (2 * a0) = 2 * a0 := i64_small _ (by omega) (by omega)
              have y5 : decide (a0 < (L2.length : Int) + (L3.length : Int)) = false := decide_eq_false (by omega)
              have y6 : decide (2 * a0 < (L2.length : Int) + (L3.length : Int) + (L4.length : Int) + (L5.length : Int)) = false := decide_eq_false (by omega)
              have y7 : decide (t < 0) = false := decide_eq_false (by omega)
              have y8 : decide (a0 < t) = false := decide_eq_false (by omega)
              clear z1 z2 z3 z4 z5
              go_wp2_with fail
              refine HTG.out.mono ?_
              rintro e w5 ⟨rfl, rfl⟩
              go_wp2_with fail
              refine HTG.out.mono ?_
              rintro e w5 ⟨rfl, rfl⟩
              clear y1 y2 y3 y4 y5 y6
              go_wp2_with (at_builtin; refine wp_keys_rows _ rfl _ _ rfl w4.heap.size _ _ (.slice p2 L2.length q2) [] L2 rfl (Ks.nil _ _) rfl HK2.out (by simp; omega) (Nat.le_refl _) ?_)
              intro v5 w5 hk hg
              have HB5 : Hid (Below w4.heap.size w4 w5) := (Below.refl _ _).grown hg (Nat.le_refl _) (fun k hk => by cases hk)
              have HV5 : Hid (Ks w5 w4.heap.size v5 L2) := hk
              have HX3 := Lib.hid (HK3.out.keep HB5.out)
              clear hk hg y7 y8
              go_wp2_with (at_builtin; refine wp_keys_rows _ rfl _ _ rfl w4.heap.size _ v5 (.slice p3 L3.length q3) L2 L3 rfl HV5.out rfl HX3.out (by omega) HB5.out.size ?_)
              intro v6 w6 hk hg
              have HB6 : Hid (Below w4.heap.size w4 w6) := HB5.out.trans ((Below.refl _ _).grown hg HB5.out.size (fun k hk => HV5.out.own_block k hk))
              have HV6 : Hid (Ks w6 w4.heap.size v6 (L2 ++ L3)) := hk
              have HX4 := Lib.hid (HK4.out.keep HB6.out)
              clear hk hg HX3
              go_wp2_with (at_builtin; refine wp_keys_rows _ rfl _ _ rfl w4.heap.size _ v6 (.slice p4 L4.length q4) (L2 ++ L3) L4 rfl HV6.out rfl HX4.out (by simp; omega) HB6.out.size ?_)
              intro v7 w7 hk hg
              have HB7 : Hid (Below w4.heap.size w4 w7) := HB6.out.trans ((Below.refl _ _).grown hg HB6.out.size (fun k hk => HV6.out.own_block k hk))
              have HV7 : Hid (Ks w7 w4.heap.size v7 (L2 ++ L3 ++ L4)) := by show Ks _ _ _ _; simpa only [List.append_assoc] using hk
              have HX5 := Lib.hid (HK5.out.keep HB7.out)
              clear hk hg HX4
              go_wp2_with (at_builtin; refine wp_keys_rows _ rfl _ _ rfl w4.heap.size _ v7 (.slice p5 L5.length q5) (L2 ++ L3 ++ L4) L5 rfl HV7.out rfl HX5.out (by simp; omega) HB7.out.size ?_)
              intro v8 w8 hk hg
              have HB8 : Hid (Below w4.heap.size w4 w8) := HB7.out.trans ((Below.refl _ _).grown hg HB7.out.size (fun k hk => HV7.out.own_block k hk))
              have hk : Ks w8 w4.heap.size v8 (L2 ++ L3 ++ L4 ++ L5) := by simpa only [List.append_assoc] using hk
              have hal : (L2 ++ L3 ++ L4 ++ L5).length ≤ 300 := by simp; omega
              generalize hT : L2 ++ L3 ++ L4 ++ L5 = T at *
              have HV8 : Hid (Ks w8 0 v8 T) := hk.low (Nat.zero_le _)
              have HO8 : Hid (OneA w.heap.size NoP b d2 w8) := OneA.keep fixed_no HO4.out HB8.out
              have HW8 := Lib.hid (HB4.out.trans (HB8.out.mono HB4.out.size))
              clear hk hg HX5 HV5 HV6 HV7 HB5 HB6 HB7 HB8 HO4 HB4 HK2 HK3 HK4 HK5 hT hln HLN HTG
              obtain ⟨p6, q6, rfl, _⟩ := HV8.out.view
              go_wp2_with fail
              go_loopw [12, 13] (fun s _ wr => ∃ m : Nat, m ≤ T.length ∧ s = .int .i64 m ∧ Hid (Below w8.heap.size w8 wr)) (fun s _ _ => T.length - (intOf s).toNat)
              case atStart => exact ⟨0, Nat.zero_le _, rfl, Below.refl _ _⟩
              case round =>
                rename_i hkl2
                obtain ⟨m, hm, rfl, HL⟩ := hrel
                by_cases hlt2 : m < T.length
                · clear hkl2
                  have HLT2 := Lib.hid hlt2
                  have hm0 : (0 : Int) ≤ (m : Int) := by omega
                  have hm1 : (m : Int) < (T.length : Int) := by omega
                  obtain ⟨g, rfl⟩ : ∃ g, p6 = some ⟨g, 0, none⟩ := by
                    rcases HV8.out.form with ⟨h5, h6⟩ | ⟨g, cap, h5, _⟩
                    · rw [h6] at hlt2; simp at hlt2
                    · simp only [Value.slice.injEq] at h5; exact ⟨g, h5.1⟩
                  have HC : Hid (∀ wr', Below w8.heap.size w8 wr' → ∀ k (hk : k < T.length), wr'.cell? ⟨g, k, none⟩ = some (.string T[k])) := by
                    intro wr' hb k hk
                    have h7 := HV8.out.keep hb
                    rw [World.ownsRow.cellAt h7 k (by omega), List.getElem?_map, List.getElem?_eq_getElem hk]
                    rfl
                  go_wp2_with fail
                  go_loopw [13] (fun s wr => ∃ k : Nat, k ≤ m ∧ s = .int .i64 k ∧ Hid (Below w8.heap.size w8 wr)) (fun s _ => m - (intOf s).toNat)
                  case atStart => exact ⟨0, Nat.zero_le _, rfl, HL⟩
                  case round =>
                    rename_i hkl3
                    clear HL
                    obtain ⟨k, hk, rfl, HL⟩ := hrel
                    by_cases hlt3 : k < m
                    · clear hkl3
                      have HLT3 := Lib.hid hlt3
                      have hk0 : (0 : Int) ≤ (k : Int) := by omega
                      have hk1 : (k : Int) < (T.length : Int) := by omega
                      have hk2 : (k : Int) < (m : Int) := by omega
                      have q0 := HC.out _ HL.out k (by omega)
                      have q1 := HC.out _ HL.out m hlt2
                      have hne := HND.out k m _ _ hlt3 (List.getElem?_eq_getElem (show k < T.length by omega)) (List.getElem?_eq_getElem hlt2)
                      have hkT : k < T.length := by omega
                      generalize T[k] = y at *
                      generalize T[m] = z at *
                      have eb : (y.toList == z.toList) = false := by rw [beq_key]; exact decide_eq_false hne
                      have HDN : Hid (∀ nq, Below w8.heap.size w8 (wr.drewN nq)) := fun nq => ⟨HL.out.os, HL.out.tape, HL.out.output, HL.out.size, HL.out.block⟩
                      clear hne hlt3
                      go_wp2_with fail
                      go_quiet (fail)
                      go_wp2
                      go_roundw
                      case rel => exact ⟨k + 1, HLT3.out, by go_num, HDN.out _⟩
                      case measure => have := HLT3.out; simp [intOf]; omega
                    · have hkm : k = m := by omega
                      subst hkm
                      go_wp2
                      go_roundw
                      case rel => exact ⟨k + 1, HLT2.out, by go_num, HL⟩
                      case measure => have := HLT2.out; simp [intOf]; omega
                · have hmT : m = T.length := by omega
                  subst hmT
                  have HO9 : Hid (OneA w.heap.size NoP b d2 wr) := OneA.keep fixed_no HO8.out HL.out
                  have HW9 := Lib.hid (HW8.out.trans (HL.out.mono HW8.out.size))
                  clear HO8 HW8
                  go_wp2
                  go_roundw
                  case rel => exact ⟨j + 1, HLT.out, by go_num, ⟨d2, HO9.out, HAJ.out⟩, HW9⟩
                  case measure => have := HLT.out; simp [intOf]; omega
          · have hjl : j = l1.length := by omega
            subst hjl
            have HLV2 := Lib.hid (live_any wr)
            go_wp2_with fail
            refine HLV2.out.mono ?_
            rintro e w5 ⟨rfl, hb⟩
            have HB5 := Lib.hid (HB.out.trans (hb.mono HB.out.size))
            clear hb
            go_wp2
            go_ret
            exact ⟨rfl, HB5.out⟩
end Go.Proofs.Ytnfdcjchobonaaa.arcBounds
