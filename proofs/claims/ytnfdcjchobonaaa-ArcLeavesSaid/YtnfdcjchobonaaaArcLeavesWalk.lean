/-
  The walk of ArcLeaves.
-/
import Derived.Test.YtnfdcjchobonaaaArcRun
import Derived.Test.YtnfdcjchobonaaaArcInv
import Derived.Test.YtnfdcjchobonaaaKeysR
import Derived.Deep.RegionHeld3
namespace Go.Proofs.Ytnfdcjchobonaaa.arcLeaves
open Go.RowKit Go.ChangeShapes Go.WideShapes Go.ChangeAt

theorem run_inv : ∀ (l : List OpA) (d : ArcD), InvA d → InvA (runA d l)
  | [], _, h => h
  | x :: r, _, h => run_inv r _ (ask_inv h x.2)
/-- What the statement looks at, behind one more Ask. -/
theorem leaves {d : ArcD} (h : InvA d) {k : ByteArray} (hk : k ≠ emp) : (askA d k).2.1 = (hasA d 2 k || hasA d 3 k) ∧ (askA d k).2.2 ≠ k ∧
    (∀ x ∈ d.l 2 ++ d.l 3, (hasA (askA d k).1 2 x || hasA (askA d k).1 3 x) = !decide (x = (askA d k).2.2)) ∧ ((askA d k).2.2 = emp ∨ hasK (d.l 2 ++ d.l 3) (askA d k).2.2 = true) := by
  have hs := ask_spec h hk
  have hi := has_t.1 (ask_in d hk)
  have hinv : ∀ x, tK d x ≤ 1 := fun x => by have := h.one x; unfold cnt at this; unfold tK; omega
  have hmem : ∀ x, x ∈ d.l 2 ++ d.l 3 ↔ 0 < tK d x := fun x => by
    rw [List.mem_append, ← hasK_iff, ← hasK_iff, cK_has, cK_has]
    unfold tK
    omega
  have hout : (askA d k).2.2 ≠ k := fun e => by
    have h1 := hs.t k hk
    have h2 := hs.hh
    rw [if_pos e] at h1
    have h3 := hinv k
    by_cases h4 : 0 < tK d k
    · rw [decide_eq_true h4] at h2
      rw [h2] at h1
      simp at h1
      omega
    · rw [decide_eq_false h4] at h2
      rw [h2] at h1
      simp at h1
      omega
  refine ⟨by rw [hs.hh, has_t0], hout, fun x hx => ?_, ?_⟩
  · have hx0 := (hmem x).1 hx
    have hxe : x ≠ emp := by
      rintro rfl
      have := h.none
      unfold cnt at this
      unfold tK at hx0
      omega
    have h1 := hs.t x hxe
    have h3 := hinv x
    rw [has_t0]
    by_cases e : (askA d k).2.2 = x
    · have hkx : ¬ k = x := fun e2 => hout (by rw [e, e2])
      rw [if_pos e, if_neg (fun h => hkx h.1)] at h1
      rw [decide_eq_false (by omega), decide_eq_true e.symm]
      rfl
    · rw [if_neg e] at h1
      rw [decide_eq_true (by omega), decide_eq_false (fun e2 => e e2.symm)]
      rfl
  · by_cases e : (askA d k).2.2 = emp
    · exact .inl e
    · right
      rw [hasK_iff, hmem]
      have h1 := hs.t _ e
      rw [if_pos rfl, if_neg (fun h => hout h.1.symm)] at h1
      omega

set_option maxRecDepth 100000 in
set_option maxHeartbeats 4000000 in
theorem walk (w : World) (a0 : Int) (_w0 : (Lit.int .i64 a0).wf = true) (x1 : Option Addr) (c1 : Nat) (l1 : List OpA) (s1 : SlE w 2 OpK x1 l1) (_m1 : l1.length ≤ maxLen) (a2 : ByteArray) (_w2 : a2.size ≤ 140737488351232) :
    Calls Try.prog 5 #[.int .i64 a0, .slice x1 l1.length c1, .string a2] w fun e w' => e = .returned (.bool true) ∧ Below w.heap.size w w' := by
  have HLV := Lib.hid (live_any w)
  have HS := Lib.hid s1
  clear s1
  by_cases hc0 : 100 < l1.length
  · have e1 : decide ((100 : Int) < (l1.length : Int)) = true := decide_eq_true (by omega)
    go_enter Try.func5, Try.ntmps5
    go_wp2_with fail
    refine HLV.out.mono ?_
    rintro e w2 ⟨rfl, hb⟩
    have HB2 := Lib.hid hb
    clear hb
    go_wp2
    go_ret
    exact ⟨rfl, HB2.out⟩
  · have e1 : decide ((100 : Int) < (l1.length : Int)) = false := decide_eq_false (by omega)
    by_cases hc1 : a0 < 1
    · have e2 : decide (a0 < 1) = true := decide_eq_true hc1
      go_enter Try.func5, Try.ntmps5
      go_wp2_with fail
      refine HLV.out.mono ?_
      rintro e w2 ⟨rfl, hb⟩
      have HB2 := Lib.hid hb
      clear hb
      go_wp2
      go_ret
      exact ⟨rfl, HB2.out⟩
    · have e2 : decide (a0 < 1) = false := decide_eq_false hc1
      by_cases hc2 : 64 < a0
      · have e3 : decide (64 < a0) = true := decide_eq_true hc2
        go_enter Try.func5, Try.ntmps5
        go_wp2_with fail
        refine HLV.out.mono ?_
        rintro e w2 ⟨rfl, hb⟩
        have HB2 := Lib.hid hb
        clear hb
        go_wp2
        go_ret
        exact ⟨rfl, HB2.out⟩
      · have e3 : decide (64 < a0) = false := decide_eq_false hc2
        by_cases hc3 : a2 = emp
        · subst hc3
          go_enter Try.func5, Try.ntmps5
          go_wp2_with fail
          refine HLV.out.mono ?_
          rintro e w2 ⟨rfl, hb⟩
          have HB2 := Lib.hid hb
          clear hb
          go_wp2
          go_ret
          exact ⟨rfl, HB2.out⟩
        · have h1 : l1.length ≤ 100 := by omega
          have h2 : 1 ≤ a0 := by omega
          have h3 : a0 ≤ 64 := by omega
          have h4 : a2 ≠ emp := hc3
          clear hc0 hc1 hc2 hc3
          obtain ⟨e4, e5⟩ := str_emp h4
          have H4 := Lib.hid h4
          have HN := Lib.hid (one_new w.heap.size a0 w (Nat.le_refl _) h2 h3)
          have HOK : Hid (∀ l : List OpA, OkA (runA (newD a0) l)) := fun l => run_ok l _ (new_ok h2 h3)
          have HLN : Hid (∀ l : List OpA, (runA (newD a0) l).len ≤ l.length) := fun l => by have := run_len l (newD a0); have := newD_len a0; omega
          clear h2 h3 h4 HLV
          go_enter Try.func5, Try.ntmps5
          go_wp2_with fail
          refine HN.out.mono ?_
          rintro e w1 ⟨b, rfl, ho, hb⟩
          have HO := Lib.hid ho
          have HB := Lib.hid hb
          clear ho hb HN
          clear e1 e2 e3
          go_wp2_with fail
          go_loopw [8] (fun i wr => ∃ j : Nat, j ≤ l1.length ∧ i = .int .i64 j ∧ Hid (OneA w.heap.size NoP b (runA (newD a0) (l1.take j)) wr) ∧ Hid (Below w.heap.size w wr)) (fun i _ => l1.length - (intOf i).toNat)
          case atStart => exact ⟨0, Nat.zero_le _, rfl, HO, HB⟩
          case round =>
            clear HO HB
            rename_i hkl1
            obtain ⟨j, hj, rfl, HO, HB⟩ := hrel
            by_cases hlt : j < l1.length
            · clear hkl1
              obtain ⟨b1, off, rfl, hbl, q0, q1⟩ := HS.out.aop HB.out j hlt
              have h0 : (0 : Int) ≤ (j : Int) := by omega
              have hj1 : (j : Int) < (l1.length : Int) := by omega
              have HT := Lib.hid (List.take_succ_eq_append_getElem hlt)
              have HAK := Lib.hid (one_ask fixed_no HO.out (l1[j].2) (by have := HLN.out (l1.take j); rw [List.length_take] at this; omega) (HOK.out _))
              generalize l1[j] = x at *
              obtain ⟨xd, xk⟩ := x
              dsimp only at q0 q1 HAK
              go_wp2_with fail
              refine HAK.out.mono ?_
              rintro e w2 ⟨rfl, ho, hb⟩
              rw [← run_snoc (newD a0) (l1.take j) (xd, xk), ← HT.out] at ho
              have HO2 := Lib.hid ho
              have HB2 := Lib.hid (HB.out.trans hb)
              clear ho hb q0 q1 HAK
              go_wp2
              go_roundw
              case rel => exact ⟨j + 1, by omega, by go_num, HO2, HB2⟩
              case measure => simp [intOf]; omega
            · have hjl : j = l1.length := by omega
              subst hjl
              rw [List.take_of_length_le (Nat.le_refl _)] at HO
              have HOD := Lib.hid (HOK.out l1)
              have HLD := Lib.hid (HLN.out l1)
              have HIV : Hid (InvA (runA (newD a0) l1)) := run_inv l1 _ (inv_new a0)
              generalize runA (newD a0) l1 = d at *
              have HLI := Lib.hid (one_lists fixed_no HO.out (by have := HLD.out; omega) HOD.out)
              go_wp2_with fail
              refine HLI.out.mono ?_
              rintro e w4 ⟨x2, x3, x4, x5, rfl, hr4, ho, hb⟩
              have HB4 := Lib.hid (HB.out.trans (hb.mono HB.out.size))
              have HO4 := Lib.hid ho
              have HK2 := Lib.hid hr4.k2
              have HK3 := Lib.hid hr4.k3
              have L2 := d.le_len in2
              have L3 := d.le_len in3
              have HL23 : Hid ((d.l 2).length + (d.l 3).length ≤ 200) := by show _ ≤ _; have := HLD.out; omega
              clear hr4 ho hb HLI L2 L3
              go_wp2_with (at_builtin; refine wp_keys_rows _ rfl _ _ rfl w4.heap.size _ _ x2 [] (d.l 2) rfl (Ks.nil _ _) rfl HK2.out (by have := HL23.out; simp; omega) (Nat.le_refl _) ?_)
              intro v5 w5 hk hg
              have HB5 : Hid (Below w4.heap.size w4 w5) := (Below.refl _ _).grown hg (Nat.le_refl _) (fun k hk => by cases hk)
              have HV5 : Hid (Ks w5 w4.heap.size v5 (d.l 2)) := hk
              have HK35 := Lib.hid (HK3.out.keep HB5.out)
              clear hk hg
              go_wp2_with (at_builtin; refine wp_keys_rows _ rfl _ _ rfl w4.heap.size _ v5 x3 (d.l 2) (d.l 3) rfl HV5.out rfl HK35.out (by have := HL23.out; omega) HB5.out.size ?_)
              intro v6 w6 hk hg
              have HB6 : Hid (Below w4.heap.size w4 w6) := HB5.out.trans ((Below.refl _ _).grown hg HB5.out.size (fun k hk => HV5.out.own_block k hk))
              have HV6 : Hid (Ks w6 w4.heap.size v6 (d.l 2 ++ d.l 3)) := hk
              have HO6 : Hid (OneA w.heap.size (Both NoP (RowF v6 (d.l 2 ++ d.l 3))) b d w6) := Sep.more fixed_no (fixed_arc b d) HO4.out HB6.out (H := v6.ownBlock.toList) ⟨hk.low (Nat.zero_le _), rfl⟩ (fun k hk2 => hk.own_block k (by simpa using hk2))
              have HW6 := Lib.hid (HB4.out.trans (HB6.out.mono HB4.out.size))
              have HFX := Lib.hid (fixed_both fixed_no (fixed_row v6 (d.l 2 ++ d.l 3)))
              clear hk hg HV5 HK35 HB5 HK2 HK3 HO4 HB4 HO HB HV6 HB6
              obtain ⟨z1, z2, z3, z4⟩ := leaves HIV.out H4.out
              have HI := Lib.hid (ask_in d H4.out)
              have HLK := Lib.hid (ask_len d a2)
              have HOK2 := Lib.hid (ask_ok HOD.out a2)
              have HHS := Lib.hid (one_has HFX.out HO6.out a2 (by have := HLD.out; omega) HOD.out)
              generalize hT : d.l 2 ++ d.l 3 = T at *
              have HTL : Hid (T.length ≤ 200) := by show _ ≤ _; rw [← hT, List.length_append]; exact HL23.out
              go_wp2_with fail
              refine HHS.out.mono ?_
              rintro e w7 ⟨rfl, ho, hb⟩
              have HO7 := Lib.hid ho
              have HW7 := Lib.hid (HW6.out.trans (hb.mono HW6.out.size))
              clear ho hb HHS HO6 HW6
              have HAK := Lib.hid (one_ask HFX.out HO7.out a2 (by have := HLD.out; omega) HOD.out)
              rw [z1] at HAK
              generalize (hasA d 2 a2 || hasA d 3 a2) = hd at *
              generalize (askA d a2).2.2 = out at *
              generalize (askA d a2).1 = d2 at *
              clear z1
              go_wp2_with fail
              refine HAK.out.mono ?_
              rintro e w8 ⟨rfl, ho, hb⟩
              have HO8 := Lib.hid ho
              have HW8 := Lib.hid (HW7.out.trans hb)
              have Z2 := Lib.hid z2
              have Z3 := Lib.hid z3
              have Z4 := Lib.hid z4
              clear ho hb HAK HO7 HW7 z2 z3 z4 hT
              have HHS := Lib.hid (one_has HFX.out HO8.out a2 (by have := HLD.out; have := HLK.out; omega) HOK2.out)
              rw [HI.out] at HHS
              have eb : (hd != hd) = false := by cases hd <;> rfl
              have eo : (out.toList == a2.toList) = false := by rw [beq_key]; exact decide_eq_false Z2.out
              go_wp2_with fail
              refine HHS.out.mono ?_
              rintro e w9 ⟨rfl, ho, hb⟩
              have HO9 := Lib.hid ho
              have HW9 := Lib.hid (HW8.out.trans (hb.mono HW8.out.size))
              clear ho hb HHS HO8 HW8
              have HR9 : Hid (Ks w9 0 v6 T) := by obtain ⟨_, _, _, ⟨_, _, _, _, h2, _⟩, _⟩ := HO9.out; exact h2.1
              obtain ⟨p6, q6, e6, hs6⟩ := HR9.out.view
              subst e6
              have HS6 := Lib.hid hs6
              clear hs6
              go_wp2_with fail
              clear eb eo
              go_loopw [17] (fun i wr => ∃ j : Nat, j ≤ T.length ∧ i = .int .i64 j ∧ Hid (OneA w.heap.size (Both NoP (RowF (.slice p6 T.length q6) T)) b d2 wr) ∧ Hid (Below w.heap.size w wr)) (fun i _ => T.length - (intOf i).toNat)
              case atStart => exact ⟨0, Nat.zero_le _, rfl, HO9, HW9⟩
              case round =>
                clear HO9 HW9 HR9 HS6
                rename_i hkl2
                obtain ⟨j, hj, rfl, HOr, HWr⟩ := hrel
                by_cases hlt : j < T.length
                · clear hkl2
                  have HRr : Hid (Ks wr 0 (.slice p6 T.length q6) T) := by obtain ⟨_, _, _, ⟨_, _, _, _, h2, _⟩, _⟩ := HOr.out; exact h2.1
                  obtain ⟨g, rfl⟩ : ∃ g, p6 = some ⟨g, 0, none⟩ := by
                    rcases HRr.out.form with ⟨h5, h6⟩ | ⟨g, cap, h5, _⟩
                    · rw [h6] at hlt; simp at hlt
                    · simp only [Value.slice.injEq] at h5; exact ⟨g, h5.1⟩
                  have hmem : T[j] ∈ T := List.getElem_mem hlt
                  have HSC : Hid (wr.drew.cell? ⟨g, j, none⟩ = some (.string T[j])) := by
                    show wr.cell? ⟨g, j, none⟩ = _
                    rw [World.ownsRow.cellAt HRr.out j (by omega), List.getElem?_map, List.getElem?_eq_getElem hlt]
                    rfl
                  have HZ := Lib.hid (Z3.out _ hmem)
                  have HLT := Lib.hid hlt
                  have hjb : T.length ≤ 200 := HTL.out
                  have h0 : (0 : Int) ≤ (j : Int) := by omega
                  have hj1 : (j : Int) < (T.length : Int) := by omega
                  have HOr : Hid (OneA w.heap.size (Both NoP (RowF (.slice (some ⟨g, 0, none⟩) T.length q6) T)) b d2 wr.drew) := OneA.keep HFX.out HOr.out ((Below.refl _ _).drew)
                  have HWr : Hid (Below w.heap.size w wr.drew) := HWr.out.drew
                  generalize T[j] = x at *
                  clear hmem hlt HRr
                  have eb := beq_key x out
                  by_cases hxo : x = out
                  · rw [decide_eq_true hxo] at HZ eb
                    clear hxo
                    go_wp2_with fail
                    go_region_held3 (fun W => W.cell? ⟨g, j, none⟩ = some (.string x)) (with_reducible exact HSC.out)
                      ((go_at_call 17; refine (one_has HFX.out HOr.out x (by have := HLD.out; have := HLK.out; omega) HOK2.out).mono ?_; rintro e u2 ⟨rfl, ho, hb⟩; rw [HZ.out]; have HSC : Hid (u2.cell? ⟨g, j, none⟩ = some (.string x)) := (hb.cell (p := ⟨g, j, none⟩) (lt_of_cell HSC.out)).trans HSC.out; have HOr := Lib.hid ho; have HWr := Lib.hid (HWr.out.trans (hb.mono HWr.out.size)); clear ho hb; dsimp only))
                    all_goals
                      go_wp2
                      go_roundw
                      case rel => exact ⟨j + 1, HLT.out, by go_num, HOr, HWr⟩
                      case measure => have := HLT.out; simp [intOf]; omega
                  · rw [decide_eq_false hxo] at HZ eb
                    clear hxo
                    go_wp2_with fail
                    go_region_held3 (fun W => W.cell? ⟨g, j, none⟩ = some (.string x)) (with_reducible exact HSC.out)
                      ((go_at_call 17; refine (one_has HFX.out HOr.out x (by have := HLD.out; have := HLK.out; omega) HOK2.out).mono ?_; rintro e u2 ⟨rfl, ho, hb⟩; rw [HZ.out]; have HSC : Hid (u2.cell? ⟨g, j, none⟩ = some (.string x)) := (hb.cell (p := ⟨g, j, none⟩) (lt_of_cell HSC.out)).trans HSC.out; have HOr := Lib.hid ho; have HWr := Lib.hid (HWr.out.trans (hb.mono HWr.out.size)); clear ho hb; dsimp only))
                    all_goals
                      go_wp2
                      go_roundw
                      case rel => exact ⟨j + 1, HLT.out, by go_num, HOr, HWr⟩
                      case measure => have := HLT.out; simp [intOf]; omega
                · have hjl : j = T.length := by omega
                  subst hjl
                  have HLV2 := Lib.hid (live_any wr)
                  by_cases ho : out = emp
                  · subst ho
                    go_wp2_with fail
                    refine HLV2.out.mono ?_
                    rintro e w5 ⟨rfl, hb⟩
                    have HB5 := Lib.hid (HWr.out.trans (hb.mono HWr.out.size))
                    clear hb
                    go_wp2
                    go_ret
                    exact ⟨rfl, HB5.out⟩
                  · have hi : hasK T out = true := by rcases Z4.out with h | h; exact absurd h ho; exact h
                    have HRr : Hid (Ks wr 0 (.slice p6 T.length q6) T) := by obtain ⟨_, _, _, ⟨_, _, _, _, h2, _⟩, _⟩ := HOr.out; exact h2.1
                    obtain ⟨pp, qq, epp, hs6⟩ := HRr.out.view
                    simp only [Value.slice.injEq, true_and] at epp
                    obtain ⟨rfl, rfl⟩ := epp
                    have HIN := Lib.hid (in_keys p6 q6 T out wr hs6 (by have := HTL.out; omega))
                    rw [hi] at HIN
                    obtain ⟨e6, e7⟩ := str_emp ho
                    clear hs6 hi ho HRr
                    go_wp2_with fail
                    refine HIN.out.mono ?_
                    rintro e w5 ⟨rfl, rfl⟩
                    go_wp2_with fail
                    refine HLV2.out.mono ?_
                    rintro e w5 ⟨rfl, hb⟩
                    have HB5 := Lib.hid (HWr.out.trans (hb.mono HWr.out.size))
                    clear hb
                    go_wp2
                    go_ret
                    exact ⟨rfl, HB5.out⟩
end Go.Proofs.Ytnfdcjchobonaaa.arcLeaves
