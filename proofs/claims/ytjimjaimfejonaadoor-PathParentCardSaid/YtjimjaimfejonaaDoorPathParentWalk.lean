/-
  The walk of PathParent.
-/
import Derived.Test.YtjimjaimfejonaaDoorPathLive
import Derived.Test.YtjimjaimfejonaaDoorFrame
import Derived.Test.YtjimjaimfejonaaDoorPathV
import Derived.Test.YtjimjaimfejonaaDoorKeysRows
namespace Go.Proofs.YtjimjaimfejonaaDoor.pathParent
open Go Go.RowKit

theorem last_back : ∀ (l : List ByteArray), l ≠ [] → l.dropLast ++ [l.getLastD ⟨#[]⟩] = l := by
  intro l h
  rcases List.eq_nil_or_concat l with rfl | ⟨r, x, rfl⟩
  · exact absurd rfl h
  · simp
theorem parent_facts {s : ByteArray} (h : (splitD s).2 = 0) (h2 : (splitD s).1 ≠ []) : ∃ P f z, parD s = ⟨P, z, 0⟩ ∧ splitD P = (f, 0) ∧ P.size ≤ s.size ∧ joinD (f ++ [z]) = s ∧ witD P s = true ∧ witD s P = false ∧ witD pT1 s = true ∧ witD s s = true ∧ f.length ≤ s.size + 1 := by
  have hl := last_back _ h2
  have hj := join_split h
  have hs : splitD (joinD (splitD s).1.dropLast) = ((splitD s).1.dropLast, 0) := split_join (fun x hx => names_ok h x (List.dropLast_subset _ hx))
  have hz := join_front (splitD s).1
  rw [hj] at hz
  have hn := split_len s
  have hd : (splitD s).1.dropLast.length = (splitD s).1.length - 1 := List.length_dropLast
  have hp : 0 < (splitD s).1.length := List.length_pos_iff.2 h2
  refine ⟨_, (splitD s).1.dropLast, _, parD_ok h h2, hs, hz, by rw [hl, hj], ?_, ?_, ?_, ?_, by omega⟩
  · refine decide_eq_true ⟨by rw [hs], h, ?_⟩
    rw [hs]
    exact List.dropLast_prefix _
  · refine witD_no3 ?_
    rw [hs]
    show (splitD s).1.dropLast.length < _
    omega
  · exact decide_eq_true ⟨by rw [pS1], h, by rw [pS1]; exact List.nil_prefix⟩
  · exact decide_eq_true ⟨h, h, List.prefix_refl _⟩

set_option maxRecDepth 100000 in
set_option maxHeartbeats 2000000 in
theorem walk (w : World) (a0 : ByteArray) (_ : a0.size ≤ 140737488351232) : Calls Tryd.prog 5 #[.string a0] w fun e w' => e = .returned (.bool true) ∧ Below w.heap.size w w' := by
  by_cases h1 : a0.size ≤ 2000
  · have d1 : ((2000 : Int) < (a0.size : Int)) = False := eq_false (by omega)
    have H5 := Lib.hid (show a0.size ≤ 5000 by omega)
    by_cases hea : (splitD a0).2 = 0
    · by_cases h2 : (splitD a0).1 = []
      · have HP := Lib.hid (parD_root hea h2)
        clear h1 hea h2
        go_enter Tryd.func5, Tryd.ntmps5
        go_wp2_with fail
        refine (parent_any a0 H5.out _).mono ?_
        rintro e w1 ⟨rfl, hb⟩
        have HB1 := Lib.hid hb
        rw [HP.out]
        unfold parV
        dsimp only
        clear hb
        go_wp2_with fail
        refine (live_any _).mono ?_
        rintro e wl ⟨rfl, hb⟩
        have HL := Lib.hid (HB1.out.trans (hb.mono HB1.out.size))
        clear hb
        go_wp2
        go_ret
        exact ⟨rfl, HL.out⟩
      · obtain ⟨P, f, z, e1, e2, e3, e4, e5, e6, e7, e8, e9⟩ := parent_facts hea h2
        have HP := Lib.hid e1
        have HSP := Lib.hid e2
        have HPZ := Lib.hid (show P.size ≤ 5000 by omega)
        have HPZ1 : Hid (P.size ≤ 100000) := Nat.le_trans HPZ.out (by decide)
        have HJ := Lib.hid e4
        have HJZ : Hid ((joinD (f ++ [z])).size ≤ 1000000) := by show _ ≤ _; rw [HJ.out]; omega
        have W1 := Lib.hid e5
        have W2 := Lib.hid e6
        have W3 := Lib.hid e7
        have W4 := Lib.hid e8
        have hfl : f.length ≤ 2001 := by omega
        clear e1 e2 e3 e4 e5 e6 e7 e8 e9 h1 h2 hea
        go_enter Tryd.func5, Tryd.ntmps5
        go_wp2_with fail
        refine (parent_any a0 H5.out _).mono ?_
        rintro e w1 ⟨rfl, hb⟩
        have HB1 := Lib.hid hb
        rw [HP.out]
        unfold parV
        dsimp only
        clear d1
        clear hb
        go_wp2_with fail
        refine (split_any P HPZ1.out _).mono ?_
        rintro e w2 ⟨v, rfl, hk, hb⟩
        have HB2 := Lib.hid (HB1.out.trans (hb.mono HB1.out.size))
        rw [HSP.out] at hk ⊢
        dsimp only at hk ⊢
        have HS := Lib.hid hk
        clear hk
        clear hb HB1
        go_wp2_with (at_builtin; refine wp_keys_rows _ rfl _ _ rfl w.heap.size _ _ v [] f rfl (Ks.nil _ _) rfl HS.out (by simp; omega) HB2.out.size ?_)
        intro v5 w5 hk hg
        have HB5 : Hid (Below w.heap.size w w5) := HB2.out.grown hg HB2.out.size (fun k hk => by cases hk)
        have HV5 : Hid (Ks w5 w.heap.size v5 f) := hk
        have HBX : Hid (∀ o, Below w.heap.size w (w5.alloc o)) := fun o => HB5.out.alloc HB5.out.size o
        have HKX : Hid (∀ o, Ks (w5.alloc o) w.heap.size v5 f) := fun o => HV5.out.alloc o
        clear hk hg HB2 HS
        go_wp2_with (at_builtin; refine wp_keys_push _ rfl _ _ rfl w.heap.size v5 f rfl (HKX.out _) ⟨w5.heap.size, 0, none⟩ 1 1 [z] rfl rfl ?c1 (by omega) (HBX.out _).size ?_)
        case c1 =>
          intro i u hu
          match i, hu with
          | 0, hu =>
            simp only [List.getElem?_cons_zero, Option.some.injEq] at hu
            subst hu
            exact boxed0 _ _ _ _ 0 _ rfl
        intro v' w6 hk hg _
        have HB6 : Hid (Below w.heap.size w w6) := (HBX.out _).grown hg (HBX.out _).size (fun k hk => HV5.out.own_block k hk)
        obtain ⟨xa, xc, rfl, hs1, hc1⟩ := hk.shape
        have HS := Lib.hid hs1
        have HC := Lib.hid hc1
        clear hk hg hs1 hc1 HV5 HKX HBX HB5
        generalize f ++ [z] = L at *
        go_wp2_with fail
        refine (join_any xa xc L _ HS.out HC.out HJZ.out).mono ?_
        rintro e w7 ⟨rfl, hb⟩
        have HB7 := Lib.hid (HB6.out.trans (hb.mono HB6.out.size))
        rw [HJ.out]
        clear hb HB6
        go_wp2_with fail
        refine (within_any P a0 HPZ.out H5.out _).mono ?_
        rintro e w8 ⟨rfl, hb⟩
        have HB8 := Lib.hid (HB7.out.trans (hb.mono HB7.out.size))
        rw [W1.out]
        clear hb HB7
        go_wp2_with fail
        refine (within_any a0 P H5.out HPZ.out _).mono ?_
        rintro e w9 ⟨rfl, hb⟩
        have HB9 := Lib.hid (HB8.out.trans (hb.mono HB8.out.size))
        rw [W2.out]
        clear hb HB8
        go_wp2_with fail
        refine (within_any pT1 a0 (by decide +kernel) H5.out _).mono ?_
        rintro e w10 ⟨rfl, hb⟩
        have HB10 := Lib.hid (HB9.out.trans (hb.mono HB9.out.size))
        rw [W3.out]
        clear hb HB9
        go_wp2_with fail
        refine (within_any a0 a0 H5.out H5.out _).mono ?_
        rintro e w11 ⟨rfl, hb⟩
        have HB11 := Lib.hid (HB10.out.trans (hb.mono HB10.out.size))
        rw [W4.out]
        clear hb HB10
        go_wp2_with fail
        refine (live_any _).mono ?_
        rintro e wl ⟨rfl, hb⟩
        have HL := Lib.hid (HB11.out.trans (hb.mono HB11.out.size))
        clear hb
        go_wp2
        go_ret
        exact ⟨rfl, HL.out⟩
    · have HP := Lib.hid (parD_err hea)
      have hne : ((splitD a0).2 != 0) = true := by simpa using hea
      clear h1 hea
      go_enter Tryd.func5, Tryd.ntmps5
      go_wp2_with fail
      refine (parent_any a0 H5.out _).mono ?_
      rintro e w1 ⟨rfl, hb⟩
      have HB1 := Lib.hid hb
      rw [HP.out]
      unfold parV
      dsimp only
      clear hb
      go_wp2_with fail
      refine (live_any _).mono ?_
      rintro e wl ⟨rfl, hb⟩
      have HL := Lib.hid (HB1.out.trans (hb.mono HB1.out.size))
      clear hb
      go_wp2
      go_ret
      exact ⟨rfl, HL.out⟩
  · have d1 : ((2000 : Int) < (a0.size : Int)) = True := eq_true (by omega)
    clear h1
    go_enter Tryd.func5, Tryd.ntmps5
    go_wp2_with fail
    refine (live_any _).mono ?_
    rintro e wl ⟨rfl, hb⟩
    have HL := Lib.hid hb
    clear hb
    go_wp2
    go_ret
    exact ⟨rfl, HL.out⟩
end Go.Proofs.YtjimjaimfejonaaDoor.pathParent
