/-
  The reference's tree of files: names, in order.
-/
import Derived.Test.YteimpebfenpifaaGreatDoorMg34
import Derived.Test.YteimpebfenpifaaGreatDoorMg35
namespace Go.Proofs.YteimpebfenpifaaGreatDoor
open Go Go.RowKit Go.ChangeShapes Go.WideShapes Go.ChangeAt

set_option maxRecDepth 100000 in
set_option maxHeartbeats 8000000 in
theorem rnames_any (p : RmP) (G : GD) (w : World) (h : RmAt w p G) (hw : WfG G) (hk : G.E.length ≤ 50000) (hj : ∀ x ∈ G.E, (joinD x.1).size ≤ 100000) (s : ByteArray) (l : PathD) (hs : splitD s = (l, 0)) :
    Calls Tryz.prog 59 #[.pointer (some ⟨p.b, 0, none⟩), .string s] w fun e w' => ∃ v, e = .returned v ∧ Ks w' w.heap.size v (sortB (kidsG G l)) ∧ Below w.heap.size w w' := by
  have HK := Lib.hid hk
  have HJZ := Lib.hid hj
  have HKJ : Hid (∀ x ∈ G.E, parD (joinD x.1) = ⟨joinD x.1.dropLast, x.1.getLastD noB, 0⟩ ∧ (joinD x.1.dropLast = s ↔ x.1.dropLast = l)) := fun x hx => kid_join (hw.ne x hx) (hw.names x hx) hs
  have HNE : Hid (∀ x ∈ G.E, x.1 ≠ []) := hw.ne
  have HA := Lib.hid h
  have HKG : Hid (kidsG G l = G.E.filterMap (kidG l)) := rfl
  have HJ0 : Hid (∃ F, NmJ w p G (.slice none 0 0) ((G.E.take 0).filterMap (kidG l)) F w) := ⟨[], Ks.nil _ _, List.Perm.refl _, List.Pairwise.nil, h, Below.refl _ _⟩
  generalize kidsG G l = KD at *
  clear h hw hk hs hj
  go_enter Tryz.func59, Tryz.ntmps59
  go_wp2_with fail
  go_loopw [5, 6] (fun vo i wr => ∃ k : Nat, k ≤ G.E.length ∧ i = .int .i64 k ∧ Hid (∃ F, NmJ w p G vo ((G.E.take k).filterMap (kidG l)) F wr)) (fun _ i _ => G.E.length - (intOf i).toNat)
  case atStart => exact ⟨0, Nat.zero_le _, rfl, HJ0⟩
  case round =>
    clear HJ0
    obtain ⟨k, hk, rfl, HX⟩ := hrel
    obtain ⟨F, hF⟩ := HX.out
    have HD := Lib.hid hF
    clear hF HX
    have c0 := HD.out.r.box.cell 0 _ rfl
    obtain ⟨ea, ec, hev⟩ := HD.out.r.e.shape
    have HE := Lib.hid HD.out.r.e
    rw [hev] at c0 HE
    by_cases hlt : k < G.E.length
    · obtain ⟨g0, rfl, -, c1, c2, -, -⟩ := HE.out.at hlt
      have HPD := Lib.hid (HKJ.out _ (List.getElem_mem hlt))
      have HSZ := Lib.hid (HJZ.out _ (List.getElem_mem hlt))
      have HN1 := Lib.hid (HNE.out _ (List.getElem_mem hlt))
      have HFM : Hid ((G.E.take (k + 1)).filterMap (kidG l) = (G.E.take k).filterMap (kidG l) ++ (kidG l G.E[k]).toList) := by
        show _ = _
        rw [List.take_succ_eq_append_getElem hlt, List.filterMap_append]
        congr 1
      have hkk : k + 1 ≤ 200000 := by have := HK.out; omega
      have h0 : (0 : Int) ≤ (k : Int) := by omega
      have h1 : (k : Int) < (G.E.length : Int) := by omega
      have HFL : Hid (F.length ≤ 50000) := by
        have h2 := HD.out.pm.length_eq
        have h3 := List.length_filterMap_le (kidG l) (G.E.take k)
        rw [List.length_take] at h3
        have := HK.out
        show _ ≤ _
        omega
      have HLT := Lib.hid hlt
      generalize G.E[k] = x at *
      obtain ⟨x1, x2⟩ := x
      dsimp only at *
      clear hev hlt HE
      go_wp2_with fail
      refine (rparent_any (joinD x1) HSZ.out _).mono ?_
      rintro e w2 ⟨rfl, hb⟩
      rw [HPD.out.1]
      unfold parV
      have HD2 : Hid (NmJ w p G _ ((G.E.take k).filterMap (kidG l)) F w2) := ⟨HD.out.o.keep hb, HD.out.pm, HD.out.so, HD.out.r.keep hb, HD.out.b.trans (hb.mono HD.out.b.size)⟩
      clear hb HD c0 c1 c2
      by_cases hx : joinD x1.dropLast = s
      case neg =>
        have f1 : ((joinD x1.dropLast).toList != s.toList) = true := by rw [bne, beq_bytes, decide_eq_false hx]; rfl
        have f2 : ((joinD x1.dropLast).toList == s.toList) = false := by rw [beq_bytes, decide_eq_false hx]
        have HFM2 : Hid ((G.E.take (k + 1)).filterMap (kidG l) = (G.E.take k).filterMap (kidG l)) := HFM.out.trans (by
          have : kidG l (x1, x2) = none := if_neg (fun e => hx (HPD.out.2.2 e.2))
          rw [this]; simp)
        clear hx HFM
        go_wp2
        go_roundw
        case rel => exact ⟨k + 1, HLT.out, by go_num, ⟨F, by rw [HFM2.out]; exact HD2.out⟩⟩
        case measure => have := HLT.out; simp [intOf]; omega
      have f1 : ((joinD x1.dropLast).toList != s.toList) = false := by rw [bne, beq_bytes, decide_eq_true hx]; rfl
      have f2 : ((joinD x1.dropLast).toList == s.toList) = true := by rw [beq_bytes, decide_eq_true hx]
      have HKN : Hid ((G.E.take (k + 1)).filterMap (kidG l) = (G.E.take k).filterMap (kidG l) ++ [x1.getLastD noB]) := HFM.out.trans (by
        have : kidG l (x1, x2) = some (x1.getLastD noB) := if_pos ⟨HN1.out, HPD.out.2.1 hx⟩
        rw [this]; rfl)
      have HBS : Hid (w.heap.size ≤ w2.heap.size) := HD2.out.b.size
      generalize x1.getLastD noB = c at *
      clear hx HFM
      obtain ⟨a, cap, rfl, HSH, HCAP⟩ := HD2.out.shape
      have HO2 := Lib.hid HD2.out.o
      go_wp2_with fail
      go_loopw [10] (fun av wz => ∃ q : Nat, q ≤ F.length ∧ av = .int .i64 q ∧ Hid (∀ x ∈ F.drop q, c.data.toList < x.data.toList) ∧ w2 = wz) (fun av _ => (intOf av).toNat)
      case atStart => exact ⟨F.length, Nat.le_refl _, rfl, (fun x hx => by rw [List.drop_length] at hx; cases hx), rfl⟩
      case round =>
        obtain ⟨q, hq, rfl, HQ1, rfl⟩ := hrel
        rcases Nat.eq_zero_or_pos q with hq0 | hq0
        · have dj : ((0 : Int) < (q : Int)) = False := eq_false (by omega)
          have dk : (0 < q) = False := eq_false (by omega)
          have HQ2 : Hid (∀ x ∈ F.take q, leB x c) := by rw [hq0]; exact fun x hx => by cases hx
          clear hq0
          have hq0 : (0 : Int) ≤ (q : Int) := by omega
          have hq1 : (q : Int) ≤ (cap : Int) := by have := HCAP.out; omega
          have hq2 : (q : Int) ≤ (F.length : Int) := by omega
          have hq3 : q ≤ F.length := hq
          have hq4 : q ≤ cap := by have := HCAP.out; omega
          have HQL : Hid (q ≤ F.length) := hq
          clear hq
          go_wp2_with (at_builtin; refine wp_keys_some _ rfl _ _ rfl w2.heap.size _ [] (F.take q) rfl (Ks.nil _ _) a q cap rfl ?c0 ?c1 ?c2 ?c3 (Nat.le_refl _) ?_)
          case c0 => have := HQL.out; rw [List.length_take]; omega
          case c1 =>
            intro e
            rcases HSH.out with ⟨_, e2, e3⟩ | ⟨g, e2⟩
            · have := HQL.out; rw [e2] at this; exact ⟨Nat.le_zero.1 this, e3⟩
            · rw [e2] at e; cases e
          case c2 =>
            intro ad e
            rcases HSH.out with ⟨e1, _, _⟩ | ⟨g, e2⟩
            · rw [e1] at e; cases e
            · have hO := HO2.out
              rw [e2] at hO e
              injection e with e
              refine ⟨g, 0, e.symm, fun i u hu => ?_⟩
              rw [Nat.zero_add]
              refine hO.cellAt ?_
              rw [List.getElem?_take] at hu
              by_cases hiq : i < q
              · rw [if_pos hiq] at hu; exact hu
              · rw [if_neg hiq] at hu; cases hu
          case c3 => rw [List.length_take]; have := HFL.out; simp; omega
          intro v3 w3 hk3 hg3
          have hb3 : Below w2.heap.size w2 w3 := (Below.refl _ w2).grown hg3 (Nat.le_refl _) (fun k hk => by cases hk)
          have HN3 := Lib.hid hk3
          have HB3 := Lib.hid hb3
          clear hk3 hg3 hb3
          go_wp2_with (at_builtin; refine wp_keys_push _ rfl _ _ rfl w2.heap.size v3 (F.take q) rfl (HN3.out.alloc _) ⟨w3.heap.size, 0, none⟩ 1 1 [c] rfl rfl ?c1 ?c2 ?c3 ?_)
          case c1 =>
            intro j u hu
            rcases j with _ | j
            · injection hu with hu
              subst hu
              rw [add_plain]
              exact (Box.new w3 9 #[.string c]).cell 0 _ rfl
            · simp at hu
          case c2 => have := HFL.out; simp; omega
          case c3 => have := HB3.out.size; rw [size_alloc]; omega
          intro v4 w4 hk4 hg4 _
          have hz := HB3.out.alloc HB3.out.size (.cells #[.string c] 9 (0, 0))
          have hb4 : Below w2.heap.size w2 w4 := hz.grown hg4 hz.size HN3.out.own_block
          have HN4 := Lib.hid hk4
          have HB4 := Lib.hid hb4
          clear hk4 hg4 hb4 hz HN3 HB3
          have HO4 := Lib.hid (HO2.out.keep HB4.out)
          by_cases hcq : cap = q
          · have HFD : Hid (F.drop q = []) := List.drop_of_length_le (by have := HCAP.out; omega)
            have HFQ : Hid (F.length - q = 0) := by have := HCAP.out; show _ = _; omega
            have hcq2 : (cap = q) = True := eq_true hcq
            have HCQ : Hid (cap - q = 0) := by show _ = _; omega
            clear hcq
            go_wp2_with (at_builtin; refine wp_keys_some _ rfl _ _ rfl w2.heap.size v4 (F.take q ++ [c]) (F.drop q) rfl HN4.out a (F.length - q) (cap - q) rfl ?c0 ?c1 ?c2 ?c3 (by have := HB4.out.size; omega) ?_)
            case c0 => rw [List.length_drop]
            case c1 => exact fun _ => ⟨HFQ.out, HCQ.out⟩
            case c2 =>
              intro ad e
              rcases HSH.out with ⟨e1, _, _⟩ | ⟨g, e2⟩
              · rw [e1] at e; cases e
              · rw [e2] at e
                injection e with e
                exact ⟨g, 0, e.symm, fun i u hu => by rw [HFD.out] at hu; cases hu⟩
            case c3 => have := HFL.out; simp; omega
            intro v5 w5 hk5 hg5
            have hk5 : Ks w5 w2.heap.size v5 (F.take q ++ [c] ++ F.drop q) := by
              have h9 := hk5
              rw [List.append_assoc]
              exact h9
            have hb5 := HB4.out.grown hg5 HB4.out.size HN4.out.own_block
            have HJ5 : Hid (NmJ w p G v5 (((G.E.take (k + 1)).filterMap (kidG l))) (F.take q ++ [c] ++ F.drop q) w5) := ⟨hk5.low HBS.out, HKN.out ▸ (ins_perm F q c).trans (HD2.out.pm.append_right [c]), ins_sorted HD2.out.so HQ1.out HQ2.out, HD2.out.r.keep hb5, HD2.out.b.trans (hb5.mono HD2.out.b.size)⟩
            clear hk5 hg5 hb5
            have hlt := HLT.out
            go_wp2
            go_roundw
            case rel => exact ⟨k + 1, HLT.out, by go_num, ⟨_, HJ5.out⟩⟩
            case measure => have := HLT.out; simp [intOf]; omega
          · have hcq2 : (cap = q) = False := eq_false hcq
            obtain ⟨g, rfl⟩ : ∃ g, a = some ⟨g, 0, none⟩ := by
              rcases HSH.out with ⟨_, e2, e3⟩ | h
              · have := HQL.out; rw [e2] at this; exact absurd (by rw [e3]; exact (Nat.le_zero.1 this).symm) hcq
              · exact h
            clear hcq
            go_wp2_with (at_builtin; refine wp_keys_sub _ rfl _ _ rfl w2.heap.size v4 (F.take q ++ [c]) (F.drop q) rfl HN4.out g q (F.length - q) (cap - q) rfl ?c0 ?c1 ?c2 (by have := HB4.out.size; omega) ?_)
            case c0 => rw [List.length_drop]
            case c1 =>
              intro i u hu
              refine HO4.out.cellAt ?_
              rw [List.getElem?_drop] at hu
              exact hu
            case c2 => have := HFL.out; simp; omega
            intro v5 w5 hk5 hg5
            have hk5 : Ks w5 w2.heap.size v5 (F.take q ++ [c] ++ F.drop q) := by
              have h9 := hk5
              rw [List.append_assoc]
              exact h9
            have hb5 := HB4.out.grown hg5 HB4.out.size HN4.out.own_block
            have HJ5 : Hid (NmJ w p G v5 (((G.E.take (k + 1)).filterMap (kidG l))) (F.take q ++ [c] ++ F.drop q) w5) := ⟨hk5.low HBS.out, HKN.out ▸ (ins_perm F q c).trans (HD2.out.pm.append_right [c]), ins_sorted HD2.out.so HQ1.out HQ2.out, HD2.out.r.keep hb5, HD2.out.b.trans (hb5.mono HD2.out.b.size)⟩
            clear hk5 hg5 hb5
            have hlt := HLT.out
            go_wp2
            go_roundw
            case rel => exact ⟨k + 1, HLT.out, by go_num, ⟨_, HJ5.out⟩⟩
            case measure => have := HLT.out; simp [intOf]; omega
        · obtain ⟨m, hm⟩ : ∃ m, q = m + 1 := ⟨q - 1, by omega⟩
          have dj : ((0 : Int) < (q : Int)) = True := eq_true (by omega)
          have dk : (0 < q) = True := eq_true (by omega)
          obtain ⟨y, hy⟩ : ∃ y, F[m]? = some y := ⟨_, List.getElem?_eq_getElem (by omega)⟩
          obtain ⟨g, rfl⟩ : ∃ g, a = some ⟨g, 0, none⟩ := by
            rcases HSH.out with ⟨_, e2, _⟩ | h
            · rw [e2] at hy; cases hy
            · exact h
          have k0 : w2.cell? ⟨g, m, none⟩ = some (.string y) := HO2.out.cellAt hy
          have hwr : IntKind.i64.wrap ((q : Int) - 1) = (m : Int) := by rw [IntKind.wrap_i64]; have := HFL.out; omega
          have m0 : (0 : Int) ≤ (m : Int) := by omega
          have m1 : (m : Int) < (F.length : Int) := by omega
          have HM := Lib.hid hm
          by_cases hc : c.data.toList < y.data.toList
          · have hgt := gt_yes hc
            have HQ3 : Hid (∀ x ∈ F.drop m, c.data.toList < x.data.toList) := drop_ltB hy hc (by rw [← hm]; exact HQ1.out)
            have HML : Hid (m ≤ F.length) := by show _ ≤ _; omega
            clear hc hy hm hq0 HQ1
            go_wp2
            go_roundw
            case rel => exact ⟨m, HML.out, rfl, HQ3, trivial⟩
            case measure => have := HM.out; simp [intOf]; omega
          · have hgt := gt_no hc
            have HQ2 : Hid (∀ x ∈ F.take q, leB x c) := by rw [hm]; exact take_leB HD2.out.so hy (List.not_lt.1 hc)
            clear hc hy hm hq0
            have hq0 : (0 : Int) ≤ (q : Int) := by omega
            have hq1 : (q : Int) ≤ (cap : Int) := by have := HCAP.out; omega
            have hq2 : (q : Int) ≤ (F.length : Int) := by omega
            have hq3 : q ≤ F.length := hq
            have hq4 : q ≤ cap := by have := HCAP.out; omega
            have HQL : Hid (q ≤ F.length) := hq
            clear hq
            go_wp2_with (at_builtin; refine wp_keys_some _ rfl _ _ rfl w2.heap.size _ [] (F.take q) rfl (Ks.nil _ _) (some ⟨g, 0, none⟩) q cap rfl ?c0 ?c1 ?c2 ?c3 (Nat.le_refl _) ?_)
            case c0 => have := HQL.out; rw [List.length_take]; omega
            case c1 =>
              intro e
              rcases HSH.out with ⟨_, e2, e3⟩ | ⟨g, e2⟩
              · have := HQL.out; rw [e2] at this; exact ⟨Nat.le_zero.1 this, e3⟩
              · rw [e2] at e; cases e
            case c2 =>
              intro ad e
              rcases HSH.out with ⟨e1, _, _⟩ | ⟨g, e2⟩
              · rw [e1] at e; cases e
              · have hO := HO2.out
                rw [e2] at hO e
                injection e with e
                refine ⟨g, 0, e.symm, fun i u hu => ?_⟩
                rw [Nat.zero_add]
                refine hO.cellAt ?_
                rw [List.getElem?_take] at hu
                by_cases hiq : i < q
                · rw [if_pos hiq] at hu; exact hu
                · rw [if_neg hiq] at hu; cases hu
            case c3 => rw [List.length_take]; have := HFL.out; simp; omega
            intro v3 w3 hk3 hg3
            have hb3 : Below w2.heap.size w2 w3 := (Below.refl _ w2).grown hg3 (Nat.le_refl _) (fun k hk => by cases hk)
            have HN3 := Lib.hid hk3
            have HB3 := Lib.hid hb3
            clear hk3 hg3 hb3
            go_wp2_with (at_builtin; refine wp_keys_push _ rfl _ _ rfl w2.heap.size v3 (F.take q) rfl (HN3.out.alloc _) ⟨w3.heap.size, 0, none⟩ 1 1 [c] rfl rfl ?c1 ?c2 ?c3 ?_)
            case c1 =>
              intro j u hu
              rcases j with _ | j
              · injection hu with hu
                subst hu
                rw [add_plain]
                exact (Box.new w3 9 #[.string c]).cell 0 _ rfl
              · simp at hu
            case c2 => have := HFL.out; simp; omega
            case c3 => have := HB3.out.size; rw [size_alloc]; omega
            intro v4 w4 hk4 hg4 _
            have hz := HB3.out.alloc HB3.out.size (.cells #[.string c] 9 (0, 0))
            have hb4 : Below w2.heap.size w2 w4 := hz.grown hg4 hz.size HN3.out.own_block
            have HN4 := Lib.hid hk4
            have HB4 := Lib.hid hb4
            clear hk4 hg4 hb4 hz HN3 HB3
            have HO4 := Lib.hid (HO2.out.keep HB4.out)
            by_cases hcq : cap = q
            · have HFD : Hid (F.drop q = []) := List.drop_of_length_le (by have := HCAP.out; omega)
              have HFQ : Hid (F.length - q = 0) := by have := HCAP.out; show _ = _; omega
              have hcq2 : (cap = q) = True := eq_true hcq
              have HCQ : Hid (cap - q = 0) := by show _ = _; omega
              clear hcq
              go_wp2_with (at_builtin; refine wp_keys_some _ rfl _ _ rfl w2.heap.size v4 (F.take q ++ [c]) (F.drop q) rfl HN4.out (some ⟨g, 0, none⟩) (F.length - q) (cap - q) rfl ?c0 ?c1 ?c2 ?c3 (by have := HB4.out.size; omega) ?_)
              case c0 => rw [List.length_drop]
              case c1 => exact fun _ => ⟨HFQ.out, HCQ.out⟩
              case c2 =>
                intro ad e
                rcases HSH.out with ⟨e1, _, _⟩ | ⟨g, e2⟩
                · rw [e1] at e; cases e
                · rw [e2] at e
                  injection e with e
                  exact ⟨g, 0, e.symm, fun i u hu => by rw [HFD.out] at hu; cases hu⟩
              case c3 => have := HFL.out; simp; omega
              intro v5 w5 hk5 hg5
              have hk5 : Ks w5 w2.heap.size v5 (F.take q ++ [c] ++ F.drop q) := by
                have h9 := hk5
                rw [List.append_assoc]
                exact h9
              have hb5 := HB4.out.grown hg5 HB4.out.size HN4.out.own_block
              have HJ5 : Hid (NmJ w p G v5 (((G.E.take (k + 1)).filterMap (kidG l))) (F.take q ++ [c] ++ F.drop q) w5) := ⟨hk5.low HBS.out, HKN.out ▸ (ins_perm F q c).trans (HD2.out.pm.append_right [c]), ins_sorted HD2.out.so HQ1.out HQ2.out, HD2.out.r.keep hb5, HD2.out.b.trans (hb5.mono HD2.out.b.size)⟩
              clear hk5 hg5 hb5
              have hlt := HLT.out
              go_wp2
              go_roundw
              case rel => exact ⟨k + 1, HLT.out, by go_num, ⟨_, HJ5.out⟩⟩
              case measure => have := HLT.out; simp [intOf]; omega
            · have hcq2 : (cap = q) = False := eq_false hcq
              clear hcq
              go_wp2_with (at_builtin; refine wp_keys_sub _ rfl _ _ rfl w2.heap.size v4 (F.take q ++ [c]) (F.drop q) rfl HN4.out g q (F.length - q) (cap - q) rfl ?c0 ?c1 ?c2 (by have := HB4.out.size; omega) ?_)
              case c0 => rw [List.length_drop]
              case c1 =>
                intro i u hu
                refine HO4.out.cellAt ?_
                rw [List.getElem?_drop] at hu
                exact hu
              case c2 => have := HFL.out; simp; omega
              intro v5 w5 hk5 hg5
              have hk5 : Ks w5 w2.heap.size v5 (F.take q ++ [c] ++ F.drop q) := by
                have h9 := hk5
                rw [List.append_assoc]
                exact h9
              have hb5 := HB4.out.grown hg5 HB4.out.size HN4.out.own_block
              have HJ5 : Hid (NmJ w p G v5 (((G.E.take (k + 1)).filterMap (kidG l))) (F.take q ++ [c] ++ F.drop q) w5) := ⟨hk5.low HBS.out, HKN.out ▸ (ins_perm F q c).trans (HD2.out.pm.append_right [c]), ins_sorted HD2.out.so HQ1.out HQ2.out, HD2.out.r.keep hb5, HD2.out.b.trans (hb5.mono HD2.out.b.size)⟩
              clear hk5 hg5 hb5
              have hlt := HLT.out
              go_wp2
              go_roundw
              case rel => exact ⟨k + 1, HLT.out, by go_num, ⟨_, HJ5.out⟩⟩
              case measure => have := HLT.out; simp [intOf]; omega
    · have hke : k = G.E.length := by omega
      rw [hke, List.take_length] at HD
      subst hke
      have HQ : Hid (F = sortB KD) := by
        show _ = _
        rw [HKG.out]
        exact List.Perm.eq_of_pairwise (le := leB) (fun a b _ _ h1 h2 => pb_ext (List.le_antisymm h1 h2)) HD.out.so (sortB_sorted _) (HD.out.pm.trans (sortB_perm _).symm)
      clear hlt
      go_wp2
      go_ret
      exact ⟨_, rfl, by rw [← HQ.out]; exact HD.out.o, HD.out.b⟩
end Go.Proofs.YteimpebfenpifaaGreatDoor
