/-
  Contracts of package space's statements: the reference's Take.
-/
import Derived.Test.YtmndeohhanbjkaaSpaceTake
import Derived.Test.YtmndeohhanbjkaaSched2
namespace Go.Proofs.Ytmndeohhanbjkaa
open Go.RowKit Go.ChangeShapes Go.WideShapes Go.ChangeAt

/-- A part of a slice that came in. -/
theorem slP_front {w : World} {a : Option Addr} {l : List (Int × Int)} (h : SlP w a l) (k : Nat) : SlP w a (l.take k) := by
  intro hne
  obtain ⟨b, off, e, hb, hc⟩ := h (by intro e; subst e; simp at hne)
  refine ⟨b, off, e, hb, fun i x hx => hc i x ?_⟩
  rw [List.getElem?_take] at hx
  split at hx
  · exact hx
  · cases hx
theorem slP_back {w : World} {b off : Nat} {l : List (Int × Int)} (h : SlP w (some ⟨b, off, none⟩) l) (k : Nat) : SlP w (some ⟨b, off + k * 2, none⟩) (l.drop k) := by
  intro hne
  obtain ⟨b', off', e, hb, hc⟩ := h (by intro e; subst e; simp at hne)
  injection e with e
  injection e with e1 e2
  subst e1 e2
  refine ⟨b, off + k * 2, rfl, hb, fun i x hx => ?_⟩
  rw [List.getElem?_drop] at hx
  have := hc (k + i) x hx
  rw [show off + k * 2 + i * 2 = off + (k + i) * 2 by omega]
  exact this
theorem find_at {l : List (Int × Int)} {n : Int} {k : Nat} (h : ∀ x ∈ l.take k, longB n x = false) (hk : k < l.length) (hp : longB n l[k] = true) : l.findIdx? (longB n) = some k := by
  rw [List.findIdx?_eq_some_iff_getElem]
  refine ⟨hk, hp, fun j hj => ?_⟩
  have := h l[j] (by rw [List.mem_take_iff_getElem]; exact ⟨j, by omega, rfl⟩)
  simp [this]
theorem find_no {l : List (Int × Int)} {n : Int} (h : ∀ x ∈ l, longB n x = false) : l.findIdx? (longB n) = none := by rw [List.findIdx?_eq_none_iff]; exact h
theorem take_high {l : List (Int × Int)} {n : Int} (hm : mayL l = true) (h : 1073741824 < n) : takeL l n = (0, [], false) := take_none (find_no fun x hx => by
  have := (may_mem (m := 0) (by omega) hm x hx).1
  unfold MayR at this
  unfold longB
  exact decide_eq_false (by omega))

/-- 'append(v, x...)', the length of x told. -/
theorem wp_prs_moreL {t e : TypeId} (ht : Try.prog.underlying t = some (.slice e)) (he : Two e) {ops : Array Oper} {rest : List Oper} {o : Oper} {a : Act} {Q : Exit → Act → World → Prop} (W : World) (hgd : o.guard = none) (s x : Operand)
    (ho : o.op = .call { callee := .builtin .append, args := #[s, x], argTypes := #[t, t] })
    (base : Nat) (v : Value) (l : List (Int × Int)) (hs : a.eval s = v) (hb : Prs e W base v l)
    (xa : Option Addr) (la c : Nat) (ps : List (Int × Int)) (hx : a.eval x = .slice xa la c) (hla : ps.length = la) (hsl : SlP W xa ps)
    (hbytes : l.length + ps.length ≤ 100000) (hbase : base ≤ W.heap.size)
    (h : ∀ v' w', Prs e w' base v' (l ++ ps) → W.grownBy w' v.ownBlock → wpList Try.prog ops Q rest (a.put o.dst v') w') : wpList Try.prog ops Q (o :: rest) a W := by
  subst hla
  exact wp_prs_more ht he W hgd s x ho base v l hs hb xa c ps hx hsl hbytes hbase h

set_option maxRecDepth 100000 in
set_option maxHeartbeats 4000000 in
theorem rtake_any (a : Option Addr) (cap : Nat) (l : List (Int × Int)) (n : Int) (w : World) (h : SlP w a l) (hl : l.length ≤ 1000) (hcap : l.length ≤ cap) (hcm : cap ≤ maxLen) (hw : WfP l) :
    Calls Try.prog 21 #[.slice a l.length cap, .int .i64 n] w (TkRes 39 w.heap.size w (takeL l n)) := by
  obtain ⟨r, hr⟩ : ∃ r, takeL l n = r := ⟨_, rfl⟩
  rw [hr]
  have HR := Lib.hid hr
  have H := Lib.hid h
  have HW := Lib.hid hw
  unfold maxLen at hcm
  clear hr h hw
  cases hm : mayL l
  · have HN := Lib.hid (show r = (0, [], false) by rw [← HR.out]; exact take_may hm)
    go_enter Try.func21, Try.ntmps21
    go_wp2_with fail
    refine (rmay_any a cap l _ H.out hl HW.out).mono ?_
    rintro e w1 ⟨rfl, hb⟩
    rw [hm]
    have HB := Lib.hid hb
    clear hb hm
    go_wp2
    go_ret3
    exact TkRes.no HN.out HB.out
  · by_cases hn1 : n < 1
    · have d1 : decide (n < 1) = true := decide_eq_true hn1
      have HN := Lib.hid (show r = (0, [], false) by rw [← HR.out]; exact take_low hn1)
      clear hn1
      go_enter Try.func21, Try.ntmps21
      go_wp2_with fail
      refine (rmay_any a cap l _ H.out hl HW.out).mono ?_
      rintro e w1 ⟨rfl, hb⟩
      rw [hm]
      have HB := Lib.hid hb
      clear hb hm
      go_wp2
      go_ret3
      exact TkRes.no HN.out HB.out
    · by_cases hn2 : 1073741824 < n
      · have d1 : decide (n < 1) = false := decide_eq_false hn1
        have d2 : decide (1073741824 < n) = true := decide_eq_true hn2
        have HN := Lib.hid (show r = (0, [], false) by rw [← HR.out]; exact take_high hm hn2)
        clear hn1 hn2
        go_enter Try.func21, Try.ntmps21
        go_wp2_with fail
        refine (rmay_any a cap l _ H.out hl HW.out).mono ?_
        rintro e w1 ⟨rfl, hb⟩
        rw [hm]
        have HB := Lib.hid hb
        clear hb hm
        go_wp2
        go_ret3
        exact TkRes.no HN.out HB.out
      · have d1 : decide (n < 1) = false := decide_eq_false hn1
        have d2 : decide (1073741824 < n) = false := decide_eq_false hn2
        have HN1 : Hid (1 ≤ n ∧ n ≤ 1073741824) := ⟨by omega, by omega⟩
        have HM := Lib.hid hm
        clear hn1 hn2
        go_enter Try.func21, Try.ntmps21
        go_wp2_with fail
        refine (rmay_any a cap l _ H.out hl HW.out).mono ?_
        rintro e w1 ⟨rfl, hb⟩
        rw [hm]
        have HB := Lib.hid hb
        clear hb hm
        go_wp2
        go_loopw [7, 8] (fun i _ wr => ∃ k : Nat, k ≤ l.length ∧ i = .int .i64 k ∧ Hid (∀ x ∈ l.take k, longB n x = false) ∧ Hid (Below w.heap.size w wr)) (fun i _ _ => l.length - (intOf i).toNat)
        case atStart => exact ⟨0, Nat.zero_le _, rfl, Lib.hid (fun x hx => by simp at hx), HB⟩
        case round =>
          clear HB d1 d2
          obtain ⟨k, hk, rfl, HN, HL⟩ := hrel
          by_cases hlt : k < l.length
          · obtain ⟨b, off, rfl, hb, e0, e1⟩ := H.out.get k hlt
            have HCW : Hid (∀ W, Below w.heap.size w W → W.cell? ⟨b, off + k * 2, none⟩ = some (.int .i64 (l[k]).1) ∧ W.cell? ⟨b, off + k * 2 + 1, none⟩ = some (.int .i64 (l[k]).2)) := fun W hW => ⟨(hW.cell (p := ⟨b, off + k * 2, none⟩) hb).trans e0, (hW.cell (p := ⟨b, off + k * 2 + 1, none⟩) hb).trans e1⟩
            obtain ⟨hc0, hc1⟩ := HCW.out _ HL.out
            clear e0 e1
            have HS := Lib.hid (fun e => step_no (P := longB n) HN.out hlt e)
            have HF := Lib.hid (fun e => find_at HN.out hlt e)
            have HX := Lib.hid (may_mem (m := 0) (by omega) HM.out l[k] (List.getElem_mem hlt)).1
            have HGD : Hid (l.getD k (0, 0) = l[k]) := by show _ = _; simp [List.getD, List.getElem?_eq_getElem hlt]
            have HLT := Lib.hid hlt
            have hk0 : (0 : Int) ≤ (k : Int) := by omega
            have hkl : (k : Int) < (l.length : Int) := by omega
            have hkk : (k : Int) ≤ 1000 := by omega
            have hkc : (k : Int) ≤ (cap : Int) := by omega
            generalize l[k] = x at *
            obtain ⟨xa, xn⟩ := x
            simp only at hc0 hc1
            by_cases c0 : n ≤ xn
            · have d0 : decide (n ≤ xn) = true := decide_eq_true c0
              have HFF := Lib.hid (HF.out (by unfold longB; exact d0))
              have hk2 : ((k : Int) + 1) ≤ (l.length : Int) := by omega
              have hk3 : ((k : Int) + 1) ≤ (cap : Int) := by omega
              have w1' : wrap64 ((k : Int) + 1) = k + 1 := IntWalk.wrap64_in _ (by omega)
              have HHH := Lib.hid (H.out.keep HL.out)
              have HC01 := Lib.hid (And.intro hc0 hc1)
              have HBB := Lib.hid hb
              clear hb
              go_wp2_with (with_reducible refine wp_prs_more Try.underlying22 two_R _ rfl (.tmp 33) (.tmp 36) rfl w.heap.size (.slice none 0 0) [] rfl ?a1 (some ⟨b, off, none⟩) cap (l.take k) ?a2 ?a3 ?a4 ?a5 ?a6)
              case a1 => exact Prs.nil _ _ _
              try (case a2 => rw [List.length_take, Nat.min_eq_left hk]; rfl)
              case a3 => exact slP_front HHH.out k
              case a4 => first | omega | (rw [List.length_take]; simp; omega)
              case a5 => exact HL.out.size
              intro v' w2 hp hg
              have HP2 := Lib.hid hp
              have HB2 := Lib.hid (below_grow (e := 39) (l := []) HL.out hg (Prs.nil _ _ _) HL.out.size)
              obtain ⟨hc0, hc1⟩ := HCW.out _ HB2.out
              clear hp hg HL
              have hX := HX.out
              unfold MayR at hX
              simp only at hX
              obtain ⟨x0, x1, x2⟩ := hX
              have n1 := HN1.out.1
              by_cases c1 : n < xn
              · have d1 : decide (n < xn) = true := decide_eq_true c1
                have g1 : IntKind.i64.wrap (xa + n) = xa + n := IntWalk.i64_in _ ⟨by omega, by omega⟩
                have g2 : IntKind.i64.wrap (xn - n) = xn - n := IntWalk.i64_in _ ⟨by omega, by omega⟩
                have HRR : Hid (r = (xa, l.take k ++ [(xa + n, xn - n)] ++ l.drop (k + 1), true)) := by
                  show _ = _
                  rw [← HR.out, take_some HM.out HN1.out.1 HFF.out, HGD.out]
                  simp only
                  rw [if_neg (by omega)]
                clear c0 c1 x0 x1 x2
                go_wp2_with fail
                refine wp_region_sched (fun W => W.cell? ⟨b, off + k * 2, none⟩ = some (.int .i64 xa) ∧ W.cell? ⟨b, off + k * 2 + 1, none⟩ = some (.int .i64 xn)) 17 [(0, false), (1, false), (2, false), (3, false), (4, false), (5, false), (6, false), (7, false), (8, false), (9, false), (10, false), (11, false), (12, false), (13, false), (14, false), (15, false), (16, true)] (by kernel_rfl) (by kernel_rfl) ⟨hc0, hc1⟩ ?_
                simp only [List.drop_succ_cons, List.drop_zero]
                iterate 16 (apply wpSch_step rfl; (intro W hS K hK; obtain ⟨q1, q2⟩ := hS; go_simp; exact hK _ rfl))
                refine wpSch_make rfl (fun K' hK => ?_)
                go_simp
                have ha := (Below.refl w2.drew.heap.size w2.drew).alloc (Nat.le_refl _) (.cells #[.int .i64 (xa + n), .int .i64 (xn - n)] 39)
                have BX := Lib.hid (Box.new w2 39 #[.int .i64 (xa + n), .int .i64 (xn - n)])
                have hb3 := HB2.out.drew.trans (ha.mono HB2.out.size)
                refine hK _ _ _ (fun _ h => h) (HCW.out _ hb3) ?_
                clear hK K'
                refine wpSch_nil ?_
                have HP3 := Lib.hid (HP2.out.keep (show Below w2.heap.size w2 (w2.drew.alloc (.cells #[.int .i64 (xa + n), .int .i64 (xn - n)] 39)) from ((Below.refl w2.heap.size w2).drew).alloc (Nat.le_refl _) _))
                have HB3 := Lib.hid hb3
                clear ha hb3 HP2 hc0 hc1
                go_wp2_with (with_reducible refine wp_prs_app Try.underlying22 two_R _ rfl (.tmp 45) (.tmp 61) rfl w.heap.size _ (l.take k) rfl ?b1 ⟨w2.heap.size, 0, none⟩ 1 [(xa + n, xn - n)] ?b2 ?b3 ?b4 ?b5 ?b6)
                case b1 => exact HP3.out
                try (case b2 => rfl)
                case b3 => intro j u hj; rw [add_plain, Nat.zero_add]; exact BX.out.cell j u (by simpa [PrV] using hj)
                case b4 => rw [List.length_take]; simp; omega
                case b5 => exact HB3.out.size
                intro v'' w4 hp hg
                have HP4 := Lib.hid hp
                have HB4 := Lib.hid (below_grow HB3.out hg HP3.out HB3.out.size)
                obtain ⟨hc0, hc1⟩ := HCW.out _ HB4.out
                clear hp hg HP3 HB3 BX
                by_cases hcq : cap = k + 1
                · subst hcq
                  have hdr : l.drop (k + 1) = [] := List.drop_eq_nil_of_le (by omega)
                  rw [hdr, List.append_nil] at HRR
                  go_wp2_with (with_reducible refine wp_prs_moreL Try.underlying22 two_R _ rfl (.tmp 63) (.tmp 67) rfl w.heap.size _ (l.take k ++ [(xa + n, xn - n)]) rfl ?ce1 _ _ _ [] rfl ?ce2 ?ce3 ?ce4 ?ce5 ?ce6)
                  case ce1 => exact HP4.out
                  case ce2 => first | rfl | (rw [List.length_nil]; omega)
                  case ce3 => exact SlP.nil
                  case ce4 => simp; omega
                  case ce5 => exact HB4.out.size
                  intro v5 w5 hp hg
                  have HP5 := Lib.hid hp
                  have HB5 := Lib.hid (below_grow HB4.out hg HP4.out HB4.out.size)
                  obtain ⟨hc0, hc1⟩ := HCW.out _ HB5.out
                  clear hp hg
                  go_wp2
                  go_ret3
                  exact TkRes.mk HRR.out HP5.out HB5.out
                · go_wp2_with (with_reducible refine wp_prs_moreL Try.underlying22 two_R _ rfl (.tmp 63) (.tmp 67) rfl w.heap.size _ (l.take k ++ [(xa + n, xn - n)]) rfl ?de1 _ _ _ (l.drop (k + 1)) rfl ?de2 ?de3 ?de4 ?de5 ?de6)
                  case de1 => exact HP4.out
                  case de2 => rw [List.length_drop]
                  case de3 => exact slP_back (H.out.keep HB4.out) (k + 1)
                  case de4 => rw [List.length_drop]; simp; omega
                  case de5 => exact HB4.out.size
                  intro v5 w5 hp hg
                  have HP5 := Lib.hid hp
                  have HB5 := Lib.hid (below_grow HB4.out hg HP4.out HB4.out.size)
                  obtain ⟨hc0, hc1⟩ := HCW.out _ HB5.out
                  clear hp hg
                  go_wp2
                  go_ret3
                  rw [show l.take k ++ [(xa + n, xn - n)] ++ l.drop (k + 1) = l.take k ++ (xa + n, xn - n) :: l.drop (k + 1) by simp] at HRR
                  exact TkRes.mk HRR.out HP5.out HB5.out
              · have d1 : decide (n < xn) = false := decide_eq_false c1
                have HRR : Hid (r = (xa, l.take k ++ l.drop (k + 1), true)) := by
                  show _ = _
                  rw [← HR.out, take_some HM.out HN1.out.1 HFF.out, HGD.out]
                  simp only
                  rw [if_pos (by omega), List.append_nil]
                clear c0 c1 x0 x1 x2
                by_cases hcq : cap = k + 1
                · subst hcq
                  have hdr : l.drop (k + 1) = [] := List.drop_eq_nil_of_le (by omega)
                  rw [hdr, List.append_nil] at HRR
                  go_wp2_with (with_reducible refine wp_prs_moreL Try.underlying22 two_R _ rfl (.tmp 63) (.tmp 67) rfl w.heap.size _ (l.take k) rfl ?cf1 _ _ _ [] rfl ?cf2 ?cf3 ?cf4 ?cf5 ?cf6)
                  case cf1 => exact HP2.out
                  case cf2 => first | rfl | (rw [List.length_nil]; omega)
                  case cf3 => exact SlP.nil
                  case cf4 => simp; omega
                  case cf5 => exact HB2.out.size
                  intro v5 w5 hp hg
                  have HP5 := Lib.hid hp
                  have HB5 := Lib.hid (below_grow HB2.out hg HP2.out HB2.out.size)
                  obtain ⟨hc0, hc1⟩ := HCW.out _ HB5.out
                  clear hp hg
                  go_wp2
                  go_ret3
                  exact TkRes.mk HRR.out HP5.out HB5.out
                · go_wp2_with (with_reducible refine wp_prs_moreL Try.underlying22 two_R _ rfl (.tmp 63) (.tmp 67) rfl w.heap.size _ (l.take k) rfl ?df1 _ _ _ (l.drop (k + 1)) rfl ?df2 ?df3 ?df4 ?df5 ?df6)
                  case df1 => exact HP2.out
                  case df2 => rw [List.length_drop]
                  case df3 => exact slP_back (H.out.keep HB2.out) (k + 1)
                  case df4 => rw [List.length_drop]; simp; omega
                  case df5 => exact HB2.out.size
                  intro v5 w5 hp hg
                  have HP5 := Lib.hid hp
                  have HB5 := Lib.hid (below_grow HB2.out hg HP2.out HB2.out.size)
                  obtain ⟨hc0, hc1⟩ := HCW.out _ HB5.out
                  clear hp hg
                  go_wp2
                  go_ret3
                  exact TkRes.mk HRR.out HP5.out HB5.out
            · have d0 : decide (n ≤ xn) = false := decide_eq_false c0
              have HSS := Lib.hid (HS.out (by unfold longB; exact d0))
              clear c0 hb
              go_wp2
              go_roundw
              case rel => exact ⟨k + 1, HLT.out, by go_num, HSS, HL⟩
              case measure => have := HLT.out; simp [intOf]; omega
          · obtain rfl : k = l.length := by omega
            have HQ := Lib.hid (show r = (0, [], false) by rw [← HR.out]; exact take_none (find_no (by have := HN.out; rwa [List.take_length] at this)))
            go_wp2
            go_ret3
            exact TkRes.no HQ.out HL.out
end Go.Proofs.Ytmndeohhanbjkaa
