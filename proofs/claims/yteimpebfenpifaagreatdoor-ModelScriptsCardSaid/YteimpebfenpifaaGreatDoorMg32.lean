/-
  Texts put together: MrB, MrC, MrD.
-/
import Derived.Test.YteimpebfenpifaaGreatDoorMrA
import Derived.Test.YteimpebfenpifaaGreatDoorMg15
import Derived.Test.YteimpebfenpifaaGreatDoorMg9
namespace Go.Proofs.YteimpebfenpifaaGreatDoor
open Go Go.RowKit Go.ChangeShapes Go.WideShapes Go.ChangeAt

def ofI : Option Nat → Int
  | none => -1
  | some n => n
theorem beq_bytes (s t : ByteArray) : (s.toList == t.toList) = decide (s = t) := beq_key s t
theorem join_is {x l : PathD} {s : ByteArray} (hx : ∀ c ∈ x, nameD c) (hs : splitD s = (l, 0)) : joinD x = s ↔ x = l := by
  constructor
  · intro e
    have h1 := split_join hx
    rw [e, hs] at h1
    exact (Prod.mk.inj h1).1.symm
  · intro e
    have := join_split (s := s) (by rw [hs])
    rw [hs] at this
    rw [e]; exact this
theorem root_is {l : PathD} {s : ByteArray} (hs : splitD s = (l, 0)) : s = rootB ↔ l = [] := by
  constructor
  · intro e
    rw [e, split_rootB] at hs
    exact (Prod.mk.inj hs).1.symm
  · intro e
    exact root_of (by rw [hs]) (by rw [hs]; exact e)
theorem root_list : rootB.toList = [47] := by simp [ByteArray.toList_eq]
theorem findL_first {l : List EnD} {k : PathD} {j : Nat} (hj : j < l.length) (h1 : ∀ x ∈ l.take j, x.1 ≠ k) (h2 : l[j].1 = k) : findL l k = some l[j].2 := by
  induction l generalizing j with
  | nil => simp at hj
  | cons y r ih =>
    rw [findL_cons]
    cases j with
    | zero => rw [if_pos (by simpa using h2)]; rfl
    | succ j =>
      rw [if_neg (h1 y (by simp))]
      exact ih (by simpa using hj) (fun x hx => h1 x (by rw [List.take_succ_cons]; exact List.mem_cons_of_mem _ hx)) (by simpa using h2)
set_option maxRecDepth 100000 in
set_option maxHeartbeats 4000000 in
theorem rof_any (p : RmP) (G : GD) (w : World) (h : RmAt w p G) (hw : WfG G) (hk : G.E.length ≤ 100000) (s : ByteArray) (l : PathD) (hs : splitD s = (l, 0)) :
    Calls Tryz.prog 81 #[.pointer (some ⟨p.b, 0, none⟩), .string s] w fun e w' => e = .returned (.int .i64 (ofI (atE G l))) ∧ w' = w := by
  have HE := Lib.hid h.e
  have HK := Lib.hid hk
  have HNM := Lib.hid hw.names
  have HJ : Hid (∀ x : PathD, (∀ c ∈ x, nameD c) → (joinD x = s ↔ x = l)) := fun x hx => join_is hx hs
  have HL : Hid (s ≠ rootB → l ≠ []) := fun h1 h2 => h1 ((root_is hs).2 h2)
  have c0 := h.box.cell 0 _ rfl
  obtain ⟨ea, ec, hev⟩ := h.e.shape
  rw [hev] at c0 HE
  by_cases hr : s = rootB
  · have hl := (root_is hs).1 hr
    have hq : (s.toList == [47]) = true := by rw [hr, root_list]; rfl
    have HA : Hid (ofI (atE G l) = 0) := by show _ = _; rw [hl, atE_nil]; rfl
    clear h hw hk hs hr hl hev
    go_enter Tryz.func81, Tryz.ntmps81
    go_wp2
    go_ret
    exact ⟨by rw [HA.out]; rfl, rfl⟩
  · have hq : (s.toList == [47]) = false := by
      have : s.toList ≠ [47] := fun e => hr (toList_inj (e.trans root_list.symm))
      simpa using this
    have HLN := Lib.hid (HL.out hr)
    have HA : Hid (atE G l = findL G.E l) := atE_ne HLN.out
    generalize atE G l = A at *
    clear h hw hk hs hr hev HL
    generalize G.E = E at *
    go_enter Tryz.func81, Tryz.ntmps81
    go_wp2_with fail
    go_loop [5] (fun i => ∃ k : Nat, k ≤ E.length ∧ i = .int .i64 k ∧ Hid (∀ x ∈ E.take k, x.1 ≠ l)) (fun i => E.length - (intOf i).toNat)
    case atStart => exact ⟨0, Nat.zero_le _, rfl, fun x hx => by cases hx⟩
    case round =>
      obtain ⟨k, hk, rfl, HT⟩ := hrel
      by_cases hlt : k < E.length
      · obtain ⟨g, rfl, _, c1, c2, _, _⟩ := HE.out.at hlt
        have HX : Hid (joinD E[k].1 = s ↔ E[k].1 = l) := HJ.out _ (HNM.out _ (List.getElem_mem hlt))
        have HF : Hid (E[k].1 = l → findL E l = some E[k].2) := fun e => findL_first hlt HT.out e
        have HN : Hid (E[k].1 ≠ l → ∀ x ∈ E.take (k + 1), x.1 ≠ l) := fun e x hx => by
          rw [List.take_succ_eq_append_getElem hlt] at hx
          rcases List.mem_append.1 hx with hx | hx
          · exact HT.out x hx
          · rw [List.mem_singleton.1 hx]; exact e
        have hkk : k + 1 ≤ 200000 := by have := HK.out; omega
        have h0 : (0 : Int) ≤ (k : Int) := by omega
        have h1 : (k : Int) < (E.length : Int) := by omega
        have HLT := Lib.hid hlt
        generalize E[k] = x at *
        obtain ⟨x1, x2⟩ := x
        dsimp only at *
        by_cases hx : joinD x1 = s
        · have f1 : ((joinD x1).toList == s.toList) = true := by rw [beq_bytes, decide_eq_true hx]
          have HQ : Hid (ofI A = (x2 : Int)) := by show _ = _; rw [HA.out, HF.out (HX.out.1 hx)]; rfl
          clear hx hlt
          go_wp2
          go_ret
          exact ⟨by rw [HQ.out]; rfl, rfl⟩
        · have f1 : ((joinD x1).toList == s.toList) = false := by rw [beq_bytes, decide_eq_false hx]
          have HN2 := Lib.hid (HN.out (fun e => hx (HX.out.2 e)))
          clear hx hlt
          go_wp2
          go_round
          case rel => exact ⟨k + 1, HLT.out, by go_num, HN2⟩
          case measure => have := HLT.out; simp [intOf]; omega
      · have hke : k = E.length := by omega
        have HQ : Hid (ofI A = -1) := by
          show _ = _
          have h1 := HT.out
          rw [hke, List.take_length] at h1
          rw [HA.out, findL_none.2 h1]; rfl
        subst hke
        clear hlt
        go_wp2
        go_ret
        exact ⟨by rw [HQ.out]; rfl, rfl⟩
end Go.Proofs.YteimpebfenpifaaGreatDoor

namespace Go.Proofs.YteimpebfenpifaaGreatDoor
open Go Go.RowKit Go.ChangeShapes Go.WideShapes Go.ChangeAt

theorem at_lt {G : GD} (hw : WfG G) {l : PathD} {n : Nat} (h : atE G l = some n) : n < G.T.length := by
  by_cases h0 : l = []
  · rw [h0, atE_nil] at h
    obtain rfl := Option.some.inj h
    have := hw.root
    unfold dirG at this
    rcases Nat.lt_or_ge 0 G.T.length with h1 | h1
    · exact h1
    · rw [List.getElem?_eq_none (by omega)] at this; cases this
  · rw [atE_ne h0] at h
    exact hw.num _ (findL_mem h)
theorem dir_at {G : GD} {n : Nat} (h : n < G.T.length) : dirG G n = G.T[n].dir := by
  unfold dirG; rw [List.getElem?_eq_getElem h]
theorem text_at {G : GD} {n : Nat} (h : n < G.T.length) : textG G n = G.T[n].text := by
  unfold textG; rw [List.getElem?_eq_getElem h]
theorem step_go {G : GD} {pre : PathD} {x : ByteArray} {r : PathD} {n m : Nat} (h1 : atE G pre = some n) (h2 : dirG G n = true) (h3 : atE G (pre ++ [x]) = some m) : stepG G pre (x :: r) = stepG G (pre ++ [x]) r := by
  conv => lhs; unfold stepG
  rw [h1, Option.getD_some, if_neg (by rw [h2]; decide), h3]
theorem step_nodir {G : GD} {pre : PathD} {x : ByteArray} {r : PathD} {n : Nat} (h1 : atE G pre = some n) (h2 : dirG G n = false) : stepG G pre (x :: r) = (0, 11) := by
  unfold stepG
  rw [h1, Option.getD_some, if_pos h2]
theorem step_nokid {G : GD} {pre : PathD} {x : ByteArray} {r : PathD} {n : Nat} (h1 : atE G pre = some n) (h2 : dirG G n = true) (h3 : atE G (pre ++ [x]) = none) : stepG G pre (x :: r) = (0, 8) := by
  unfold stepG
  rw [h1, Option.getD_some, if_neg (by rw [h2]; decide), h3]
set_option maxRecDepth 100000 in
set_option maxHeartbeats 4000000 in
theorem rleads_any (p : RmP) (G : GD) (w : World) (h : RmAt w p G) (hw : WfG G) (hk : G.E.length ≤ 100000) (s : ByteArray) (hz : s.size ≤ 100000) :
    Calls Tryz.prog 55 #[.pointer (some ⟨p.b, 0, none⟩), .string s] w fun e w' => e = .returned (.tuple #[.int .i64 (leadG G s).1, .int .i64 (leadG G s).2]) ∧ Below w.heap.size w w' := by
  obtain ⟨R, hR⟩ : ∃ R, R = leadG G s := ⟨_, rfl⟩
  rw [← hR]
  have HR := Lib.hid hR
  have HA := Lib.hid h
  have HW := Lib.hid hw
  have HK := Lib.hid hk
  have HZ := Lib.hid hz
  clear hR h hw hk hz
  go_enter Tryz.func55, Tryz.ntmps55
  go_wp2_with fail
  refine (rsplit_any s HZ.out w).mono ?_
  rintro e w1 ⟨v, rfl, hks, hb⟩
  have HA1 := Lib.hid (HA.out.keep hb)
  have HB1 := Lib.hid hb
  by_cases he : (splitD s).2 = 0
  case neg =>
    have HQ : Hid (R = (0, (splitD s).2)) := by show _ = _; rw [HR.out]; unfold leadG; rw [if_neg he]
    have f1 : ((splitD s).2 != 0) = true := by simpa using he
    clear he hks hb
    go_wp2
    go_ret2
    exact ⟨by rw [HQ.out]; rfl, HB1.out⟩
  have HSP : Hid (splitD s = ((splitD s).1, 0)) := by show _ = _; rw [← he]
  have HJS : Hid (joinD (splitD s).1 = s) := join_split he
  have HNM : Hid (∀ c ∈ (splitD s).1, nameD c) := names_ok he
  have HQ : Hid (R = stepG G [] (splitD s).1) := by show _ = _; rw [HR.out]; unfold leadG; rw [if_pos he]
  have HLL : Hid ((splitD s).1.length ≤ 100001) := by have h1 := split_len s; have h2 := HZ.out; show _ ≤ _; omega
  rw [he]
  obtain ⟨L, hL⟩ : ∃ L, L = (splitD s).1 := ⟨_, rfl⟩
  rw [← hL] at HSP HJS HNM HQ HLL hks
  obtain ⟨a, c, rfl, hsl, hlc⟩ := hks.shape
  have HSL := Lib.hid hsl
  have HLC := Lib.hid hlc
  clear he hks hb hL hsl hlc HR
  go_wp2_with fail
  go_loopw [8] (fun i wr => ∃ k : Nat, ∃ wz : World, wz = wr ∧ k ≤ L.length ∧ i = .int .i64 k ∧ Hid ((atE G (L.take k)).isSome = true ∧ stepG G [] L = stepG G (L.take k) (L.drop k)) ∧ Hid (RmAt wr p G ∧ Sl wr Value.string a L ∧ Below w.heap.size w wr)) (fun i _ => L.length - (intOf i).toNat)
  case atStart => exact ⟨0, _, rfl, Nat.zero_le _, rfl, ⟨by rw [List.take_zero, atE_nil]; rfl, by rw [List.take_zero, List.drop_zero]⟩, ⟨HA1.out, HSL.out, HB1.out⟩⟩
  case round =>
    clear HA1 HSL HB1
    obtain ⟨k, wr, rfl, hk, rfl, HS, HWR⟩ := hrel
    obtain ⟨hra, hrs, hrb⟩ := HWR.out
    have HA := Lib.hid hra
    have HSL := Lib.hid hrs
    have HB := Lib.hid hrb
    obtain ⟨hs1, hs2⟩ := HS.out
    have HST := Lib.hid hs2
    obtain ⟨n, hn⟩ := Option.isSome_iff_exists.1 hs1
    have HN := Lib.hid hn
    have hnl := at_lt HW.out hn
    clear hra hrs hrb hs1 hs2 HWR HS
    by_cases hlt : k < L.length
    · have hdr : L.drop k = L[k] :: L.drop (k + 1) := List.drop_eq_getElem_cons hlt
      have htk : L.take (k + 1) = L.take k ++ [L[k]] := List.take_succ_eq_append_getElem hlt
      rw [hdr] at HST
      have HTK := Lib.hid htk
      have HLT := Lib.hid hlt
      generalize L[k] = x at *
      have hl1 : (L.take k).length = k := by rw [List.length_take]; omega
      have hl2 : (L.take (k + 1)).length = k + 1 := by rw [List.length_take]; omega
      have HJ1 := Lib.hid (rjoin_any a c (L.take k) wr.drew ((HSL.out.front k).keepB ⟨rfl, rfl, rfl, Nat.le_refl _, fun _ _ => rfl⟩) (by have h1 := join_take_le L k; rw [HJS.out] at h1; have := HZ.out; omega) (by have := HLL.out; omega))
      rw [hl1] at HJ1
      have hkc : k ≤ c := by have := HLC.out; omega
      have hk0 : (0 : Int) ≤ (k : Int) := by omega
      have hk1 : (k : Int) ≤ (c : Int) := by omega
      have hk2 : (k : Int) < (L.length : Int) := by omega
      have hk3 : (k : Int) + 1 ≤ (c : Int) := by have := HLC.out; omega
      have hk4 : k + 1 ≤ 200000 := by have := HLL.out; omega
      have t0 : wr.cell? ⟨p.b, 1, none⟩ = some p.tv := HA.out.box.cell 1 _ rfl
      obtain ⟨ta, tc, htv⟩ := HA.out.t.shape
      rw [htv] at t0
      have HTG : Hid (Tgs wr (.slice ta G.T.length tc) G.T) := by have := HA.out.t; rw [htv] at this; exact this
      obtain ⟨g, rfl, -, m0, -, -, -⟩ := HTG.out.at hnl
      have m1 : wr.cell? ⟨g, n * 2, none⟩ = some (.bool (dirG G n)) := by rw [dir_at hnl]; exact m0
      have n0 : (0 : Int) ≤ (n : Int) := by omega
      have n1 : (n : Int) < (G.T.length : Int) := by omega
      have HO1 := Lib.hid (rof_any p G wr.drew HA.out.drew HW.out HK.out (joinD (L.take k)) (L.take k) (split_join (fun y hy => HNM.out y (List.mem_of_mem_take hy))))
      rw [HN.out, show ofI (some n) = (n : Int) from rfl] at HO1
      clear hdr htk hlt hl1 hn m0 hnl htv HTG
      go_wp2_with fail
      have t1 : wr.drew.cell? ⟨p.b, 1, none⟩ = some (.slice (some ⟨g, 0, none⟩) G.T.length tc) := t0
      refine wp_region_tree (fun W => W.cell? ⟨p.b, 1, none⟩ = some (.slice (some ⟨g, 0, none⟩) G.T.length tc)) 10 (.quiet 0 (.quiet 1 (.quiet 2 (.quiet 3 (.quiet 4 (.quiet 5 (.quiet 6 (.quiet 7 (.make 8 (.make 9 .nil)))))))))) (by kernel_rfl) (by kernel_rfl) t1 ?_
      simp only [List.drop_succ_cons, List.drop_zero]
      iterate 8 (apply wpTr_step rfl; (intro W hS K hK; go_simp; exact hK _ rfl))
      refine wpTr_make rfl (fun K' hK => ?_)
      go_simp
      refine (HJ1.out).mono ?_
      rintro e w2 ⟨rfl, rfl⟩
      refine hK _ _ _ (fun _ h => h) t1 ?_
      clear hK K'
      refine wpTr_make rfl (fun K' hK => ?_)
      go_simp
      refine HO1.out.mono ?_
      rintro e w2 ⟨rfl, rfl⟩
      refine hK _ _ _ (fun _ h => h) t1 ?_
      clear hK K'
      refine wpTr_nil ?_
      have HAD := Lib.hid HA.out.drew
      have HSD : Hid (Sl wr.drew Value.string a L) := HSL.out.keepB ⟨rfl, rfl, rfl, Nat.le_refl _, fun _ _ => rfl⟩
      have HBD : Hid (Below w.heap.size w wr.drew) := HB.out.drew
      have m2 : wr.drew.cell? ⟨g, n * 2, none⟩ = some (.bool (dirG G n)) := m1
      clear HA HSL HB m1 t0 t1
      generalize wr.drew = wd at *
      by_cases hd : dirG G n = true
      case neg =>
        have hd : dirG G n = false := by simpa using hd
        have HQ2 : Hid (R = (0, 11)) := by show _ = _; rw [HQ.out, HST.out, step_nodir HN.out hd]
        rw [hd] at m2
        clear hd HJ1 HO1
        go_wp2
        go_ret2
        exact ⟨by rw [HQ2.out]; rfl, HBD.out⟩
      rw [hd] at m2
      have HJ2 := Lib.hid (rjoin_any a c (L.take (k + 1)) wd (HSD.out.front (k + 1)) (by have h1 := join_take_le L (k + 1); rw [HJS.out] at h1; have := HZ.out; omega) (by have := HLL.out; omega))
      rw [hl2] at HJ2
      have HO2 := Lib.hid (rof_any p G wd HAD.out HW.out HK.out (joinD (L.take (k + 1))) (L.take (k + 1)) (split_join (fun y hy => HNM.out y (List.mem_of_mem_take hy))))
      rw [HTK.out] at HO2 HJ2
      cases hat : atE G (L.take k ++ [x]) with
      | none =>
        have HQ2 : Hid (R = (0, 8)) := by show _ = _; rw [HQ.out, HST.out, step_nokid HN.out hd hat]
        rw [hat] at HO2
        have hneg : (ofI none < 0) = True := eq_true (by decide)
        clear hd hat HJ1 HO1 hl2
        go_wp2_with fail
        refine HJ2.out.mono ?_
        rintro e w2 ⟨rfl, rfl⟩
        go_wp2_with fail
        refine HO2.out.mono ?_
        rintro e w2 ⟨rfl, rfl⟩
        go_wp2
        go_ret2
        exact ⟨by rw [HQ2.out]; rfl, HBD.out⟩
      | some m =>
        have HS2 : Hid ((atE G (L.take (k + 1))).isSome = true ∧ stepG G [] L = stepG G (L.take (k + 1)) (L.drop (k + 1))) := ⟨by rw [HTK.out, hat]; rfl, by rw [HST.out, HTK.out, step_go HN.out hd hat]⟩
        rw [hat] at HO2
        have hneg : (ofI (some m) < 0) = False := eq_false (by show ¬ ((m : Int) < 0); omega)
        clear hd hat HJ1 HO1 hl2
        go_wp2_with fail
        refine HJ2.out.mono ?_
        rintro e w2 ⟨rfl, rfl⟩
        go_wp2_with fail
        refine HO2.out.mono ?_
        rintro e w2 ⟨rfl, rfl⟩
        go_wp2
        go_roundw
        case rel => exact ⟨k + 1, _, rfl, HLT.out, by go_num, HS2, ⟨HAD.out, HSD.out, HBD.out⟩⟩
        case measure => have := HLT.out; simp [intOf]; omega
    · have hke : k = L.length := by omega
      subst hke
      rw [List.take_length] at HN
      rw [List.take_length, List.drop_length] at HST
      have HQ2 : Hid (R = (n, 0)) := by
        show _ = _
        rw [HQ.out, HST.out]
        unfold stepG
        rw [HN.out]; rfl
      have HO1 := Lib.hid (rof_any p G wr HA.out HW.out HK.out s L HSP.out)
      rw [HN.out] at HO1
      clear hlt HST hk hn hnl
      go_wp2_with fail
      refine HO1.out.mono ?_
      rintro e w2 ⟨rfl, rfl⟩
      go_wp2
      go_ret2
      exact ⟨by rw [HQ2.out]; rfl, HB.out⟩
end Go.Proofs.YteimpebfenpifaaGreatDoor

namespace Go.Proofs.YteimpebfenpifaaGreatDoor
open Go Go.RowKit Go.ChangeShapes Go.WideShapes Go.ChangeAt

theorem lead_join {G : GD} {l : PathD} (h : ∀ c ∈ l, nameD c) : leadG G (joinD l) = stepG G [] l := by
  unfold leadG
  rw [split_join h, if_pos rfl]
set_option maxRecDepth 100000 in
set_option maxHeartbeats 4000000 in
theorem rfree_any (p : RmP) (G : GD) (w : World) (h : RmAt w p G) (hw : WfG G) (hk : G.E.length ≤ 100000) (s : ByteArray) (hz : s.size ≤ 100000) :
    Calls Tryz.prog 56 #[.pointer (some ⟨p.b, 0, none⟩), .string s] w fun e w' => e = .returned (.int .i64 (freeG G s)) ∧ Below w.heap.size w w' := by
  obtain ⟨R, hR⟩ : ∃ R, R = freeG G s := ⟨_, rfl⟩
  rw [← hR]
  have HR := Lib.hid hR
  have HA := Lib.hid h
  have HW := Lib.hid hw
  have HK := Lib.hid hk
  have HZ := Lib.hid hz
  clear hR h hw hk hz
  go_enter Tryz.func56, Tryz.ntmps56
  go_wp2_with fail
  refine (rsplit_any s HZ.out w).mono ?_
  rintro e w1 ⟨v, rfl, hks, hb⟩
  have HA1 := Lib.hid (HA.out.keep hb)
  have HB1 := Lib.hid hb
  clear hks hb HA
  by_cases he : (splitD s).2 = 0
  case neg =>
    have HQ : Hid (R = (splitD s).2) := by show _ = _; rw [HR.out]; unfold freeG; rw [if_pos he]
    have f1 : ((splitD s).2 != 0) = true := by simpa using he
    clear he
    go_wp2
    go_ret
    exact ⟨by rw [HQ.out]; rfl, HB1.out⟩
  have HSP : Hid (splitD s = ((splitD s).1, 0)) := by show _ = _; rw [← he]
  by_cases hl : (splitD s).1 = []
  · have HQ : Hid (R = 9) := by show _ = _; rw [HR.out]; unfold freeG; rw [if_neg (fun e => e he), if_pos hl]
    have hr := (root_is HSP.out).2 hl
    have hq : (s.toList == [47]) = true := by rw [hr, root_list]; rfl
    rw [he]
    clear he hl hr
    go_wp2
    go_ret
    exact ⟨by rw [HQ.out]; rfl, HB1.out⟩
  have hq : (s.toList == [47]) = false := by
    have h1 : s.toList ≠ [47] := fun e => hl ((root_is HSP.out).1 (toList_inj (e.trans root_list.symm)))
    simpa using h1
  have hpd := parD_ok he hl
  have hfn := front_names he
  have HLF : Hid (leadG G (joinD (splitD s).1.dropLast) = stepG G [] (splitD s).1.dropLast) := lead_join (fun x hx => names_ok he x (List.dropLast_subset _ hx))
  have HFS : Hid ((joinD (splitD s).1.dropLast).size ≤ 100000) := by have h1 := join_front (splitD s).1; rw [join_split he] at h1; have := HZ.out; show _ ≤ _; omega
  have HQ : Hid (R = if (stepG G [] (splitD s).1.dropLast).2 ≠ 0 then (stepG G [] (splitD s).1.dropLast).2 else if dirG G (stepG G [] (splitD s).1.dropLast).1 = false then 11 else if (atE G (splitD s).1).isSome = true then 9 else 0) := by
    show _ = _; rw [HR.out]; unfold freeG; rw [if_neg (fun e => e he), if_neg hl]
  have HAT : Hid ((stepG G [] (splitD s).1.dropLast).2 = 0 → atE G (splitD s).1.dropLast = some (stepG G [] (splitD s).1.dropLast).1) := fun e => by
    have := stepG_zero (splitD s).1.dropLast [] (by rw [atE_nil]; rfl) e
    exact this
  rw [he]
  generalize (splitD s).1 = L at *
  obtain ⟨ST, hST⟩ : ∃ ST, ST = stepG G [] L.dropLast := ⟨_, rfl⟩
  rw [← hST] at HLF HQ HAT
  clear he hl hfn hST HR
  go_wp2_with fail
  refine (rparent_any s HZ.out w1).mono ?_
  rintro e w2 ⟨rfl, hb⟩
  rw [hpd]
  have HA2 := Lib.hid (HA1.out.keep hb)
  have HB2 := Lib.hid (HB1.out.trans (hb.mono HB1.out.size))
  clear hb hpd HA1 HB1
  unfold parV
  go_wp2_with fail
  refine (rleads_any p G w2 HA2.out HW.out HK.out _ HFS.out).mono ?_
  rintro e w3 ⟨rfl, hb⟩
  rw [HLF.out]
  have HA3 := Lib.hid (HA2.out.keep hb)
  have HB3 := Lib.hid (HB2.out.trans (hb.mono HB2.out.size))
  clear hb HA2 HB2
  obtain ⟨n, er⟩ := ST
  dsimp only at *
  by_cases h1 : er = 0
  case neg =>
    have HQ2 : Hid (R = er) := HQ.out.trans (if_pos h1)
    have f1 : (er != 0) = true := by simpa using h1
    clear h1
    go_wp2
    go_ret
    exact ⟨by rw [HQ2.out]; rfl, HB3.out⟩
  subst h1
  have hnl := at_lt HW.out (HAT.out rfl)
  have HQ2 : Hid (R = if dirG G n = false then 11 else if (atE G L).isSome = true then 9 else 0) := HQ.out.trans (if_neg (fun e => e rfl))
  have t0 : w3.cell? ⟨p.b, 1, none⟩ = some p.tv := HA3.out.box.cell 1 _ rfl
  obtain ⟨ta, tc, htv⟩ := HA3.out.t.shape
  rw [htv] at t0
  have HTG : Hid (Tgs w3 (.slice ta G.T.length tc) G.T) := by have := HA3.out.t; rw [htv] at this; exact this
  obtain ⟨g, rfl, -, m0, -, -, -⟩ := HTG.out.at hnl
  have m1 : w3.cell? ⟨g, n * 2, none⟩ = some (.bool (dirG G n)) := by rw [dir_at hnl]; exact m0
  have n0 : (0 : Int) ≤ (n : Int) := by omega
  have n1 : (n : Int) < (G.T.length : Int) := by omega
  clear m0 hnl htv HTG HQ
  by_cases hd : dirG G n = true
  case neg =>
    have hd : dirG G n = false := by simpa using hd
    have HQ3 : Hid (R = 11) := HQ2.out.trans (if_pos hd)
    rw [hd] at m1
    clear hd
    go_wp2
    go_ret
    exact ⟨by rw [HQ3.out]; rfl, HB3.out⟩
  have HQ3 : Hid (R = if (atE G L).isSome = true then 9 else 0) := HQ2.out.trans (if_neg (by rw [hd]; decide))
  rw [hd] at m1
  have HO := Lib.hid (rof_any p G w3 HA3.out HW.out HK.out s L HSP.out)
  clear hd HQ2
  cases hat : atE G L with
  | none =>
    rw [hat] at HO HQ3
    have HQ4 : Hid (R = 0) := HQ3.out.trans (if_neg (by decide))
    have hge : (0 ≤ ofI none) = False := eq_false (by decide)
    clear hat
    go_wp2_with fail
    refine HO.out.mono ?_
    rintro e w4 ⟨rfl, rfl⟩
    go_wp2
    go_ret
    exact ⟨by rw [HQ4.out]; rfl, HB3.out⟩
  | some m =>
    rw [hat] at HO HQ3
    have HQ4 : Hid (R = 9) := HQ3.out.trans (if_pos rfl)
    have hge : (0 ≤ ofI (some m)) = True := eq_true (by show (0 : Int) ≤ (m : Int); omega)
    clear hat
    go_wp2_with fail
    refine HO.out.mono ?_
    rintro e w4 ⟨rfl, rfl⟩
    go_wp2
    go_ret
    exact ⟨by rw [HQ4.out]; rfl, HB3.out⟩
end Go.Proofs.YteimpebfenpifaaGreatDoor
