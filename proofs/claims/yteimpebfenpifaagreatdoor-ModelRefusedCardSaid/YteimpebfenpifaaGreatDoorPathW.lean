/-
  The reference's Join and Parent; Within, the program's and the reference's.
-/
import Derived.Test.YteimpebfenpifaaGreatDoorMg12
namespace Go.Proofs.YteimpebfenpifaaGreatDoor
open Go Go.RowKit Go.Shelf

/-- What the reference joins, name by name. -/
def accL (l : List ByteArray) : List UInt8 := l.flatMap fun x => 47 :: pb x
def accB (l : List ByteArray) : ByteArray := mkB (accL l)
theorem accL_snoc (l : List ByteArray) (x : ByteArray) : accL (l ++ [x]) = accL l ++ (47 :: pb x) := by
  unfold accL; rw [List.flatMap_append]; simp
theorem accB_snoc (l : List ByteArray) (k : Nat) (h : k < l.length) : accB (l.take (k + 1)) = accB (l.take k) ++ ⟨#[47]⟩ ++ l[k] := by
  apply pb_ext
  rw [List.take_succ_eq_append_getElem h, accB, mkB, pb_mk, accL_snoc, pb_append, pb_append, accB, mkB, pb_mk, List.append_assoc]
  rfl
theorem accB_join : ∀ (l : List ByteArray), l ≠ [] → joinD l = accB l := by
  intro l hl
  apply pb_ext
  rw [pb_joinD, accB, mkB, pb_mk]
  induction l with
  | nil => exact absurd rfl hl
  | cons x r ih =>
    cases r with
    | nil => simp [accL, List.intercalate]
    | cons y r =>
      have := ih (by simp)
      rw [List.map_cons, List.map_cons, inter_cons]
      rw [List.map_cons] at this
      rw [this]
      simp [accL]
theorem accB_size (l : List ByteArray) (k : Nat) : (accB (l.take k)).size ≤ (accB l).size := by
  rw [← pb_size, ← pb_size, accB, mkB, pb_mk, accB, mkB, pb_mk]
  have : accL l = accL (l.take k) ++ accL (l.drop k) := by
    unfold accL
    rw [← List.flatMap_append, List.take_append_drop]
  rw [this, List.length_append]
  omega

set_option maxHeartbeats 1000000 in
theorem rjoin_any (a : Option Addr) (c : Nat) (l : List ByteArray) (w : World) (h : Sl w Value.string a l) (hz : (joinD l).size ≤ 1000000) (hl : l.length ≤ 1000000) :
    Calls Tryz.prog 82 #[.slice a l.length c] w fun e w' => e = .returned (.string (joinD l)) ∧ w = w' := by
  by_cases h0 : l = []
  · subst h0
    clear h hz
    go_enter Tryz.func82, Tryz.ntmps82
    go_wp2
    go_ret
    exact ⟨rfl, rfl⟩
  · have hj := accB_join l h0
    rw [hj] at hz ⊢
    have HS := Lib.hid h
    have HZ := Lib.hid hz
    have hlp : 0 < l.length := by cases l with | nil => exact absurd rfl h0 | cons _ _ => simp
    have hl0 : ¬ (l.length : Int) = 0 := by omega
    have H0 := Lib.hid h0
    obtain ⟨R, hR⟩ : ∃ R, R = accB l := ⟨_, rfl⟩
    rw [← hR]
    have HR := Lib.hid hR
    clear h hz hj h0 hR
    go_enter Tryz.func82, Tryz.ntmps82
    go_wp2
    go_loop [3, 4] (fun sv i => ∃ k : Nat, k ≤ l.length ∧ i = .int .i64 k ∧ sv = .string (accB (l.take k))) (fun _ i => l.length - (intOf i).toNat)
    case atStart => exact ⟨0, Nat.zero_le _, rfl, rfl⟩
    case round =>
      obtain ⟨k, hk, rfl, rfl⟩ := hrel
      by_cases hlt : k < l.length
      · obtain ⟨b, off, rfl, hb, hcell⟩ := HS.out H0.out
        have q1 : w.cell? ⟨b, off + k, none⟩ = some (.string l[k]) := hcell k _ (List.getElem?_eq_getElem hlt)
        have HN := Lib.hid (accB_snoc l k hlt)
        have hz1 : (accB (l.take k)).size ≤ 1000000 := Nat.le_trans (accB_size l k) HZ.out
        have hz2 : (accB (l.take k) ++ (⟨#[47]⟩ : ByteArray)).size = (accB (l.take k)).size + 1 := by rw [ByteArray.size_append]; rfl
        have hz3 : (accB (l.take k) ++ (⟨#[47]⟩ : ByteArray) ++ l[k]).size ≤ 1000000 := by rw [← HN.out]; exact Nat.le_trans (accB_size l (k + 1)) HZ.out
        rw [ByteArray.size_append, hz2] at hz3
        generalize accB (l.take k) = t at *
        generalize l[k] = x at *
        have hq1 : ¬ 9223372036854775807 < t.size + 1 := by omega
        have hq2 : ¬ 9223372036854775807 < t.size + 1 + x.size := by omega
        clear hcell hb hz1 hz3
        go_wp2
        go_round
        case rel => exact ⟨k + 1, by omega, by go_num, by rw [HN.out]⟩
        case measure => simp [intOf]; omega
      · have hke : k = l.length := by omega
        have HF : Hid (accB (l.take k) = R) := by show _ = _; rw [hke, List.take_length, HR.out]
        clear hke
        go_wp2
        go_ret
        exact ⟨by rw [← HF.out]; rfl, rfl⟩

set_option maxRecDepth 100000 in
set_option maxHeartbeats 1000000 in
theorem rparent_any (s : ByteArray) (hs : s.size ≤ 100000) (w : World) : Calls Tryz.prog 83 #[.string s] w fun e w' => e = .returned (parV (parD s)) ∧ Below w.heap.size w w' := by
  obtain ⟨R, hR⟩ : ∃ R, R = parD s := ⟨_, rfl⟩
  rw [← hR]
  by_cases h0 : (splitD s).2 = 0
  · rcases Nat.eq_zero_or_pos (splitD s).1.length with hl | hl
    · have HF := Lib.hid (hR.trans (parD_root h0 (List.eq_nil_of_length_eq_zero hl)))
      have e1 : (splitD s).1 = [] := List.eq_nil_of_length_eq_zero hl
      have E0 := Lib.hid h0
      have E1 := Lib.hid e1
      clear hR h0 hl e1
      go_enter Tryz.func83, Tryz.ntmps83
      go_wp2_with fail
      refine (rsplit_any s hs _).mono ?_
      rintro e w1 ⟨v, rfl, hk, hb⟩
      rw [E0.out]
      rw [E1.out] at hk
      obtain ⟨a, c, rfl, _, _⟩ := hk.shape
      have HB := Lib.hid hb
      clear hb hk
      go_wp2
      refine bodyPost_ret (results_three rfl _ _ _) rfl ?_
      exact ⟨by rw [HF.out]; rfl, HB.out⟩
    · obtain ⟨m, hm⟩ : ∃ m, (splitD s).1.length = m + 1 := ⟨_, (Nat.succ_pred_eq_of_pos hl).symm⟩
      have HF := Lib.hid (hR.trans (parD_ok h0 (by intro e; rw [e] at hm; simp at hm)))
      have hlen := split_len s
      have hjz : (joinD (splitD s).1.dropLast).size ≤ 1000000 := by
        have h1 := join_front (splitD s).1
        rw [join_split h0] at h1
        omega
      have E0 := Lib.hid h0
      generalize hll : (splitD s).1 = l at *
      have HLL := Lib.hid hll
      have HJZ := Lib.hid hjz
      have HM := Lib.hid hm
      have hm1 : m ≤ 100001 := by omega
      clear hR h0 hl hm hjz hlen hll
      go_enter Tryz.func83, Tryz.ntmps83
      go_wp2_with fail
      refine (rsplit_any s hs _).mono ?_
      rintro e w1 ⟨v, rfl, hk, hb⟩
      rw [E0.out]
      rw [HLL.out] at hk
      obtain ⟨xa, xc, rfl, hsl, hc⟩ := hk.shape
      have HB := Lib.hid hb
      rw [HM.out]
      rw [HM.out] at hc
      have hne : l ≠ [] := by intro e; have := HM.out; rw [e] at this; simp at this
      obtain ⟨bb, off, rfl, hbl, hcell⟩ := hsl hne
      have hlast : w1.cell? ⟨bb, off + m, none⟩ = some (.string (l.getLastD ⟨#[]⟩)) := hcell m _ (last_at HM.out)
      have HSL : Hid (Sl w1 Value.string (some ⟨bb, off, none⟩) l.dropLast) := by
        have := hsl.front m
        rw [front_take HM.out] at this
        exact this
      have HDL : Hid (l.dropLast.length = m) := by show _ = _; rw [List.length_dropLast, HM.out]; rfl
      generalize l.getLastD ⟨#[]⟩ = z at *
      clear hb hk hsl hcell hbl hne
      have hm0 : ¬ (m : Int) + 1 = 0 := by omega
      have hw2 : IntKind.i64.wrap ((m : Int) + 1) = m + 1 := i64_small _ (by omega) (by omega)
      have hw3 : IntKind.i64.wrap (m : Int) = m := i64_small _ (by omega) (by omega)
      have hmc : (m : Int) ≤ (xc : Int) := by omega
      have hmi : (m : Int) < (m : Int) + 1 := by omega
      have hmz : (0 : Int) ≤ (m : Int) := by omega
      go_wp2_with fail
      have c0 : w1.drew.cell? ⟨bb, off + m, none⟩ = some (.string z) := hlast
      clear hlast
      refine wp_region_sched (fun W => W.cell? ⟨bb, off + m, none⟩ = some (.string z)) 13 [(0, false), (1, false), (2, false), (3, false), (4, false), (6, false), (7, false), (8, false), (9, false), (10, false), (11, false), (5, true), (12, false)] (by kernel_rfl) (by kernel_rfl) c0 ?_
      simp only [List.drop_succ_cons, List.drop_zero]
      iterate 11 (apply wpSch_step rfl; (intro W hS K hK; go_simp; exact hK _ rfl))
      refine wpSch_make rfl (fun K' hK => ?_)
      go_simp
      have HJ := Lib.hid (rjoin_any (some ⟨bb, off, none⟩) xc l.dropLast w1.drew HSL.out HJZ.out (by rw [HDL.out]; omega))
      rw [HDL.out] at HJ
      refine HJ.out.mono ?_
      rintro e w2 ⟨rfl, rfl⟩
      refine hK _ _ _ (fun _ h => h) c0 ?_
      clear hK K' HJ
      apply wpSch_step rfl
      · intro W hS K hK
        go_simp
        exact hK _ rfl
      refine wpSch_nil ?_
      have HB2 : Hid (Below w.heap.size w w1.drew) := ⟨HB.out.os, HB.out.tape, HB.out.output, HB.out.size, HB.out.block⟩
      go_wp2
      refine bodyPost_ret (results_three rfl _ _ _) rfl ?_
      exact ⟨by rw [HF.out]; rfl, HB2.out⟩
  · have HF := Lib.hid (hR.trans (parD_err h0))
    have hq : ((splitD s).2 != 0) = true := by simpa using h0
    clear hR h0
    go_enter Tryz.func83, Tryz.ntmps83
    go_wp2_with fail
    refine (rsplit_any s hs _).mono ?_
    rintro e w1 ⟨v, rfl, hk, hb⟩
    obtain ⟨xa, xc, rfl, _, _⟩ := hk.shape
    have HB := Lib.hid hb
    clear hb hk
    go_wp2
    refine bodyPost_ret (results_three rfl _ _ _) rfl ?_
    exact ⟨by rw [HF.out]; rfl, HB.out⟩
end Go.Proofs.YteimpebfenpifaaGreatDoor
