/-
  path.Parent; the reference's Join and Parent.
-/
import Derived.Test.YtjimjaimfejonaaDoorPathP
namespace Go.Proofs.YtjimjaimfejonaaDoor
open Go Go.RowKit Go.Shelf

theorem parD_err {s : ByteArray} (h : (splitD s).2 ≠ 0) : parD s = ⟨⟨#[]⟩, ⟨#[]⟩, (splitD s).2⟩ := if_pos h
theorem parD_root {s : ByteArray} (h : (splitD s).2 = 0) (h2 : (splitD s).1 = []) : parD s = ⟨⟨#[]⟩, ⟨#[]⟩, 1⟩ := by
  unfold parD; rw [if_neg (fun e => e h), if_pos h2]
theorem parD_ok {s : ByteArray} (h : (splitD s).2 = 0) (h2 : (splitD s).1 ≠ []) : parD s = ⟨joinD (splitD s).1.dropLast, (splitD s).1.getLastD ⟨#[]⟩, 0⟩ := by
  unfold parD; rw [if_neg (fun e => e h), if_neg h2]

theorem results_three {fn : Func} {t u v : Tmp} (h : fn.results = #[.tmp t, .tmp u, .tmp v]) (tmps : Array Value) (P : Program) (w : World) :
    (results fn tmps).run P w = .ok (.tuple #[tmps.getD t undef, tmps.getD u undef, tmps.getD v undef]) w := by
  simp [results, h]

theorem last_at {l : List ByteArray} {m : Nat} (h : l.length = m + 1) : l[m]? = some (l.getLastD ⟨#[]⟩) := by
  rcases List.eq_nil_or_concat l with rfl | ⟨r, x, rfl⟩
  · simp at h
  · rw [List.concat_eq_append] at h ⊢
    rw [List.length_append] at h
    have hm : r.length = m := by simpa using h
    subst hm
    simp
theorem front_take {l : List ByteArray} {m : Nat} (h : l.length = m + 1) : l.take m = l.dropLast := by
  rw [List.dropLast_eq_take, h]; rfl

set_option maxRecDepth 100000 in
set_option maxHeartbeats 1000000 in
theorem parent_any (s : ByteArray) (hs : s.size ≤ 5000) (w : World) : Calls Tryd.prog 12 #[.string s] w fun e w' => e = .returned (parV (parD s)) ∧ Below w.heap.size w w' := by
  obtain ⟨R, hR⟩ : ∃ R, R = parD s := ⟨_, rfl⟩
  rw [← hR]
  by_cases h0 : (splitD s).2 = 0
  · rcases Nat.eq_zero_or_pos (splitD s).1.length with hl | hl
    · have HF := Lib.hid (hR.trans (parD_root h0 (List.eq_nil_of_length_eq_zero hl)))
      have e1 : (splitD s).1 = [] := List.eq_nil_of_length_eq_zero hl
      have E0 := Lib.hid h0
      have E1 := Lib.hid e1
      clear hR h0 hl e1
      go_enter Tryd.func12, Tryd.ntmps12
      go_wp2_with fail
      refine (split_any s (by omega) _).mono ?_
      rintro e w1 ⟨v, rfl, hk, hb⟩
      rw [E0.out]
      rw [E1.out] at hk
      obtain ⟨a, c, rfl, _, _⟩ := hk.shape
      have HB := Lib.hid hb
      clear hb hk
      go_wp2
      refine bodyPost_ret (results_three rfl _ _ _) rfl ?_
      exact ⟨by rw [HF.out]; rfl, HB.out⟩
    · obtain ⟨m, hm⟩ : ∃ m, (splitD s).1.length = m + 1 := ⟨_, (Nat.succ_pred_eq_of_pos hl).symm⟩
      have HF := Lib.hid (hR.trans (parD_ok h0 (by intro e; rw [e] at hm; simp at hm)))
      have hlen := split_len s
      have hjz : (joinD (splitD s).1.dropLast).size ≤ 1000000 := by
        have h1 := join_front (splitD s).1
        rw [join_split h0] at h1
        omega
      have E0 := Lib.hid h0
      generalize hll : (splitD s).1 = l at *
      have HLL := Lib.hid hll
      have HJZ := Lib.hid hjz
      have HM := Lib.hid hm
      have hm1 : m ≤ 5001 := by omega
      clear hR h0 hl hm hjz hlen hll
      go_enter Tryd.func12, Tryd.ntmps12
      go_wp2_with fail
      refine (split_any s (by omega) _).mono ?_
      rintro e w1 ⟨v, rfl, hk, hb⟩
      rw [E0.out]
      rw [HLL.out] at hk
      obtain ⟨xa, xc, rfl, hsl, hc⟩ := hk.shape
      have HB := Lib.hid hb
      rw [HM.out]
      rw [HM.out] at hc
      have hne : l ≠ [] := by intro e; have := HM.out; rw [e] at this; simp at this
      obtain ⟨bb, off, rfl, hbl, hcell⟩ := hsl hne
      have hlast : w1.cell? ⟨bb, off + m, none⟩ = some (.string (l.getLastD ⟨#[]⟩)) := hcell m _ (last_at HM.out)
      have HSL : Hid (Sl w1 Value.string (some ⟨bb, off, none⟩) l.dropLast) := by
        have := hsl.front m
        rw [front_take HM.out] at this
        exact this
      have HDL : Hid (l.dropLast.length = m) := by show _ = _; rw [List.length_dropLast, HM.out]; rfl
      have HLB := Lib.hid hbl
      generalize l.getLastD ⟨#[]⟩ = z at *
      clear hb hk hsl hcell hbl hne
      have hm0 : ¬ (m : Int) + 1 = 0 := by omega
      have hw2 : IntKind.i64.wrap ((m : Int) + 1) = m + 1 := i64_small _ (by omega) (by omega)
      have hmc : (m : Int) ≤ (xc : Int) := by omega
      have hmi : (m : Int) < (m : Int) + 1 := by omega
      have hmz : (0 : Int) ≤ (m : Int) := by omega
      go_wp2_with fail
      have c0 : w1.drew.cell? ⟨bb, off + m, none⟩ = some (.string z) := hlast
      clear hlast
      refine wp_region_sched (fun W => W.cell? ⟨bb, off + m, none⟩ = some (.string z)) 9 [(0, false), (1, false), (2, false), (4, false), (5, false), (6, false), (7, false), (3, true), (8, false)] (by kernel_rfl) (by kernel_rfl) c0 ?_
      simp only [List.drop_succ_cons, List.drop_zero]
      iterate 7 (apply wpSch_step rfl; (intro W hS K hK; go_simp; exact hK _ rfl))
      refine wpSch_make rfl (fun K' hK => ?_)
      go_simp
      have HJ := Lib.hid (join_any (some ⟨bb, off, none⟩) xc l.dropLast w1.drew HSL.out (by rw [HDL.out]; omega) HJZ.out)
      rw [HDL.out] at HJ
      refine HJ.out.mono ?_
      rintro e w2 ⟨rfl, hb⟩
      have c0 := (hb.cell (p := ⟨bb, off + m, none⟩) HLB.out).trans c0
      have HB2 := Lib.hid (HB.out.trans ((show Below w1.heap.size w1 w2 from ⟨hb.os, hb.tape, hb.output, hb.size, hb.block⟩).mono HB.out.size))
      refine hK _ _ _ (fun _ h => h) c0 ?_
      clear hK K' hb HJ
      apply wpSch_step rfl
      · intro W hS K hK
        go_simp
        exact hK _ rfl
      refine wpSch_nil ?_
      go_wp2
      refine bodyPost_ret (results_three rfl _ _ _) rfl ?_
      exact ⟨by rw [HF.out]; rfl, HB2.out⟩
  · have HF := Lib.hid (hR.trans (parD_err h0))
    have hq : ((splitD s).2 != 0) = true := by simpa using h0
    clear hR h0
    go_enter Tryd.func12, Tryd.ntmps12
    go_wp2_with fail
    refine (split_any s (by omega) _).mono ?_
    rintro e w1 ⟨v, rfl, hk, hb⟩
    obtain ⟨xa, xc, rfl, _, _⟩ := hk.shape
    have HB := Lib.hid hb
    clear hb hk
    go_wp2
    refine bodyPost_ret (results_three rfl _ _ _) rfl ?_
    exact ⟨by rw [HF.out]; rfl, HB.out⟩
end Go.Proofs.YtjimjaimfejonaaDoor
