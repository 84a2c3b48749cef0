/-
  Package second: readLog.
-/
import Derived.Test.YtopinlnjdgedeaaDoorSeJ
import Derived.Test.YtopinlnjdgedeaaDoorClogJ
namespace Go.Proofs.YtopinlnjdgedeaaDoor
open Go Go.RowKit Go.ChangeShapes Go.WideShapes Go.ChangeAt

theorem meas_lt {n k : Nat} (h : k < n) (hw : wrap64 ((k : Int) + 1) = k + 1) : n - (RowKit.intOf (.int .i64 (wrap64 ((k : Int) + 1)))).toNat < n - (RowKit.intOf (.int .i64 (k : Int))).toNat := by
  rw [hw]
  have e : ((k : Int) + 1).toNat = k + 1 := by omega
  show n - ((k : Int) + 1).toNat < n - ((k : Int)).toNat
  rw [e, Int.toNat_natCast]
  omega
theorem cdecode_any (s : ByteArray) (w : World) (hs2 : s.size ≤ 1000000) (hK : Kt w) : Calls Tryd.prog 48 #[.string s] w (DcRes 64 w (decC s)) := by
  by_cases h : s.size < 41
  · exact cdecode_cut s w h
  · exact cdecode_long s w h hs2 hK
theorem Cgs.view2 {e : TypeId} {w : World} {base : Nat} {v : Value} {l : List CgE} (h : Cgs e w base v l) : ∃ a cap, v = .slice a l.length cap ∧ SlC w a l ∧ ∀ b off, a = some ⟨b, off, none⟩ → base ≤ b ∧ b < w.heap.size := by
  obtain ⟨a, cap, rfl, h1⟩ := h.view
  refine ⟨a, cap, rfl, h1, fun b off e => ?_⟩
  subst e
  exact h.own_blk b rfl

theorem decC_cases (s : ByteArray) : (∃ e, decC s = ((0, []), e) ∧ e ≠ 0) ∨ ∃ q l, decC s = ((q, l), 0) ∧ chkC q l = 0 := by
  unfold decC
  by_cases h1 : s.size < 41
  · exact .inl ⟨2, if_pos h1, by decide⟩
  · rw [if_neg h1]
    by_cases h2 : sha (bdyC s) ≠ digC s
    · exact .inl ⟨4, if_pos h2, by decide⟩
    · rw [if_neg h2]
      generalize bdyC s = b
      by_cases h3 : valB b 0 2 ≠ markC ∨ posEnd b (posTo b (valN b 8 1)) ≠ 0 ∨ chkC (valN b 2 6) (entsTo b (valN b 8 1)) ≠ 0
      · exact .inl ⟨3, if_pos h3, by decide⟩
      · rw [if_neg h3]
        refine .inr ⟨_, _, rfl, ?_⟩
        by_cases hc : chkC (valN b 2 6) (entsTo b (valN b 8 1)) = 0
        · exact hc
        · exact absurd (Or.inr (Or.inr hc)) h3
theorem decC_len (s : ByteArray) : (decC s).1.2.length ≤ 7 := by
  rcases decC_cases s with ⟨e, h, _⟩ | ⟨q, l, h, hc⟩
  · rw [h]; exact Nat.zero_le _
  · rw [h]; exact (chkC_zero hc).2.2.1
/-- What the log of the group of that first place tells. -/
def readX (d : DevD) (x : SecD) (fi : Nat) : Bool × Int × List CgE :=
  if (decC (tellD d (1, ((secN x.f fi - 1 : Nat) : Int)))).2 = 0 ∧ ∀ y ∈ (decC (tellD d (1, ((secN x.f fi - 1 : Nat) : Int)))).1.2, isPl x.f x.n fi y.pos = true then (true, (decC (tellD d (1, ((secN x.f fi - 1 : Nat) : Int)))).1.1, (decC (tellD d (1, ((secN x.f fi - 1 : Nat) : Int)))).1.2) else (false, 0, [])
theorem readX_yes {d : DevD} {x : SecD} {fi : Nat} {q : (Int × List CgE) × Int} (hq : decC (tellD d (1, ((secN x.f fi - 1 : Nat) : Int))) = q) (h : q.2 = 0) (h2 : ∀ j (hj : j < q.1.2.length), isPl x.f x.n fi (q.1.2[j]).pos = true) : readX d x fi = (true, q.1.1, q.1.2) := by
  unfold readX
  rw [hq]
  exact if_pos ⟨h, fun y hy => by obtain ⟨j, hj, rfl⟩ := List.getElem_of_mem hy; exact h2 j hj⟩
theorem readX_err {d : DevD} {x : SecD} {fi : Nat} {q : (Int × List CgE) × Int} (hq : decC (tellD d (1, ((secN x.f fi - 1 : Nat) : Int))) = q) (h : ¬ q.2 = 0) : readX d x fi = (false, 0, []) := by
  unfold readX
  rw [hq]
  exact if_neg (fun e => h e.1)
theorem readX_out {d : DevD} {x : SecD} {fi : Nat} {q : (Int × List CgE) × Int} (hq : decC (tellD d (1, ((secN x.f fi - 1 : Nat) : Int))) = q) {j : Nat} (hj : j < q.1.2.length) (h2 : isPl x.f x.n fi (q.1.2[j]).pos = false) : readX d x fi = (false, 0, []) := by
  unfold readX
  rw [hq]
  exact if_neg (fun e => by rw [e.2 _ (List.getElem_mem hj)] at h2; cases h2)

def RlRes (w : World) (r : Bool × Int × List CgE) (e : Ending) (w' : World) : Prop :=
  ∃ v, e = .returned (.tuple #[.agg #[.int .i64 r.2.1, v], .bool r.1]) ∧ Cgs 64 w' w.heap.size v r.2.2

section
variable {B : Nat} {P : List Nat → World → Prop} (hP : Fixed P) {b s : Nat} {d : DevD} {x : SecD} {w : World} (h : One B (Both P (ScF s b x)) b d w) (hx : x.f ≤ 512) (hn : x.n ≤ 512)
include hP h hx hn

set_option maxRecDepth 100000 in
set_option maxHeartbeats 4000000 in
theorem readlog_any (hK : Kt w) (hB : 0 < B) (hT : ∀ l, (tellD d l).size ≤ 1000000) (fi : Nat) (hfi : fi ≤ 600) :
    Calls Tryd.prog 38 #[.pointer (some ⟨s, 0, none⟩), .int .i64 fi] w fun e w' => RlRes w (readX d x fi) e w' ∧ One B (Both P (ScF s b x)) b d w' ∧ Below w.heap.size w w' := by
  obtain ⟨m, hs, hBs, hBm, _⟩ := h.secE hP
  have HBW : Hid (B ≤ w.heap.size) := h.1
  have HX := Lib.hid hx
  have HN := Lib.hid hn
  have HBP := Lib.hid hB
  have HFX := Lib.hid (fixed_both hP (fixed_sc s b x))
  have HFI := Lib.hid hfi
  have HT := Lib.hid hT
  have hx1 := (Below.refl w.heap.size w).alloc (Nat.le_refl _) (.cells #[.int .i64 0, .slice none 0 0] 77)
  have HBA := Lib.hid hx1
  have BG := Lib.hid (Box.new w 77 #[.int .i64 0, .slice none 0 0])
  have HSA := Lib.hid (hs.keep hx1)
  have HSAD := Lib.hid (hs.keep hx1.drew)
  have HOA := Lib.hid (h.keep (fixed_both hP (fixed_sc s b x)) hx1)
  have HK := Lib.hid hK
  have HO0 := Lib.hid h
  clear h hP hs hx hn hK hB hfi hT hx1
  go_enter Tryd.func38, Tryd.ntmps38
  go_wp2_with fail
  obtain ⟨g, hg⟩ : ∃ g, g = w.heap.size := ⟨_, rfl⟩
  have HG := Lib.hid hg
  rw [← hg] at BG HBA ⊢
  clear hg
  generalize World.alloc w _ = wa at *
  have k0 : wa.cell? ⟨s, 0, none⟩ = some (.pointer (some ⟨b, 0, none⟩)) := HSA.out.box.cell 0 _ rfl
  refine wp_region_tree (fun W => W.cell? ⟨s, 0, none⟩ = some (.pointer (some ⟨b, 0, none⟩))) 12 (.quiet 0 (.quiet 1 (.quiet 2 (.quiet 3 (.quiet 4 (.quiet 5 (.make 6 (.make 7 (.quiet 8 (.quiet 9 (.quiet 10 (.quiet 11 .nil)))))))))))) (by kernel_rfl) (by kernel_rfl) k0 ?_
  simp only [List.drop_succ_cons, List.drop_zero]
  iterate 6 (apply wpTr_step rfl; (intro W hS K hK; go_simp; exact hK _ rfl))
  refine wpTr_make rfl (fun K' hK => ?_)
  go_simp
  refine (log_any s b m x _ fi HSAD.out.box HX.out (by have := HFI.out; omega)).mono ?_
  rintro e w1 ⟨rfl, hb⟩
  have hb1 : Below wa.heap.size wa w1 := (Below.refl _ wa).drew.trans hb
  have HS1 := Lib.hid (HSA.out.keep hb1)
  have HO1 := Lib.hid (HOA.out.keep HFX.out hb1)
  have HB1 := Lib.hid (HBA.out.trans (hb1.mono (by rw [HG.out]; exact HBA.out.size)))
  have BG1 := Lib.hid (BG.out.keep hb1 BG.out.lt)
  refine hK _ _ _ (fun _ h => h) (HS1.out.box.cell 0 _ rfl) ?_
  clear hK K' hb hb1 k0 HSA HSAD HOA HBA BG
  refine wpTr_make rfl (fun K' hK => ?_)
  obtain ⟨pl, hpl⟩ : ∃ pl : Int, pl = ((secN x.f fi - 1 : Nat) : Int) := ⟨_, rfl⟩
  rw [← hpl]
  have HPL := Lib.hid hpl
  clear hpl
  unfold locV
  go_simp
  refine (one_readS HFX.out HO1.out (1, pl)).mono ?_
  rintro e w2 ⟨rfl, ho2, hb⟩
  have HS2 := Lib.hid (HS1.out.keep hb)
  have HO2 := Lib.hid ho2
  have HB2 := Lib.hid (HB1.out.trans (hb.mono (by rw [HG.out]; exact HB1.out.size)))
  have BG2 := Lib.hid (BG1.out.keep hb BG1.out.lt)
  refine hK _ _ _ (fun _ h => h) (HS2.out.box.cell 0 _ rfl) ?_
  clear hK K' hb HS1 HO1 HB1 BG1 ho2
  iterate 4 (apply wpTr_step rfl; (intro W hS K hK; go_simp; exact hK _ rfl))
  refine wpTr_nil ?_
  obtain ⟨t, ht⟩ : ∃ t, t = tellD d (1, pl) := ⟨_, rfl⟩
  rw [← ht]
  have HTS : Hid (t.size ≤ 1000000) := by show _ ≤ _; rw [ht]; exact HT.out _
  have HTT := Lib.hid ht
  have HK2 := Lib.hid (HK.out.below (HB2.out.mono (by rw [HG.out]; exact HBW.out)) HBP.out)
  clear ht
  go_wp2_with fail
  refine (cdecode_any t w2 HTS.out HK2.out).mono ?_
  rintro e w3 ⟨v, rfl, hc, hb⟩
  obtain ⟨q, hq⟩ : ∃ q, decC t = q := ⟨_, rfl⟩
  rw [hq] at hc ⊢
  have HQ : Hid (decC (tellD d (1, ((secN x.f fi - 1 : Nat) : Int))) = q) := by show _ = _; rw [← HPL.out, ← HTT.out]; exact hq
  obtain ⟨⟨sq, es⟩, ec⟩ := q
  simp only at hc ⊢
  have HS3 := Lib.hid (HS2.out.keep hb)
  have HO3 := Lib.hid (HO2.out.keep HFX.out hb)
  have HB3 := Lib.hid (HB2.out.trans (hb.mono (by rw [HG.out]; exact HB2.out.size)))
  have BG3 := Lib.hid (BG2.out.keep hb BG2.out.lt)
  obtain ⟨va, vc, rfl, hsl⟩ := hc.view
  have HC3 := Lib.hid (hc.base (b' := g + 1) BG2.out.lt)
  clear hc hb hq hsl HS2 HO2 HB2 BG2 HK2
  have hx3 := (Below.refl w3.heap.size w3).alloc (Nat.le_refl _) (.cells #[.int .i64 sq, .slice va es.length vc] 77)
  have BN := Lib.hid (Box.new w3 77 #[.int .i64 sq, .slice va es.length vc])
  have HS4 := Lib.hid (HS3.out.keep hx3)
  have HO4 := Lib.hid (HO3.out.keep HFX.out hx3)
  have HB4 := Lib.hid (HB3.out.trans (hx3.mono (by rw [HG.out]; exact HB3.out.size)))
  have BG4 := Lib.hid (BG3.out.keep hx3 BG3.out.lt)
  have HC4 := Lib.hid (HC3.out.keep hx3)
  have HZ4 : Hid (g < w3.heap.size) := BG3.out.lt
  clear hx3 HS3 HO3 HB3 BG3 HC3
  obtain ⟨nb, hnb⟩ : ∃ nb, nb = w3.heap.size := ⟨_, rfl⟩
  rw [← hnb] at BN HZ4
  by_cases hec : ec = 0
  · have d1 : (ec != 0) = false := by simp [hec]
    have HEC := Lib.hid hec
    have u0 := BN.out.cell 0 _ rfl
    have u1 := BN.out.cell 1 _ rfl
    clear hec
    rw [hnb] at u0 u1
    go_wp2_with fail
    rw [← hnb] at u0 u1 ⊢
    clear hnb
    generalize World.alloc w3 _ = w4 at *
    have HSL : Hid (SlC w4 va es) := by
      obtain ⟨a', c', e, h⟩ := HC4.out.view
      simp only [Value.slice.injEq] at e
      rw [e.1]
      exact h
    have HB4S : Hid (g ≤ w4.heap.size) := by show _ ≤ _; rw [HG.out]; exact HB4.out.size
    clear u0 u1
    go_loopw [34] (fun i wr => ∃ k : Nat, k ≤ es.length ∧ i = .int .i64 k ∧ Hid (Below w4.heap.size w4 wr) ∧ Hid (∀ j (hj : j < es.length), j < k → isPl x.f x.n fi (es[j]).pos = true)) (fun i _ => es.length - (RowKit.intOf i).toNat)
    case atStart => exact ⟨0, Nat.zero_le _, rfl, Below.refl _ _, fun j _ h => absurd h (Nat.not_lt_zero j)⟩
    case round =>
      obtain ⟨k, hk, rfl, HB, HA⟩ := hrel
      have HLN : Hid (es.length ≤ 7) := by
        have := decC_len (tellD d (1, ((secN x.f fi - 1 : Nat) : Int)))
        rw [HQ.out] at this
        exact this
      by_cases hlt : k < es.length
      · obtain ⟨eb, eo, rfl, heb, c0, c1, c2, c3⟩ := (HSL.out.keep HB.out).get k hlt
        have HY : Hid (isPl x.f x.n fi (es[k]).pos = true → ∀ j (hj : j < es.length), j < k + 1 → isPl x.f x.n fi (es[j]).pos = true) := fun h j hj h1 => by
          by_cases e : j = k
          · subst e; exact h
          · exact HA.out j hj (by omega)
        have HNO : Hid (isPl x.f x.n fi (es[k]).pos = false → readX d x fi = (false, 0, [])) := fun h => readX_out HQ.out hlt h
        have HLT := Lib.hid hlt
        have hk0 : (0 : Int) ≤ (k : Int) := by omega
        have hkl : (k : Int) < (es.length : Int) := by omega
        have hw1 : wrap64 ((k : Int) + 1) = k + 1 := by have := HLN.out; exact IntWalk.wrap64_in _ (by omega)
        generalize es[k] = y at *
        obtain ⟨yk, ys, yn, yp⟩ := y
        simp only at c0 c1 c2 c3
        have hz := (Below.refl wr.heap.size wr).alloc (Nat.le_refl _) (.cells #[.string yk, .string ys, .int .i64 yn, .int .i64 yp] 64)
        have BC := Lib.hid (Box.new wr 64 #[.string yk, .string ys, .int .i64 yn, .int .i64 yp])
        have HB5 := Lib.hid (HB.out.trans (hz.mono HB.out.size))
        have HIP := Lib.hid (isplace_any s b m x _ (HS4.out.keep HB5.out).box HX.out HN.out fi (by have := HFI.out; omega) yp)
        clear hz heb hlt HA HB
        go_wp2_with fail
        refine HIP.out.mono ?_
        rintro e w6 ⟨rfl, hb⟩
        have HB6 := Lib.hid (HB5.out.trans (hb.mono HB5.out.size))
        clear hb HB5 HIP c0 c1 c2 c3
        cases hip : isPl x.f x.n fi yp with
        | true =>
          have HYY := Lib.hid (HY.out hip)
          clear hip HY HNO BC
          go_wp2
          go_roundw
          case rel => exact ⟨k + 1, HLT.out, by rw [hw1]; rfl, HB6, HYY⟩
          case measure => exact meas_lt HLT.out hw1
        | false =>
          have HRR := Lib.hid (HNO.out hip)
          have BG6 := Lib.hid (BG4.out.keep HB6.out BG4.out.lt)
          have HO6 := Lib.hid (HO4.out.keep HFX.out HB6.out)
          have HBB := Lib.hid (HB4.out.trans (HB6.out.mono HB4S.out))
          clear hip HY HNO BC
          have f0 := BG6.out.free 0
          have f1 := BG6.out.free 1
          have k0 := BG6.out.cell 0 _ rfl
          have k1 := BG6.out.cell 1 _ rfl
          have HR := Lib.hid ((BG6.out.set 0 (.int .i64 0)).set 1 (.slice none 0 0))
          have HRB := Lib.hid ((HBB.out.setCell (p := ⟨g, 0, none⟩) (Nat.le_refl _) (.int .i64 0)).setCell (p := ⟨g, 1, none⟩) (Nat.le_refl _) (.slice none 0 0))
          go_wp2
          refine bodyPost_ret (results_cell2 rfl _ _ g 77 _ (0, 0) _ rfl HR.out Tryd.underlying77 rfl sizeCBd) rfl ?_
          rw [HRR.out]
          refine ⟨⟨_, rfl, Cgs.nil _ _ _⟩, HO0.out.keep HFX.out (by rw [← HG.out]; exact HRB.out), by rw [← HG.out]; exact HRB.out⟩
      · obtain rfl : k = es.length := by omega
        have HRR := Lib.hid (readX_yes HQ.out HEC.out (fun j hj => HA.out j hj hj))
        have BG6 := Lib.hid (BG4.out.keep HB.out BG4.out.lt)
        have BN6 := Lib.hid (BN.out.keep HB.out BN.out.lt)
        have HO6 := Lib.hid (HO4.out.keep HFX.out HB.out)
        have HBB := Lib.hid (HB4.out.trans (HB.out.mono HB4S.out))
        have HC6 := Lib.hid (HC4.out.keep HB.out)
        clear HA HB
        have f0 := BG6.out.free 0
        have f1 := BG6.out.free 1
        have k0 := BG6.out.cell 0 _ rfl
        have k1 := BG6.out.cell 1 _ rfl
        have u0 := BN6.out.cell 0 _ rfl
        have u1 := BN6.out.cell 1 _ rfl
        have HR := Lib.hid ((BG6.out.set 0 (.int .i64 sq)).set 1 (.slice va es.length vc))
        have HRB := Lib.hid ((HBB.out.setCell (p := ⟨g, 0, none⟩) (Nat.le_refl _) (.int .i64 sq)).setCell (p := ⟨g, 1, none⟩) (Nat.le_refl _) (.slice va es.length vc))
        go_wp2
        refine bodyPost_ret (results_cell2 rfl _ _ g 77 _ (0, 0) _ rfl HR.out Tryd.underlying77 rfl sizeCBd) rfl ?_
        rw [HRR.out]
        refine ⟨⟨_, rfl, ((HC6.out.set (Nat.lt_succ_self g)).set (Nat.lt_succ_self g)).base (by rw [← HG.out]; omega)⟩, HO0.out.keep HFX.out (by rw [← HG.out]; exact HRB.out), by rw [← HG.out]; exact HRB.out⟩
  · have d1 : (ec != 0) = true := by simpa using hec
    have HRR := Lib.hid (readX_err HQ.out hec)
    clear hec
    have f0 := BG4.out.free 0
    have f1 := BG4.out.free 1
    have k0 := BG4.out.cell 0 _ rfl
    have k1 := BG4.out.cell 1 _ rfl
    have HR := Lib.hid ((BG4.out.set 0 (.int .i64 0)).set 1 (.slice none 0 0))
    have HRB := Lib.hid ((HB4.out.setCell (p := ⟨g, 0, none⟩) (Nat.le_refl _) (.int .i64 0)).setCell (p := ⟨g, 1, none⟩) (Nat.le_refl _) (.slice none 0 0))
    go_wp2
    refine bodyPost_ret (results_cell2 rfl _ _ g 77 _ (0, 0) _ rfl HR.out Tryd.underlying77 rfl sizeCBd) rfl ?_
    rw [HRR.out]
    refine ⟨⟨_, rfl, Cgs.nil _ _ _⟩, HO0.out.keep HFX.out (by rw [← HG.out]; exact HRB.out), by rw [← HG.out]; exact HRB.out⟩
end
end Go.Proofs.YtopinlnjdgedeaaDoor
