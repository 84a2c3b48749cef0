/-
  Texts put together: SeK, ClogN, ClogO.
-/
import Derived.Test.YtphhnhldbajaoaaGreatDoorSeJ
import Derived.Test.YtphhnhldbajaoaaGreatDoorClogJ
import Derived.Test.YtphhnhldbajaoaaGreatDoorMg24
import Derived.Maps.OwnSet
import Derived.Maps.RangeWalk
import Derived.Lib.SlKeysI
import Derived.Test.YtphhnhldbajaoaaGreatDoorMg23
namespace Go.Proofs.YtphhnhldbajaoaaGreatDoor
open Go Go.RowKit Go.ChangeShapes Go.WideShapes Go.ChangeAt

theorem meas_lt {n k : Nat} (h : k < n) (hw : wrap64 ((k : Int) + 1) = k + 1) : n - (RowKit.intOf (.int .i64 (wrap64 ((k : Int) + 1)))).toNat < n - (RowKit.intOf (.int .i64 (k : Int))).toNat := by
  rw [hw]
  have e : ((k : Int) + 1).toNat = k + 1 := by omega
  show n - ((k : Int) + 1).toNat < n - ((k : Int)).toNat
  rw [e, Int.toNat_natCast]
  omega
theorem cdecode_any (s : ByteArray) (w : World) (hs2 : s.size ≤ 1000000) (hK : Kt w) : Calls Tryz.prog 152 #[.string s] w (DcRes 170 w (decC s)) := by
  by_cases h : s.size < 41
  · exact cdecode_cut s w h
  · exact cdecode_long s w h hs2 hK
theorem Cgs.view2 {e : TypeId} {w : World} {base : Nat} {v : Value} {l : List CgE} (h : Cgs e w base v l) : ∃ a cap, v = .slice a l.length cap ∧ SlC w a l ∧ ∀ b off, a = some ⟨b, off, none⟩ → base ≤ b ∧ b < w.heap.size := by
  obtain ⟨a, cap, rfl, h1⟩ := h.view
  refine ⟨a, cap, rfl, h1, fun b off e => ?_⟩
  subst e
  exact h.own_blk b rfl

theorem decC_cases (s : ByteArray) : (∃ e, decC s = ((0, []), e) ∧ e ≠ 0) ∨ ∃ q l, decC s = ((q, l), 0) ∧ chkC q l = 0 := by
  unfold decC
  by_cases h1 : s.size < 41
  · exact .inl ⟨2, if_pos h1, by decide⟩
  · rw [if_neg h1]
    by_cases h2 : sha (bdyC s) ≠ digC s
    · exact .inl ⟨4, if_pos h2, by decide⟩
    · rw [if_neg h2]
      generalize bdyC s = b
      by_cases h3 : valB b 0 2 ≠ markC ∨ posEnd b (posTo b (valN b 8 1)) ≠ 0 ∨ chkC (valN b 2 6) (entsTo b (valN b 8 1)) ≠ 0
      · exact .inl ⟨3, if_pos h3, by decide⟩
      · rw [if_neg h3]
        refine .inr ⟨_, _, rfl, ?_⟩
        by_cases hc : chkC (valN b 2 6) (entsTo b (valN b 8 1)) = 0
        · exact hc
        · exact absurd (Or.inr (Or.inr hc)) h3
theorem decC_len (s : ByteArray) : (decC s).1.2.length ≤ 7 := by
  rcases decC_cases s with ⟨e, h, _⟩ | ⟨q, l, h, hc⟩
  · rw [h]; exact Nat.zero_le _
  · rw [h]; exact (chkC_zero hc).2.2.1
/-- What the log of the group of that first place tells. -/
def readX (d : DevD) (x : SecD) (fi : Nat) : Bool × Int × List CgE :=
  if (decC (tellD d (1, ((secN x.f fi - 1 : Nat) : Int)))).2 = 0 ∧ ∀ y ∈ (decC (tellD d (1, ((secN x.f fi - 1 : Nat) : Int)))).1.2, isPl x.f x.n fi y.pos = true then (true, (decC (tellD d (1, ((secN x.f fi - 1 : Nat) : Int)))).1.1, (decC (tellD d (1, ((secN x.f fi - 1 : Nat) : Int)))).1.2) else (false, 0, [])
theorem readX_yes {d : DevD} {x : SecD} {fi : Nat} {q : (Int × List CgE) × Int} (hq : decC (tellD d (1, ((secN x.f fi - 1 : Nat) : Int))) = q) (h : q.2 = 0) (h2 : ∀ j (hj : j < q.1.2.length), isPl x.f x.n fi (q.1.2[j]).pos = true) : readX d x fi = (true, q.1.1, q.1.2) := by
  unfold readX
  rw [hq]
  exact if_pos ⟨h, fun y hy => by obtain ⟨j, hj, rfl⟩ := List.getElem_of_mem hy; exact h2 j hj⟩
theorem readX_err {d : DevD} {x : SecD} {fi : Nat} {q : (Int × List CgE) × Int} (hq : decC (tellD d (1, ((secN x.f fi - 1 : Nat) : Int))) = q) (h : ¬ q.2 = 0) : readX d x fi = (false, 0, []) := by
  unfold readX
  rw [hq]
  exact if_neg (fun e => h e.1)
theorem readX_out {d : DevD} {x : SecD} {fi : Nat} {q : (Int × List CgE) × Int} (hq : decC (tellD d (1, ((secN x.f fi - 1 : Nat) : Int))) = q) {j : Nat} (hj : j < q.1.2.length) (h2 : isPl x.f x.n fi (q.1.2[j]).pos = false) : readX d x fi = (false, 0, []) := by
  unfold readX
  rw [hq]
  exact if_neg (fun e => by rw [e.2 _ (List.getElem_mem hj)] at h2; cases h2)

def RlRes (w : World) (r : Bool × Int × List CgE) (e : Ending) (w' : World) : Prop :=
  ∃ v, e = .returned (.tuple #[.agg #[.int .i64 r.2.1, v], .bool r.1]) ∧ Cgs 170 w' w.heap.size v r.2.2

section
variable {B : Nat} {P : List Nat → World → Prop} (hP : Fixed P) {b s : Nat} {d : DevD} {x : SecD} {w : World} (h : One B (Both P (ScF s b x)) b d w) (hx : x.f ≤ 512) (hn : x.n ≤ 512)
include hP h hx hn

set_option maxRecDepth 100000 in
set_option maxHeartbeats 4000000 in
theorem readlog_any (hK : Kt w) (hB : 0 < B) (hT : ∀ l, (tellD d l).size ≤ 1000000) (fi : Nat) (hfi : fi ≤ 600) :
    Calls Tryz.prog 134 #[.pointer (some ⟨s, 0, none⟩), .int .i64 fi] w fun e w' => RlRes w (readX d x fi) e w' ∧ One B (Both P (ScF s b x)) b d w' ∧ Below w.heap.size w w' := by
  obtain ⟨m, hs, hBs, hBm, _⟩ := h.secE hP
  have HBW : Hid (B ≤ w.heap.size) := h.1
  have HX := Lib.hid hx
  have HN := Lib.hid hn
  have HBP := Lib.hid hB
  have HFX := Lib.hid (fixed_both hP (fixed_sc s b x))
  have HFI := Lib.hid hfi
  have HT := Lib.hid hT
  have hx1 := (Below.refl w.heap.size w).alloc (Nat.le_refl _) (.cells #[.int .i64 0, .slice none 0 0] 187)
  have HBA := Lib.hid hx1
  have BG := Lib.hid (Box.new w 187 #[.int .i64 0, .slice none 0 0])
  have HSA := Lib.hid (hs.keep hx1)
  have HSAD := Lib.hid (hs.keep hx1.drew)
  have HOA := Lib.hid (h.keep (fixed_both hP (fixed_sc s b x)) hx1)
  have HK := Lib.hid hK
  have HO0 := Lib.hid h
  clear h hP hs hx hn hK hB hfi hT hx1
  go_enter Tryz.func134, Tryz.ntmps134
  go_wp2_with fail
  obtain ⟨g, hg⟩ : ∃ g, g = w.heap.size := ⟨_, rfl⟩
  have HG := Lib.hid hg
  rw [← hg] at BG HBA ⊢
  clear hg
  generalize World.alloc w _ = wa at *
  have k0 : wa.cell? ⟨s, 0, none⟩ = some (.pointer (some ⟨b, 0, none⟩)) := HSA.out.box.cell 0 _ rfl
  refine wp_region_tree (fun W => W.cell? ⟨s, 0, none⟩ = some (.pointer (some ⟨b, 0, none⟩))) 12 (.quiet 0 (.quiet 1 (.quiet 2 (.quiet 3 (.quiet 4 (.quiet 5 (.make 6 (.make 7 (.quiet 8 (.quiet 9 (.quiet 10 (.quiet 11 .nil)))))))))))) (by kernel_rfl) (by kernel_rfl) k0 ?_
  simp only [List.drop_succ_cons, List.drop_zero]
  iterate 6 (apply wpTr_step rfl; (intro W hS K hK; go_simp; exact hK _ rfl))
  refine wpTr_make rfl (fun K' hK => ?_)
  go_simp
  refine (log_any s b m x _ fi HSAD.out.box HX.out (by have := HFI.out; omega)).mono ?_
  rintro e w1 ⟨rfl, hb⟩
  have hb1 : Below wa.heap.size wa w1 := (Below.refl _ wa).drew.trans hb
  have HS1 := Lib.hid (HSA.out.keep hb1)
  have HO1 := Lib.hid (HOA.out.keep HFX.out hb1)
  have HB1 := Lib.hid (HBA.out.trans (hb1.mono (by rw [HG.out]; exact HBA.out.size)))
  have BG1 := Lib.hid (BG.out.keep hb1 BG.out.lt)
  refine hK _ _ _ (fun _ h => h) (HS1.out.box.cell 0 _ rfl) ?_
  clear hK K' hb hb1 k0 HSA HSAD HOA HBA BG
  refine wpTr_make rfl (fun K' hK => ?_)
  obtain ⟨pl, hpl⟩ : ∃ pl : Int, pl = ((secN x.f fi - 1 : Nat) : Int) := ⟨_, rfl⟩
  rw [← hpl]
  have HPL := Lib.hid hpl
  clear hpl
  unfold locV
  go_simp
  refine (one_readS HFX.out HO1.out (1, pl)).mono ?_
  rintro e w2 ⟨rfl, ho2, hb⟩
  have HS2 := Lib.hid (HS1.out.keep hb)
  have HO2 := Lib.hid ho2
  have HB2 := Lib.hid (HB1.out.trans (hb.mono (by rw [HG.out]; exact HB1.out.size)))
  have BG2 := Lib.hid (BG1.out.keep hb BG1.out.lt)
  refine hK _ _ _ (fun _ h => h) (HS2.out.box.cell 0 _ rfl) ?_
  clear hK K' hb HS1 HO1 HB1 BG1 ho2
  iterate 4 (apply wpTr_step rfl; (intro W hS K hK; go_simp; exact hK _ rfl))
  refine wpTr_nil ?_
  obtain ⟨t, ht⟩ : ∃ t, t = tellD d (1, pl) := ⟨_, rfl⟩
  rw [← ht]
  have HTS : Hid (t.size ≤ 1000000) := by show _ ≤ _; rw [ht]; exact HT.out _
  have HTT := Lib.hid ht
  have HK2 := Lib.hid (HK.out.below (HB2.out.mono (by rw [HG.out]; exact HBW.out)) HBP.out)
  clear ht
  go_wp2_with fail
  refine (cdecode_any t w2 HTS.out HK2.out).mono ?_
  rintro e w3 ⟨v, rfl, hc, hb⟩
  obtain ⟨q, hq⟩ : ∃ q, decC t = q := ⟨_, rfl⟩
  rw [hq] at hc ⊢
  have HQ : Hid (decC (tellD d (1, ((secN x.f fi - 1 : Nat) : Int))) = q) := by show _ = _; rw [← HPL.out, ← HTT.out]; exact hq
  obtain ⟨⟨sq, es⟩, ec⟩ := q
  simp only at hc ⊢
  have HS3 := Lib.hid (HS2.out.keep hb)
  have HO3 := Lib.hid (HO2.out.keep HFX.out hb)
  have HB3 := Lib.hid (HB2.out.trans (hb.mono (by rw [HG.out]; exact HB2.out.size)))
  have BG3 := Lib.hid (BG2.out.keep hb BG2.out.lt)
  obtain ⟨va, vc, rfl, hsl⟩ := hc.view
  have HC3 := Lib.hid (hc.base (b' := g + 1) BG2.out.lt)
  clear hc hb hq hsl HS2 HO2 HB2 BG2 HK2
  have hx3 := (Below.refl w3.heap.size w3).alloc (Nat.le_refl _) (.cells #[.int .i64 sq, .slice va es.length vc] 187)
  have BN := Lib.hid (Box.new w3 187 #[.int .i64 sq, .slice va es.length vc])
  have HS4 := Lib.hid (HS3.out.keep hx3)
  have HO4 := Lib.hid (HO3.out.keep HFX.out hx3)
  have HB4 := Lib.hid (HB3.out.trans (hx3.mono (by rw [HG.out]; exact HB3.out.size)))
  have BG4 := Lib.hid (BG3.out.keep hx3 BG3.out.lt)
  have HC4 := Lib.hid (HC3.out.keep hx3)
  have HZ4 : Hid (g < w3.heap.size) := BG3.out.lt
  clear hx3 HS3 HO3 HB3 BG3 HC3
  obtain ⟨nb, hnb⟩ : ∃ nb, nb = w3.heap.size := ⟨_, rfl⟩
  rw [← hnb] at BN HZ4
  by_cases hec : ec = 0
  · have d1 : (ec != 0) = false := by simp [hec]
    have HEC := Lib.hid hec
    have u0 := BN.out.cell 0 _ rfl
    have u1 := BN.out.cell 1 _ rfl
    clear hec
    rw [hnb] at u0 u1
    go_wp2_with fail
    rw [← hnb] at u0 u1 ⊢
    clear hnb
    generalize World.alloc w3 _ = w4 at *
    have HSL : Hid (SlC w4 va es) := by
      obtain ⟨a', c', e, h⟩ := HC4.out.view
      simp only [Value.slice.injEq] at e
      rw [e.1]
      exact h
    have HB4S : Hid (g ≤ w4.heap.size) := by show _ ≤ _; rw [HG.out]; exact HB4.out.size
    clear u0 u1
    go_loopw [34] (fun i wr => ∃ k : Nat, k ≤ es.length ∧ i = .int .i64 k ∧ Hid (Below w4.heap.size w4 wr) ∧ Hid (∀ j (hj : j < es.length), j < k → isPl x.f x.n fi (es[j]).pos = true)) (fun i _ => es.length - (RowKit.intOf i).toNat)
    case atStart => exact ⟨0, Nat.zero_le _, rfl, Below.refl _ _, fun j _ h => absurd h (Nat.not_lt_zero j)⟩
    case round =>
      obtain ⟨k, hk, rfl, HB, HA⟩ := hrel
      have HLN : Hid (es.length ≤ 7) := by
        have := decC_len (tellD d (1, ((secN x.f fi - 1 : Nat) : Int)))
        rw [HQ.out] at this
        exact this
      by_cases hlt : k < es.length
      · obtain ⟨eb, eo, rfl, heb, c0, c1, c2, c3⟩ := (HSL.out.keep HB.out).get k hlt
        have HY : Hid (isPl x.f x.n fi (es[k]).pos = true → ∀ j (hj : j < es.length), j < k + 1 → isPl x.f x.n fi (es[j]).pos = true) := fun h j hj h1 => by
          by_cases e : j = k
          · subst e; exact h
          · exact HA.out j hj (by omega)
        have HNO : Hid (isPl x.f x.n fi (es[k]).pos = false → readX d x fi = (false, 0, [])) := fun h => readX_out HQ.out hlt h
        have HLT := Lib.hid hlt
        have hk0 : (0 : Int) ≤ (k : Int) := by omega
        have hkl : (k : Int) < (es.length : Int) := by omega
        have hw1 : wrap64 ((k : Int) + 1) = k + 1 := by have := HLN.out; exact IntWalk.wrap64_in _ (by omega)
        generalize es[k] = y at *
        obtain ⟨yk, ys, yn, yp⟩ := y
        simp only at c0 c1 c2 c3
        have hz := (Below.refl wr.heap.size wr).alloc (Nat.le_refl _) (.cells #[.string yk, .string ys, .int .i64 yn, .int .i64 yp] 170)
        have BC := Lib.hid (Box.new wr 170 #[.string yk, .string ys, .int .i64 yn, .int .i64 yp])
        have HB5 := Lib.hid (HB.out.trans (hz.mono HB.out.size))
        have HIP := Lib.hid (isplace_any s b m x _ (HS4.out.keep HB5.out).box HX.out HN.out fi (by have := HFI.out; omega) yp)
        clear hz heb hlt HA HB
        go_wp2_with fail
        refine HIP.out.mono ?_
        rintro e w6 ⟨rfl, hb⟩
        have HB6 := Lib.hid (HB5.out.trans (hb.mono HB5.out.size))
        clear hb HB5 HIP c0 c1 c2 c3
        cases hip : isPl x.f x.n fi yp with
        | true =>
          have HYY := Lib.hid (HY.out hip)
          clear hip HY HNO BC
          go_wp2
          go_roundw
          case rel => exact ⟨k + 1, HLT.out, by rw [hw1]; rfl, HB6, HYY⟩
          case measure => exact meas_lt HLT.out hw1
        | false =>
          have HRR := Lib.hid (HNO.out hip)
          have BG6 := Lib.hid (BG4.out.keep HB6.out BG4.out.lt)
          have HO6 := Lib.hid (HO4.out.keep HFX.out HB6.out)
          have HBB := Lib.hid (HB4.out.trans (HB6.out.mono HB4S.out))
          clear hip HY HNO BC
          have f0 := BG6.out.free 0
          have f1 := BG6.out.free 1
          have k0 := BG6.out.cell 0 _ rfl
          have k1 := BG6.out.cell 1 _ rfl
          have HR := Lib.hid ((BG6.out.set 0 (.int .i64 0)).set 1 (.slice none 0 0))
          have HRB := Lib.hid ((HBB.out.setCell (p := ⟨g, 0, none⟩) (Nat.le_refl _) (.int .i64 0)).setCell (p := ⟨g, 1, none⟩) (Nat.le_refl _) (.slice none 0 0))
          go_wp2
          refine bodyPost_ret (results_cell2 rfl _ _ g 187 _ (0, 0) _ rfl HR.out Tryz.underlying187 rfl sizeCBd) rfl ?_
          rw [HRR.out]
          refine ⟨⟨_, rfl, Cgs.nil _ _ _⟩, HO0.out.keep HFX.out (by rw [← HG.out]; exact HRB.out), by rw [← HG.out]; exact HRB.out⟩
      · obtain rfl : k = es.length := by omega
        have HRR := Lib.hid (readX_yes HQ.out HEC.out (fun j hj => HA.out j hj hj))
        have BG6 := Lib.hid (BG4.out.keep HB.out BG4.out.lt)
        have BN6 := Lib.hid (BN.out.keep HB.out BN.out.lt)
        have HO6 := Lib.hid (HO4.out.keep HFX.out HB.out)
        have HBB := Lib.hid (HB4.out.trans (HB.out.mono HB4S.out))
        have HC6 := Lib.hid (HC4.out.keep HB.out)
        clear HA HB
        have f0 := BG6.out.free 0
        have f1 := BG6.out.free 1
        have k0 := BG6.out.cell 0 _ rfl
        have k1 := BG6.out.cell 1 _ rfl
        have u0 := BN6.out.cell 0 _ rfl
        have u1 := BN6.out.cell 1 _ rfl
        have HR := Lib.hid ((BG6.out.set 0 (.int .i64 sq)).set 1 (.slice va es.length vc))
        have HRB := Lib.hid ((HBB.out.setCell (p := ⟨g, 0, none⟩) (Nat.le_refl _) (.int .i64 sq)).setCell (p := ⟨g, 1, none⟩) (Nat.le_refl _) (.slice va es.length vc))
        go_wp2
        refine bodyPost_ret (results_cell2 rfl _ _ g 187 _ (0, 0) _ rfl HR.out Tryz.underlying187 rfl sizeCBd) rfl ?_
        rw [HRR.out]
        refine ⟨⟨_, rfl, ((HC6.out.set (Nat.lt_succ_self g)).set (Nat.lt_succ_self g)).base (by rw [← HG.out]; omega)⟩, HO0.out.keep HFX.out (by rw [← HG.out]; exact HRB.out), by rw [← HG.out]; exact HRB.out⟩
  · have d1 : (ec != 0) = true := by simpa using hec
    have HRR := Lib.hid (readX_err HQ.out hec)
    clear hec
    have f0 := BG4.out.free 0
    have f1 := BG4.out.free 1
    have k0 := BG4.out.cell 0 _ rfl
    have k1 := BG4.out.cell 1 _ rfl
    have HR := Lib.hid ((BG4.out.set 0 (.int .i64 0)).set 1 (.slice none 0 0))
    have HRB := Lib.hid ((HB4.out.setCell (p := ⟨g, 0, none⟩) (Nat.le_refl _) (.int .i64 0)).setCell (p := ⟨g, 1, none⟩) (Nat.le_refl _) (.slice none 0 0))
    go_wp2
    refine bodyPost_ret (results_cell2 rfl _ _ g 187 _ (0, 0) _ rfl HR.out Tryz.underlying187 rfl sizeCBd) rfl ?_
    rw [HRR.out]
    refine ⟨⟨_, rfl, Cgs.nil _ _ _⟩, HO0.out.keep HFX.out (by rw [← HG.out]; exact HRB.out), by rw [← HG.out]; exact HRB.out⟩
end
end Go.Proofs.YtphhnhldbajaoaaGreatDoor

namespace Go.Proofs.YtphhnhldbajaoaaGreatDoor
open Go.RowKit Go.ChangeShapes Go.WideShapes Go.ChangeAt

/-- A place, its entry, its block's number. -/
abbrev DtD := Int × (CgE × Int)
abbrev dtV (x : CgE) (q : Int) : Value := .agg #[.string x.key, .string x.sum, .int .i64 x.len, .int .i64 x.pos, .int .i64 q]
def dDt (x : CgE) (q : Int) : DataW Unit := .agg [.lit (.string x.key.data.toList), .lit (.string x.sum.data.toList), .lit (.int .i64 x.len), .lit (.int .i64 x.pos), .lit (.int .i64 q)]
def dtR : Value → Option (DataW Unit × List MemPlace)
  | .agg ⟨[.string k, .string s, .int .i64 n, .int .i64 p, .int .i64 q]⟩ => some (dDt ⟨k, s, n, p⟩ q, [])
  | _ => none
theorem dtR_mk (x : CgE) (q : Int) : dtR (dtV x q) = some (dDt x q, []) := rfl
theorem dtR_inv {v : Value} {y : DataW Unit × List MemPlace} (h : dtR v = some y) : ∃ m : CgE × Int, v = dtV m.1 m.2 ∧ y = (dDt m.1 m.2, []) := by
  unfold dtR at h
  split at h
  · cases h; exact ⟨(⟨_, _, _, _⟩, _), rfl, rfl⟩
  · cases h
theorem bytes_list {a b : ByteArray} (h : a.data.toList = b.data.toList) : a = b := ByteArray.ext (Array.toList_inj.1 h)
theorem dDt_inj {x y : CgE} {q r : Int} (h : dDt x q = dDt y r) : x = y ∧ q = r := by
  obtain ⟨x1, x2, x3, x4⟩ := x
  obtain ⟨y1, y2, y3, y4⟩ := y
  unfold dDt at h
  simp only [DataW.agg.injEq, List.cons.injEq, DataW.lit.injEq, Lit.string.injEq, Lit.int.injEq, true_and, and_true] at h
  obtain ⟨h1, h2, rfl, rfl, rfl⟩ := h
  rw [bytes_list h1, bytes_list h2]
  exact ⟨rfl, rfl⟩
def kz (k : Int) : Lit := .int .i64 k
theorem kz_ne {k k' : Int} (h : k ≠ k') : kz k ≠ kz k' := fun e => h (by unfold kz at e; injection e)
theorem keyedZ : Maps.Keyed Tryz.prog 3 := Maps.int_keyed Tryz.underlying3
theorem keyOfZ {k : Int} (hk : (Lit.int .i64 k).wf = true) : keyOf Tryz.prog 3 (.int .i64 k) = some (kz k) := Maps.keyOf_int_mk Tryz.underlying3 hk
theorem isKz {k : Int} (hk : (Lit.int .i64 k).wf = true) : WideAt.IsKeyLit (kz k) := keyedZ.key (keyOfZ hk)
theorem zeroDt (w : World) : (zeroValue 217).run Tryz.prog w = .ok (dtV ⟨⟨#[]⟩, ⟨#[]⟩, 0, 0⟩ 0) w := by kernel_rfl

def findD (l : List DtD) (k : Int) : Option (CgE × Int) := (l.find? (fun x => decide (x.1 = k))).map (·.2)
def forgetDt (l : List DtD) (k : Int) : List DtD := l.filter (fun x => !decide (x.1 = k))
def putD (l : List DtD) (k : Int) (v : CgE × Int) : List DtD := forgetDt l k ++ [(k, v)]
theorem dfind_nil (k : Int) : findD [] k = none := rfl
theorem dfind_cons (x : DtD) (l : List DtD) (k : Int) : findD (x :: l) k = if x.1 = k then some x.2 else findD l k := by
  unfold findD
  rw [List.find?_cons]
  by_cases h : x.1 = k
  · simp [h]
  · simp [h]
theorem dfind_app (k : Int) : ∀ (l r : List DtD), findD (l ++ r) k = (findD l k).or (findD r k)
  | [], r => by simp [dfind_nil]
  | x :: l, r => by
    rw [List.cons_append, dfind_cons, dfind_cons, dfind_app k l r]
    split <;> simp
theorem dforget_same (k : Int) : ∀ l : List DtD, findD (forgetDt l k) k = none
  | [] => rfl
  | x :: l => by
    unfold forgetDt
    rw [List.filter_cons]
    by_cases h : x.1 = k
    · simp only [h, decide_true, Bool.not_true, Bool.false_eq_true, if_false]
      exact dforget_same k l
    · simp only [h, decide_false, Bool.not_false, if_true]
      rw [dfind_cons, if_neg h]
      exact dforget_same k l
theorem dforget_other {k k' : Int} (hne : k' ≠ k) : ∀ l : List DtD, findD (forgetDt l k) k' = findD l k'
  | [] => rfl
  | x :: l => by
    unfold forgetDt
    rw [List.filter_cons]
    by_cases h : x.1 = k
    · simp only [h, decide_true, Bool.not_true, Bool.false_eq_true, if_false]
      rw [dfind_cons, if_neg (by rw [h]; exact Ne.symm hne)]
      exact dforget_other hne l
    · simp only [h, decide_false, Bool.not_false, if_true]
      rw [dfind_cons, dfind_cons]
      rw [show findD (l.filter fun x => !decide (x.1 = k)) k' = findD l k' from dforget_other hne l]
theorem dput_same (l : List DtD) (k : Int) (v : CgE × Int) : findD (putD l k  v) k = some (v) := by
  unfold putD
  rw [dfind_app, dforget_same, dfind_cons]
  simp
theorem dput_other (l : List DtD) {k k' : Int} (hne : k' ≠ k) (v : CgE × Int) : findD (putD l k  v) k' = findD l k' := by
  unfold putD
  rw [dfind_app, dforget_other hne, dfind_cons, if_neg (Ne.symm hne)]
  simp [dfind_nil]
def NoDupD (l : List DtD) : Prop := l.Pairwise (fun x y => x.1 ≠ y.1)
theorem NoDupD.forget {l : List DtD} (h : NoDupD l) (k : Int) : NoDupD (forgetDt l k) := List.Pairwise.filter _ h
theorem NoDupD.touch {l : List DtD} (h : NoDupD l) (k : Int) (v : CgE × Int) : NoDupD (putD l k  v) := by
  unfold putD NoDupD
  rw [List.pairwise_append]
  refine ⟨h.forget k, by simp, ?_⟩
  intro x hx y hy
  simp only [List.mem_singleton] at hy
  subst hy
  unfold forgetDt at hx
  simp only [List.mem_filter, Bool.not_eq_true', decide_eq_false_iff_not] at hx
  exact hx.2
theorem dfind_none {k : Int} : ∀ {l : List DtD}, findD l k = none ↔ ∀ x ∈ l, x.1 ≠ k
  | [] => by simp [dfind_nil]
  | x :: l => by
    rw [dfind_cons]
    by_cases h : x.1 = k
    · simp [h]
    · rw [if_neg h, dfind_none]
      simp [h]
theorem dfind_mem {k : Int} {m : CgE × Int} : ∀ {l : List DtD}, findD l k = some m → (k, m) ∈ l
  | [], h => by cases h
  | x :: l, h => by
    rw [dfind_cons] at h
    by_cases e : x.1 = k
    · rw [if_pos e] at h
      cases h
      rw [← e]
      exact List.mem_cons_self
    · rw [if_neg e] at h
      exact List.mem_cons_of_mem _ (dfind_mem h)
theorem dfind_of_mem {x : DtD} : ∀ {l : List DtD}, NoDupD l → x ∈ l → findD l x.1 = some x.2
  | [], _, h => by cases h
  | y :: l, hd, h => by
    rw [dfind_cons]
    rcases List.mem_cons.1 h with rfl | h2
    · rw [if_pos rfl]
    · rw [if_neg ((List.pairwise_cons.1 hd).1 _ h2)]
      exact dfind_of_mem (List.pairwise_cons.1 hd).2 h2
theorem dforget_len {k : Int} : ∀ {l : List DtD}, NoDupD l → (forgetDt l k).length + (if (findD l k).isSome = true then 1 else 0) = l.length
  | [], _ => rfl
  | x :: l, hd => by
    have ih := dforget_len (k := k) (List.pairwise_cons.1 hd).2
    rw [dfind_cons]
    by_cases h : x.1 = k
    · rw [if_pos h]
      have hn : findD l k = none := dfind_none.2 (fun y hy => by rw [← h]; exact Ne.symm ((List.pairwise_cons.1 hd).1 y hy))
      rw [hn] at ih
      simp only [Option.isSome_none, Bool.false_eq_true, if_false, Nat.add_zero] at ih
      unfold forgetDt at *
      rw [List.filter_cons]
      simp only [h, decide_true, Bool.not_true, Bool.false_eq_true, if_false, Option.isSome_some, if_true, List.length_cons]
      omega
    · rw [if_neg h]
      unfold forgetDt at *
      rw [List.filter_cons]
      simp only [h, decide_false, Bool.not_false, if_true, List.length_cons]
      omega
theorem dforget_le (l : List DtD) (k : Int) : (forgetDt l k).length ≤ l.length := List.length_filter_le _ _
theorem dput_len {l : List DtD} (k : Int) (v : CgE × Int) : (putD l k  v).length ≤ l.length + 1 := by
  unfold putD
  have := dforget_le l k
  simp
  exact this

/-- What a map reads as, and the counts. -/
structure DtIs (D : DataW Unit) (l : List DtD) : Prop where
  has : ∀ k, Maps.has D (kz k) = (findD l k).isSome
  at_ : ∀ k m, findD l k = some m → ∀ z, D.atKey (kz k) z = dDt m.1 m.2
  size : Maps.size D = l.length
  nodup : NoDupD l
theorem DtIs.nil : DtIs (.map []) [] := ⟨fun _ => rfl, fun _ _ h => (by cases h), rfl, List.Pairwise.nil⟩
theorem DtIs.atz {D : DataW Unit} {l : List DtD} (h : DtIs D l) (k : Int) (z : DataW Unit) : D.atKey (kz k) z = match findD l k with | none => z | some m => dDt m.1 m.2 := by
  cases e : findD l k with
  | none => exact Maps.atKey_of_not_has (by rw [h.has, e]; rfl) z
  | some m => exact h.at_ k m e z
theorem DtIs.put {D : DataW Unit} {l : List DtD} (h : DtIs D l) (hT : Maps.Tidy D) {k : Int} (hk : (Lit.int .i64 k).wf = true) (v : CgE × Int) : DtIs (D.put (kz k) (dDt v.1 v.2)) (putD l k  v) where
  has k' := by
    by_cases e : k' = k
    · subst e
      rw [Maps.has_put_same hT.isMap (isKz hk), dput_same]
      rfl
    · rw [Maps.has_put_other (kz_ne e), dput_other l e, h.has]
  at_ k' m hm z := by
    by_cases e : k' = k
    · subst e
      rw [dput_same] at hm
      cases hm
      exact Maps.atKey_put_same hT.isMap (isKz hk) _ _
    · rw [dput_other l e] at hm
      rw [Maps.atKey_put_other (kz_ne e)]
      exact h.at_ k' m hm z
  size := by
    rw [Maps.size_put hT, h.has, h.size]
    have := dforget_len (k := k) h.nodup
    unfold putD
    rw [List.length_append, List.length_singleton]
    split <;> simp_all
  nodup := h.nodup.touch k  v
/-- Block m is the map. -/
def DtAt (w : World) (m : Nat) (l : List DtD) : Prop := ∃ D, w.ownsMap Tryz.prog 3 dtR m l.length D ∧ DtIs D l
theorem downs_tight {w : World} {b n : Nat} {D : DataW Unit} (h : w.ownsMap Tryz.prog 3 dtR b n D) : w.ownsMap Tryz.prog 3 dtR b (Maps.size D) D := by
  obtain ⟨es, clock, hb, F, hs, rfl⟩ := h
  refine ⟨es, clock, hb, F, ?_, rfl⟩
  rw [Maps.size_eq, length_sorted]
  simp
theorem DtAt.lt {w : World} {m : Nat} {l : List DtD} (h : DtAt w m l) : m < w.heap.size := by obtain ⟨_, h, _⟩ := h; exact h.lt
theorem DtAt.of {w w' : World} {m : Nat} {l : List DtD} (h : DtAt w m l) (hc : w'.heap[m]? = w.heap[m]?) : DtAt w' m l := by
  obtain ⟨D, ⟨es, clock, hb, F, hs, hD⟩, hM⟩ := h
  exact ⟨D, ⟨es, clock, hc.trans hb, F, hs, hD⟩, hM⟩
theorem DtAt.keep {w w' : World} {m : Nat} {l : List DtD} (h : DtAt w m l) (hb : Below w.heap.size w w') : DtAt w' m l := h.of (hb.block m h.lt)
theorem dlook_val {w : World} {m : Nat} {l : List DtD} (h : DtAt w m l) {k : Int} (hk : (Lit.int .i64 k).wf = true) {x : CgE × Int} (hx : findD l k = some x) : (Instr.lookup 214 (.map (some m)) (.int .i64 k) false).run Tryz.prog w = .ok (dtV x.1 x.2) w := by
  obtain ⟨D, hown, hM⟩ := h
  obtain ⟨v, ps, hrun, hv⟩ := hown.lookup keyedZ Tryz.underlying214 (zeroDt w) (dtR_mk _ 0) (keyOfZ hk)
  obtain ⟨y, rfl, hy⟩ := dtR_inv hv
  rw [hM.atz, hx] at hy
  have := dDt_inj (congrArg Prod.fst hy)
  rw [hrun, ← this.1, ← this.2]
theorem dlook_ok {w : World} {m : Nat} {l : List DtD} (h : DtAt w m l) {k : Int} (hk : (Lit.int .i64 k).wf = true) : (Instr.lookup 214 (.map (some m)) (.int .i64 k) true).run Tryz.prog w = .ok (.tuple #[(match findD l k with | none => dtV ⟨⟨#[]⟩, ⟨#[]⟩, 0, 0⟩ 0 | some x => dtV x.1 x.2), .bool (findD l k).isSome]) w := by
  obtain ⟨D, hown, hM⟩ := h
  obtain ⟨v, ps, hrun, hv⟩ := hown.look_ok keyedZ Tryz.underlying214 (zeroDt w) (dtR_mk ⟨⟨#[]⟩, ⟨#[]⟩, 0, 0⟩ 0) (keyOfZ hk)
  obtain ⟨y, rfl, hy⟩ := dtR_inv hv
  rw [hM.atz] at hy
  rw [hM.has k] at hrun
  rw [hrun]
  cases e : findD l k with
  | none =>
    rw [e] at hy
    have := dDt_inj (congrArg Prod.fst hy)
    simp only
    rw [← this.1, ← this.2]
  | some x =>
    rw [e] at hy
    have := dDt_inj (congrArg Prod.fst hy)
    simp only
    rw [← this.1, ← this.2]

/-- One entry more of a block of number q. -/
def freshE (q : Int) (m : List DtD) (x : CgE) : Bool := match findD m x.pos with | none => true | some o => decide (o.2 ≤ q)
def stepE (q : Int) (m : List DtD) (x : CgE) : List DtD := if freshE q m x = true then putD m x.pos (x, q) else m
/-- One block more. -/
def stepB (m : List DtD) (b : Int × List CgE) : List DtD := if chkC b.1 b.2 = 0 then b.2.foldl (stepE b.1) m else m
def newDt (l : List (Int × List CgE)) : List DtD := l.foldl stepB []
/-- Merge's answer. -/
def mergeL (l : List (Int × List CgE)) : List CgE := (((newDt l).map (·.1)).mergeSort (fun x y => decide (x ≤ y))).map (fun k => match findD (newDt l) k with | none => default | some x => x.1)
theorem stepE_len (q : Int) (m : List DtD) (x : CgE) : (stepE q m x).length ≤ m.length + 1 := by
  unfold stepE
  split
  · exact dput_len _ _
  · exact Nat.le_succ _
theorem stepE_nodup {q : Int} {m : List DtD} {x : CgE} (h : NoDupD m) : NoDupD (stepE q m x) := by
  unfold stepE
  split
  · exact h.touch _ _
  · exact h
end Go.Proofs.YtphhnhldbajaoaaGreatDoor

namespace Go.Proofs.YtphhnhldbajaoaaGreatDoor
open Go.RowKit Go.ChangeShapes Go.WideShapes Go.ChangeAt

/-- A block, as it lies in a row. -/
structure BkD where
  seq : Int
  a : Option Addr
  cap : Nat
  ents : List CgE
def bkM (x : BkD) : Int × List CgE := (x.seq, x.ents)
def SlBk (w : World) (a : Option Addr) (l : List BkD) : Prop := l ≠ [] → ∃ b off, a = some ⟨b, off, none⟩ ∧ b < w.heap.size ∧ ∀ i x, l[i]? = some x → w.cell? ⟨b, off + i * 2, none⟩ = some (.int .i64 x.seq) ∧ w.cell? ⟨b, off + i * 2 + 1, none⟩ = some (.slice x.a x.ents.length x.cap) ∧ SlC w x.a x.ents
theorem SlBk.keep {w w' : World} {a : Option Addr} {l : List BkD} (h : SlBk w a l) (hb : Below w.heap.size w w') : SlBk w' a l := fun hne => by
  obtain ⟨b, off, e, hlt, hc⟩ := h hne
  exact ⟨b, off, e, Nat.lt_of_lt_of_le hlt hb.size, fun i x hx => ⟨(hb.cell (p := ⟨b, off + i * 2, none⟩) hlt).trans (hc i x hx).1, (hb.cell (p := ⟨b, off + i * 2 + 1, none⟩) hlt).trans (hc i x hx).2.1, (hc i x hx).2.2.keep hb⟩⟩
theorem SlBk.get {w : World} {a : Option Addr} {l : List BkD} (h : SlBk w a l) (k : Nat) (hk : k < l.length) :
    ∃ b off, a = some ⟨b, off, none⟩ ∧ b < w.heap.size ∧ w.cell? ⟨b, off + k * 2, none⟩ = some (.int .i64 (l[k]).seq) ∧ w.cell? ⟨b, off + k * 2 + 1, none⟩ = some (.slice (l[k]).a (l[k]).ents.length (l[k]).cap) ∧ SlC w (l[k]).a (l[k]).ents := by
  obtain ⟨b, off, e, hlt, hc⟩ := h (by intro e; rw [e] at hk; simp at hk)
  exact ⟨b, off, e, hlt, hc k _ (List.getElem?_eq_getElem hk)⟩

theorem foldE_len (q : Int) : ∀ (l : List CgE) (m : List DtD), (l.foldl (stepE q) m).length ≤ m.length + l.length
  | [], _ => Nat.le_refl _
  | x :: r, m => by
    have h1 := foldE_len q r (stepE q m x)
    have h2 := stepE_len q m x
    simp only [List.foldl_cons, List.length_cons]
    omega
theorem stepB_len (m : List DtD) (b : Int × List CgE) : (stepB m b).length ≤ m.length + 7 := by
  unfold stepB
  split
  · next h =>
    have h1 := foldE_len b.1 b.2 m
    unfold chkC at h
    split at h
    · next h2 => have := h2.2.2.1; omega
    · cases h
  · omega
theorem foldB_len : ∀ (l : List (Int × List CgE)) (m : List DtD), (l.foldl stepB m).length ≤ m.length + 7 * l.length
  | [], _ => Nat.le_refl _
  | x :: r, m => by
    have h1 := foldB_len r (stepB m x)
    have h2 := stepB_len m x
    simp only [List.foldl_cons, List.length_cons]
    omega
theorem newD_len (l : List (Int × List CgE)) : (newDt l).length ≤ 7 * l.length := by
  have := foldB_len l []
  simpa [newDt] using this
theorem foldE_snoc (q : Int) (m : List DtD) (l : List CgE) (k : Nat) (h : k < l.length) : (l.take (k + 1)).foldl (stepE q) m = stepE q ((l.take k).foldl (stepE q) m) l[k] := by
  rw [List.take_succ_eq_append_getElem h, List.foldl_append]
  rfl
theorem newD_snoc (l : List BkD) (k : Nat) (h : k < l.length) : newDt ((l.take (k + 1)).map bkM) = stepB (newDt ((l.take k).map bkM)) (bkM l[k]) := by
  rw [List.take_succ_eq_append_getElem h, List.map_append]
  unfold newDt
  rw [List.foldl_append]
  rfl
theorem pos_wf {x : CgE} (h : MayC x) : (Lit.int .i64 x.pos).wf = true := by
  obtain ⟨_, _, _, _, _, h1, h2⟩ := h
  have h3 : IntKind.i64.min ≤ x.pos ∧ x.pos ≤ IntKind.i64.max := by
    rw [show IntKind.i64.min = -9223372036854775808 from rfl, show IntKind.i64.max = 9223372036854775807 from rfl]
    omega
  simpa [Lit.wf] using h3

/-- What lies in the map: entries that may be, each at its own place. -/
def GoodD (m : List DtD) : Prop := NoDupD m ∧ ∀ x ∈ m, MayC x.2.1 ∧ x.1 = x.2.1.pos
theorem GoodD.step {m : List DtD} (h : GoodD m) {q : Int} {x : CgE} (hx : MayC x) : GoodD (stepE q m x) := by
  refine ⟨stepE_nodup h.1, fun y hy => ?_⟩
  unfold stepE at hy
  split at hy
  · unfold putD at hy
    rcases List.mem_append.1 hy with hy | hy
    · exact h.2 y (List.mem_filter.1 hy).1
    · rw [List.mem_singleton.1 hy]; exact ⟨hx, rfl⟩
  · exact h.2 y hy
theorem GoodD.fold {q : Int} : ∀ (l : List CgE) {m : List DtD}, GoodD m → (∀ x ∈ l, MayC x) → GoodD (l.foldl (stepE q) m)
  | [], _, h, _ => h
  | x :: r, _, h, ha => GoodD.fold r (h.step (ha x List.mem_cons_self)) (fun y hy => ha y (List.mem_cons_of_mem _ hy))
theorem GoodD.block {m : List DtD} (h : GoodD m) (b : Int × List CgE) : GoodD (stepB m b) := by
  unfold stepB
  split
  · next h0 =>
    unfold chkC at h0
    split at h0
    · next h2 => exact h.fold b.2 h2.2.2.2
    · cases h0
  · exact h
theorem good_fold : ∀ (l : List (Int × List CgE)) {m : List DtD}, GoodD m → GoodD (l.foldl stepB m)
  | [], _, h => h
  | x :: r, _, h => good_fold r (h.block x)
theorem good_new (l : List (Int × List CgE)) : GoodD (newDt l) := good_fold l ⟨List.Pairwise.nil, fun x hx => by cases hx⟩
/-- A row of ints that the call made. -/
theorem ints_view {w : World} {base : Nat} {v : Value} {l : List Int} (h : w.ownsRow base 3 1 v l.length (l.map (Value.int .i64))) :
    ∃ a cap, v = .slice a l.length cap ∧ ∀ j (hj : j < l.length), ∃ g, a = some ⟨g, 0, none⟩ ∧ g < w.heap.size ∧ w.cell? ⟨g, j, none⟩ = some (.int .i64 l[j]) := by
  have h' := h
  rcases h.2 with ⟨rfl, h0⟩ | ⟨g, cap, cur, rfl, hg, hh, _⟩
  · exact ⟨none, 0, by rw [h0], fun j hj => by omega⟩
  · refine ⟨some ⟨g, 0, none⟩, cap, rfl, fun j hj => ⟨g, rfl, lt_of_block hh, ?_⟩⟩
    rw [World.ownsRow.cellAt h' j (by omega), List.getElem?_map, List.getElem?_eq_getElem hj]
    rfl
/-- The keys in their order; what is merged of each. -/
def keysD (m : List DtD) : List Int := (m.map (·.1)).mergeSort (fun x y => decide (x ≤ y))
def pickD (m : List DtD) (k : Int) : CgE := match findD m k with | none => default | some x => x.1
theorem keysD_find {m : List DtD} (h : GoodD m) (j : Nat) (hj : j < (keysD m).length) : ∃ x, findD m (keysD m)[j] = some x ∧ (Lit.int .i64 (keysD m)[j]).wf = true := by
  have h1 : (keysD m)[j] ∈ m.map (·.1) := List.mem_mergeSort.1 (List.getElem_mem hj)
  obtain ⟨y, hy, he⟩ := List.mem_map.1 h1
  have h2 := dfind_of_mem h.1 hy
  have h3 := h.2 y hy
  refine ⟨y.2, by rw [← he]; exact h2, ?_⟩
  rw [← he]
  show (Lit.int .i64 y.1).wf = true
  rw [h3.2]
  exact pos_wf h3.1
theorem keysD_len (m : List DtD) : (keysD m).length = m.length := by
  unfold keysD
  rw [List.length_mergeSort, List.length_map]
theorem mergeL_eq (l : List (Int × List CgE)) : mergeL l = (keysD (newDt l)).map (pickD (newDt l)) := rfl
end Go.Proofs.YtphhnhldbajaoaaGreatDoor
