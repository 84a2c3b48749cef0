/-
  The reference's devices: Spoil.
-/
import Derived.Test.YtflobdhhjfpcdaaRfF
namespace Go.Proofs.Ytflobdhhjfpcdaa
open Go.RowKit Go.ChangeShapes Go.WideShapes Go.ChangeAt

theorem keepL_snocR (P : WrD → Bool) (l : List WrD) (k : Nat) (h : k < l.length) : keepL P (l.take (k + 1)) = keepL P (l.take k) ++ (if P l[k] = true then [] else [l[k]]) := by
  unfold keepL
  rw [List.take_succ_eq_append_getElem h, List.filter_append]
  congr 1
  rw [List.filter_cons]
  cases P l[k] <;> rfl
theorem RdJ.grown {w : World} {p : RefP} {d : DevD} {a b : Int} {W W' : World} {o : Option Nat} (h : RdJ w p d w.heap.size a b W) (hp : ∀ k ∈ p.fp, k < w.heap.size) (hg : W.grownBy W' o) (ho : ∀ k, o = some k → w.heap.size < k) : RdJ w p d w.heap.size a b W' := by
  have hc := chg_grown hg
  have hn : ∀ k, k ≤ w.heap.size → k ∉ o.toList := fun k hk hm => by
    rw [Option.mem_toList] at hm
    have := ho k hm
    omega
  exact ⟨h.bx.of (hc.block _ h.bx.lt (hn _ (Nat.le_refl _))), h.rf.chg hc (fun k hk => hn k (Nat.le_of_lt (hp k hk))), h.bl.grown hg h.bl.size (fun k hk => Nat.le_of_lt (ho k hk))⟩
theorem spoil_parts (d : DevD) (l : Int × Int) (s : ByteArray) (h : chkD d l s.size = 0) : (spoilD d l s).s0.has = (setHas { d with waits := keepL (fun x => x.1.1 == l.1 && x.1.2 == l.2) d.waits } l s).s0.has ∧ (spoilD d l s).s1.has = (setHas { d with waits := keepL (fun x => x.1.1 == l.1 && x.1.2 == l.2) d.waits } l s).s1.has ∧
    (spoilD d l s).s0.lost = d.s0.lost ∧ (spoilD d l s).s1.lost = d.s1.lost ∧ (spoilD d l s).waits = keepL (fun x => x.1.1 == l.1 && x.1.2 == l.2) d.waits := by
  have e : spoilD d l s = setTell (setHas (forgetD d (fun x => x.1 == l.1 && x.2 == l.2)) l s) l s := if_pos h
  have h1 := setTell_has (setHas (forgetD d (fun x => x.1 == l.1 && x.2 == l.2)) l s) l s
  have h2 := lost_setHas0 (forgetD d (fun x => x.1 == l.1 && x.2 == l.2)) l s
  have h3 := lost_setTell (setHas (forgetD d (fun x => x.1 == l.1 && x.2 == l.2)) l s) l s
  rw [e]
  exact ⟨h1.1, h1.2.1, (h3 0).trans h2.1, (h3 1).trans h2.2.1, h1.2.2.trans h2.2.2⟩

set_option maxRecDepth 100000 in
set_option maxHeartbeats 4000000 in
theorem rspoil_any (p : RefP) (d : DevD) (l : Int × Int) (s : ByteArray) (w : World) (h : RefAt w p d) (hlen : d.waits.length ≤ 100000) : Calls Try.prog 27 #[.pointer (some ⟨p.b, 0, none⟩), locV l, .string s] w fun e w' => e = .returned (.int .i64 (chkD d l s.size)) ∧ RefTo p (spoilD d l s) w w' := by
  have HP := Lib.hid h.lt
  have HPA := Lib.hid (fun h => spoil_parts d l s h)
  have HNO : Hid (chkD d l s.size ≠ 0 → spoilD d l s = d) := fun h => if_neg h
  have HWR := Lib.hid (fun W (h : RefAt W p d) => rwrong_any p d l s W h)
  have HOK := Lib.hid (fun (h : chkD d l s.size = 0) => chkD_ok h)
  obtain ⟨d', hd'⟩ : ∃ d', d' = spoilD d l s := ⟨_, rfl⟩
  rw [← hd'] at HPA HNO ⊢
  clear hd'
  obtain ⟨a, b⟩ := l
  unfold locV at HWR ⊢
  have hx := (Below.refl w.heap.size w).alloc (Nat.le_refl _) (.cells #[.int .i64 a, .int .i64 b] 29)
  have J0 : Hid (RdJ w p d w.heap.size a b (w.alloc (.cells #[.int .i64 a, .int .i64 b] 29))) := ⟨Box.new w _ _, h.keep hx, hx⟩
  have HL := Lib.hid hlen
  clear h hx hlen
  go_enter Try.func27, Try.ntmps27
  have k0 := J0.out.bx.cell 0 _ rfl
  have k1 := J0.out.bx.cell 1 _ rfl
  go_wp2_with fail
  generalize World.alloc w _ = wx at *
  obtain ⟨g, hg⟩ : ∃ g, g = w.heap.size := ⟨_, rfl⟩
  have HG := Lib.hid hg
  rw [← hg] at J0 ⊢
  clear hg k0 k1
  refine (HWR.out wx J0.out.rf).mono ?_
  rintro e w1 ⟨rfl, hb⟩
  have J1 := Lib.hid (J0.out.keep hb)
  clear hb J0 HWR
  obtain ⟨ck, hck⟩ : ∃ ck, ck = chkD d (a, b) s.size := ⟨_, rfl⟩
  have HCK := Lib.hid hck
  rw [← hck] at HPA HNO HOK ⊢
  clear hck
  by_cases hc : ck = 0
  rotate_left
  · have hn : (ck != 0) = true := bne_iff_ne.2 hc
    have HDD := Lib.hid (HNO.out hc)
    clear hc HOK HPA HNO
    go_wp2
    go_ret
    exact ⟨by rw [← HCK.out]; rfl, by rw [HDD.out]; exact (RefTo.same (p := p) J1.out.rf (Below.refl _ _)).ahead J1.out.bl⟩
  obtain ⟨ha, h0, h1, _, _⟩ := HOK.out hc
  have HLK : Hid (locOk d (a, b)) := ⟨ha, h0, h1⟩
  have HPT := Lib.hid (HPA.out hc)
  subst hc
  clear ha h0 h1 HOK HPA HNO
  obtain ⟨P, hP⟩ : ∃ P : WrD → Bool, P = fun x => x.1.1 == a && x.1.2 == b := ⟨_, rfl⟩
  have HPF := Lib.hid hP
  rw [← hP] at HPT
  clear hP
  have HV0 : Hid (Rws w1 (.slice none 0 0) (keepL P (d.waits.take 0)) ∧ ∀ k, (Value.slice none 0 0).ownBlock = some k → g < k) := ⟨Rws.nil _, fun k hk => by cases hk⟩
  go_wp2
  go_loopw [8, 9] (fun o i wr => ∃ (j : Nat) (v : Value), j ≤ d.waits.length ∧ i = .int .i64 j ∧ v = o ∧ Hid (RdJ w p d g a b wr) ∧ Hid (Rws wr v (keepL P (d.waits.take j)) ∧ ∀ k, v.ownBlock = some k → g < k)) (fun _ i _ => d.waits.length - (RowKit.intOf i).toNat)
  case atStart => exact ⟨0, _, Nat.zero_le _, rfl, rfl, J1, HV0⟩
  case round =>
    clear J1 HV0
    obtain ⟨j, v, hj, rfl, rfl, HJ, HV⟩ := hrel
    obtain ⟨wa, wc, hwv, hget⟩ := HJ.out.rf.wt.view
    have g2 := HJ.out.rf.box.cell 2 _ rfl
    rw [hwv] at g2
    by_cases hlt : j < d.waits.length
    · have hj0 : (0 : Int) ≤ (j : Int) := by omega
      have hjl : (j : Int) < (d.waits.length : Int) := by omega
      have hjh : (j : Int) ≤ 100000 := by have := HL.out; omega
      have HLT := Lib.hid hlt
      have HSN := Lib.hid (keepL_snocR P d.waits j hlt)
      obtain ⟨wg, rfl, _, c0, c1, c2⟩ := hget j hlt
      have g0 := HJ.out.bx.cell 0 _ rfl
      have g1 := HJ.out.bx.cell 1 _ rfl
      have J2 := Lib.hid HJ.out.drew
      have HLN : Hid ((keepL P (d.waits.take j)).length ≤ 100000) := by
        have h1 := keepL_len P (d.waits.take j)
        rw [List.length_take] at h1
        have := HL.out
        show _ ≤ _
        omega
      have V2 : Hid (Rws wr.drew v (keepL P (d.waits.take j)) ∧ ∀ k, v.ownBlock = some k → g < k) := ⟨HV.out.1.keep (Below.refl _ _).drew, HV.out.2⟩
      generalize d.waits[j] = x at *
      obtain ⟨⟨x1, x2⟩, xs⟩ := x
      dsimp only at c0 c1 c2
      obtain ⟨t, ht⟩ : ∃ t, t = keepL P (d.waits.take j) := ⟨_, rfl⟩
      obtain ⟨t', ht'⟩ : ∃ t', t' = keepL P (d.waits.take (j + 1)) := ⟨_, rfl⟩
      have HT' := Lib.hid ht'
      rw [← ht] at HSN HLN V2
      rw [← ht'] at HSN
      clear hlt hget HJ HV ht ht'
      have hq : ∀ W, (Op.equalIn 10000 29 (.agg #[.int .i64 x1, .int .i64 x2]) (.agg #[.int .i64 a, .int .i64 b])).run Try.prog W = .ok (x1 == a && x2 == b) W := fun W => eqLocD x1 x2 a b W
      have HPX : Hid (P ((x1, x2), xs) = (x1 == a && x2 == b)) := by show _ = _; rw [HPF.out]
      cases hbx : (x1 == a && x2 == b)
      · rw [hbx] at hq HPX
        rw [if_neg (by rw [HPX.out]; decide)] at HSN
        clear hbx HPX
        go_wp2_with fail
        refine wp_region_tree (fun W => W.cell? ⟨p.b, 2, none⟩ = some (.slice (some ⟨wg, 0, none⟩) d.waits.length wc) ∧ W.cell? ⟨wg, j * 3, none⟩ = some (.int .i64 x1) ∧ W.cell? ⟨wg, j * 3 + 1, none⟩ = some (.int .i64 x2) ∧ W.cell? ⟨g, 0, none⟩ = some (.int .i64 a) ∧ W.cell? ⟨g, 1, none⟩ = some (.int .i64 b)) 9 (.quiet 0 (.quiet 1 (.quiet 2 (.quiet 3 (.quiet 4 (.quiet 5 (.quiet 6 (.quiet 7 (.quiet 8 .nil))))))))) (by kernel_rfl) (by kernel_rfl) ⟨g2, c0, c1, g0, g1⟩ ?_
        simp only [List.drop_succ_cons, List.drop_zero]
        iterate 9 (apply wpTr_step rfl; (intro W hS K hK; obtain ⟨z0, z1, z2, z3, z4⟩ := hS; go_simp; exact hK _ rfl))
        refine wpTr_nil ?_
        have d0 : wr.drew.cell? ⟨wg, j * 3, none⟩ = some (.int .i64 x1) := c0
        have d1 : wr.drew.cell? ⟨wg, j * 3 + 1, none⟩ = some (.int .i64 x2) := c1
        have d2 : wr.drew.cell? ⟨wg, j * 3 + 2, none⟩ = some (.string xs) := c2
        have d3 : wr.drew.cell? ⟨p.b, 2, none⟩ = some (.slice (some ⟨wg, 0, none⟩) d.waits.length wc) := g2
        have hz := (Below.refl wr.heap.size wr.drew).alloc (Nat.le_refl _) (.cells #[.int .i64 x1, .int .i64 x2, .string xs] 64)
        have EB : Hid (Box (wr.drew.alloc (.cells #[.int .i64 x1, .int .i64 x2, .string xs] 64)) wr.heap.size 64 #[.int .i64 x1, .int .i64 x2, .string xs]) := Box.new wr.drew _ _
        have J3 := Lib.hid (J2.out.keep hz)
        have V3 : Hid (Rws (wr.drew.alloc (.cells #[.int .i64 x1, .int .i64 x2, .string xs] 64)) v t ∧ ∀ k, v.ownBlock = some k → g < k) := ⟨V2.out.1.keep hz, V2.out.2⟩
        have HSZ : Hid (g < wr.heap.size) := J2.out.bx.lt
        clear hz J2 V2 c0 c1 c2 g2 g0 g1
        go_wp2_with (with_reducible refine wp_rws_push _ rfl (.tmp 36) (.tmp 44) rfl _ t rfl ?a1 wr.heap.size 1 ((x1, x2), xs) ?a2 ?a3 ?a4 ?a5)
        case a1 => exact V3.out.1
        try (case a2 => rfl)
        case a3 => intro i u hi; exact EB.out.cell i u (by simpa [WrV] using hi)
        case a4 => exact HLN.out
        intro v' wA hpv hgr hob
        rw [← HSN.out] at hpv
        have JA : Hid (RdJ w p d g a b wA) := by
          have := J3.out
          rw [HG.out] at this ⊢
          exact this.grown HP.out hgr (fun k hk => by have := V3.out.2 k hk; have := HG.out; omega)
        have VA : Hid (Rws wA v' (keepL P (d.waits.take (j + 1))) ∧ ∀ k, v'.ownBlock = some k → g < k) := by
          rw [← HT'.out]
          refine ⟨hpv, fun k hk => ?_⟩
          rcases hob with e | e
          · exact V3.out.2 k (by rw [← e]; exact hk)
          · rw [e] at hk
            injection hk with hk
            have h2 : wr.heap.size + 1 = k := by rw [← hk]
            have := HSZ.out
            omega
        clear hpv hgr hob J3 V3 EB d0 d1 d2 d3
        go_wp2
        go_roundw
        case rel => exact ⟨j + 1, _, HLT.out, by go_num, rfl, JA, VA⟩
        case measure => have := HLT.out; simp [RowKit.intOf]; omega
      · rw [hbx] at hq HPX
        rw [if_pos (by rw [HPX.out]), List.append_nil] at HSN
        rw [← HSN.out, HT'.out] at V2
        clear hbx HPX
        go_wp2_with fail
        refine wp_region_tree (fun W => W.cell? ⟨p.b, 2, none⟩ = some (.slice (some ⟨wg, 0, none⟩) d.waits.length wc) ∧ W.cell? ⟨wg, j * 3, none⟩ = some (.int .i64 x1) ∧ W.cell? ⟨wg, j * 3 + 1, none⟩ = some (.int .i64 x2) ∧ W.cell? ⟨g, 0, none⟩ = some (.int .i64 a) ∧ W.cell? ⟨g, 1, none⟩ = some (.int .i64 b)) 9 (.quiet 0 (.quiet 1 (.quiet 2 (.quiet 3 (.quiet 4 (.quiet 5 (.quiet 6 (.quiet 7 (.quiet 8 .nil))))))))) (by kernel_rfl) (by kernel_rfl) ⟨g2, c0, c1, g0, g1⟩ ?_
        simp only [List.drop_succ_cons, List.drop_zero]
        iterate 9 (apply wpTr_step rfl; (intro W hS K hK; obtain ⟨z0, z1, z2, z3, z4⟩ := hS; go_simp; exact hK _ rfl))
        refine wpTr_nil ?_
        go_wp2
        go_roundw
        case rel => exact ⟨j + 1, _, HLT.out, by go_num, rfl, J2, V2⟩
        case measure => have := HLT.out; simp [RowKit.intOf]; omega
    · obtain rfl : j = d.waits.length := by omega
      rw [List.take_length] at HV
      have f2 := HJ.out.rf.box.free 2
      obtain ⟨_, hto⟩ := HJ.out.rf.waitsTo (v' := v) (ws := keepL P d.waits) (Chg.of (S := p.fp) HJ.out.bl (Nat.le_refl _)) (Chg.refl _ _) HV.out.1 (fun k hk => .inr ⟨fun hm => by have := HP.out k hm; have := HV.out.2 k hk; have := HG.out; omega, by have := HV.out.2 k hk; have := HG.out; omega⟩) (fun x hx => HJ.out.rf.wok x (List.mem_filter.1 hx).1)
      obtain ⟨p', e, hat, hchg, hfp⟩ := hto
      have hbg : Box (wr.setCell ⟨p.b, 2, none⟩ v) g 29 #[.int .i64 a, .int .i64 b] := HJ.out.bx.of (heap_setCell_other wr ⟨p.b, 2, none⟩ _ _ (by have := HP.out p.b (by simp [RefP.fp]); have := HG.out; show g ≠ p.b; omega))
      obtain ⟨va, vc, hv', _⟩ := HV.out.1.view
      subst hv'
      clear hget
      obtain ⟨ha, h0, h1⟩ := HLK.out
      dsimp only at ha h0 h1
      obtain ⟨k, rfl⟩ : ∃ k : Nat, b = (k : Int) := ⟨b.toNat, by omega⟩
      have hlk : (k : Int) < (devSize { d with waits := keepL P d.waits } a : Int) := h1
      have hat' := hat.chg (Chg.refl [] _).drew (fun _ _ h => by cases h)
      obtain ⟨r, c, n, q1, q2, q3, q4, q5, q6, q7⟩ := side_put hat' ha hlk
      have HRR := Lib.hid (q7 s)
      obtain ⟨a', rfl⟩ : ∃ a' : Nat, a = (a' : Int) := ⟨a.toNat, by omega⟩
      rw [Int.toNat_natCast] at q1
      have a2 : (a' : Int) < 2 := by omega
      have n2 : (k : Int) < (n : Int) := by have : devSize { d with waits := keepL P d.waits } (a' : Int) = devSize d (a' : Int) := rfl; omega
      have b0 := hat.box.cell 0 _ rfl
      rw [e] at b0
      have l0 := hbg.cell 0 _ rfl
      have l1 := hbg.cell 1 _ rfl
      have HTO : Hid (RefTo p d' w ((wr.setCell ⟨p.b, 2, none⟩ (.slice va (keepL P d.waits).length vc)).drew.setCell ⟨r, k, none⟩ (.string s))) := by
        have ht : RefTo p (setHas { d with waits := keepL P d.waits } ((a' : Int), (k : Int)) s) w ((wr.setCell ⟨p.b, 2, none⟩ (.slice va (keepL P d.waits).length vc)).drew.setCell ⟨r, k, none⟩ (.string s)) :=
          ⟨p', e, HRR.out, hchg.drew.then (Chg.only (Only.set r k _ _)) (fun i hi => by rw [List.mem_singleton] at hi; rw [hi]; exact hfp r q6), hfp⟩
        have h3 := lost_setHas0 { d with waits := keepL P d.waits } ((a' : Int), (k : Int)) s
        exact ht.as HPT.out.1 HPT.out.2.1 (HPT.out.2.2.1.trans h3.1.symm) (HPT.out.2.2.2.1.trans h3.2.1.symm) (HPT.out.2.2.2.2.trans h3.2.2.symm)
      clear ha h0 h1 hlk hat hat' hchg hfp q2 q3 q6 q7 HRR hbg HJ HV
      go_wp2_with fail
      refine wp_region_tree (fun W => W.cell? ⟨p.b, 0, none⟩ = some (.slice (some ⟨p'.sb, 0, none⟩) 2 2) ∧ W.cell? ⟨g, 0, none⟩ = some (.int .i64 (a' : Int)) ∧ W.cell? ⟨g, 1, none⟩ = some (.int .i64 (k : Int)) ∧ W.cell? ⟨p'.sb, a', none⟩ = some (.slice (some ⟨r, 0, none⟩) n c)) 11 (.quiet 0 (.quiet 1 (.quiet 2 (.quiet 3 (.quiet 4 (.quiet 5 (.quiet 6 (.quiet 7 (.quiet 8 (.quiet 9 (.quiet 10 .nil))))))))))) (by kernel_rfl) (by kernel_rfl) ⟨b0, l0, l1, q1⟩ ?_
      simp only [List.drop_succ_cons, List.drop_zero]
      iterate 11 (apply wpTr_step rfl; (intro W hS K hK; obtain ⟨z0, z1, z2, z3⟩ := hS; go_simp; exact hK _ rfl))
      refine wpTr_nil ?_
      go_wp2
      go_ret
      exact ⟨by rw [← HCK.out]; rfl, HTO.out⟩
end Go.Proofs.Ytflobdhhjfpcdaa
