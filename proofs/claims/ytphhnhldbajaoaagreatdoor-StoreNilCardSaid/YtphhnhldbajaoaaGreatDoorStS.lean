/-
  Package store: PutOn's walk.
-/
import Derived.Test.YtphhnhldbajaoaaGreatDoorMg39
namespace Go.Proofs.YtphhnhldbajaoaaGreatDoor
open Go Go.RowKit Go.ChangeShapes Go.WideShapes Go.ChangeAt

theorem Sl.stay {w W : World} {a : Option Addr} {l : List Int} (h : Sl w (Value.int .i64) a l) (hW : Below w.heap.size w W) : Sl W (Value.int .i64) a l := fun hne => by
  obtain ⟨b, off, e, hlt, hc⟩ := h hne
  exact ⟨b, off, e, Nat.lt_of_lt_of_le hlt hW.size, fun i x hx => (hW.cell (p := ⟨b, off + i, none⟩) hlt).trans (hc i x hx)⟩
theorem two_cellsN (W : World) (x y : Value) (t : TypeId) : ∀ j u, [x, y][j]? = some u → (W.alloc (.cells #[x, y] t (0, 0))).cell? ((⟨W.heap.size, 0, none⟩ : Addr).add j) = some u := by
  intro j u hj
  match j, hj with
  | 0, hj => exact (Box.new W t #[x, y]).cell 0 _ hj
  | 1, hj => exact (Box.new W t #[x, y]).cell 1 _ hj
section
variable {B : Nat} {l : List (List Nat → World → Prop)} {s : Nat} {p : StP} {σ : StD} {w : World}
set_option maxRecDepth 100000 in
set_option maxHeartbeats 4000000 in
theorem sputon_bad (h : StoB w s (stV p σ)) (t : ByteArray) (da : Option Addr) (dc : Nat) (devs : List Int) (hd : Sl w (Value.int .i64) da devs) (hdl : devs.length ≤ 1000) (hb : ¬ (t.size ≤ 960 ∧ holdT devs = true)) :
    Calls Tryz.prog 28 #[.pointer (some ⟨s, 0, none⟩), .string t, .slice da devs.length dc] w fun e w' => e = .returned (.tuple #[.string ⟨#[]⟩, .int .i64 1]) ∧ Below w.heap.size w w' := by
  have HM := Lib.hid (smade_any s _ w h)
  have HH := Lib.hid (smayhold_any da dc devs w hd hdl)
  have HB := Lib.hid hb
  obtain ⟨hv, hhv⟩ : ∃ x, x = holdT devs := ⟨_, rfl⟩
  rw [← hhv] at HH HB
  clear h hd hdl hb hhv
  by_cases hz : (960 : Int) < (t.size : Int)
  · have hz1 : decide ((960 : Int) < (t.size : Int)) = true := decide_eq_true hz
    clear HB HH
    go_enter Tryz.func28, Tryz.ntmps28
    go_wp2_with fail
    refine HM.out.mono ?_
    rintro e w1 ⟨rfl, rfl⟩
    go_wp2
    go_ret2
    exact ⟨rfl, Below.refl _ _⟩
  · have HF : Hid (hv = false) := by
      show _ = _
      cases hv
      · rfl
      · exact absurd ⟨by omega, rfl⟩ HB.out
    go_enter Tryz.func28, Tryz.ntmps28
    go_wp2_with fail
    refine HM.out.mono ?_
    rintro e w1 ⟨rfl, rfl⟩
    go_wp2_with fail
    refine HH.out.mono ?_
    rintro e w1 ⟨rfl, hb1⟩
    have HB1 := Lib.hid hb1
    rw [HF.out]
    clear hb1
    go_wp2
    go_ret2
    exact ⟨rfl, HB1.out⟩
set_option maxRecDepth 100000 in
set_option maxHeartbeats 16000000 in
theorem sputon_ok {few : Nat} (hl : AllF l) (h : Own B (stL s p σ ++ l) w) (hw : WfS few σ) (hfew : few ≤ 8000) (hK : Kt w) (hB : 0 < B) (t : ByteArray) (da : Option Addr) (dc : Nat) (devs : List Int) (hd : Sl w (Value.int .i64) da devs) (ht : t.size ≤ 960) (hh : holdT devs = true) :
    Calls Tryz.prog 28 #[.pointer (some ⟨s, 0, none⟩), .string t, .slice da devs.length dc] w fun e w' => e = .returned (.tuple #[.string (putOnS σ t devs).1.1, .int .i64 (putOnS σ t devs).1.2]) ∧ (∃ p', p'.db = p.db ∧ Own B (stL s p' (putOnS σ t devs).2 ++ l) w') ∧ Below B w w' := by
  have HL := Lib.hid hl
  have HO := Lib.hid h
  have HWF := Lib.hid hw
  have HFE := Lib.hid hfew
  have HK := Lib.hid hK
  have HBP := Lib.hid hB
  have HD := Lib.hid hd
  have HT := Lib.hid ht
  have HHO := Lib.hid hh
  have hdl : devs.length ≤ 2 := by rcases hold_cases hh with rfl | rfl | rfl | rfl <;> decide
  have hall : ∀ x ∈ devs, x = 0 ∨ x = 1 := by
    intro x hx
    rcases hold_cases hh with e | e | e | e <;> rw [e] at hx <;> simp at hx <;> omega
  have HDS : Hid (∀ k (hk : k < devs.length), devs[k] = 0 ∨ devs[k] = 1) := fun k hk => hall _ (List.getElem_mem hk)
  have HM := Lib.hid (smade_any s _ w (sto_box h))
  have HH := Lib.hid (smayhold_any da dc devs w hd (by omega))
  rw [hh] at HH
  obtain ⟨R, hR⟩ : ∃ R, R = takesS σ devs (σ.u0, σ.u1) [] := ⟨_, rfl⟩
  have HR1 : Hid (R = none → putOnS σ t devs = ((⟨#[]⟩, 6), σ)) := fun e => by unfold putOnS; rw [if_neg (by rw [hh]; simp [ht]), ← hR, e]
  have HR2 : Hid (∀ f locs, R = some (f, locs) → putOnS σ t devs = ((encB (wrP locs t σ.txg), 0), { σ with u0 := f.1, u1 := f.2, d := wrB σ.d locs t }) ∧ ¬ badP (wrP locs t σ.txg) ∧ locs.any (farW (devSize σ.d)) = false ∧ locs.any (fun l => devLost σ.d l.1) = false) := fun f locs e => by
    obtain ⟨g1, g2, g3, _⟩ := takes_good hw hh ht (f := f) (locs := locs) (by rw [← hR, e])
    refine ⟨?_, g1, g2, g3⟩
    unfold putOnS
    rw [if_neg (by rw [hh]; simp [ht]), ← hR, e]
  have HRR : Hid (takesS σ (devs.drop 0) (poU (σ.u0, σ.u1) []) [] = R) := hR.symm
  obtain ⟨Z, hZ⟩ : ∃ Z, Z = putOnS σ t devs := ⟨_, rfl⟩
  rw [← hZ] at HR1 HR2 ⊢
  have hz1 : ¬ (960 : Int) < (t.size : Int) := by omega
  clear h hl hw hfew hK hB hd ht hh hR hZ hall
  go_enter Tryz.func28, Tryz.ntmps28
  go_wp2_with fail
  refine HM.out.mono ?_
  rintro e w1 ⟨rfl, rfl⟩
  go_wp2_with fail
  refine HH.out.mono ?_
  rintro e w1 ⟨rfl, hb1⟩
  have HO1 := Lib.hid (HO.out.keep (sto_all HL.out) hb1)
  have HB1 := Lib.hid hb1
  have HZ0 : Hid (B ≤ w.heap.size) := HO.out.size
  have c7 : w1.cell? ⟨s, 7, none⟩ = some p.v0 := (sto_box HO1.out).cell 7 _ rfl
  have c8 : w1.cell? ⟨s, 8, none⟩ = some p.v1 := (sto_box HO1.out).cell 8 _ rfl
  obtain ⟨fb, hfb⟩ : ∃ fb, fb = w1.heap.size := ⟨_, rfl⟩
  have HFB : Hid (w.heap.size ≤ fb) := by show _ ≤ _; rw [hfb]; exact HB1.out.size
  obtain ⟨w1a, hw1a⟩ : ∃ x, x = w1.alloc (.cells #[.slice none 0 0, .slice none 0 0] 87 (0, 0)) := ⟨_, rfl⟩
  have hoa : Own B (BoxP fb 87 #[.slice none 0 0, .slice none 0 0] :: (stL s p σ ++ l)) w1a := by rw [hw1a, hfb]; exact HO1.out.alloc (sto_all HL.out) 87 _
  obtain ⟨hob, _⟩ := hoa.set (sto_all HL.out) 0 p.v0
  obtain ⟨hoc, _⟩ := hob.set (sto_all HL.out) 1 p.v1
  have k0 : w1a.cell? ⟨fb, 0, none⟩ = some (.slice none 0 0) := hoa.boxed.cell 0 _ rfl
  have f0 := hoa.boxed.free 0
  have k1 : (w1a.setCell ⟨fb, 0, none⟩ p.v0).cell? ⟨fb, 1, none⟩ = some (.slice none 0 0) := hob.boxed.cell 1 _ rfl
  have f1 := hob.boxed.free 1
  obtain ⟨⟨_, hp0⟩, _, hp1⟩ := sto_runs HO1.out
  obtain ⟨a0, n0, e0, _⟩ := hp0.slP'
  obtain ⟨a1, n1, e1, _⟩ := hp1.slP'
  have hst0 : ∀ (g : Addr) (W : World), (store g p.v0).run Tryz.prog W = stored Tryz.prog W g p.v0 .plain := fun g W => by rw [e0]; exact run_store _ W g _ _ rfl
  have hst1 : ∀ (g : Addr) (W : World), (store g p.v1).run Tryz.prog W = stored Tryz.prog W g p.v1 .plain := fun g W => by rw [e1]; exact run_store _ W g _ _ rfl
  have hcc : Chg [] w1 ((w1a.setCell ⟨fb, 0, none⟩ p.v0).setCell ⟨fb, 1, none⟩ p.v1) := by
    rw [hw1a, hfb]
    exact (((Chg.refl _ _).alloc _).set _ 0 _ (.inr (Nat.le_refl _))).set _ 1 _ (.inr (Nat.le_refl _))
  have HI0 : Hid (PoJ B s p σ l devs R w fb 0 (.slice none 0 0) [] [] ((w1a.setCell ⟨fb, 0, none⟩ p.v0).setCell ⟨fb, 1, none⟩ p.v1)) := by
    refine ⟨?_, HB1.out.trans ((hcc.below (Nat.le_refl _) (fun _ h => by cases h)).mono HB1.out.size), HRR.out, by simp, rfl, (fun _ h => by cases h), ⟨_, _, _, e0⟩, ⟨_, _, _, e1⟩⟩
    have h3 := hoc.more (.cons (fixed_box _ _ _) (sto_all HL.out)) (Below.refl _ _) (R := LcF (.slice none 0 0) []) (H := []) ⟨rfl, 0, Nat.zero_le _, Prs.nil _ _⟩ (fun _ h => by cases h)
    exact ((h3.pick [LcF (.slice none 0 0) []]).back (LcF (.slice none 0 0) [] :: stL s p σ)).back (stL s p σ)
  have hwa2 := hw1a.symm
  have hfb2 := hfb.symm
  clear hw1a hfb HM HH hb1 HO1 HB1 HRR HO hp0 hp1 e0 e1 hoa hob hoc hcc
  go_wp2_with fail
  clear hwa2 hfb2 c7 c8 hst0 hst1 k0 k1 f0 f1
  go_loopw [9, 36] (fun lv iv wr => ∃ (k : Nat) (rs : List TkR) (acc : List (Int × Int)), k ≤ devs.length ∧ iv = .int .i64 k ∧ Hid (PoJ B s p σ l devs R w fb k lv rs acc wr)) (fun _ iv _ => devs.length - (RowKit.intOf iv).toNat)
  case atStart => exact ⟨0, [], [], Nat.zero_le _, rfl, HI0⟩
  case round =>
    clear HI0
    rename_i hkk
    obtain ⟨k, rs, acc, hk, rfl, HI⟩ := hrel
    have HOW := Lib.hid HI.out.own
    have HBW := Lib.hid HI.out.bel
    have HBB := Lib.hid (HBW.out.mono HZ0.out)
    by_cases hlt : k < devs.length
    · have HTK := Lib.hid HI.out.tks
      have HSI := Lib.hid HI.out.sides
      have HLN := Lib.hid HI.out.len
      have HSV := Lib.hid HI.out.sl
      have HLV := Lib.hid HI.out.lvn
      clear HI
      obtain ⟨b, off, rfl, hbl, hc0⟩ := (HD.out.stay HBW.out).getI k hlt
      have hdrop : devs.drop k = devs[k] :: devs.drop (k + 1) := List.drop_eq_getElem_cons hlt
      have HTS : Hid (devs.take (k + 1) = devs.take k ++ [devs[k]]) := List.take_succ_eq_append_getElem hlt
      have hsd := HDS.out k hlt
      rw [hdrop] at HTK
      clear hdrop
      generalize devs[k] = side at *
      rcases hsd with rfl | rfl
      · obtain ⟨b0, lr, hp, hrl, hrw, htk⟩ := sput_take HOW.out HWF.out (side := 0) (.inl rfl)
        have hta := take_any (mayS (stV p σ) σ.d 0) lr 1 wr b0 hp hrl hrw
        have HMY := Lib.hid (smay_any (sto_box HOW.out) (sto_one HOW.out) 0 (.inl rfl))
        clear hp hrl hrw
        cases hi : tkS σ 0 with
        | none =>
          rw [htk, hi] at hta
          have HTA : Hid (Calls Tryz.prog 63 #[mayS (stV p σ) σ.d 0, .int .i64 1] wr fun e w' => ∃ v, e = .returned (.tuple #[.int .i64 0, v, .bool false]) ∧ PrsS 139 w' wr.heap.size v [] ∧ Below wr.heap.size wr w') := hta
          have HR0 : Hid (R = none) := by
            show _ = _
            rw [← HTK.out]
            unfold takesS
            rw [hi]
          clear hta htk hi HTK
          go_wp2_with fail
          refine HMY.out.mono ?_
          rintro e w3 ⟨rfl, rfl⟩
          go_wp2_with fail
          refine HTA.out.mono ?_
          rintro e w4 ⟨v, rfl, _, hb4⟩
          have HO4 := Lib.hid (HOW.out.keep (sto_all (fixed_po HL.out)) hb4)
          have HB4 := Lib.hid (HBB.out.trans (hb4.mono HOW.out.size))
          clear hb4 hc0
          go_wp2
          go_ret2
          rw [HR1.out HR0.out]
          have h9 : Own B (stL s p σ ++ l) w4 := HO4.out.subl ((List.Sublist.refl (stL s p σ)).append (.cons _ (.cons _ (List.sublist_append_right (rs.map rowX) l))))
          exact ⟨rfl, ⟨p, rfl, h9⟩, HB4.out⟩
        | some i =>
          rw [htk, hi] at hta
          have HTA : Hid (Calls Tryz.prog 63 #[mayS (stV p σ) σ.d 0, .int .i64 1] wr fun e w' => ∃ v, e = .returned (.tuple #[.int .i64 (i : Int), v, .bool true]) ∧ PrsS 139 w' wr.heap.size v (ofL ((if (0 : Int) = 0 then σ.u0 else σ.u1).set i true)) ∧ Below wr.heap.size wr w') := hta
          have HTK2 : Hid (takesS σ (devs.drop (k + 1)) (setF (poU (σ.u0, σ.u1) rs) 0 ((if (0 : Int) = 0 then σ.u0 else σ.u1).set i true)) (acc ++ [(0, (i : Int))]) = R) := by
            show _ = _
            rw [← HTK.out]
            conv => rhs; unfold takesS
            rw [hi]
          obtain ⟨nu, hnu⟩ : ∃ nu, nu = (if (0 : Int) = 0 then σ.u0 else σ.u1).set i true := ⟨_, rfl⟩
          rw [← hnu] at HTK2 HTA
          clear hta htk hi HTK hnu
          go_wp2_with fail
          refine HMY.out.mono ?_
          rintro e w3 ⟨rfl, rfl⟩
          go_wp2_with fail
          refine HTA.out.mono ?_
          rintro e w4 ⟨v, rfl, hpv, hb4⟩
          obtain ⟨av, cv, ev, _⟩ := hpv.slP'
          obtain ⟨n, hn⟩ : ∃ n, n = (ofL nu).length := ⟨_, rfl⟩
          rw [← hn] at ev
          subst ev
          clear hn
          have h1 := HOW.out.more (sto_all (fixed_po HL.out)) hb4 (R := RunF (.slice av n cv) (ofL nu)) (H := (Value.slice av n cv).ownBlock.toList) ⟨rfl, _, hpv⟩ (fun k hk => hpv.own k (by rw [Option.mem_toList] at hk; exact hk))
          have h2 := h1.back (stL s p σ ++ LcF u9 acc :: BoxP fb 87 #[(poV (p.v0, p.v1) rs).1, (poV (p.v0, p.v1) rs).2] :: rs.map rowX) (l2 := l)
          have h3 : Own B (stL s p σ ++ LcF u9 acc :: BoxP fb 87 #[(poV (p.v0, p.v1) rs).1, (poV (p.v0, p.v1) rs).2] :: ((rs ++ [(0, Value.slice av n cv, nu)]).map rowX ++ l)) w4 := by rw [List.map_append, List.append_assoc]; exact h2
          have hl3 : AllF ((stL s p σ ++ [LcF u9 acc]) ++ ((rs ++ [(0, Value.slice av n cv, nu)]).map rowX ++ l)) := ((fixed_stL s p σ).append (.cons (fixed_lc _ _) .nil)).append ((fixed_rows _).append HL.out)
          have h4 := h3.pick (stL s p σ ++ [LcF u9 acc])
          have g0 : w4.cell? ⟨fb, 0, none⟩ = some (poV (p.v0, p.v1) rs).1 := h4.boxed.cell 0 _ rfl
          have f0 := h4.boxed.free 0
          obtain ⟨h5, hb5⟩ := h4.set hl3 0 (.slice av n cv)
          have h6 : Own B (LcF u9 acc :: (BoxP fb 87 #[.slice av n cv, (poV (p.v0, p.v1) rs).2] :: stL s p σ ++ ((rs ++ [(0, Value.slice av n cv, nu)]).map rowX ++ l))) (w4.setCell ⟨fb, 0, none⟩ (.slice av n cv)) := h5.pick (BoxP fb 87 #[.slice av n cv, (poV (p.v0, p.v1) rs).2] :: stL s p σ)
          have hl6 : AllF (BoxP fb 87 #[.slice av n cv, (poV (p.v0, p.v1) rs).2] :: stL s p σ ++ ((rs ++ [(0, Value.slice av n cv, nu)]).map rowX ++ l)) := .cons (fixed_box _ _ _) ((fixed_stL s p σ).append ((fixed_rows _).append HL.out))
          have hst : ∀ (g : Addr) (W : World), (store g (.slice av n cv)).run Tryz.prog W = stored Tryz.prog W g (.slice av n cv) .plain := fun g W => run_store _ W g _ _ rfl
          have HL6 := Lib.hid hl6
          have HO6 := Lib.hid h6
          have HB4 := Lib.hid (HBW.out.trans (hb4.mono HBW.out.size))
          have hfbw : Hid (w.heap.size ≤ fb) := HFB.out
          have HB5 : Hid (Below w.heap.size w (w4.setCell ⟨fb, 0, none⟩ (.slice av n cv))) := HB4.out.setCell (by simp only; exact hfbw.out) _
          have HO6A : Hid (Own B (LcF u9 acc :: (BoxP fb 87 #[.slice av n cv, (poV (p.v0, p.v1) rs).2] :: stL s p σ ++ ((rs ++ [(0, Value.slice av n cv, nu)]).map rowX ++ l))) ((w4.setCell ⟨fb, 0, none⟩ (.slice av n cv)).alloc (.cells #[.int .i64 0, .int .i64 (i : Int)] 47 (0, 0)))) := HO6.out.keep (.cons (fixed_lc _ _) HL6.out) ((Below.refl _ _).alloc (Nat.le_refl _) _)
          have HB6A := Lib.hid (HB5.out.alloc HB5.out.size (.cells #[.int .i64 0, .int .i64 (i : Int)] 47 (0, 0)))
          have hcl := two_cellsN (w4.setCell ⟨fb, 0, none⟩ (.slice av n cv)) (.int .i64 0) (.int .i64 (i : Int)) 47
          rw [show (w4.setCell ⟨fb, 0, none⟩ (.slice av n cv)).heap.size = w4.heap.size by simp] at hcl
          clear h1 h2 h3 h4 h5 h6 hl3 hl6 hb5 hpv hb4 hfbw HTA HMY hc0
          go_wp2_with (at_builtin; refine wp_lc_push _ HL6.out HO6A.out rfl _ _ rfl rfl ⟨w4.heap.size, 0, none⟩ 1 (0, (i : Int)) rfl ?c1 (by have := HLN.out; omega) ?_)
          case c1 => exact hcl
          intro v7 w7 ho7 hv7 hc7
          have HNX : Hid (PoJ B s p σ l devs R w fb (k + 1) v7 (rs ++ [(0, Value.slice av n cv, nu)]) (acc ++ [(0, (i : Int))]) w7) := by
            refine ⟨?_, ?_, ?_, ?_, by rw [List.length_append, HLN.out]; rfl, ?_, ?_⟩
            · have h8 := (ho7.pick [LcF v7 (acc ++ [(0, (i : Int))])]).back (LcF v7 (acc ++ [(0, (i : Int))]) :: stL s p σ)
              have h9 := h8.back (stL s p σ) 
              unfold poL
              rw [poV_snoc, List.map_append, List.append_assoc]
              exact h9
            · refine HB6A.out.trans (hc7.below HB6A.out.size fun k hk => ?_)
              rw [Option.mem_toList] at hk
              exact HLV.out k hk
            · rw [poU_snoc]; exact HTK2.out
            · rw [List.map_append, HSI.out, HTS.out]; rfl
            · intro j hj
              rcases hv7 with e | e
              · exact HLV.out j (by rw [← e]; exact hj)
              · rw [e] at hj
                injection hj with hj
                have h9 := HB4.out.size
                omega
            · rw [poV_snoc]; first | exact ⟨⟨_, _, _, rfl⟩, HSV.out.2⟩ | exact ⟨HSV.out.1, ⟨_, _, _, rfl⟩⟩
          clear ho7 hc7 hv7 HO6 HO6A HB5 HB6A HL6 hcl hst g0 f0 HTK2 HOW HBW
          go_wp2
          go_roundw
          case rel => exact ⟨k + 1, _, _, by omega, by go_num, HNX⟩
          case measure => simp [RowKit.intOf]; omega
      · obtain ⟨b0, lr, hp, hrl, hrw, htk⟩ := sput_take HOW.out HWF.out (side := 1) (.inr rfl)
        have hta := take_any (mayS (stV p σ) σ.d 1) lr 1 wr b0 hp hrl hrw
        have HMY := Lib.hid (smay_any (sto_box HOW.out) (sto_one HOW.out) 1 (.inr rfl))
        clear hp hrl hrw
        cases hi : tkS σ 1 with
        | none =>
          rw [htk, hi] at hta
          have HTA : Hid (Calls Tryz.prog 63 #[mayS (stV p σ) σ.d 1, .int .i64 1] wr fun e w' => ∃ v, e = .returned (.tuple #[.int .i64 0, v, .bool false]) ∧ PrsS 139 w' wr.heap.size v [] ∧ Below wr.heap.size wr w') := hta
          have HR0 : Hid (R = none) := by
            show _ = _
            rw [← HTK.out]
            unfold takesS
            rw [hi]
          clear hta htk hi HTK
          go_wp2_with fail
          refine HMY.out.mono ?_
          rintro e w3 ⟨rfl, rfl⟩
          go_wp2_with fail
          refine HTA.out.mono ?_
          rintro e w4 ⟨v, rfl, _, hb4⟩
          have HO4 := Lib.hid (HOW.out.keep (sto_all (fixed_po HL.out)) hb4)
          have HB4 := Lib.hid (HBB.out.trans (hb4.mono HOW.out.size))
          clear hb4 hc0
          go_wp2
          go_ret2
          rw [HR1.out HR0.out]
          have h9 : Own B (stL s p σ ++ l) w4 := HO4.out.subl ((List.Sublist.refl (stL s p σ)).append (.cons _ (.cons _ (List.sublist_append_right (rs.map rowX) l))))
          exact ⟨rfl, ⟨p, rfl, h9⟩, HB4.out⟩
        | some i =>
          rw [htk, hi] at hta
          have HTA : Hid (Calls Tryz.prog 63 #[mayS (stV p σ) σ.d 1, .int .i64 1] wr fun e w' => ∃ v, e = .returned (.tuple #[.int .i64 (i : Int), v, .bool true]) ∧ PrsS 139 w' wr.heap.size v (ofL ((if (1 : Int) = 0 then σ.u0 else σ.u1).set i true)) ∧ Below wr.heap.size wr w') := hta
          have HTK2 : Hid (takesS σ (devs.drop (k + 1)) (setF (poU (σ.u0, σ.u1) rs) 1 ((if (1 : Int) = 0 then σ.u0 else σ.u1).set i true)) (acc ++ [(1, (i : Int))]) = R) := by
            show _ = _
            rw [← HTK.out]
            conv => rhs; unfold takesS
            rw [hi]
          obtain ⟨nu, hnu⟩ : ∃ nu, nu = (if (1 : Int) = 0 then σ.u0 else σ.u1).set i true := ⟨_, rfl⟩
          rw [← hnu] at HTK2 HTA
          clear hta htk hi HTK hnu
          go_wp2_with fail
          refine HMY.out.mono ?_
          rintro e w3 ⟨rfl, rfl⟩
          go_wp2_with fail
          refine HTA.out.mono ?_
          rintro e w4 ⟨v, rfl, hpv, hb4⟩
          obtain ⟨av, cv, ev, _⟩ := hpv.slP'
          obtain ⟨n, hn⟩ : ∃ n, n = (ofL nu).length := ⟨_, rfl⟩
          rw [← hn] at ev
          subst ev
          clear hn
          have h1 := HOW.out.more (sto_all (fixed_po HL.out)) hb4 (R := RunF (.slice av n cv) (ofL nu)) (H := (Value.slice av n cv).ownBlock.toList) ⟨rfl, _, hpv⟩ (fun k hk => hpv.own k (by rw [Option.mem_toList] at hk; exact hk))
          have h2 := h1.back (stL s p σ ++ LcF u9 acc :: BoxP fb 87 #[(poV (p.v0, p.v1) rs).1, (poV (p.v0, p.v1) rs).2] :: rs.map rowX) (l2 := l)
          have h3 : Own B (stL s p σ ++ LcF u9 acc :: BoxP fb 87 #[(poV (p.v0, p.v1) rs).1, (poV (p.v0, p.v1) rs).2] :: ((rs ++ [(1, Value.slice av n cv, nu)]).map rowX ++ l)) w4 := by rw [List.map_append, List.append_assoc]; exact h2
          have hl3 : AllF ((stL s p σ ++ [LcF u9 acc]) ++ ((rs ++ [(1, Value.slice av n cv, nu)]).map rowX ++ l)) := ((fixed_stL s p σ).append (.cons (fixed_lc _ _) .nil)).append ((fixed_rows _).append HL.out)
          have h4 := h3.pick (stL s p σ ++ [LcF u9 acc])
          have g0 : w4.cell? ⟨fb, 1, none⟩ = some (poV (p.v0, p.v1) rs).2 := h4.boxed.cell 1 _ rfl
          have f0 := h4.boxed.free 1
          obtain ⟨h5, hb5⟩ := h4.set hl3 1 (.slice av n cv)
          have h6 : Own B (LcF u9 acc :: (BoxP fb 87 #[(poV (p.v0, p.v1) rs).1, .slice av n cv] :: stL s p σ ++ ((rs ++ [(1, Value.slice av n cv, nu)]).map rowX ++ l))) (w4.setCell ⟨fb, 1, none⟩ (.slice av n cv)) := h5.pick (BoxP fb 87 #[(poV (p.v0, p.v1) rs).1, .slice av n cv] :: stL s p σ)
          have hl6 : AllF (BoxP fb 87 #[(poV (p.v0, p.v1) rs).1, .slice av n cv] :: stL s p σ ++ ((rs ++ [(1, Value.slice av n cv, nu)]).map rowX ++ l)) := .cons (fixed_box _ _ _) ((fixed_stL s p σ).append ((fixed_rows _).append HL.out))
          have hst : ∀ (g : Addr) (W : World), (store g (.slice av n cv)).run Tryz.prog W = stored Tryz.prog W g (.slice av n cv) .plain := fun g W => run_store _ W g _ _ rfl
          have HL6 := Lib.hid hl6
          have HO6 := Lib.hid h6
          have HB4 := Lib.hid (HBW.out.trans (hb4.mono HBW.out.size))
          have hfbw : Hid (w.heap.size ≤ fb) := HFB.out
          have HB5 : Hid (Below w.heap.size w (w4.setCell ⟨fb, 1, none⟩ (.slice av n cv))) := HB4.out.setCell (by simp only; exact hfbw.out) _
          have HO6A : Hid (Own B (LcF u9 acc :: (BoxP fb 87 #[(poV (p.v0, p.v1) rs).1, .slice av n cv] :: stL s p σ ++ ((rs ++ [(1, Value.slice av n cv, nu)]).map rowX ++ l))) ((w4.setCell ⟨fb, 1, none⟩ (.slice av n cv)).alloc (.cells #[.int .i64 1, .int .i64 (i : Int)] 47 (0, 0)))) := HO6.out.keep (.cons (fixed_lc _ _) HL6.out) ((Below.refl _ _).alloc (Nat.le_refl _) _)
          have HB6A := Lib.hid (HB5.out.alloc HB5.out.size (.cells #[.int .i64 1, .int .i64 (i : Int)] 47 (0, 0)))
          have hcl := two_cellsN (w4.setCell ⟨fb, 1, none⟩ (.slice av n cv)) (.int .i64 1) (.int .i64 (i : Int)) 47
          rw [show (w4.setCell ⟨fb, 1, none⟩ (.slice av n cv)).heap.size = w4.heap.size by simp] at hcl
          clear h1 h2 h3 h4 h5 h6 hl3 hl6 hb5 hpv hb4 hfbw HTA HMY hc0
          go_wp2_with (at_builtin; refine wp_lc_push _ HL6.out HO6A.out rfl _ _ rfl rfl ⟨w4.heap.size, 0, none⟩ 1 (1, (i : Int)) rfl ?c1 (by have := HLN.out; omega) ?_)
          case c1 => exact hcl
          intro v7 w7 ho7 hv7 hc7
          have HNX : Hid (PoJ B s p σ l devs R w fb (k + 1) v7 (rs ++ [(1, Value.slice av n cv, nu)]) (acc ++ [(1, (i : Int))]) w7) := by
            refine ⟨?_, ?_, ?_, ?_, by rw [List.length_append, HLN.out]; rfl, ?_, ?_⟩
            · have h8 := (ho7.pick [LcF v7 (acc ++ [(1, (i : Int))])]).back (LcF v7 (acc ++ [(1, (i : Int))]) :: stL s p σ)
              have h9 := h8.back (stL s p σ) 
              unfold poL
              rw [poV_snoc, List.map_append, List.append_assoc]
              exact h9
            · refine HB6A.out.trans (hc7.below HB6A.out.size fun k hk => ?_)
              rw [Option.mem_toList] at hk
              exact HLV.out k hk
            · rw [poU_snoc]; exact HTK2.out
            · rw [List.map_append, HSI.out, HTS.out]; rfl
            · intro j hj
              rcases hv7 with e | e
              · exact HLV.out j (by rw [← e]; exact hj)
              · rw [e] at hj
                injection hj with hj
                have h9 := HB4.out.size
                omega
            · rw [poV_snoc]; first | exact ⟨⟨_, _, _, rfl⟩, HSV.out.2⟩ | exact ⟨HSV.out.1, ⟨_, _, _, rfl⟩⟩
          clear ho7 hc7 hv7 HO6 HO6A HB5 HB6A HL6 hcl hst g0 f0 HTK2 HOW HBW
          go_wp2
          go_roundw
          case rel => exact ⟨k + 1, _, _, by omega, by go_num, HNX⟩
          case measure => simp [RowKit.intOf]; omega
    · have hkl : k = devs.length := by omega
      have HRS : Hid (R = some (poU (σ.u0, σ.u1) rs, acc)) := by
        show _ = _
        rw [← HI.out.tks, hkl, List.drop_length]
        rfl
      obtain ⟨hz9, hg1, hg2, hg3⟩ := HR2.out _ _ HRS.out
      have HZZ := Lib.hid hz9
      have HGD := Lib.hid (And.intro hg1 (And.intro hg2 hg3))
      have HSI : Hid (rs.map (·.1) = devs) := by show _ = _; rw [HI.out.sides, hkl, List.take_length]
      have HAL : Hid (acc.length ≤ 2) := by show _ ≤ _; rw [HI.out.len]; omega
      obtain ⟨⟨xa, xn, xc, ex⟩, ya, yn, yc, ey⟩ := HI.out.sl
      have hst0 : ∀ (g : Addr) (W : World), (store g (poV (p.v0, p.v1) rs).1).run Tryz.prog W = stored Tryz.prog W g (poV (p.v0, p.v1) rs).1 .plain := fun g W => by rw [ex]; exact run_store _ W g _ _ rfl
      have hst1 : ∀ (g : Addr) (W : World), (store g (poV (p.v0, p.v1) rs).2).run Tryz.prog W = stored Tryz.prog W g (poV (p.v0, p.v1) rs).2 .plain := fun g W => by rw [ey]; exact run_store _ W g _ _ rfl
      obtain ⟨F, ⟨_, base, _, hpr⟩, _⟩ := (HOW.out.pick (stL s p σ)).fst
      obtain ⟨la, lc, elv, hsl⟩ := hpr.view
      subst elv
      have HOD := Lib.hid (HOW.out.drew (sto_all (fixed_po HL.out)))
      have HBD : Hid (Below B w wr.drew) := HBB.out.drew
      have HSD : Hid (SlP wr.drew la acc) := hsl.keep (Below.refl _ _).drew
      have HWR : Hid (∀ l' W', AllF l' → Own B (stL s p σ ++ l') W' → Below B w W' → SlP W' la acc → Calls Tryz.prog 64 #[.pointer (some ⟨p.db, 0, none⟩), .slice la acc.length lc, .string t, .int .i64 σ.txg] W' fun e w' => ∃ a' c', e = .returned (.tuple #[ptrV a' c' (wrP acc t σ.txg), .int .i64 0]) ∧ Own B (stL s p { σ with d := wrB σ.d acc t } ++ LocP a' acc :: l') w' ∧ Below B W' w') := fun l' W' hl' ho' hb' hs' => swrite_own hl' ho' HWF.out (by have := HFE.out; omega) (HK.out.below hb' HBP.out) HBP.out HAL.out rfl hs' HT.out HGD.out
      have c0 : wr.drew.cell? ⟨s, 0, none⟩ = some (.pointer (some ⟨p.db, 0, none⟩)) := (sto_box HOD.out).cell 0 _ rfl
      have c6 : wr.drew.cell? ⟨s, 6, none⟩ = some (.int .i64 σ.txg) := (sto_box HOD.out).cell 6 _ rfl
      have HLP := Lib.hid (fixed_po (lv := .slice la acc.length lc) (acc := acc) (fb := fb) (v := (p.v0, p.v1)) (rs := rs) HL.out)
      obtain ⟨d', hd'⟩ : ∃ d', d' = wrB σ.d acc t := ⟨_, rfl⟩
      obtain ⟨n, hn⟩ : ∃ n, n = acc.length := ⟨_, rfl⟩
      have HNN := Lib.hid hn
      rw [← hd', ← hn] at HWR
      rw [← hn] at HLP HOD
      rw [← hd'] at HZZ
      rw [← hn]
      clear hz9 hg1 hg2 hg3 ex ey hpr hsl HI HOW HBW HBB HR2 hd' hn
      have HWR : Hid (∀ l' W', AllF l' → Own B (stL s p σ ++ l') W' → Below B w W' → SlP W' la acc → Calls Tryz.prog 64 #[.pointer (some ⟨p.db, 0, none⟩), .slice la n lc, .string t, .int .i64 σ.txg] W' fun e w' => ∃ a' c', e = .returned (.tuple #[.agg #[.slice a' n c', .int .i64 (t.size : Int), .int .i64 σ.txg, .string (sha t)], .int .i64 0]) ∧ Own B (stL s p { σ with d := d' } ++ LocP a' acc :: l') w' ∧ Below B W' w') := by
        intro l' W' h1 h2 h3 h4
        have h5 := HWR.out l' W' h1 h2 h3 h4
        unfold ptrV at h5
        rw [show (wrP acc t σ.txg).locs.length = n from HNN.out.symm] at h5
        exact h5
      go_wp2_with fail
      refine wp_region_tree (fun W => W.cell? ⟨s, 0, none⟩ = some (.pointer (some ⟨p.db, 0, none⟩)) ∧ W.cell? ⟨s, 6, none⟩ = some (.int .i64 σ.txg)) 16 (.quiet 0 (.quiet 1 (.quiet 2 (.quiet 3 (.quiet 4 (.quiet 5 (.quiet 6 (.quiet 7 (.quiet 8 (.quiet 9 (.two 10 14 (.quiet 11 (.quiet 12 (.quiet 13 (.make 14 (.make 15 .nil))))) (.make 10 (.quiet 11 (.quiet 12 (.quiet 13 (.make 15 .nil)))))))))))))))) (by kernel_rfl) (by kernel_rfl) ⟨c0, c6⟩ ?_
      simp only [List.drop_succ_cons, List.drop_zero]
      iterate 10 (apply wpTr_step rfl; (intro W hS K hK; obtain ⟨y0, y1⟩ := hS; go_simp; exact hK _ rfl))
      clear c0 c6
      refine wpTr_two rfl rfl (fun K' hK => ?_) (fun K' hK => ?_)
      · go_simp
        refine (HWR.out _ _ HLP.out HOD.out HBD.out HSD.out).mono ?_
        rintro e w6 ⟨a', c', rfl, ho6, hb6⟩
        have HO6 := Lib.hid ho6
        have HB6 := Lib.hid (HBD.out.trans hb6)
        refine hK _ _ _ (fun _ h => h) ⟨(sto_box ho6).cell 0 _ rfl, (sto_box ho6).cell 6 _ rfl⟩ ?_
        clear hK K' ho6 hb6 HWR HOD HBD HSD
        iterate 3 (apply wpTr_step rfl; (intro W hS K hK; go_simp; exact hK _ rfl))
        refine wpTr_make rfl (fun K' hK => ?_)
        go_simp
        have HOZ : Hid (Own B (BoxP w6.heap.size 37 #[.slice none 0 0, .int .i64 0, .int .i64 0, .string ⟨#[]⟩] :: (stL s p { σ with d := d' } ++ LocP a' acc :: poL (.slice la n lc) acc fb (p.v0, p.v1) rs l)) (w6.alloc (.cells #[.slice none 0 0, .int .i64 0, .int .i64 0, .string ⟨#[]⟩] 37 (0, 0)))) := HO6.out.alloc ((fixed_stL _ _ _).append (.cons (fixed_loc _ _) HLP.out)) 37 _
        have hbz := HOZ.out.pick [BoxP w6.heap.size 37 #[.slice none 0 0, .int .i64 0, .int .i64 0, .string ⟨#[]⟩]]
        refine hK _ _ _ (fun _ h => h) ⟨hbz.boxed.cell 0 _ rfl, hbz.boxed.cell 6 _ rfl⟩ ?_
        clear hK K' HOZ hbz
        have HOA : Hid (Own B (BoxP w6.heap.size 37 #[.slice a' n c', .int .i64 (t.size : Int), .int .i64 σ.txg, .string (sha t)] :: (stL s p { σ with d := d' } ++ LocP a' acc :: poL (.slice la n lc) acc fb (p.v0, p.v1) rs l)) (w6.alloc (.cells #[.slice a' n c', .int .i64 (t.size : Int), .int .i64 σ.txg, .string (sha t)] 37 (0, 0)))) := HO6.out.alloc ((fixed_stL _ _ _).append (.cons (fixed_loc _ _) HLP.out)) 37 _
        have HB9 : Hid (Below B w (w6.alloc (.cells #[.slice a' n c', .int .i64 (t.size : Int), .int .i64 σ.txg, .string (sha t)] 37 (0, 0)))) := HB6.out.alloc HO6.out.size _
        have HF9 : Hid (Own B (stL s p { σ with d := d' } ++ LocP a' acc :: BoxP w6.heap.size 37 #[.slice a' n c', .int .i64 (t.size : Int), .int .i64 σ.txg, .string (sha t)] :: poL (.slice la n lc) acc fb (p.v0, p.v1) rs l) (w6.alloc (.cells #[.slice a' n c', .int .i64 (t.size : Int), .int .i64 σ.txg, .string (sha t)] 37 (0, 0)))) := HOA.out.back (stL s p { σ with d := d' } ++ [LocP a' acc])
        clear HO6 HB6 HOA
        refine wpTr_make rfl (fun K' hK => ?_)
        go_simp
        refine hK _ _ _ (fun _ h => h) ⟨(sto_box HF9.out).cell 0 _ rfl, (sto_box HF9.out).cell 6 _ rfl⟩ ?_
        clear hK K'
        refine wpTr_nil ?_
        obtain ⟨g, hg⟩ : ∃ g, g = w6.heap.size := ⟨_, rfl⟩
        obtain ⟨W9, hW9⟩ : ∃ W9, W9 = w6.alloc (.cells #[.slice a' n c', .int .i64 (t.size : Int), .int .i64 σ.txg, .string (sha t)] 37 (0, 0)) := ⟨_, rfl⟩
        rw [← hW9] at HF9 HB9 ⊢
        rw [← hg] at HF9 ⊢
        clear hW9 hg
        have g0 : W9.cell? ⟨fb, 0, none⟩ = some (poV (p.v0, p.v1) rs).1 := ((HF9.out.pick (stL s p { σ with d := d' } ++ [LocP a' acc, BoxP g 37 #[.slice a' n c', .int .i64 (t.size : Int), .int .i64 σ.txg, .string (sha t)], LcF (.slice la n lc) acc])).boxed).cell 0 _ rfl
        have g1 : W9.cell? ⟨fb, 1, none⟩ = some (poV (p.v0, p.v1) rs).2 := ((HF9.out.pick (stL s p { σ with d := d' } ++ [LocP a' acc, BoxP g 37 #[.slice a' n c', .int .i64 (t.size : Int), .int .i64 σ.txg, .string (sha t)], LcF (.slice la n lc) acc])).boxed).cell 1 _ rfl
        have c7 : W9.cell? ⟨s, 7, none⟩ = some p.v0 := (sto_box HF9.out).cell 7 _ rfl
        have c8 : (W9.setCell ⟨s, 7, none⟩ (poV (p.v0, p.v1) rs).1).cell? ⟨s, 8, none⟩ = some p.v1 := ((sto_box HF9.out).set 7 _).cell 8 _ rfl
        have f7 := (sto_box HF9.out).free 7
        have f8 := ((sto_box HF9.out).set 7 (poV (p.v0, p.v1) rs).1).free 8
        obtain ⟨ho11, hb11, hx11⟩ := sput_done HHO.out HL.out HSI.out HF9.out
        have q0 : ((W9.setCell ⟨s, 7, none⟩ (poV (p.v0, p.v1) rs).1).setCell ⟨s, 8, none⟩ (poV (p.v0, p.v1) rs).2).cell? ⟨g, 0, none⟩ = some (.slice a' n c') := hx11.cell 0 _ rfl
        have q1 : ((W9.setCell ⟨s, 7, none⟩ (poV (p.v0, p.v1) rs).1).setCell ⟨s, 8, none⟩ (poV (p.v0, p.v1) rs).2).cell? ⟨g, 1, none⟩ = some (.int .i64 (t.size : Int)) := hx11.cell 1 _ rfl
        have q2 : ((W9.setCell ⟨s, 7, none⟩ (poV (p.v0, p.v1) rs).1).setCell ⟨s, 8, none⟩ (poV (p.v0, p.v1) rs).2).cell? ⟨g, 2, none⟩ = some (.int .i64 σ.txg) := hx11.cell 2 _ rfl
        have q3 : ((W9.setCell ⟨s, 7, none⟩ (poV (p.v0, p.v1) rs).1).setCell ⟨s, 8, none⟩ (poV (p.v0, p.v1) rs).2).cell? ⟨g, 3, none⟩ = some (.string (sha t)) := hx11.cell 3 _ rfl
        have HO11 := Lib.hid ho11
        have HB11 := Lib.hid (HB9.out.trans hb11)
        have HEN : Hid (Calls Tryz.prog 65 #[.agg #[.slice a' n c', .int .i64 (t.size : Int), .int .i64 σ.txg, .string (sha t)]] ((W9.setCell ⟨s, 7, none⟩ (poV (p.v0, p.v1) rs).1).setCell ⟨s, 8, none⟩ (poV (p.v0, p.v1) rs).2) fun e w' => e = .returned (.tuple #[.string (encB (wrP acc t σ.txg)), .int .i64 0]) ∧ Below ((W9.setCell ⟨s, 7, none⟩ (poV (p.v0, p.v1) rs).1).setCell ⟨s, 8, none⟩ (poV (p.v0, p.v1) rs).2).heap.size ((W9.setCell ⟨s, 7, none⟩ (poV (p.v0, p.v1) rs).1).setCell ⟨s, 8, none⟩ (poV (p.v0, p.v1) rs).2) w') := by
          have h5 := encode_any a' c' (wrP acc t σ.txg) ((W9.setCell ⟨s, 7, none⟩ (poV (p.v0, p.v1) rs).1).setCell ⟨s, 8, none⟩ (poV (p.v0, p.v1) rs).2) (by
            obtain ⟨F9, h9, _⟩ := (ho11.pick (stL s { p with v0 := (poV (p.v0, p.v1) rs).1, v1 := (poV (p.v0, p.v1) rs).2 } { σ with d := d', u0 := (poU (σ.u0, σ.u1) rs).1, u1 := (poU (σ.u0, σ.u1) rs).2 })).fst
            exact loc_sl h9) (by have := HAL.out; show acc.length ≤ 1000; omega)
          rw [if_neg HGD.out.1, show chkP (wrP acc t σ.txg) = 0 from if_neg HGD.out.1] at h5
          unfold ptrV at h5
          rw [show (wrP acc t σ.txg).locs.length = n from HNN.out.symm] at h5
          exact h5
        clear ho11 hb11 hx11 HF9
        go_wp2_with fail
        refine HEN.out.mono ?_
        rintro e w12 ⟨rfl, hb12⟩
        have HO12 := Lib.hid ((HO11.out.pick (stL s { p with v0 := (poV (p.v0, p.v1) rs).1, v1 := (poV (p.v0, p.v1) rs).2 } { σ with d := d', u0 := (poU (σ.u0, σ.u1) rs).1, u1 := (poU (σ.u0, σ.u1) rs).2 })).weak.keep (sto_all HL.out) hb12)
        have HB12 := Lib.hid (HB11.out.trans (hb12.mono HO11.out.size))
        clear hb12 HEN g0 g1 c7 c8 f7 f8 q0 q1 q2 q3
        go_wp2
        go_ret2
        rw [HZZ.out]
        exact ⟨rfl, ⟨{ p with v0 := (poV (p.v0, p.v1) rs).1, v1 := (poV (p.v0, p.v1) rs).2 }, rfl, HO12.out⟩, HB12.out⟩
      · go_simp
        have HOZ : Hid (Own B (stL s p σ ++ BoxP wr.heap.size 37 #[.slice none 0 0, .int .i64 0, .int .i64 0, .string ⟨#[]⟩] :: poL (.slice la n lc) acc fb (p.v0, p.v1) rs l) (wr.alloc (.cells #[.slice none 0 0, .int .i64 0, .int .i64 0, .string ⟨#[]⟩] 37 (0, 0))).drew) := (HOD.out.alloc ((fixed_stL _ _ _).append HLP.out) 37 #[.slice none 0 0, .int .i64 0, .int .i64 0, .string ⟨#[]⟩]).back (stL s p σ)
        have HBZ : Hid (Below B w (wr.alloc (.cells #[.slice none 0 0, .int .i64 0, .int .i64 0, .string ⟨#[]⟩] 37 (0, 0))).drew) := HBD.out.alloc HOD.out.size (.cells #[.slice none 0 0, .int .i64 0, .int .i64 0, .string ⟨#[]⟩] 37 (0, 0))
        have HSZ : Hid (SlP (wr.alloc (.cells #[.slice none 0 0, .int .i64 0, .int .i64 0, .string ⟨#[]⟩] 37 (0, 0))).drew la acc) := HSD.out.keep ((Below.refl wr.drew.heap.size wr.drew).alloc (Nat.le_refl _) (.cells #[.slice none 0 0, .int .i64 0, .int .i64 0, .string ⟨#[]⟩] 37 (0, 0)))
        refine hK _ _ _ (fun _ h => h) ⟨(sto_box HOZ.out).cell 0 _ rfl, (sto_box HOZ.out).cell 6 _ rfl⟩ ?_
        clear hK K'
        refine wpTr_make rfl (fun K' hK => ?_)
        go_simp
        refine (HWR.out _ _ (.cons (fixed_box _ _ _) HLP.out) HOZ.out HBZ.out HSZ.out).mono ?_
        rintro e w6 ⟨a', c', rfl, ho6, hb6⟩
        have HBA := Lib.hid (HBZ.out.trans hb6)
        have HOA : Hid (Own B (BoxP wr.heap.size 37 #[.slice none 0 0, .int .i64 0, .int .i64 0, .string ⟨#[]⟩] :: (stL s p { σ with d := d' } ++ LocP a' acc :: poL (.slice la n lc) acc fb (p.v0, p.v1) rs l)) w6) := ho6.pick (stL s p { σ with d := d' } ++ [LocP a' acc])
        refine hK _ _ _ (fun _ h => h) ⟨(sto_box ho6).cell 0 _ rfl, (sto_box ho6).cell 6 _ rfl⟩ ?_
        clear hK K' ho6 hb6 HWR HOD HBD HSD HOZ HBZ HSZ
        iterate 3 (apply wpTr_step rfl; (intro W hS K hK; go_simp; exact hK _ rfl))
        have HLQ : Hid (AllF (stL s p { σ with d := d' } ++ LocP a' acc :: poL (.slice la n lc) acc fb (p.v0, p.v1) rs l)) := (fixed_stL _ _ _).append (.cons (fixed_loc _ _) (fixed_po HL.out))
        have k0 : w6.cell? ⟨wr.heap.size, 0, none⟩ = some (.slice none 0 0) := HOA.out.boxed.cell 0 _ rfl
        have f0 := HOA.out.boxed.free 0
        have k1 : (w6.setCell ⟨wr.heap.size, 0, none⟩ (.slice a' n c')).cell? ⟨wr.heap.size, 1, none⟩ = some (.int .i64 0) := (HOA.out.boxed.set 0 _).cell 1 _ rfl
        have f1 := (HOA.out.boxed.set 0 (.slice a' n c')).free 1
        have k2 : ((w6.setCell ⟨wr.heap.size, 0, none⟩ (.slice a' n c')).setCell ⟨wr.heap.size, 1, none⟩ (.int .i64 (t.size : Int))).cell? ⟨wr.heap.size, 2, none⟩ = some (.int .i64 0) := ((HOA.out.boxed.set 0 _).set 1 _).cell 2 _ rfl
        have f2 := ((HOA.out.boxed.set 0 (.slice a' n c')).set 1 (.int .i64 (t.size : Int))).free 2
        have k3 : (((w6.setCell ⟨wr.heap.size, 0, none⟩ (.slice a' n c')).setCell ⟨wr.heap.size, 1, none⟩ (.int .i64 (t.size : Int))).setCell ⟨wr.heap.size, 2, none⟩ (.int .i64 σ.txg)).cell? ⟨wr.heap.size, 3, none⟩ = some (.string ⟨#[]⟩) := (((HOA.out.boxed.set 0 _).set 1 _).set 2 _).cell 3 _ rfl
        have f3 := (((HOA.out.boxed.set 0 (.slice a' n c')).set 1 (.int .i64 (t.size : Int))).set 2 (.int .i64 σ.txg)).free 3
        obtain ⟨ho9, hb9⟩ := own_ptr HLQ.out HOA.out (.slice a' n c') (.int .i64 (t.size : Int)) (.int .i64 σ.txg) (.string (sha t))
        have HB9 := Lib.hid (HBA.out.trans hb9)
        have HF9 : Hid (Own B (stL s p { σ with d := d' } ++ LocP a' acc :: BoxP (wr.heap.size) 37 #[.slice a' n c', .int .i64 (t.size : Int), .int .i64 σ.txg, .string (sha t)] :: poL (.slice la n lc) acc fb (p.v0, p.v1) rs l) ((((w6.setCell ⟨wr.heap.size, 0, none⟩ (.slice a' n c')).setCell ⟨wr.heap.size, 1, none⟩ (.int .i64 (t.size : Int))).setCell ⟨wr.heap.size, 2, none⟩ (.int .i64 σ.txg)).setCell ⟨wr.heap.size, 3, none⟩ (.string (sha t)))) := ho9.back (stL s p { σ with d := d' } ++ [LocP a' acc])
        clear ho9 hb9
        refine wpTr_make rfl (fun K' hK => ?_)
        go_simp
        refine hK _ _ _ (fun _ h => h) ⟨(sto_box HF9.out).cell 0 _ rfl, (sto_box HF9.out).cell 6 _ rfl⟩ ?_
        clear hK K' k0 k1 k2 k3 f0 f1 f2 f3 HOA HBA
        refine wpTr_nil ?_
        obtain ⟨g, hg⟩ : ∃ g, g = wr.heap.size := ⟨_, rfl⟩
        obtain ⟨W9, hW9⟩ : ∃ W9, W9 = (((w6.setCell ⟨wr.heap.size, 0, none⟩ (.slice a' n c')).setCell ⟨wr.heap.size, 1, none⟩ (.int .i64 (t.size : Int))).setCell ⟨wr.heap.size, 2, none⟩ (.int .i64 σ.txg)).setCell ⟨wr.heap.size, 3, none⟩ (.string (sha t)) := ⟨_, rfl⟩
        rw [← hW9] at HF9 HB9 ⊢
        rw [← hg] at HF9 ⊢
        clear hW9 hg
        have g0 : W9.cell? ⟨fb, 0, none⟩ = some (poV (p.v0, p.v1) rs).1 := ((HF9.out.pick (stL s p { σ with d := d' } ++ [LocP a' acc, BoxP g 37 #[.slice a' n c', .int .i64 (t.size : Int), .int .i64 σ.txg, .string (sha t)], LcF (.slice la n lc) acc])).boxed).cell 0 _ rfl
        have g1 : W9.cell? ⟨fb, 1, none⟩ = some (poV (p.v0, p.v1) rs).2 := ((HF9.out.pick (stL s p { σ with d := d' } ++ [LocP a' acc, BoxP g 37 #[.slice a' n c', .int .i64 (t.size : Int), .int .i64 σ.txg, .string (sha t)], LcF (.slice la n lc) acc])).boxed).cell 1 _ rfl
        have c7 : W9.cell? ⟨s, 7, none⟩ = some p.v0 := (sto_box HF9.out).cell 7 _ rfl
        have c8 : (W9.setCell ⟨s, 7, none⟩ (poV (p.v0, p.v1) rs).1).cell? ⟨s, 8, none⟩ = some p.v1 := ((sto_box HF9.out).set 7 _).cell 8 _ rfl
        have f7 := (sto_box HF9.out).free 7
        have f8 := ((sto_box HF9.out).set 7 (poV (p.v0, p.v1) rs).1).free 8
        obtain ⟨ho11, hb11, hx11⟩ := sput_done HHO.out HL.out HSI.out HF9.out
        have q0 : ((W9.setCell ⟨s, 7, none⟩ (poV (p.v0, p.v1) rs).1).setCell ⟨s, 8, none⟩ (poV (p.v0, p.v1) rs).2).cell? ⟨g, 0, none⟩ = some (.slice a' n c') := hx11.cell 0 _ rfl
        have q1 : ((W9.setCell ⟨s, 7, none⟩ (poV (p.v0, p.v1) rs).1).setCell ⟨s, 8, none⟩ (poV (p.v0, p.v1) rs).2).cell? ⟨g, 1, none⟩ = some (.int .i64 (t.size : Int)) := hx11.cell 1 _ rfl
        have q2 : ((W9.setCell ⟨s, 7, none⟩ (poV (p.v0, p.v1) rs).1).setCell ⟨s, 8, none⟩ (poV (p.v0, p.v1) rs).2).cell? ⟨g, 2, none⟩ = some (.int .i64 σ.txg) := hx11.cell 2 _ rfl
        have q3 : ((W9.setCell ⟨s, 7, none⟩ (poV (p.v0, p.v1) rs).1).setCell ⟨s, 8, none⟩ (poV (p.v0, p.v1) rs).2).cell? ⟨g, 3, none⟩ = some (.string (sha t)) := hx11.cell 3 _ rfl
        have HO11 := Lib.hid ho11
        have HB11 := Lib.hid (HB9.out.trans hb11)
        have HEN : Hid (Calls Tryz.prog 65 #[.agg #[.slice a' n c', .int .i64 (t.size : Int), .int .i64 σ.txg, .string (sha t)]] ((W9.setCell ⟨s, 7, none⟩ (poV (p.v0, p.v1) rs).1).setCell ⟨s, 8, none⟩ (poV (p.v0, p.v1) rs).2) fun e w' => e = .returned (.tuple #[.string (encB (wrP acc t σ.txg)), .int .i64 0]) ∧ Below ((W9.setCell ⟨s, 7, none⟩ (poV (p.v0, p.v1) rs).1).setCell ⟨s, 8, none⟩ (poV (p.v0, p.v1) rs).2).heap.size ((W9.setCell ⟨s, 7, none⟩ (poV (p.v0, p.v1) rs).1).setCell ⟨s, 8, none⟩ (poV (p.v0, p.v1) rs).2) w') := by
          have h5 := encode_any a' c' (wrP acc t σ.txg) ((W9.setCell ⟨s, 7, none⟩ (poV (p.v0, p.v1) rs).1).setCell ⟨s, 8, none⟩ (poV (p.v0, p.v1) rs).2) (by
            obtain ⟨F9, h9, _⟩ := (ho11.pick (stL s { p with v0 := (poV (p.v0, p.v1) rs).1, v1 := (poV (p.v0, p.v1) rs).2 } { σ with d := d', u0 := (poU (σ.u0, σ.u1) rs).1, u1 := (poU (σ.u0, σ.u1) rs).2 })).fst
            exact loc_sl h9) (by have := HAL.out; show acc.length ≤ 1000; omega)
          rw [if_neg HGD.out.1, show chkP (wrP acc t σ.txg) = 0 from if_neg HGD.out.1] at h5
          unfold ptrV at h5
          rw [show (wrP acc t σ.txg).locs.length = n from HNN.out.symm] at h5
          exact h5
        clear ho11 hb11 hx11 HF9
        go_wp2_with fail
        refine HEN.out.mono ?_
        rintro e w12 ⟨rfl, hb12⟩
        have HO12 := Lib.hid ((HO11.out.pick (stL s { p with v0 := (poV (p.v0, p.v1) rs).1, v1 := (poV (p.v0, p.v1) rs).2 } { σ with d := d', u0 := (poU (σ.u0, σ.u1) rs).1, u1 := (poU (σ.u0, σ.u1) rs).2 })).weak.keep (sto_all HL.out) hb12)
        have HB12 := Lib.hid (HB11.out.trans (hb12.mono HO11.out.size))
        clear hb12 HEN g0 g1 c7 c8 f7 f8 q0 q1 q2 q3
        go_wp2
        go_ret2
        rw [HZZ.out]
        exact ⟨rfl, ⟨{ p with v0 := (poV (p.v0, p.v1) rs).1, v1 := (poV (p.v0, p.v1) rs).2 }, rfl, HO12.out⟩, HB12.out⟩
end
end Go.Proofs.YtphhnhldbajaoaaGreatDoor
