/-
  The walk of HeatScripts.
-/
import Derived.Test.YtgdlnifncmiebaaHeatLive
import Derived.Test.YtgdlnifncmiebaaHeatW
import Derived.Test.YtgdlnifncmiebaaHeatW
import Derived.Test.YtgdlnifncmiebaaFrame
import Derived.Test.YtgdlnifncmiebaaOpenHeat
namespace Go.Proofs.Ytgdlnifncmiebaa.heatScripts
open Go.RowKit Go.ChangeShapes Go.WideShapes Go.ChangeAt

set_option maxRecDepth 100000 in
set_option maxHeartbeats 4000000 in
theorem walk (w : World) (x0 : Option Addr) (c0 : Nat) (l0 : List OpH) (s0 : SlE w 4 OpHK x0 l0) (_m0 : l0.length ≤ maxLen) :
    Calls Try.prog 3 #[.slice x0 l0.length c0] w fun e w' => e = .returned (.bool true) ∧ Below w.heap.size w w' := by
  have HS := Lib.hid s0
  have HOS := Lib.hid (okS_of s0)
  clear s0
  by_cases hc0 : 100 < l0.length
  · have e0 : decide ((100 : Int) < (l0.length : Int)) = true := decide_eq_true (by omega)
    go_enter Try.func3, Try.ntmps3
    go_wp2_with fail
    refine (live_any _).mono ?_
    rintro e w9 ⟨rfl, hb⟩
    have HB9 : Hid (Below w.heap.size w w9) := hb
    clear hb
    go_wp2
    go_ret
    exact ⟨rfl, HB9.out⟩
  · have e0 : decide ((100 : Int) < (l0.length : Int)) = false := decide_eq_false (by omega)
    go_enter Try.func3, Try.ntmps3
    go_wp2_with fail
    refine (one_new w.heap.size w (Nat.le_refl _)).mono ?_
    rintro e w1 ⟨b, rfl, ho, hb⟩
    have HK1 : Hid (OneH w.heap.size (Both NoP (RefF w1.heap.size [])) b [] (w1.alloc (.cells #[.slice none 0 0] 29))) := by
      refine Sep.more fixed_no (fixed_heat b []) ho ((Below.refl _ _).alloc (Nat.le_refl _) _) (H := [w1.heap.size]) ⟨.slice none 0 0, ⟨Box.new w1 _ _, Cs.nil _ _, by simp [Value.ownBlock]⟩, rfl⟩ (fun k hk => ?_)
      rw [List.mem_singleton] at hk
      omega
    have HB : Hid (Below w.heap.size w (w1.alloc (.cells #[.slice none 0 0] 29))) := hb.alloc hb.size _
    obtain ⟨kb, hkb⟩ : ∃ kb, kb = w1.heap.size := ⟨_, rfl⟩
    rw [← hkb] at HK1
    clear ho hb e0
    go_wp2_with fail
    rw [← hkb]
    clear hkb
    generalize w1.alloc (.cells #[.slice none 0 0] 29) = w2 at *
    go_loopw [5] (fun i wr => ∃ j : Nat, j ≤ l0.length ∧ i = .int .i64 j ∧ Hid (OneH w.heap.size (Both NoP (RefF kb (runS (l0.take j)))) b (runS (l0.take j)) wr) ∧ Hid (Below w.heap.size w wr)) (fun i _ => l0.length - (intOf i).toNat)
    case atStart => exact ⟨0, Nat.zero_le _, rfl, HK1, HB⟩
    case round =>
      clear HK1 HB
      rename_i hkl1
      obtain ⟨j, hj, rfl, HO, HB⟩ := hrel
      by_cases hlt : j < l0.length
      · clear hkl1
        obtain ⟨b1, off, rfl, hbl, q0, q1, q2, q3, hks, hwf, hwf2⟩ := HS.out.hop HB.out j hlt
        have h0 : (0 : Int) ≤ (j : Int) := by omega
        have hj1 : (j : Int) < (l0.length : Int) := by omega
        have HT := Lib.hid (List.take_succ_eq_append_getElem hlt)
        have HRK := Lib.hid (runs_ok (HOS.out.take j) (by rw [List.length_take]; omega))
        have HLJ : Hid ((l0.take j).length ≤ 100) := by show _ ≤ _; rw [List.length_take]; omega
        have HN64 := Lib.hid (in64_of hwf)
        have HKS := Lib.hid hks
        generalize hx : l0[j] = x at *
        obtain ⟨xd, xk, xn, xm⟩ := x
        dsimp only at q0 q1 q2 q3 HN64 HKS
        clear hwf hwf2 hks hbl hx
        have HBX := Lib.hid (Box.new wr 31 #[.int .i64 xd, .string xk, .int .i64 xn, .int .i64 xm])
        have HBA : Hid (Below wr.heap.size wr (wr.alloc (.cells #[.int .i64 xd, .string xk, .int .i64 xn, .int .i64 xm] 31))) := (Below.refl _ _).alloc (Nat.le_refl _) _
        obtain ⟨p, hp⟩ : ∃ p, p = wr.heap.size := ⟨_, rfl⟩
        have HPL : Hid (w.heap.size ≤ p) := by show _ ≤ _; rw [hp]; exact HB.out.size
        have HP := Lib.hid hp
        have HRS0 : Hid (runS (l0.take (j + 1)) = stepS (runS (l0.take j)) (xd, xk, xn, xm)) := by show _ = _; rw [HT.out, runs_snoc]
        generalize runS (l0.take j) = L at *
        have HFX0 : Hid (Fixed (Both NoP (RefF kb L))) := fixed_both fixed_no (fixed_ref _ _)
        by_cases hc : 100 < xk.size
        · have d0 : decide ((100 : Int) < (xk.size : Int)) = true := decide_eq_true (by omega)
          clear hp
          go_wp2_with fail
          refine (live_any _).mono ?_
          rintro e w9 ⟨rfl, hb⟩
          have HB9 : Hid (Below w.heap.size w w9) := (HB.out.trans (HBA.out.mono HB.out.size)).trans (hb.mono (Nat.le_trans HB.out.size HBA.out.size))
          clear hb
          go_wp2
          go_ret
          exact ⟨rfl, HB9.out⟩
        · have d0 : decide ((100 : Int) < (xk.size : Int)) = false := decide_eq_false (by omega)
          clear hc
          have HBX2 : Hid (Box (wr.alloc (.cells #[.int .i64 xd, .string xk, .int .i64 xn, .int .i64 xm] 31)) p 31 #[.int .i64 xd, .string xk, .int .i64 xn, .int .i64 xm]) := by rw [hp]; exact HBX.out
          by_cases hd0 : xd = 0
          · subst hd0
            have HRS : Hid (runS (l0.take (j + 1)) = touchM L xk xn) := HRS0.out
            clear hp
            go_wp2_with fail
            rw [← HP.out]
            have HOB : Hid (OneH w.heap.size (Both (Both NoP (BoxF p 31 #[.int .i64 0, .string xk, .int .i64 xn, .int .i64 xm])) (RefF kb L)) b L (wr.alloc (.cells #[.int .i64 0, .string xk, .int .i64 xn, .int .i64 xm] 31))) :=
              Sep.turn (Sep.more HFX0.out (fixed_heat b L) HO.out HBA.out (H := [p]) ⟨HBX2.out, rfl⟩ (fun k hk => by rw [List.mem_singleton] at hk; rw [hk, HP.out]; exact Nat.le_refl _))
            have HBB : Hid (Below w.heap.size w (wr.alloc (.cells #[.int .i64 0, .string xk, .int .i64 xn, .int .i64 xm] 31))) := HB.out.trans (HBA.out.mono HB.out.size)
            generalize wr.alloc (.cells #[.int .i64 0, .string xk, .int .i64 xn, .int .i64 xm] 31) = wb at *
            clear q0 q1 q2 q3 d0
            have HF1 : Hid (Fixed (Both (Both NoP (BoxF p 31 #[.int .i64 0, .string xk, .int .i64 xn, .int .i64 xm])) (RefF kb L))) := fixed_both (fixed_both fixed_no (fixed_boxf _ _ _)) (fixed_ref _ _)
            refine (one_touch HF1.out HOB.out xk xn HKS.out HRK.out.1 HN64.out).mono ?_
            rintro e w3 ⟨rfl, ho, hb⟩
            have HO3 : Hid (Sep w.heap.size (Both (Both NoP (BoxF p 31 #[.int .i64 0, .string xk, .int .i64 xn, .int .i64 xm])) (HeatF b (touchM L xk xn))) (RefF kb L) w3) := Sep.swap ho
            have HB3 : Hid (Below w.heap.size w w3) := HBB.out.trans hb
            have hbx := Sep.boxed ho
            have q1 := hbx.cell 1 _ rfl
            have q2 := hbx.cell 2 _ rfl
            clear ho hb hbx HBX HBX2 HBA
            have HF2 : Hid (Fixed (Both (Both NoP (BoxF p 31 #[.int .i64 0, .string xk, .int .i64 xn, .int .i64 xm])) (HeatF b (touchM L xk xn)))) := fixed_both (fixed_both fixed_no (fixed_boxf _ _ _)) (fixed_heat _ _)
            go_wp2_with fail
            refine (one_rtouch HF2.out HO3.out xk xn HRK.out.1 HN64.out).mono ?_
            rintro e w4 ⟨rfl, ho, hb⟩
            have HO4 : Hid (OneH w.heap.size (Both (Both NoP (BoxF p 31 #[.int .i64 0, .string xk, .int .i64 xn, .int .i64 xm])) (RefF kb (touchM L xk xn))) b (touchM L xk xn) w4) := Sep.swap ho
            have HB4 : Hid (Below w.heap.size w w4) := HB3.out.trans hb
            clear ho hb q1 q2
            have hokm : OkM (touchM L xk xn) := touch_ok HRK.out.1 xk HN64.out (by have := HRK.out.2; have := HLJ.out; omega)
            have hml : (touchM L xk xn).length ≤ 9000 := by have := touch_len (l := L) xk xn; have := HRK.out.2; have := HLJ.out; omega
            generalize touchM L xk xn = M at *
            -- the comparison, in world w4, of the counts M
            have HOKM : Hid (OkM M) := hokm
            have HML : Hid (M.length ≤ 9000) := hml
            have HFX : Hid (Fixed (Both (Both NoP (BoxF p 31 #[.int .i64 0, .string xk, .int .i64 xn, .int .i64 xm])) (RefF kb M))) := fixed_both (fixed_both fixed_no (fixed_boxf _ _ _)) (fixed_ref _ _)
            obtain ⟨kv, HRA⟩ : ∃ kv, Hid (RefAt w4 kb kv M) := by
              obtain ⟨_, G, F, ⟨G1, G2, rfl, _, ⟨v, hr, _⟩, _⟩, _⟩ := HO4.out
              exact ⟨v, hr⟩
            obtain ⟨ka, kc, hkf⟩ := HRA.out.slice
            subst hkf
            have hbox := HRA.out.box
            generalize hkn : M.length = kn at hbox
            have HKN := Lib.hid hkn
            have HRA2 : Hid (∀ W, Below w4.heap.size w4 W → RefAt W kb (.slice ka M.length kc) M) := fun W hW => ⟨HRA.out.box.keep hW HRA.out.box.lt, HRA.out.row.keep hW, HRA.out.ne⟩
            have HBP4 := Lib.hid (Sep.boxed HO4.out)
            have HSS : Hid (∀ W, Below w4.heap.size w4 W → W.cell? ⟨p, 1, none⟩ = some (.string xk) ∧ W.cell? ⟨p, 2, none⟩ = some (.int .i64 xn) ∧ W.cell? ⟨p, 3, none⟩ = some (.int .i64 xm) ∧ W.cell? ⟨kb, 0, none⟩ = some (.slice ka kn kc)) := by
              intro W hW
              have h1 := HBP4.out.keep hW HBP4.out.lt
              exact ⟨h1.cell 1 _ rfl, h1.cell 2 _ rfl, h1.cell 3 _ rfl, (hbox.keep hW hbox.lt).cell 0 _ rfl⟩
            have HVAL : Hid (∀ W, Below w4.heap.size w4 W → Calls Try.prog 15 #[.pointer (some ⟨b, 0, none⟩), .string xk, .int .i64 xn] W fun e w' => e = .returned (.int .i64 (valueM M xk xn)) ∧ Below W.heap.size W w') := fun W hW => (one_value HFX.out (OneH.keep HFX.out HO4.out hW) xk xn HKS.out HOKM.out HN64.out.2).mono fun _ _ hh => ⟨hh.1, hh.2.2⟩
            have HRVL : Hid (∀ W, Below w4.heap.size w4 W → Calls Try.prog 16 #[.pointer (some ⟨kb, 0, none⟩), .string xk, .int .i64 xn] W fun e w' => e = .returned (.int .i64 (valueM M xk xn)) ∧ Below W.heap.size W w') := fun W hW => rvalue kb _ M xk xn W (HRA2.out W hW) HOKM.out HN64.out.2
            have HLN : Hid (∀ W, Below w4.heap.size w4 W → Calls Try.prog 17 #[.pointer (some ⟨b, 0, none⟩)] W fun e w' => e = .returned (.int .i64 (kn : Int)) ∧ Below W.heap.size W w') := fun W hW => (one_len (OneH.keep HFX.out HO4.out hW)).mono fun _ _ hh => ⟨by rw [hh.1, HKN.out], by rw [hh.2]; exact Below.refl _ _⟩
            have HHT : Hid (∀ W, Below w4.heap.size w4 W → Calls Try.prog 19 #[.pointer (some ⟨b, 0, none⟩), .int .i64 xn, .int .i64 xm] W fun e w' => ∃ v, e = .returned v ∧ Ks w' W.heap.size v (hotM M xn xm) ∧ Below W.heap.size W w') := fun W hW => (one_hot HFX.out (OneH.keep HFX.out HO4.out hW) xn xm HOKM.out HN64.out.2).mono fun _ _ ⟨v, h1, h2, _, h4⟩ => ⟨v, h1, h2, h4⟩
            have HRH : Hid (∀ W, Below w4.heap.size w4 W → Calls Try.prog 20 #[.pointer (some ⟨kb, 0, none⟩), .int .i64 xn, .int .i64 xm] W fun e w' => ∃ v, e = .returned v ∧ (∃ g c, v = .slice g (hotM M xn xm).length c ∧ Sl w' Value.string g (hotM M xn xm)) ∧ Below W.heap.size W w') := fun W hW => rhot kb _ M xn xm W (HRA2.out W hW) HOKM.out (by have := HML.out; omega) HN64.out.2
            have HHL : Hid ((hotM M xn xm).length ≤ 100000) := by
              show (((sortI _).take _).map _).length ≤ _
              rw [List.length_map, List.length_take, (sort_perm _).length_eq]
              have := items_len M xn
              have := HML.out
              omega
            clear hbox hkn hokm hml
            generalize valueM M xk xn = vv at *
            generalize hotM M xn xm = HH at *
            go_wp2_with fail
            have HBC : Hid (Below w4.heap.size w4 w4.drew) := (Below.refl _ _).drew
            refine wp_region_sched (fun W => W.cell? ⟨p, 1, none⟩ = some (.string xk) ∧ W.cell? ⟨p, 2, none⟩ = some (.int .i64 xn) ∧ W.cell? ⟨p, 3, none⟩ = some (.int .i64 xm) ∧ W.cell? ⟨kb, 0, none⟩ = some (.slice ka kn kc)) 35 [(0, false), (1, false), (2, false), (3, false), (4, false), (6, false), (7, false), (8, false), (9, false), (10, false), (5, true), (11, true), (12, false), (13, false), (14, false), (16, false), (17, false), (18, false), (19, false), (20, false), (15, true), (21, false), (22, false), (23, false), (24, false), (25, false), (26, false), (27, false), (28, false), (30, false), (31, false), (32, false), (33, false), (34, false), (29, true)] (by kernel_rfl) (by kernel_rfl) (HSS.out _ HBC.out) ?_
            simp only [List.drop_succ_cons, List.drop_zero]
            iterate 10 (apply wpSch_step rfl; (intro W hS K hK; obtain ⟨r1, r2, r3, r4⟩ := hS; go_simp; exact hK _ rfl))
            refine wpSch_make rfl (fun K' hK => ?_)
            go_simp
            refine (HVAL.out _ HBC.out).mono ?_
            rintro e w5 ⟨rfl, hb⟩
            have HBC : Hid (Below w4.heap.size w4 w5) := HBC.out.trans (hb.mono HBC.out.size)
            obtain ⟨r1, r2, r3, r4⟩ := HSS.out _ HBC.out
            refine hK _ _ _ (fun _ h => h) ⟨r1, r2, r3, r4⟩ ?_
            clear hK K' hb r1 r2 r3 r4
            refine wpSch_make rfl (fun K' hK => ?_)
            go_simp
            refine (HRVL.out _ HBC.out).mono ?_
            rintro e w6 ⟨rfl, hb⟩
            have HBC : Hid (Below w4.heap.size w4 w6) := HBC.out.trans (hb.mono HBC.out.size)
            obtain ⟨r1, r2, r3, r4⟩ := HSS.out _ HBC.out
            refine hK _ _ _ (fun _ h => h) ⟨r1, r2, r3, r4⟩ ?_
            clear hK K' hb r1 r2 r3 r4
            iterate 8 (apply wpSch_step rfl; (intro W hS K hK; obtain ⟨r1, r2, r3, r4⟩ := hS; go_simp; exact hK _ rfl))
            refine wpSch_make rfl (fun K' hK => ?_)
            go_simp
            refine (HLN.out _ HBC.out).mono ?_
            rintro e w7 ⟨rfl, hb⟩
            have HBC : Hid (Below w4.heap.size w4 w7) := HBC.out.trans (hb.mono HBC.out.size)
            obtain ⟨r1, r2, r3, r4⟩ := HSS.out _ HBC.out
            refine hK _ _ _ (fun _ h => h) ⟨r1, r2, r3, r4⟩ ?_
            clear hK K' hb r1 r2 r3 r4
            iterate 13 (apply wpSch_step rfl; (intro W hS K hK; obtain ⟨r1, r2, r3, r4⟩ := hS; go_simp; exact hK _ rfl))
            refine wpSch_make rfl (fun K' hK => ?_)
            go_simp
            refine (HHT.out _ HBC.out).mono ?_
            rintro e w8 ⟨x, rfl, hx, hb⟩
            have HXK := Lib.hid hx
            clear hx
            have HBC : Hid (Below w4.heap.size w4 w8) := HBC.out.trans (hb.mono HBC.out.size)
            obtain ⟨r1, r2, r3, r4⟩ := HSS.out _ HBC.out
            refine hK _ _ _ (fun _ h => h) ⟨r1, r2, r3, r4⟩ ?_
            clear hK K' hb r1 r2 r3 r4
            refine wpSch_nil ?_
            go_wp2_with fail
            refine (HRH.out _ HBC.out).mono ?_
            rintro e w9 ⟨y, rfl, ⟨yg, yc, rfl, hys⟩, hb⟩
            have HXK9 := Lib.hid (HXK.out.keep hb)
            have HYS := Lib.hid hys
            have HBC : Hid (Below w4.heap.size w4 w9) := HBC.out.trans (hb.mono HBC.out.size)
            clear hb hys
            obtain ⟨xg, xc, hxf, hxs⟩ := HXK9.out.view
            subst hxf
            have HXS := Lib.hid hxs
            clear hxs
            go_wp2_with fail
            refine (same_keys xg yg xc yc HH HH _ HXS.out HYS.out HHL.out).mono ?_
            rintro e wA ⟨rfl, hb⟩
            rw [decide_eq_true rfl]
            have HBC : Hid (Below w4.heap.size w4 wA) := HBC.out.trans (hb.mono HBC.out.size)
            clear hb
            go_wp2
            go_roundw
            case rel => exact ⟨j + 1, by omega, by go_num, by rw [HRS.out]; exact Sep.less (OneH.keep HFX.out HO4.out HBC.out), HB4.out.trans (HBC.out.mono HB4.out.size)⟩
            case measure => simp [intOf]; omega
          · have e5 : (xd == 0) = false := by simpa using hd0
            by_cases hd1 : xd = 1
            · subst hd1
              have HRS : Hid (runS (l0.take (j + 1)) = forgetM L xk) := HRS0.out
              clear hp
              go_wp2_with fail
              rw [← HP.out]
              have HOB : Hid (OneH w.heap.size (Both (Both NoP (BoxF p 31 #[.int .i64 1, .string xk, .int .i64 xn, .int .i64 xm])) (RefF kb L)) b L (wr.alloc (.cells #[.int .i64 1, .string xk, .int .i64 xn, .int .i64 xm] 31))) :=
                Sep.turn (Sep.more HFX0.out (fixed_heat b L) HO.out HBA.out (H := [p]) ⟨HBX2.out, rfl⟩ (fun k hk => by rw [List.mem_singleton] at hk; rw [hk, HP.out]; exact Nat.le_refl _))
              have HBB : Hid (Below w.heap.size w (wr.alloc (.cells #[.int .i64 1, .string xk, .int .i64 xn, .int .i64 xm] 31))) := HB.out.trans (HBA.out.mono HB.out.size)
              generalize wr.alloc (.cells #[.int .i64 1, .string xk, .int .i64 xn, .int .i64 xm] 31) = wb at *
              clear q0 q1 q2 q3 d0
              have HF1 : Hid (Fixed (Both (Both NoP (BoxF p 31 #[.int .i64 1, .string xk, .int .i64 xn, .int .i64 xm])) (RefF kb L))) := fixed_both (fixed_both fixed_no (fixed_boxf _ _ _)) (fixed_ref _ _)
              refine (one_forget HF1.out HOB.out xk HKS.out).mono ?_
              rintro e w3 ⟨rfl, ho, hb⟩
              have HO3 : Hid (Sep w.heap.size (Both (Both NoP (BoxF p 31 #[.int .i64 1, .string xk, .int .i64 xn, .int .i64 xm])) (HeatF b (forgetM L xk))) (RefF kb L) w3) := Sep.swap ho
              have HB3 : Hid (Below w.heap.size w w3) := HBB.out.trans hb
              have hbx := Sep.boxed ho
              have q1 := hbx.cell 1 _ rfl
              have q2 := hbx.cell 2 _ rfl
              clear ho hb hbx HBX HBX2 HBA
              have HF2 : Hid (Fixed (Both (Both NoP (BoxF p 31 #[.int .i64 1, .string xk, .int .i64 xn, .int .i64 xm])) (HeatF b (forgetM L xk)))) := fixed_both (fixed_both fixed_no (fixed_boxf _ _ _)) (fixed_heat _ _)
              go_wp2_with fail
              refine (one_rforget HF2.out HO3.out xk (by have := HRK.out.2; have := HLJ.out; omega)).mono ?_
              rintro e w4 ⟨rfl, ho, hb⟩
              have HO4 : Hid (OneH w.heap.size (Both (Both NoP (BoxF p 31 #[.int .i64 1, .string xk, .int .i64 xn, .int .i64 xm])) (RefF kb (forgetM L xk))) b (forgetM L xk) w4) := Sep.swap ho
              have HB4 : Hid (Below w.heap.size w w4) := HB3.out.trans hb
              clear ho hb q1 q2
              have hokm : OkM (forgetM L xk) := forget_ok HRK.out.1 xk
              have hml : (forgetM L xk).length ≤ 9000 := by have := forget_le L xk; have := HRK.out.2; have := HLJ.out; omega
              generalize forgetM L xk = M at *
              -- the comparison, in world w4, of the counts M
              have HOKM : Hid (OkM M) := hokm
              have HML : Hid (M.length ≤ 9000) := hml
              have HFX : Hid (Fixed (Both (Both NoP (BoxF p 31 #[.int .i64 1, .string xk, .int .i64 xn, .int .i64 xm])) (RefF kb M))) := fixed_both (fixed_both fixed_no (fixed_boxf _ _ _)) (fixed_ref _ _)
              obtain ⟨kv, HRA⟩ : ∃ kv, Hid (RefAt w4 kb kv M) := by
                obtain ⟨_, G, F, ⟨G1, G2, rfl, _, ⟨v, hr, _⟩, _⟩, _⟩ := HO4.out
                exact ⟨v, hr⟩
              obtain ⟨ka, kc, hkf⟩ := HRA.out.slice
              subst hkf
              have hbox := HRA.out.box
              generalize hkn : M.length = kn at hbox
              have HKN := Lib.hid hkn
              have HRA2 : Hid (∀ W, Below w4.heap.size w4 W → RefAt W kb (.slice ka M.length kc) M) := fun W hW => ⟨HRA.out.box.keep hW HRA.out.box.lt, HRA.out.row.keep hW, HRA.out.ne⟩
              have HBP4 := Lib.hid (Sep.boxed HO4.out)
              have HSS : Hid (∀ W, Below w4.heap.size w4 W → W.cell? ⟨p, 1, none⟩ = some (.string xk) ∧ W.cell? ⟨p, 2, none⟩ = some (.int .i64 xn) ∧ W.cell? ⟨p, 3, none⟩ = some (.int .i64 xm) ∧ W.cell? ⟨kb, 0, none⟩ = some (.slice ka kn kc)) := by
                intro W hW
                have h1 := HBP4.out.keep hW HBP4.out.lt
                exact ⟨h1.cell 1 _ rfl, h1.cell 2 _ rfl, h1.cell 3 _ rfl, (hbox.keep hW hbox.lt).cell 0 _ rfl⟩
              have HVAL : Hid (∀ W, Below w4.heap.size w4 W → Calls Try.prog 15 #[.pointer (some ⟨b, 0, none⟩), .string xk, .int .i64 xn] W fun e w' => e = .returned (.int .i64 (valueM M xk xn)) ∧ Below W.heap.size W w') := fun W hW => (one_value HFX.out (OneH.keep HFX.out HO4.out hW) xk xn HKS.out HOKM.out HN64.out.2).mono fun _ _ hh => ⟨hh.1, hh.2.2⟩
              have HRVL : Hid (∀ W, Below w4.heap.size w4 W → Calls Try.prog 16 #[.pointer (some ⟨kb, 0, none⟩), .string xk, .int .i64 xn] W fun e w' => e = .returned (.int .i64 (valueM M xk xn)) ∧ Below W.heap.size W w') := fun W hW => rvalue kb _ M xk xn W (HRA2.out W hW) HOKM.out HN64.out.2
              have HLN : Hid (∀ W, Below w4.heap.size w4 W → Calls Try.prog 17 #[.pointer (some ⟨b, 0, none⟩)] W fun e w' => e = .returned (.int .i64 (kn : Int)) ∧ Below W.heap.size W w') := fun W hW => (one_len (OneH.keep HFX.out HO4.out hW)).mono fun _ _ hh => ⟨by rw [hh.1, HKN.out], by rw [hh.2]; exact Below.refl _ _⟩
              have HHT : Hid (∀ W, Below w4.heap.size w4 W → Calls Try.prog 19 #[.pointer (some ⟨b, 0, none⟩), .int .i64 xn, .int .i64 xm] W fun e w' => ∃ v, e = .returned v ∧ Ks w' W.heap.size v (hotM M xn xm) ∧ Below W.heap.size W w') := fun W hW => (one_hot HFX.out (OneH.keep HFX.out HO4.out hW) xn xm HOKM.out HN64.out.2).mono fun _ _ ⟨v, h1, h2, _, h4⟩ => ⟨v, h1, h2, h4⟩
              have HRH : Hid (∀ W, Below w4.heap.size w4 W → Calls Try.prog 20 #[.pointer (some ⟨kb, 0, none⟩), .int .i64 xn, .int .i64 xm] W fun e w' => ∃ v, e = .returned v ∧ (∃ g c, v = .slice g (hotM M xn xm).length c ∧ Sl w' Value.string g (hotM M xn xm)) ∧ Below W.heap.size W w') := fun W hW => rhot kb _ M xn xm W (HRA2.out W hW) HOKM.out (by have := HML.out; omega) HN64.out.2
              have HHL : Hid ((hotM M xn xm).length ≤ 100000) := by
                show (((sortI _).take _).map _).length ≤ _
                rw [List.length_map, List.length_take, (sort_perm _).length_eq]
                have := items_len M xn
                have := HML.out
                omega
              clear hbox hkn hokm hml
              generalize valueM M xk xn = vv at *
              generalize hotM M xn xm = HH at *
              go_wp2_with fail
              have HBC : Hid (Below w4.heap.size w4 w4.drew) := (Below.refl _ _).drew
              refine wp_region_sched (fun W => W.cell? ⟨p, 1, none⟩ = some (.string xk) ∧ W.cell? ⟨p, 2, none⟩ = some (.int .i64 xn) ∧ W.cell? ⟨p, 3, none⟩ = some (.int .i64 xm) ∧ W.cell? ⟨kb, 0, none⟩ = some (.slice ka kn kc)) 35 [(0, false), (1, false), (2, false), (3, false), (4, false), (6, false), (7, false), (8, false), (9, false), (10, false), (5, true), (11, true), (12, false), (13, false), (14, false), (16, false), (17, false), (18, false), (19, false), (20, false), (15, true), (21, false), (22, false), (23, false), (24, false), (25, false), (26, false), (27, false), (28, false), (30, false), (31, false), (32, false), (33, false), (34, false), (29, true)] (by kernel_rfl) (by kernel_rfl) (HSS.out _ HBC.out) ?_
              simp only [List.drop_succ_cons, List.drop_zero]
              iterate 10 (apply wpSch_step rfl; (intro W hS K hK; obtain ⟨r1, r2, r3, r4⟩ := hS; go_simp; exact hK _ rfl))
              refine wpSch_make rfl (fun K' hK => ?_)
              go_simp
              refine (HVAL.out _ HBC.out).mono ?_
              rintro e w5 ⟨rfl, hb⟩
              have HBC : Hid (Below w4.heap.size w4 w5) := HBC.out.trans (hb.mono HBC.out.size)
              obtain ⟨r1, r2, r3, r4⟩ := HSS.out _ HBC.out
              refine hK _ _ _ (fun _ h => h) ⟨r1, r2, r3, r4⟩ ?_
              clear hK K' hb r1 r2 r3 r4
              refine wpSch_make rfl (fun K' hK => ?_)
              go_simp
              refine (HRVL.out _ HBC.out).mono ?_
              rintro e w6 ⟨rfl, hb⟩
              have HBC : Hid (Below w4.heap.size w4 w6) := HBC.out.trans (hb.mono HBC.out.size)
              obtain ⟨r1, r2, r3, r4⟩ := HSS.out _ HBC.out
              refine hK _ _ _ (fun _ h => h) ⟨r1, r2, r3, r4⟩ ?_
              clear hK K' hb r1 r2 r3 r4
              iterate 8 (apply wpSch_step rfl; (intro W hS K hK; obtain ⟨r1, r2, r3, r4⟩ := hS; go_simp; exact hK _ rfl))
              refine wpSch_make rfl (fun K' hK => ?_)
              go_simp
              refine (HLN.out _ HBC.out).mono ?_
              rintro e w7 ⟨rfl, hb⟩
              have HBC : Hid (Below w4.heap.size w4 w7) := HBC.out.trans (hb.mono HBC.out.size)
              obtain ⟨r1, r2, r3, r4⟩ := HSS.out _ HBC.out
              refine hK _ _ _ (fun _ h => h) ⟨r1, r2, r3, r4⟩ ?_
              clear hK K' hb r1 r2 r3 r4
              iterate 13 (apply wpSch_step rfl; (intro W hS K hK; obtain ⟨r1, r2, r3, r4⟩ := hS; go_simp; exact hK _ rfl))
              refine wpSch_make rfl (fun K' hK => ?_)
              go_simp
              refine (HHT.out _ HBC.out).mono ?_
              rintro e w8 ⟨x, rfl, hx, hb⟩
              have HXK := Lib.hid hx
              clear hx
              have HBC : Hid (Below w4.heap.size w4 w8) := HBC.out.trans (hb.mono HBC.out.size)
              obtain ⟨r1, r2, r3, r4⟩ := HSS.out _ HBC.out
              refine hK _ _ _ (fun _ h => h) ⟨r1, r2, r3, r4⟩ ?_
              clear hK K' hb r1 r2 r3 r4
              refine wpSch_nil ?_
              go_wp2_with fail
              refine (HRH.out _ HBC.out).mono ?_
              rintro e w9 ⟨y, rfl, ⟨yg, yc, rfl, hys⟩, hb⟩
              have HXK9 := Lib.hid (HXK.out.keep hb)
              have HYS := Lib.hid hys
              have HBC : Hid (Below w4.heap.size w4 w9) := HBC.out.trans (hb.mono HBC.out.size)
              clear hb hys
              obtain ⟨xg, xc, hxf, hxs⟩ := HXK9.out.view
              subst hxf
              have HXS := Lib.hid hxs
              clear hxs
              go_wp2_with fail
              refine (same_keys xg yg xc yc HH HH _ HXS.out HYS.out HHL.out).mono ?_
              rintro e wA ⟨rfl, hb⟩
              rw [decide_eq_true rfl]
              have HBC : Hid (Below w4.heap.size w4 wA) := HBC.out.trans (hb.mono HBC.out.size)
              clear hb
              go_wp2
              go_roundw
              case rel => exact ⟨j + 1, by omega, by go_num, by rw [HRS.out]; exact Sep.less (OneH.keep HFX.out HO4.out HBC.out), HB4.out.trans (HBC.out.mono HB4.out.size)⟩
              case measure => simp [intOf]; omega
            · have e6 : (xd == 1) = false := by simpa using hd1
              have HRS : Hid (runS (l0.take (j + 1)) = L) := by show _ = _; rw [HRS0.out]; unfold stepS; rw [if_neg hd0, if_neg hd1]
              clear hd0 hd1
              clear hp
              go_wp2_with fail
              rw [← HP.out]
              have HOB : Hid (OneH w.heap.size (Both (Both NoP (BoxF p 31 #[.int .i64 xd, .string xk, .int .i64 xn, .int .i64 xm])) (RefF kb L)) b L (wr.alloc (.cells #[.int .i64 xd, .string xk, .int .i64 xn, .int .i64 xm] 31))) :=
                Sep.turn (Sep.more HFX0.out (fixed_heat b L) HO.out HBA.out (H := [p]) ⟨HBX2.out, rfl⟩ (fun k hk => by rw [List.mem_singleton] at hk; rw [hk, HP.out]; exact Nat.le_refl _))
              have HBB : Hid (Below w.heap.size w (wr.alloc (.cells #[.int .i64 xd, .string xk, .int .i64 xn, .int .i64 xm] 31))) := HB.out.trans (HBA.out.mono HB.out.size)
              generalize wr.alloc (.cells #[.int .i64 xd, .string xk, .int .i64 xn, .int .i64 xm] 31) = wb at *
              clear q0 q1 q2 q3 d0
              have HF1 : Hid (Fixed (Both (Both NoP (BoxF p 31 #[.int .i64 xd, .string xk, .int .i64 xn, .int .i64 xm])) (RefF kb L))) := fixed_both (fixed_both fixed_no (fixed_boxf _ _ _)) (fixed_ref _ _)
              have hokm : OkM L := HRK.out.1
              have hml : L.length ≤ 9000 := by have := HRK.out.2; have := HLJ.out; omega
              have HO4 := HOB
              have HB4 := HBB
              clear HOB HBB HBX HBX2 HBA
              generalize L = M at *
              generalize wb = w4 at *
              -- the comparison, in world w4, of the counts M
              have HOKM : Hid (OkM M) := hokm
              have HML : Hid (M.length ≤ 9000) := hml
              have HFX : Hid (Fixed (Both (Both NoP (BoxF p 31 #[.int .i64 xd, .string xk, .int .i64 xn, .int .i64 xm])) (RefF kb M))) := fixed_both (fixed_both fixed_no (fixed_boxf _ _ _)) (fixed_ref _ _)
              obtain ⟨kv, HRA⟩ : ∃ kv, Hid (RefAt w4 kb kv M) := by
                obtain ⟨_, G, F, ⟨G1, G2, rfl, _, ⟨v, hr, _⟩, _⟩, _⟩ := HO4.out
                exact ⟨v, hr⟩
              obtain ⟨ka, kc, hkf⟩ := HRA.out.slice
              subst hkf
              have hbox := HRA.out.box
              generalize hkn : M.length = kn at hbox
              have HKN := Lib.hid hkn
              have HRA2 : Hid (∀ W, Below w4.heap.size w4 W → RefAt W kb (.slice ka M.length kc) M) := fun W hW => ⟨HRA.out.box.keep hW HRA.out.box.lt, HRA.out.row.keep hW, HRA.out.ne⟩
              have HBP4 := Lib.hid (Sep.boxed HO4.out)
              have HSS : Hid (∀ W, Below w4.heap.size w4 W → W.cell? ⟨p, 1, none⟩ = some (.string xk) ∧ W.cell? ⟨p, 2, none⟩ = some (.int .i64 xn) ∧ W.cell? ⟨p, 3, none⟩ = some (.int .i64 xm) ∧ W.cell? ⟨kb, 0, none⟩ = some (.slice ka kn kc)) := by
                intro W hW
                have h1 := HBP4.out.keep hW HBP4.out.lt
                exact ⟨h1.cell 1 _ rfl, h1.cell 2 _ rfl, h1.cell 3 _ rfl, (hbox.keep hW hbox.lt).cell 0 _ rfl⟩
              have HVAL : Hid (∀ W, Below w4.heap.size w4 W → Calls Try.prog 15 #[.pointer (some ⟨b, 0, none⟩), .string xk, .int .i64 xn] W fun e w' => e = .returned (.int .i64 (valueM M xk xn)) ∧ Below W.heap.size W w') := fun W hW => (one_value HFX.out (OneH.keep HFX.out HO4.out hW) xk xn HKS.out HOKM.out HN64.out.2).mono fun _ _ hh => ⟨hh.1, hh.2.2⟩
              have HRVL : Hid (∀ W, Below w4.heap.size w4 W → Calls Try.prog 16 #[.pointer (some ⟨kb, 0, none⟩), .string xk, .int .i64 xn] W fun e w' => e = .returned (.int .i64 (valueM M xk xn)) ∧ Below W.heap.size W w') := fun W hW => rvalue kb _ M xk xn W (HRA2.out W hW) HOKM.out HN64.out.2
              have HLN : Hid (∀ W, Below w4.heap.size w4 W → Calls Try.prog 17 #[.pointer (some ⟨b, 0, none⟩)] W fun e w' => e = .returned (.int .i64 (kn : Int)) ∧ Below W.heap.size W w') := fun W hW => (one_len (OneH.keep HFX.out HO4.out hW)).mono fun _ _ hh => ⟨by rw [hh.1, HKN.out], by rw [hh.2]; exact Below.refl _ _⟩
              have HHT : Hid (∀ W, Below w4.heap.size w4 W → Calls Try.prog 19 #[.pointer (some ⟨b, 0, none⟩), .int .i64 xn, .int .i64 xm] W fun e w' => ∃ v, e = .returned v ∧ Ks w' W.heap.size v (hotM M xn xm) ∧ Below W.heap.size W w') := fun W hW => (one_hot HFX.out (OneH.keep HFX.out HO4.out hW) xn xm HOKM.out HN64.out.2).mono fun _ _ ⟨v, h1, h2, _, h4⟩ => ⟨v, h1, h2, h4⟩
              have HRH : Hid (∀ W, Below w4.heap.size w4 W → Calls Try.prog 20 #[.pointer (some ⟨kb, 0, none⟩), .int .i64 xn, .int .i64 xm] W fun e w' => ∃ v, e = .returned v ∧ (∃ g c, v = .slice g (hotM M xn xm).length c ∧ Sl w' Value.string g (hotM M xn xm)) ∧ Below W.heap.size W w') := fun W hW => rhot kb _ M xn xm W (HRA2.out W hW) HOKM.out (by have := HML.out; omega) HN64.out.2
              have HHL : Hid ((hotM M xn xm).length ≤ 100000) := by
                show (((sortI _).take _).map _).length ≤ _
                rw [List.length_map, List.length_take, (sort_perm _).length_eq]
                have := items_len M xn
                have := HML.out
                omega
              clear hbox hkn hokm hml
              generalize valueM M xk xn = vv at *
              generalize hotM M xn xm = HH at *
              go_wp2_with fail
              have HBC : Hid (Below w4.heap.size w4 w4.drew) := (Below.refl _ _).drew
              refine wp_region_sched (fun W => W.cell? ⟨p, 1, none⟩ = some (.string xk) ∧ W.cell? ⟨p, 2, none⟩ = some (.int .i64 xn) ∧ W.cell? ⟨p, 3, none⟩ = some (.int .i64 xm) ∧ W.cell? ⟨kb, 0, none⟩ = some (.slice ka kn kc)) 35 [(0, false), (1, false), (2, false), (3, false), (4, false), (6, false), (7, false), (8, false), (9, false), (10, false), (5, true), (11, true), (12, false), (13, false), (14, false), (16, false), (17, false), (18, false), (19, false), (20, false), (15, true), (21, false), (22, false), (23, false), (24, false), (25, false), (26, false), (27, false), (28, false), (30, false), (31, false), (32, false), (33, false), (34, false), (29, true)] (by kernel_rfl) (by kernel_rfl) (HSS.out _ HBC.out) ?_
              simp only [List.drop_succ_cons, List.drop_zero]
              iterate 10 (apply wpSch_step rfl; (intro W hS K hK; obtain ⟨r1, r2, r3, r4⟩ := hS; go_simp; exact hK _ rfl))
              refine wpSch_make rfl (fun K' hK => ?_)
              go_simp
              refine (HVAL.out _ HBC.out).mono ?_
              rintro e w5 ⟨rfl, hb⟩
              have HBC : Hid (Below w4.heap.size w4 w5) := HBC.out.trans (hb.mono HBC.out.size)
              obtain ⟨r1, r2, r3, r4⟩ := HSS.out _ HBC.out
              refine hK _ _ _ (fun _ h => h) ⟨r1, r2, r3, r4⟩ ?_
              clear hK K' hb r1 r2 r3 r4
              refine wpSch_make rfl (fun K' hK => ?_)
              go_simp
              refine (HRVL.out _ HBC.out).mono ?_
              rintro e w6 ⟨rfl, hb⟩
              have HBC : Hid (Below w4.heap.size w4 w6) := HBC.out.trans (hb.mono HBC.out.size)
              obtain ⟨r1, r2, r3, r4⟩ := HSS.out _ HBC.out
              refine hK _ _ _ (fun _ h => h) ⟨r1, r2, r3, r4⟩ ?_
              clear hK K' hb r1 r2 r3 r4
              iterate 8 (apply wpSch_step rfl; (intro W hS K hK; obtain ⟨r1, r2, r3, r4⟩ := hS; go_simp; exact hK _ rfl))
              refine wpSch_make rfl (fun K' hK => ?_)
              go_simp
              refine (HLN.out _ HBC.out).mono ?_
              rintro e w7 ⟨rfl, hb⟩
              have HBC : Hid (Below w4.heap.size w4 w7) := HBC.out.trans (hb.mono HBC.out.size)
              obtain ⟨r1, r2, r3, r4⟩ := HSS.out _ HBC.out
              refine hK _ _ _ (fun _ h => h) ⟨r1, r2, r3, r4⟩ ?_
              clear hK K' hb r1 r2 r3 r4
              iterate 13 (apply wpSch_step rfl; (intro W hS K hK; obtain ⟨r1, r2, r3, r4⟩ := hS; go_simp; exact hK _ rfl))
              refine wpSch_make rfl (fun K' hK => ?_)
              go_simp
              refine (HHT.out _ HBC.out).mono ?_
              rintro e w8 ⟨x, rfl, hx, hb⟩
              have HXK := Lib.hid hx
              clear hx
              have HBC : Hid (Below w4.heap.size w4 w8) := HBC.out.trans (hb.mono HBC.out.size)
              obtain ⟨r1, r2, r3, r4⟩ := HSS.out _ HBC.out
              refine hK _ _ _ (fun _ h => h) ⟨r1, r2, r3, r4⟩ ?_
              clear hK K' hb r1 r2 r3 r4
              refine wpSch_nil ?_
              go_wp2_with fail
              refine (HRH.out _ HBC.out).mono ?_
              rintro e w9 ⟨y, rfl, ⟨yg, yc, rfl, hys⟩, hb⟩
              have HXK9 := Lib.hid (HXK.out.keep hb)
              have HYS := Lib.hid hys
              have HBC : Hid (Below w4.heap.size w4 w9) := HBC.out.trans (hb.mono HBC.out.size)
              clear hb hys
              obtain ⟨xg, xc, hxf, hxs⟩ := HXK9.out.view
              subst hxf
              have HXS := Lib.hid hxs
              clear hxs
              go_wp2_with fail
              refine (same_keys xg yg xc yc HH HH _ HXS.out HYS.out HHL.out).mono ?_
              rintro e wA ⟨rfl, hb⟩
              rw [decide_eq_true rfl]
              have HBC : Hid (Below w4.heap.size w4 wA) := HBC.out.trans (hb.mono HBC.out.size)
              clear hb
              go_wp2
              go_roundw
              case rel => exact ⟨j + 1, by omega, by go_num, by rw [HRS.out]; exact Sep.less (OneH.keep HFX.out HO4.out HBC.out), HB4.out.trans (HBC.out.mono HB4.out.size)⟩
              case measure => simp [intOf]; omega
      · have hjl : j = l0.length := by omega
        subst hjl
        go_wp2_with fail
        refine (live_any _).mono ?_
        rintro e w9 ⟨rfl, hb⟩
        have HB9 : Hid (Below w.heap.size w w9) := (HB.out.trans (hb.mono HB.out.size))
        clear hb
        go_wp2
        go_ret
        exact ⟨rfl, HB9.out⟩
end Go.Proofs.Ytgdlnifncmiebaa.heatScripts
