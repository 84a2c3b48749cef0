/-
  The reference's Decode of a block.
-/
import Derived.Test.YtljjcchdhnficaaDoorMg38
import Derived.Test.YtljjcchdhnficaaDoorClogJ
import Derived.Test.YtljjcchdhnficaaDoorClogL
import Derived.Test.YtljjcchdhnficaaDoorMg29
namespace Go.Proofs.YtljjcchdhnficaaDoor
open Go.RowKit Go.ChangeShapes Go.WideShapes Go.ChangeAt

/-- The reference's answer, in its own words. -/
def decR (s : ByteArray) : (Int × List CgE) × Int :=
  if s.size < 41 then ((0, []), 2) else if sha (bdyC s) ≠ digC s then ((0, []), 4) else
  if posEnd (bdyC s) (posTo (bdyC s) (valN (bdyC s) 8 1)) ≠ 0 ∨ (encC (valN (bdyC s) 2 6) (entsTo (bdyC s) (valN (bdyC s) 8 1))).2 ≠ 0 ∨ (encC (valN (bdyC s) 2 6) (entsTo (bdyC s) (valN (bdyC s) 8 1))).1 ≠ s then ((0, []), 3)
  else ((((valN (bdyC s) 2 6 : Nat) : Int), entsTo (bdyC s) (valN (bdyC s) 8 1)), 0)

set_option maxRecDepth 100000 in
theorem crdecode_cut (s : ByteArray) (w : World) (hs : s.size < 41) : Calls Tryd.prog 17 #[.string s] w (DcRes 53 w (decR s)) := by
  have HQ : Hid (decR s = ((0, []), 2)) := if_pos hs
  have h1 : (s.size : Int) < 41 := by omega
  have BG := Lib.hid (Box.new w 24 #[.int .i64 0, .slice none 0 0])
  have BL := Lib.hid ((Below.refl w.heap.size w).alloc (Nat.le_refl _) (.cells #[.int .i64 0, .slice none 0 0] 24))
  clear hs
  go_enter Tryd.func17, Tryd.ntmps17
  go_wp2_with fail
  generalize World.alloc _ _ = wx at *
  obtain ⟨g, hg⟩ : ∃ g, g = w.heap.size := ⟨_, rfl⟩
  have HG := Lib.hid hg
  rw [← hg] at BG BL ⊢
  clear hg
  refine bodyPost_ret (results_cell2 rfl _ _ g 24 _ (0, 0) _ rfl BG.out Tryd.underlying24 rfl sizeRBd) rfl ?_
  exact DcRes.no HQ.out (by rw [← HG.out]; exact BL.out)

set_option maxRecDepth 100000 in
set_option maxHeartbeats 8000000 in
theorem crdecode_long (s : ByteArray) (w : World) (hs : ¬ s.size < 41) (hs2 : s.size ≤ 100000) : Calls Tryd.prog 17 #[.string s] w (DcRes 53 w (decR s)) := by
  have h1 : ¬ (s.size : Int) < 41 := by omega
  have h2 : (41 : Int) ≤ s.size := by omega
  have HD : Hid (decR s = if sha (bdyC s) ≠ digC s then ((0, []), 4) else
      if posEnd (bdyC s) (posTo (bdyC s) (valN (bdyC s) 8 1)) ≠ 0 ∨ (encC (valN (bdyC s) 2 6) (entsTo (bdyC s) (valN (bdyC s) 8 1))).2 ≠ 0 ∨ (encC (valN (bdyC s) 2 6) (entsTo (bdyC s) (valN (bdyC s) 8 1))).1 ≠ s then ((0, []), 3)
      else ((((valN (bdyC s) 2 6 : Nat) : Int), entsTo (bdyC s) (valN (bdyC s) 8 1)), 0)) := if_neg hs
  have hw1 : IntKind.i64.wrap ((s.size : Int) - 32) = (s.size : Int) - 32 := i64_small _ (by omega) (by omega)
  have hw2 : 0 ≤ (s.size : Int) - 32 := by omega
  have hw3 : (s.size : Int) - 32 ≤ s.size := by omega
  have hw4 : ((s.size : Int) - 32).toNat = s.size - 32 := by omega
  have hw5 : (2 : Int) ≤ (s.size : Int) - 32 := by omega
  have hw6 : (32 : Int) ≤ (s.size : Int) := by omega
  have hb0 : (bdyC s).size ≤ 900000 := by unfold bdyC; rw [ByteArray.size_extract]; omega
  have hb2 : 2 ≤ (bdyC s).size := by unfold bdyC; rw [ByteArray.size_extract]; omega
  have HBB : Hid (bdyC s = s.extract 0 (s.size - 32)) := rfl
  have HSS : Hid (digC s = s.extract (s.size - 32) s.size) := rfl
  have HB2 : Hid (2 ≤ (bdyC s).size ∧ s.extract 2 (s.size - 32) = (bdyC s).extract 2 (bdyC s).size) := ⟨hb2, by
    apply ByteArray.ext
    unfold bdyC
    simp only [ByteArray.data_extract, ByteArray.size_extract, Array.extract_extract]
    congr 1 <;> omega⟩
  have HB0 := Lib.hid hb0
  have BG := Lib.hid (Box.new w 24 #[.int .i64 0, .slice none 0 0])
  have BL := Lib.hid ((Below.refl w.heap.size w).alloc (Nat.le_refl _) (.cells #[.int .i64 0, .slice none 0 0] 24))
  clear hs hs2 hb0 hb2
  go_enter Tryd.func17, Tryd.ntmps17
  go_wp2_with fail
  generalize World.alloc _ _ = wx at *
  obtain ⟨g, hg⟩ : ∃ g, g = w.heap.size := ⟨_, rfl⟩
  have HG := Lib.hid hg
  rw [← hg] at BG BL ⊢
  clear hg
  refine wp_region_tree (fun W => True) 7 (.quiet 0 (.quiet 1 (.quiet 2 (.quiet 4 (.quiet 5 (.quiet 6 (.make 3 .nil))))))) (by kernel_rfl) (by kernel_rfl) trivial ?_
  simp only [List.drop_succ_cons, List.drop_zero]
  iterate 6 (apply wpTr_step rfl; (intro W hS K hK; go_simp; exact hK _ rfl))
  refine wpTr_make rfl (fun K' hK => ?_)
  go_simp
  rw [← HBB.out, ← HSS.out]
  refine (rof_any (bdyC s) _ HB0.out).mono ?_
  rintro e w2 ⟨rfl, hb⟩
  have hd := (Below.refl wx.heap.size wx).drew
  have hbx := hd.trans (hb.mono hd.size)
  have B2 := Lib.hid (BG.out.keep hbx BG.out.lt)
  have L2 := Lib.hid (BL.out.trans (hbx.mono (Nat.le_of_lt BG.out.lt)))
  clear hb hd hbx BG BL
  refine hK _ _ _ (fun _ h => h) trivial ?_
  clear hK K'
  refine wpTr_nil ?_
  generalize hsh : sha (bdyC s) = sh at *
  generalize hdg : digC s = dg at *
  generalize hbo : bdyC s = bo at *
  have HY := Lib.hid (And.intro hsh (And.intro hdg hbo))
  clear hsh hdg hbo
  by_cases hc : sh = dg
  rotate_left
  · have HQ : Hid (decR s = ((0, []), 4)) := by
      have := HD.out
      rw [if_pos (fun h => hc h)] at this
      exact this
    clear HD
    have hd : (sh.toList == dg.toList) = false := str_neqC hc
    have f0 := B2.out.free 0
    have f1 := B2.out.free 1
    have k0 := B2.out.cell 0 _ rfl
    have k1 := B2.out.cell 1 _ rfl
    have HR := Lib.hid ((B2.out.set 0 (.int .i64 0)).set 1 (.slice none 0 0))
    have HRB := Lib.hid ((L2.out.setCell (p := ⟨g, 0, none⟩) (Nat.le_refl _) (.int .i64 0)).setCell (p := ⟨g, 1, none⟩) (Nat.le_refl _) (.slice none 0 0))
    clear B2 L2
    go_wp2
    refine bodyPost_ret (results_cell2 rfl _ _ g 24 _ (0, 0) _ rfl HR.out Tryd.underlying24 rfl sizeRBd) rfl ?_
    exact DcRes.no HQ.out (by rw [← HG.out]; exact HRB.out)

  have HD2 : Hid (decR s = if posEnd bo (posTo bo (valN bo 8 1)) ≠ 0 ∨ (encC (valN bo 2 6) (entsTo bo (valN bo 8 1))).2 ≠ 0 ∨ (encC (valN bo 2 6) (entsTo bo (valN bo 8 1))).1 ≠ s then ((0, []), 3) else ((((valN bo 2 6 : Nat) : Int), entsTo bo (valN bo 8 1)), 0)) := by
    have := HD.out
    rw [if_neg (fun h => h hc)] at this
    exact this
  subst hc
  have LT : Hid (g < w2.heap.size) := B2.out.lt
  have hx := (Below.refl w2.heap.size w2).alloc (Nat.le_refl _) (.cells #[.string (bo.extract 2 bo.size), .int .i64 0] 79)
  have hx2 := (Below.refl (w2.heap.size + 1) (w2.alloc (.cells #[.string (bo.extract 2 bo.size), .int .i64 0] 79))).alloc (by rw [size_alloc]; exact Nat.le_refl _) (.cells #[.int .i64 0, .slice none 0 0] 24)
  have hU := Box.new (w2.alloc (.cells #[.string (bo.extract 2 bo.size), .int .i64 0] 79)) 24 #[.int .i64 0, .slice none 0 0]
  rw [size_alloc] at hU
  have J3 : Hid (DeR w g w2.heap.size (w2.heap.size + 1) bo 0 (.slice none 0 0) 2 [] ((w2.alloc (.cells #[.string (bo.extract 2 bo.size), .int .i64 0] 79)).alloc (.cells #[.int .i64 0, .slice none 0 0] 24))) :=
    ⟨⟨LT.out, Nat.lt_succ_self _⟩, (B2.out.keep hx B2.out.lt).alloc _, crr_of (crr_start bo w2 HB2.out.1) (hx2.block _ (Nat.lt_succ_self _)), hU, Cgs.nil _ _ _, (L2.out.trans (hx.mono (Nat.le_of_lt B2.out.lt))).alloc (by rw [size_alloc]; exact Nat.le_of_lt (Nat.lt_succ_of_lt B2.out.lt)) _⟩
  clear hx hx2 hU HD B2 L2
  go_wp2_with fail
  rw [HB2.out.2]
  generalize World.alloc (World.alloc w2 _) _ = w3 at *
  obtain ⟨R, hR⟩ : ∃ R, R = w2.heap.size := ⟨_, rfl⟩
  obtain ⟨U, hU⟩ : ∃ U, U = R + 1 := ⟨_, rfl⟩
  rw [← hR] at J3 LT ⊢
  rw [← hU] at J3 ⊢
  clear hR hU hw1 hw2 hw3 hw4 hw5 hw6
  have k0 := J3.out.bu.cell 0 _ rfl
  have f0 := J3.out.bu.free 0
  refine (rnumber_pos R bo 2 6 (by decide) (by decide) _ J3.out.rd).mono ?_
  rintro e w4 ⟨rfl, hr, hb⟩
  obtain ⟨sq, hsq⟩ : ∃ sq, valN bo 2 6 = sq := ⟨_, rfl⟩
  rw [hsq] at HD2 ⊢
  clear hsq
  have J4 := Lib.hid (J3.out.only hb hr)
  have J5 := Lib.hid (J4.out.seq0 (sq : Int))
  clear hr hb J3 k0 f0
  have k0 := J4.out.bu.cell 0 _ rfl
  have f0 := J4.out.bu.free 0
  clear J4
  go_wp2_with fail
  generalize World.setCell w4 _ _ = w5 at *
  clear k0 f0
  refine (rnumber_pos R bo (2 + 6) 1 (by decide) (by decide) _ J5.out.rd).mono ?_
  rintro e w6 ⟨rfl, hr, hb⟩
  have J6 : Hid (DeR w g R U bo sq (.slice none 0 0) (posTo bo 0) (entsTo bo 0) w6) := J5.out.only hb hr
  clear hr hb J5
  have hmm := valN_one bo 8
  rw [show 2 + 6 = 8 from rfl]
  obtain ⟨m, hm⟩ : ∃ m, valN bo 8 1 = m := ⟨_, rfl⟩
  rw [hm] at HD2 hmm ⊢
  clear hm
  go_wp2
  go_loopw [8] (fun i wr => ∃ (j : Nat) (v : Value), j ≤ m ∧ i = .int .i64 j ∧ Hid (DeR w g R U bo sq v (posTo bo j) (entsTo bo j) wr)) (fun i _ => m - (RowKit.intOf i).toNat)
  case atStart => exact ⟨0, _, Nat.zero_le _, rfl, J6⟩
  case round =>
    clear J6
    obtain ⟨j, v, hj, rfl, HJ⟩ := hrel
    by_cases hlt : j < m
    · have hj0 : (0 : Int) ≤ (j : Int) := by omega
      have hjm : (j : Int) < (m : Int) := by omega
      have HLT := Lib.hid (And.intro hlt hmm)
      clear hlt hj
      have hz := (Below.refl wr.heap.size wr).alloc (Nat.le_refl _) (.cells #[.string ⟨#[]⟩, .string ⟨#[]⟩, .int .i64 0, .int .i64 0] 53)
      have XB1 := Lib.hid (Box.new wr 53 #[.string ⟨#[]⟩, .string ⟨#[]⟩, .int .i64 0, .int .i64 0])
      have J1 := Lib.hid (HJ.out.keep hz)
      have LX : Hid (U < wr.heap.size) := HJ.out.bu.lt
      have VX : Hid (v.ownBlock ≠ some wr.heap.size) := fun e => by have := (HJ.out.pr.own_blk _ e).2; omega
      have RX : Hid (wr.heap.size ≠ R) := by have := HJ.out.lt; have := LX.out; show wr.heap.size ≠ R; omega
      have HPK : Hid (posTo bo (j + 1) = posTo bo j + 1 + valN bo (posTo bo j) 1 + 32 + 2 + 2) := rfl
      have HES : Hid (entsTo bo (j + 1) = entsTo bo j ++ [entAt bo (posTo bo j)]) := rfl
      have HEN := Lib.hid (entsTo_len bo j)
      have HEA : Hid (entAt bo (posTo bo j) = ⟨valB bo (posTo bo j + 1) (valN bo (posTo bo j) 1), valB bo (posTo bo j + 1 + valN bo (posTo bo j) 1) 32, valN bo (posTo bo j + 1 + valN bo (posTo bo j) 1 + 32) 2, valN bo (posTo bo j + 1 + valN bo (posTo bo j) 1 + 32 + 2) 2⟩) := rfl
      clear hz HJ
      generalize posTo bo j = pk at *
      generalize entsTo bo j = p at *
      go_wp2_with fail
      generalize World.alloc wr _ = x1 at *
      generalize wr.heap.size = X at *
      refine (crtext_pos R bo pk 1 (by decide) (by decide) _ J1.out.rd).mono ?_
      rintro e w7 ⟨rfl, hr, hb⟩
      have J2 := Lib.hid (J1.out.only hb hr)
      have XB2 := Lib.hid (hb.box RX.out XB1.out)
      clear hr hb J1 XB1
      generalize pk + 1 + valN bo pk 1 = k1 at *
      generalize valB bo (pk + 1) (valN bo pk 1) = xk at *
      have XB3 := Lib.hid (XB2.out.set 0 (.string xk))
      have J3 := Lib.hid (J2.out.setX (j := 0) LX.out VX.out (.string xk))
      have k0 := XB2.out.cell 0 _ rfl
      have f0 := XB2.out.free 0
      clear XB2 J2
      go_wp2_with fail
      generalize World.setCell _ _ _ = x3 at *
      clear k0 f0
      refine (rbytes_pos R bo k1 32 _ J3.out.rd).mono ?_
      rintro e w8 ⟨rfl, hr, hb⟩
      have J4 := Lib.hid (J3.out.only hb hr)
      have XB4 := Lib.hid (hb.box RX.out XB3.out)
      clear hr hb J3 XB3
      generalize valB bo k1 32 = xs at *
      generalize k1 + 32 = k2 at *
      have XB5 := Lib.hid (XB4.out.set 1 (.string xs))
      have J5 := Lib.hid (J4.out.setX (j := 1) LX.out VX.out (.string xs))
      have k0 := XB4.out.cell 1 _ rfl
      have f0 := XB4.out.free 1
      clear XB4 J4
      go_wp2_with fail
      generalize World.setCell _ _ _ = x5 at *
      clear k0 f0
      refine (rnumber_pos R bo k2 2 (by decide) (by decide) _ J5.out.rd).mono ?_
      rintro e w9 ⟨rfl, hr, hb⟩
      have J6 := Lib.hid (J5.out.only hb hr)
      have XB6 := Lib.hid (hb.box RX.out XB5.out)
      clear hr hb J5 XB5
      generalize ((valN bo k2 2 : Nat) : Int) = xn at *
      generalize k2 + 2 = k3 at *
      have XB7 := Lib.hid (XB6.out.set 2 (.int .i64 xn))
      have J7 := Lib.hid (J6.out.setX (j := 2) LX.out VX.out (.int .i64 xn))
      have k0 := XB6.out.cell 2 _ rfl
      have f0 := XB6.out.free 2
      clear XB6 J6
      go_wp2_with fail
      generalize World.setCell _ _ _ = x7 at *
      clear k0 f0
      refine (rnumber_pos R bo k3 2 (by decide) (by decide) _ J7.out.rd).mono ?_
      rintro e w10 ⟨rfl, hr, hb⟩
      have J8 := Lib.hid (J7.out.only hb hr)
      have XB8 := Lib.hid (hb.box RX.out XB7.out)
      clear hr hb J7 XB7
      generalize ((valN bo k3 2 : Nat) : Int) = xp at *
      generalize k3 + 2 = k4 at *
      have XB9 : Hid (Box (w10.setCell ⟨X, 3, none⟩ (.int .i64 xp)) X 53 #[.string xk, .string xs, .int .i64 xn, .int .i64 xp]) := XB8.out.set 3 (.int .i64 xp)
      have J9 := Lib.hid (J8.out.setX (j := 3) LX.out VX.out (.int .i64 xp))
      have k0 := XB8.out.cell 3 _ rfl
      have f0 := XB8.out.free 3
      have u1 := J9.out.bu.cell 1 _ rfl
      have c0 := XB9.out.cell 0 _ rfl
      have c1 := XB9.out.cell 1 _ rfl
      have c2 := XB9.out.cell 2 _ rfl
      have c3 := XB9.out.cell 3 _ rfl
      clear XB8 J8
      have hz := (Below.refl (w10.setCell ⟨X, 3, none⟩ (.int .i64 xp)).heap.size (w10.setCell ⟨X, 3, none⟩ (.int .i64 xp))).alloc (Nat.le_refl _) (.cells #[.string xk, .string xs, .int .i64 xn, .int .i64 xp] 53)
      have JA := Lib.hid (J9.out.keep hz)
      have EB := Lib.hid (Box.new (w10.setCell ⟨X, 3, none⟩ (.int .i64 xp)) 53 #[.string xk, .string xs, .int .i64 xn, .int .i64 xp])
      rw [show (w10.setCell ⟨X, 3, none⟩ (.int .i64 xp)).heap.size = w10.heap.size from Array.size_modify ..] at EB
      clear hz J9 XB9
      go_wp2_with (with_reducible refine wp_cgs_push Tryd.underlying22 four_R _ rfl (.tmp 58) (.tmp 60) rfl (U + 1) _ p rfl ?a1 w10.heap.size 1 ⟨xk, xs, xn, xp⟩ ?a2 ?a3 ?a4 ?a5 ?a6)
      case a1 => exact JA.out.pr
      try (case a2 => rfl)
      case a3 => intro i u hi; exact EB.out.cell i u (by simpa [cgL] using hi)
      case a4 => have := HEN.out; have := HLT.out; omega
      case a5 => exact JA.out.bu.lt
      intro v' wA hpv hgr _
      obtain ⟨p', hp'⟩ : ∃ p', p' = p ++ [⟨xk, xs, xn, xp⟩] := ⟨_, rfl⟩
      rw [← hp'] at hpv
      have HPP := Lib.hid hp'
      clear hp'
      obtain ⟨UB, JB⟩ := JA.out.push hgr hpv
      obtain ⟨va, vc, rfl, _⟩ := hpv.view
      have d1 := UB.cell 1 _ rfl
      have g1 := UB.free 1
      have HJ5 : Hid (DeR w g R U bo sq (.slice va p'.length vc) (posTo bo (j + 1)) (entsTo bo (j + 1)) (wA.setCell ⟨U, 1, none⟩ (.slice va p'.length vc))) := by
        rw [HPK.out, HES.out, HEA.out, ← HPP.out]
        exact JB
      clear hpv hgr JA EB UB JB k0 f0 u1 c0 c1 c2 c3
      go_wp2
      go_roundw
      case rel => exact ⟨j + 1, _, HLT.out.1, by go_num, HJ5⟩
      case measure => have := HLT.out; simp [RowKit.intOf]; omega
    · obtain rfl : j = m := by omega
      have HS := Lib.hid (HJ.out.pr.view)
      obtain ⟨va, vc, rfl, hsl⟩ := HS.out
      have SL := Lib.hid hsl
      have LT2 := Lib.hid HJ.out.lt
      have BG := Lib.hid HJ.out.bg
      have BU := Lib.hid HJ.out.bu
      have RD := Lib.hid HJ.out.rd
      have PR := Lib.hid HJ.out.pr
      have BL := Lib.hid HJ.out.bl
      clear hsl HS HJ
      generalize posTo bo j = pe at *
      generalize entsTo bo j = p at *
      have u0 := BU.out.cell 0 _ rfl
      have u1 := BU.out.cell 1 _ rfl
      obtain ⟨t, ht⟩ : ∃ t, t = (encC sq p).1 := ⟨_, rfl⟩
      obtain ⟨n, hn⟩ : ∃ n, n = (encC sq p).2 := ⟨_, rfl⟩
      rw [← ht, ← hn] at HD2
      have hre := fun W h => crencode_any sq va vc p W h
      rw [← ht, ← hn] at hre
      have HRE := Lib.hid hre
      clear hre ht hn
      go_wp2_with fail
      refine (HRE.out _ SL.out).mono ?_
      rintro e w8 ⟨rfl, hb⟩
      have G9 := Lib.hid (BG.out.keep hb BG.out.lt)
      have U9 := Lib.hid (BU.out.keep hb BU.out.lt)
      have P9 := Lib.hid (PR.out.keep hb)
      have L9 := Lib.hid (BL.out.trans (hb.mono (Nat.le_of_lt BG.out.lt)))
      have R9 := Lib.hid (crr_of RD.out (hb.block _ (crr_lt RD.out)))
      clear hb u0 u1 BG BU PR BL RD SL HRE
      go_wp2_with fail
      refine (rend_pos R bo pe _ R9.out).mono ?_
      rintro e w9 ⟨rfl, rfl⟩
      clear R9
      by_cases he : posEnd bo pe = 0
      rotate_left
      · have HQ : Hid (decR s = ((0, []), 3)) := by
          show _ = _
          rw [HD2.out, if_pos (.inl he)]
        have hd : (posEnd bo pe != 0) = true := by rw [bne_iff_ne]; exact he
        clear he HD2 U9 P9
        have f0 := G9.out.free 0
        have f1 := G9.out.free 1
        have k0 := G9.out.cell 0 _ rfl
        have k1 := G9.out.cell 1 _ rfl
        have HR := Lib.hid ((G9.out.set 0 (.int .i64 0)).set 1 (.slice none 0 0))
        have HRB := Lib.hid ((L9.out.setCell (p := ⟨g, 0, none⟩) (Nat.le_refl _) (.int .i64 0)).setCell (p := ⟨g, 1, none⟩) (Nat.le_refl _) (.slice none 0 0))
        clear G9 L9
        go_wp2
        refine bodyPost_ret (results_cell2 rfl _ _ g 24 _ (0, 0) _ rfl HR.out Tryd.underlying24 rfl sizeRBd) rfl ?_
        exact DcRes.no HQ.out (by rw [← HG.out]; exact HRB.out)
      have hd : (posEnd bo pe != 0) = false := by rw [he]; rfl
      have HE := Lib.hid he
      clear he
      by_cases hn : n = 0
      rotate_left
      · have HQ : Hid (decR s = ((0, []), 3)) := by
          show _ = _
          rw [HD2.out, if_pos (.inr (.inl hn))]
        have hd2 : (n != 0) = true := by rw [bne_iff_ne]; exact hn
        clear hn HD2 U9 P9
        have f0 := G9.out.free 0
        have f1 := G9.out.free 1
        have k0 := G9.out.cell 0 _ rfl
        have k1 := G9.out.cell 1 _ rfl
        have HR := Lib.hid ((G9.out.set 0 (.int .i64 0)).set 1 (.slice none 0 0))
        have HRB := Lib.hid ((L9.out.setCell (p := ⟨g, 0, none⟩) (Nat.le_refl _) (.int .i64 0)).setCell (p := ⟨g, 1, none⟩) (Nat.le_refl _) (.slice none 0 0))
        clear G9 L9
        go_wp2
        refine bodyPost_ret (results_cell2 rfl _ _ g 24 _ (0, 0) _ rfl HR.out Tryd.underlying24 rfl sizeRBd) rfl ?_
        exact DcRes.no HQ.out (by rw [← HG.out]; exact HRB.out)
      have hd2 : (n != 0) = false := by rw [hn]; rfl
      have HN := Lib.hid hn
      clear hn
      by_cases ht : t = s
      rotate_left
      · have HQ : Hid (decR s = ((0, []), 3)) := by
          show _ = _
          rw [HD2.out, if_pos (.inr (.inr ht))]
        have hd3 : (t.toList == s.toList) = false := str_neqC ht
        clear ht HD2 U9 P9
        have f0 := G9.out.free 0
        have f1 := G9.out.free 1
        have k0 := G9.out.cell 0 _ rfl
        have k1 := G9.out.cell 1 _ rfl
        have HR := Lib.hid ((G9.out.set 0 (.int .i64 0)).set 1 (.slice none 0 0))
        have HRB := Lib.hid ((L9.out.setCell (p := ⟨g, 0, none⟩) (Nat.le_refl _) (.int .i64 0)).setCell (p := ⟨g, 1, none⟩) (Nat.le_refl _) (.slice none 0 0))
        clear G9 L9
        go_wp2
        refine bodyPost_ret (results_cell2 rfl _ _ g 24 _ (0, 0) _ rfl HR.out Tryd.underlying24 rfl sizeRBd) rfl ?_
        exact DcRes.no HQ.out (by rw [← HG.out]; exact HRB.out)
      subst ht
      have HQ : Hid (decR t = (((sq : Int), p), 0)) := by
        show _ = _
        rw [HD2.out, if_neg]
        rintro (h | h | h)
        · exact h HE.out
        · exact h HN.out
        · exact h rfl
      clear HD2
      have u0 := U9.out.cell 0 _ rfl
      have u1 := U9.out.cell 1 _ rfl
      have f0 := G9.out.free 0
      have f1 := G9.out.free 1
      have k0 := G9.out.cell 0 _ rfl
      have k1 := G9.out.cell 1 _ rfl
      have HR := Lib.hid ((G9.out.set 0 (.int .i64 (sq : Int))).set 1 (.slice va p.length vc))
      have HRB := Lib.hid ((L9.out.setCell (p := ⟨g, 0, none⟩) (Nat.le_refl _) (.int .i64 (sq : Int))).setCell (p := ⟨g, 1, none⟩) (Nat.le_refl _) (.slice va p.length vc))
      have HPR : Hid (Cgs 53 ((w8.setCell ⟨g, 0, none⟩ (.int .i64 (sq : Int))).setCell ⟨g, 1, none⟩ (.slice va p.length vc)) w.heap.size (.slice va p.length vc) p) :=
        Cgs.base (ownsRow_of P9.out fun k hk _ => (heap_setCell_other _ ⟨g, 1, none⟩ _ _ (by have := (P9.out.own_blk k hk).1; have := LT2.out; show k ≠ g; omega)).trans (heap_setCell_other _ ⟨g, 0, none⟩ _ _ (by have := (P9.out.own_blk k hk).1; have := LT2.out; show k ≠ g; omega))) (by have := LT2.out; have := HG.out; omega)
      clear G9 L9
      go_wp2
      refine bodyPost_ret (results_cell2 rfl _ _ g 24 _ (0, 0) _ rfl HR.out Tryd.underlying24 rfl sizeRBd) rfl ?_
      exact DcRes.mk HQ.out HPR.out (by rw [← HG.out]; exact HRB.out)
end Go.Proofs.YtljjcchdhnficaaDoor
