/-
  Encode of package clog.
-/
import Derived.Test.YtljjcchdhnficaaDoorMg5
import Derived.Test.YtljjcchdhnficaaDoorFinish
import Derived.Test.YtljjcchdhnficaaDoorMg14
namespace Go.Proofs.YtljjcchdhnficaaDoor
open Go.RowKit

theorem sha_size' (s : ByteArray) : (sha s).size = 32 := by
  show ((digest _).toArray).size = 32
  rw [List.size_toArray]
  exact digK_length _ 8 (Nat.le_refl _)

set_option maxRecDepth 100000 in
set_option maxHeartbeats 2000000 in
theorem cencode_any (seq : Int) (a : Option Addr) (cap : Nat) (l : List CgE) (w : World) (h : SlC w a l) (hK : Kt w) :
    Calls Tryd.prog 10 #[.agg #[.int .i64 seq, .slice a l.length cap]] w fun e w' => e = .returned (.tuple #[.string (encC seq l).1, .int .i64 (encC seq l).2]) ∧ Below w.heap.size w w' := by
  have H := Lib.hid h
  have HK := Lib.hid hK
  have HP := Lib.hid hK.pos
  have HX := Lib.hid ((Below.refl w.heap.size w).alloc (Nat.le_refl _) (.cells #[.int .i64 seq, .slice a l.length cap] 32))
  have BX := Lib.hid (Box.new w 32 #[.int .i64 seq, .slice a l.length cap])
  clear h hK
  rcases chkC_or seq l with hc | hc
  · obtain ⟨_, _, hl7, hall⟩ := chkC_zero hc
    have HR : Hid (encC seq l = (bodyC seq l ++ sha (bodyC seq l), 0)) := if_pos hc
    have HC := Lib.hid hc
    have HALL := Lib.hid hall
    have HBS : Hid ((bodyC seq l).size ≤ 900) := by
      have h1 := entsK_le l (headC seq l.length) hall
      have h2 := headC_le seq l.length
      have h3 : (bodyC seq l).size ≤ _ := h1
      show _ ≤ _
      omega
    clear hc hall
    go_enter Tryd.func10, Tryd.ntmps10
    go_wp2_with fail
    generalize World.alloc w _ = wx at *
    have k0 := BX.out.cell 0 _ rfl
    have k1 := BX.out.cell 1 _ rfl
    go_wp2_with fail
    refine (ccheck_any seq a cap l _ (H.out.keep HX.out)).mono ?_
    rintro e w1 ⟨rfl, hb⟩
    rw [HC.out]
    have H1 := Lib.hid (HX.out.trans (hb.mono HX.out.size))
    have B1 := Lib.hid (BX.out.keep hb BX.out.lt)
    clear hb k0 k1 HX BX
    obtain ⟨b, hbE⟩ : ∃ b, b = w1.heap.size := ⟨_, rfl⟩
    obtain ⟨g, hg⟩ : ∃ g, g = w.heap.size := ⟨_, rfl⟩
    have HGB : Hid (g < b) := by rw [hbE, hg]; exact B1.out.lt
    have HH2 : Hid (Below g w (w1.alloc (.cells #[.pointer none, .slice none 0 0] 57))) := by rw [hg]; exact H1.out.alloc H1.out.size _
    have B2 : Hid (Box (w1.alloc (.cells #[.pointer none, .slice none 0 0] 57)) g 32 #[.int .i64 seq, .slice a l.length cap]) := by rw [hg]; exact B1.out.keep ((Below.refl w1.heap.size w1).alloc (Nat.le_refl _) _) B1.out.lt
    have S2 : Hid (IsBs (w1.alloc (.cells #[.pointer none, .slice none 0 0] 57)) b ⟨#[]⟩) := by rw [hbE]; exact IsBs.new w1
    have HG := Lib.hid hg
    obtain ⟨p1, hp1⟩ : ∃ p, putB seq 6 = p := ⟨_, rfl⟩
    obtain ⟨p2, hp2⟩ : ∃ p, putB l.length 1 = p := ⟨_, rfl⟩
    have HHD : Hid ((⟨#[80, 76]⟩ : ByteArray) ++ p1 ++ p2 = headC seq l.length) := by rw [← hp1, ← hp2]; rfl
    have z1 := putB_size seq 6
    have z2 := putB_size l.length 1
    rw [hp1] at z1
    rw [hp2] at z2
    have HP1 := Lib.hid hp1
    have HP2 := Lib.hid hp2
    have q1 : ¬ 9223372036854775807 < 2 + p1.size := by omega
    have q2 : ((⟨#[80, 76]⟩ : ByteArray) ++ p1).size = 2 + p1.size := ByteArray.size_append
    have q3 : ¬ 9223372036854775807 < 2 + p1.size + p2.size := by omega
    clear hp1 hp2
    have HBE := Lib.hid hbE
    rw [← hg]
    clear hg hbE
    go_wp2_with fail
    rw [← HBE.out]
    clear H1 B1
    generalize World.alloc w1 _ = w2 at *
    have k0 := B2.out.cell 0 _ rfl
    have k1 := B2.out.cell 1 _ rfl
    refine wp_region_sched (fun W => W.cell? ⟨g, 0, none⟩ = some (.int .i64 seq) ∧ W.cell? ⟨g, 1, none⟩ = some (.slice a l.length cap)) 8 [(0, false), (1, false), (4, false), (5, false), (6, false), (2, true), (3, false), (7, true)] (by kernel_rfl) (by kernel_rfl) ⟨k0, k1⟩ ?_
    simp only [List.drop_succ_cons, List.drop_zero]
    iterate 5 (apply wpSch_step rfl; (intro W hS K hK; obtain ⟨r1, r2⟩ := hS; go_simp; exact hK _ rfl))
    refine wpSch_make rfl (fun K' hK => ?_)
    go_simp
    refine (put_any seq 6 _).mono ?_
    rintro e w3 ⟨rfl, hb⟩
    rw [HP1.out]
    have S3 := Lib.hid ((S2.out.keep (Below.refl _ _).drew).keep hb)
    have B3 := Lib.hid ((B2.out.keep (Below.refl _ _).drew B2.out.lt).keep hb B2.out.lt)
    have H3 := Lib.hid (HH2.out.drew.trans (hb.mono (Nat.le_of_lt B2.out.lt)))
    refine hK _ _ _ (fun _ h => h) ⟨B3.out.cell 0 _ rfl, B3.out.cell 1 _ rfl⟩ ?_
    clear hK K' hb k0 k1 S2 HH2
    apply wpSch_step rfl
    · intro W hS K hK
      obtain ⟨r1, r2⟩ := hS
      go_simp
      exact hK _ rfl
    refine wpSch_make rfl (fun K' hK => ?_)
    go_simp
    refine (put_any l.length 1 _).mono ?_
    rintro e w4 ⟨rfl, hb⟩
    rw [HP2.out]
    have S4 := Lib.hid (S3.out.keep hb)
    have B4 := Lib.hid (B3.out.keep hb B3.out.lt)
    have H4 := Lib.hid (H3.out.trans (hb.mono (Nat.le_of_lt B3.out.lt)))
    refine hK _ _ _ (fun _ h => h) ⟨B4.out.cell 0 _ rfl, B4.out.cell 1 _ rfl⟩ ?_
    clear hK K' hb S3 H3 B2 B3
    refine wpSch_nil ?_
    go_wp2_with fail
    rw [HHD.out]
    refine (wstr_bs b ⟨#[]⟩ (headC seq l.length) _ S4.out (by have h1 := headC_le seq l.length; have h2 : (⟨#[]⟩ : ByteArray).size = 0 := rfl; omega)).mono ?_
    rintro e w5 ⟨rfl, hs, hb⟩
    have S5 : Hid (IsBs w5 b (entsK (headC seq l.length) (l.take 0))) := by
      have h2 : (⟨#[]⟩ : ByteArray) ++ headC seq l.length = headC seq l.length := ByteArray.empty_append
      rw [h2] at hs
      exact hs
    have H5 := Lib.hid (H4.out.trans (hb.mono (Nat.le_of_lt HGB.out)))
    have k1 := (B4.out.keep hb HGB.out).cell 1 _ rfl
    clear hb hs S4 H4 B4 q1 q2 q3 z1 z2 HP1 HP2 HHD
    go_wp2
    clear k1
    go_loopw [27] (fun i wr => ∃ k : Nat, k ≤ l.length ∧ i = .int .i64 k ∧ Hid (IsBs wr b (entsK (headC seq l.length) (l.take k))) ∧ Hid (Below g w wr)) (fun i _ => l.length - (RowKit.intOf i).toNat)
    case atStart => exact ⟨0, Nat.zero_le _, rfl, S5, H5⟩
    case round =>
      clear S5 H5
      obtain ⟨k, hk, rfl, HS, HB⟩ := hrel
      by_cases hlt : k < l.length
      · obtain ⟨lb, off, rfl, hlb, e0, e1, e2, e3⟩ := (H.out.keep (w' := wr) (by rw [← HG.out]; exact HB.out)).get k hlt
        have HSN := Lib.hid (entsK_snoc (headC seq l.length) l k hlt)
        have hmx := HALL.out _ (List.getElem_mem hlt)
        have hsk : (entsK (headC seq l.length) (l.take k)).size ≤ 900 := by
          have h1 := entsK_le (l.take k) (headC seq l.length) (fun x hx => HALL.out x (List.mem_of_mem_take hx))
          have h2 := headC_le seq l.length
          rw [List.length_take] at h1
          omega
        have HSK := Lib.hid hsk
        have HLT := Lib.hid hlt
        clear hsk
        obtain ⟨S', hS'⟩ : ∃ S', entsK (headC seq l.length) (l.take (k + 1)) = S' := ⟨_, rfl⟩
        rw [hS'] at HSN
        have HS' := Lib.hid hS'
        clear hS'
        generalize entsK (headC seq l.length) (l.take k) = S at *
        generalize l[k] = x at *
        clear hlt
        have HEL := Lib.hid (entB_le hmx)
        obtain ⟨xk, xs, xn, xp⟩ := x
        simp only at e0 e1 e2 e3
        obtain ⟨pk, hpk⟩ : ∃ p, textB xk 1 = p := ⟨_, rfl⟩
        obtain ⟨pn, hpn⟩ : ∃ p, putB xn 2 = p := ⟨_, rfl⟩
        obtain ⟨pp, hpp⟩ : ∃ p, putB xp 2 = p := ⟨_, rfl⟩
        have HEB : Hid (pk ++ xs ++ pn ++ pp = entB ⟨xk, xs, xn, xp⟩) := by rw [← hpk, ← hpn, ← hpp]; rfl
        have y1 := textB_le xk 1
        have y2 := putB_size xn 2
        have y3 := putB_size xp 2
        rw [hpk] at y1
        rw [hpn] at y2
        rw [hpp] at y3
        have HPK := Lib.hid hpk
        have HPN := Lib.hid hpn
        have HPP := Lib.hid hpp
        obtain ⟨m1, m2, m3, _⟩ := hmx
        simp only at m1 m2 m3
        have hxk : xk.size ≤ 140737488351232 := by omega
        have q1 : ¬ 9223372036854775807 < pk.size + xs.size := by omega
        have q2 : (pk ++ xs).size = pk.size + xs.size := ByteArray.size_append
        have q3 : ¬ 9223372036854775807 < pk.size + xs.size + pn.size := by omega
        have q4 : (pk ++ xs ++ pn).size = pk.size + xs.size + pn.size := by rw [ByteArray.size_append, ByteArray.size_append]
        have q5 : ¬ 9223372036854775807 < pk.size + xs.size + pn.size + pp.size := by omega
        have HXK := Lib.hid hxk
        have hcl : g < wr.heap.size := Nat.lt_trans HGB.out HS.out.lt
        have HCL := Lib.hid hcl
        obtain ⟨c, hcE⟩ : ∃ c, c = wr.heap.size := ⟨_, rfl⟩
        have BC : Hid (Box (wr.alloc (.cells #[.string xk, .string xs, .int .i64 xn, .int .i64 xp] 54)) c 54 #[.string xk, .string xs, .int .i64 xn, .int .i64 xp]) := by rw [hcE]; exact Box.new wr _ _
        have SC : Hid (IsBs (wr.alloc (.cells #[.string xk, .string xs, .int .i64 xn, .int .i64 xp] 54)) b S) := HS.out.keep ((Below.refl wr.heap.size wr).alloc (Nat.le_refl _) _)
        have LC : Hid (Below g w (wr.alloc (.cells #[.string xk, .string xs, .int .i64 xn, .int .i64 xp] 54))) := HB.out.alloc (Nat.le_of_lt hcl) _
        have HCE := Lib.hid hcE
        clear hpk hpn hpp m1 m2 m3 y1 y2 y3 hxk hcl hcE HS HB hlb
        go_wp2_with fail
        rw [← HCE.out]
        clear e0 e1 e2 e3 HCE
        generalize World.alloc wr _ = w6 at *
        have k0 := BC.out.cell 0 _ rfl
        have k1 := BC.out.cell 1 _ rfl
        have k2 := BC.out.cell 2 _ rfl
        have k3 := BC.out.cell 3 _ rfl
        refine wp_region_sched (fun W => W.cell? ⟨c, 0, none⟩ = some (.string xk) ∧ W.cell? ⟨c, 1, none⟩ = some (.string xs) ∧ W.cell? ⟨c, 2, none⟩ = some (.int .i64 xn) ∧ W.cell? ⟨c, 3, none⟩ = some (.int .i64 xp)) 13 [(0, false), (1, false), (3, false), (4, false), (6, false), (7, false), (10, false), (11, false), (2, true), (5, false), (8, true), (9, false), (12, true)] (by kernel_rfl) (by kernel_rfl) ⟨k0, k1, k2, k3⟩ ?_
        simp only [List.drop_succ_cons, List.drop_zero]
        clear k0 k1 k2 k3
        iterate 8 (apply wpSch_step rfl; (intro W hS K hK; obtain ⟨r1, r2, r3, r4⟩ := hS; go_simp; exact hK _ rfl))
        refine wpSch_make rfl (fun K' hK => ?_)
        go_simp
        refine (ftext_any xk 1 _ HXK.out).mono ?_
        rintro e w7 ⟨rfl, hb⟩
        rw [HPK.out]
        have S7 := Lib.hid ((SC.out.keep (Below.refl _ _).drew).keep hb)
        have B7 := Lib.hid ((BC.out.keep (Below.refl _ _).drew BC.out.lt).keep hb BC.out.lt)
        have H7 := Lib.hid (LC.out.drew.trans (hb.mono (Nat.le_trans (Nat.le_of_lt HGB.out) (Nat.le_of_lt SC.out.lt))))
        refine hK _ _ _ (fun _ h => h) ⟨B7.out.cell 0 _ rfl, B7.out.cell 1 _ rfl, B7.out.cell 2 _ rfl, B7.out.cell 3 _ rfl⟩ ?_
        clear hK K' hb SC BC LC
        apply wpSch_step rfl
        · intro W hS K hK
          obtain ⟨r1, r2, r3, r4⟩ := hS
          go_simp
          exact hK _ rfl
        refine wpSch_make rfl (fun K' hK => ?_)
        go_simp
        refine (put_any xn 2 _).mono ?_
        rintro e w8 ⟨rfl, hb⟩
        rw [HPN.out]
        have S8 := Lib.hid (S7.out.keep hb)
        have B8 := Lib.hid (B7.out.keep hb B7.out.lt)
        have H8 := Lib.hid (H7.out.trans (hb.mono (Nat.le_trans (Nat.le_of_lt HGB.out) (Nat.le_of_lt S7.out.lt))))
        refine hK _ _ _ (fun _ h => h) ⟨B8.out.cell 0 _ rfl, B8.out.cell 1 _ rfl, B8.out.cell 2 _ rfl, B8.out.cell 3 _ rfl⟩ ?_
        clear hK K' hb S7 B7 H7
        apply wpSch_step rfl
        · intro W hS K hK
          obtain ⟨r1, r2, r3, r4⟩ := hS
          go_simp
          exact hK _ rfl
        refine wpSch_make rfl (fun K' hK => ?_)
        go_simp
        refine (put_any xp 2 _).mono ?_
        rintro e w9 ⟨rfl, hb⟩
        rw [HPP.out]
        have S9 := Lib.hid (S8.out.keep hb)
        have B9 := Lib.hid (B8.out.keep hb B8.out.lt)
        have H9 := Lib.hid (H8.out.trans (hb.mono (Nat.le_trans (Nat.le_of_lt HGB.out) (Nat.le_of_lt S8.out.lt))))
        refine hK _ _ _ (fun _ h => h) ⟨B9.out.cell 0 _ rfl, B9.out.cell 1 _ rfl, B9.out.cell 2 _ rfl, B9.out.cell 3 _ rfl⟩ ?_
        clear hK K' hb S8 B8 H8
        refine wpSch_nil ?_
        go_wp2_with fail
        rw [HEB.out]
        refine (wstr_bs b S (entB ⟨xk, xs, xn, xp⟩) _ S9.out (by have h1 := HEL.out; have h2 := HSK.out; omega)).mono ?_
        rintro e wA ⟨rfl, hs, hb⟩
        have SA : Hid (IsBs wA b S') := by rw [HSN.out]; exact hs
        have HA := Lib.hid (H9.out.trans (hb.mono (Nat.le_of_lt HGB.out)))
        clear hs hb S9 B9 H9 q1 q2 q3 q4 q5
        go_wp2
        go_roundw
        case rel => exact ⟨k + 1, HLT.out, by go_num, by rw [HS'.out]; exact SA, HA⟩
        case measure => have := HLT.out; simp [RowKit.intOf]; omega
      · obtain rfl : k = l.length := by omega
        have S6 : Hid (IsBs wr b (bodyC seq l)) := by
          have h1 := HS.out
          rw [List.take_length] at h1
          exact h1
        clear HS
        have hb9 := HBS.out
        generalize bodyC seq l = S at *
        go_wp2_with fail
        refine (bstr_bs b S _ S6.out).mono ?_
        rintro e w7 ⟨rfl, hb⟩
        have H7 : Hid (Below w.heap.size w w7) := by rw [← HG.out]; exact HB.out.trans (hb.mono (Nat.le_of_lt HGB.out))
        clear hb HB S6
        go_wp2_with fail
        refine (of_any S _ (Nat.le_trans HBS.out (by decide)) (HK.out.below H7.out HP.out)).mono ?_
        rintro e w8 ⟨rfl, hb⟩
        have H8 := Lib.hid (H7.out.trans (hb.mono H7.out.size))
        have hsz := sha_size' S
        generalize hsh : sha S = sh at *
        have q1 : ¬ 9223372036854775807 < S.size + sh.size := by omega
        clear hb hsh
        go_wp2
        go_ret2
        exact ⟨by rw [HR.out]; rfl, H8.out⟩
  · have HR : Hid (encC seq l = (⟨#[]⟩, 1)) := by show _ = _; unfold encC; rw [hc, if_neg (by decide)]
    have HC := Lib.hid hc
    clear hc
    go_enter Tryd.func10, Tryd.ntmps10
    go_wp2_with fail
    generalize World.alloc w _ = wx at *
    have k0 := BX.out.cell 0 _ rfl
    have k1 := BX.out.cell 1 _ rfl
    go_wp2_with fail
    refine (ccheck_any seq a cap l _ (H.out.keep HX.out)).mono ?_
    rintro e w1 ⟨rfl, hb⟩
    rw [HC.out]
    have H1 := Lib.hid (HX.out.trans (hb.mono HX.out.size))
    clear hb k0 k1 HX BX
    go_wp2
    go_ret2
    exact ⟨by rw [HR.out]; rfl, H1.out⟩
end Go.Proofs.YtljjcchdhnficaaDoor
