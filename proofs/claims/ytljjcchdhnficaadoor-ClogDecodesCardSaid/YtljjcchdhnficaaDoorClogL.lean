/-
  The reference of package clog: Encode.
-/
import Derived.Test.YtljjcchdhnficaaDoorClogK
import Derived.Test.YtljjcchdhnficaaDoorClogE
import Derived.Test.YtljjcchdhnficaaDoorMg21
import Derived.Test.YtljjcchdhnficaaDoorOf
import Derived.Test.YtljjcchdhnficaaDoorMg14
namespace Go.Proofs.YtljjcchdhnficaaDoor
open Go.RowKit

set_option maxRecDepth 100000 in
set_option maxHeartbeats 2000000 in
theorem crencode_any (seq : Int) (a : Option Addr) (cap : Nat) (l : List CgE) (w : World) (h : SlC w a l) :
    Calls Tryd.prog 12 #[.agg #[.int .i64 seq, .slice a l.length cap]] w fun e w' => e = .returned (.tuple #[.string (encC seq l).1, .int .i64 (encC seq l).2]) ∧ Below w.heap.size w w' := by
  have H := Lib.hid h
  have HX := Lib.hid ((Below.refl w.heap.size w).alloc (Nat.le_refl _) (.cells #[.int .i64 seq, .slice a l.length cap] 24))
  have BX := Lib.hid (Box.new w 24 #[.int .i64 seq, .slice a l.length cap])
  clear h
  rcases chkC_or seq l with hc | hc
  · obtain ⟨_, _, hl7, hall⟩ := chkC_zero hc
    have HR : Hid (encC seq l = (bodyC seq l ++ sha (bodyC seq l), 0)) := if_pos hc
    have HC := Lib.hid hc
    have HALL := Lib.hid hall
    have HBS : Hid ((bodyC seq l).size ≤ 900) := by
      have h1 := entsK_le l (headC seq l.length) hall
      have h2 := headC_le seq l.length
      have h3 : (bodyC seq l).size ≤ _ := h1
      show _ ≤ _
      omega
    clear hc hall
    go_enter Tryd.func12, Tryd.ntmps12
    go_wp2_with fail
    generalize World.alloc w _ = wx at *
    have k0 := BX.out.cell 0 _ rfl
    have k1 := BX.out.cell 1 _ rfl
    go_wp2_with fail
    refine (crcheck_any seq a cap l _ (H.out.keep HX.out)).mono ?_
    rintro e w1 ⟨rfl, hb⟩
    rw [HC.out]
    have H1 := Lib.hid (HX.out.trans (hb.mono HX.out.size))
    have B1 := Lib.hid (BX.out.keep hb BX.out.lt)
    clear hb k0 k1 HX BX
    obtain ⟨g, hg⟩ : ∃ g, g = w.heap.size := ⟨_, rfl⟩
    have HG := Lib.hid hg
    rw [← hg] at B1 H1
    rw [← hg]
    clear hg
    obtain ⟨p1, hp1⟩ : ∃ p, putB seq 6 = p := ⟨_, rfl⟩
    obtain ⟨p2, hp2⟩ : ∃ p, putB l.length 1 = p := ⟨_, rfl⟩
    have HHD : Hid ((⟨#[80, 76]⟩ : ByteArray) ++ p1 ++ p2 = headC seq l.length) := by rw [← hp1, ← hp2]; rfl
    have z1 := putB_size seq 6
    have z2 := putB_size l.length 1
    rw [hp1] at z1
    rw [hp2] at z2
    have HP1 := Lib.hid hp1
    have HP2 := Lib.hid hp2
    have q1 : ¬ 9223372036854775807 < 2 + p1.size := by omega
    have q2 : ((⟨#[80, 76]⟩ : ByteArray) ++ p1).size = 2 + p1.size := ByteArray.size_append
    have q3 : ¬ 9223372036854775807 < 2 + p1.size + p2.size := by omega
    clear hp1 hp2
    have k0 := B1.out.cell 0 _ rfl
    have k1 := B1.out.cell 1 _ rfl
    go_wp2_with fail
    refine wp_region_sched (fun W => W.cell? ⟨g, 0, none⟩ = some (.int .i64 seq) ∧ W.cell? ⟨g, 1, none⟩ = some (.slice a l.length cap)) 8 [(0, false), (1, false), (4, false), (5, false), (6, false), (2, true), (3, false), (7, true)] (by kernel_rfl) (by kernel_rfl) ⟨k0, k1⟩ ?_
    simp only [List.drop_succ_cons, List.drop_zero]
    iterate 5 (apply wpSch_step rfl; (intro W hS K hK; obtain ⟨r1, r2⟩ := hS; go_simp; exact hK _ rfl))
    refine wpSch_make rfl (fun K' hK => ?_)
    go_simp
    refine (rput_any seq 6 _).mono ?_
    rintro e w3 ⟨rfl, hb⟩
    rw [HP1.out]
    have B3 := Lib.hid ((B1.out.keep (Below.refl _ _).drew B1.out.lt).keep hb B1.out.lt)
    have H3 := Lib.hid (H1.out.drew.trans (hb.mono (Nat.le_of_lt B1.out.lt)))
    refine hK _ _ _ (fun _ h => h) ⟨B3.out.cell 0 _ rfl, B3.out.cell 1 _ rfl⟩ ?_
    clear hK K' hb k0 k1 H1 B1
    apply wpSch_step rfl
    · intro W hS K hK
      obtain ⟨r1, r2⟩ := hS
      go_simp
      exact hK _ rfl
    refine wpSch_make rfl (fun K' hK => ?_)
    go_simp
    refine (rput_any l.length 1 _).mono ?_
    rintro e w4 ⟨rfl, hb⟩
    rw [HP2.out]
    have B4 := Lib.hid (B3.out.keep hb B3.out.lt)
    have H4 : Hid (Below g w w4) := H3.out.trans (hb.mono (Nat.le_of_lt B3.out.lt))
    refine hK _ _ _ (fun _ h => h) ⟨B4.out.cell 0 _ rfl, B4.out.cell 1 _ rfl⟩ ?_
    clear hK K' hb H3 B3
    refine wpSch_nil ?_
    have HT0 : Hid (headC seq l.length = entsK (headC seq l.length) (l.take 0)) := rfl
    go_wp2
    rw [HHD.out]
    clear q1 q2 q3 z1 z2 HP1 HP2 HHD
    go_loopw [5, 6] (fun s i wr => ∃ k : Nat, k ≤ l.length ∧ s = .string (entsK (headC seq l.length) (l.take k)) ∧ i = .int .i64 k ∧ Hid (Box wr g 24 #[.int .i64 seq, .slice a l.length cap]) ∧ Hid (Below g w wr)) (fun _ i _ => l.length - (RowKit.intOf i).toNat)
    case atStart => exact ⟨0, Nat.zero_le _, rfl, rfl, B4, H4⟩
    case round =>
      clear B4 H4
      obtain ⟨k, hk, rfl, rfl, BR, HB⟩ := hrel
      have kc := BR.out.cell 1 _ rfl
      by_cases hlt : k < l.length
      · obtain ⟨lb, off, rfl, hlb, b0, b1, b2, b3⟩ := H.out.get k hlt
        have HSN := Lib.hid (entsK_snoc (headC seq l.length) l k hlt)
        have hmx := HALL.out _ (List.getElem_mem hlt)
        have hsk : (entsK (headC seq l.length) (l.take k)).size ≤ 900 := by
          have h1 := entsK_le (l.take k) (headC seq l.length) (fun x hx => HALL.out x (List.mem_of_mem_take hx))
          have h2 := headC_le seq l.length
          rw [List.length_take] at h1
          omega
        have HLT := Lib.hid hlt
        have hk0 : (0 : Int) ≤ (k : Int) := by omega
        have hkl : (k : Int) < (l.length : Int) := by omega
        obtain ⟨S', hS'⟩ : ∃ S', entsK (headC seq l.length) (l.take (k + 1)) = S' := ⟨_, rfl⟩
        rw [hS'] at HSN
        have HS' := Lib.hid hS'
        clear hS'
        generalize entsK (headC seq l.length) (l.take k) = S at *
        generalize l[k] = x at *
        clear hlt
        obtain ⟨xk, xs, xn, xp⟩ := x
        simp only at b0 b1 b2 b3
        obtain ⟨pk, hpk⟩ : ∃ p, textB xk 1 = p := ⟨_, rfl⟩
        obtain ⟨pn, hpn⟩ : ∃ p, putB xn 2 = p := ⟨_, rfl⟩
        obtain ⟨pp, hpp⟩ : ∃ p, putB xp 2 = p := ⟨_, rfl⟩
        have HEB : Hid (S ++ pk ++ xs ++ pn ++ pp = S') := by
          show _ = _
          rw [HSN.out]
          unfold entB
          rw [hpk, hpn, hpp]
          simp only [ByteArray.append_assoc]
        have y1 := textB_le xk 1
        have y2 := putB_size xn 2
        have y3 := putB_size xp 2
        rw [hpk] at y1
        rw [hpn] at y2
        rw [hpp] at y3
        have HPK := Lib.hid hpk
        have HPN := Lib.hid hpn
        have HPP := Lib.hid hpp
        obtain ⟨m1, m2, m3, _⟩ := hmx
        simp only at m1 m2 m3
        have hxk : xk.size ≤ 140737488351232 := by omega
        have q1 : ¬ 9223372036854775807 < S.size + pk.size := by omega
        have q2 : (S ++ pk).size = S.size + pk.size := ByteArray.size_append
        have q3 : ¬ 9223372036854775807 < S.size + pk.size + xs.size := by omega
        have q4 : (S ++ pk ++ xs).size = S.size + pk.size + xs.size := by rw [ByteArray.size_append, ByteArray.size_append]
        have q5 : ¬ 9223372036854775807 < S.size + pk.size + xs.size + pn.size := by omega
        have q6 : (S ++ pk ++ xs ++ pn).size = S.size + pk.size + xs.size + pn.size := by rw [ByteArray.size_append, ByteArray.size_append, ByteArray.size_append]
        have q7 : ¬ 9223372036854775807 < S.size + pk.size + xs.size + pn.size + pp.size := by omega
        have HXK := Lib.hid hxk
        have HCW : Hid (∀ W, Below g w W → W.cell? ⟨lb, off + k * 4, none⟩ = some (.string xk) ∧ W.cell? ⟨lb, off + k * 4 + 1, none⟩ = some (.string xs) ∧ W.cell? ⟨lb, off + k * 4 + 2, none⟩ = some (.int .i64 xn) ∧ W.cell? ⟨lb, off + k * 4 + 3, none⟩ = some (.int .i64 xp)) := by
          intro W hW
          rw [HG.out] at hW
          exact ⟨(hW.cell (p := ⟨lb, off + k * 4, none⟩) hlb).trans b0, (hW.cell (p := ⟨lb, off + k * 4 + 1, none⟩) hlb).trans b1, (hW.cell (p := ⟨lb, off + k * 4 + 2, none⟩) hlb).trans b2, (hW.cell (p := ⟨lb, off + k * 4 + 3, none⟩) hlb).trans b3⟩
        clear hpk hpn hpp m1 m2 m3 y1 y2 y3 hxk hlb hsk b0 b1 b2 b3
        go_wp2_with fail
        have LR := Lib.hid HB.out.drew
        refine wp_region_sched (fun W => W.cell? ⟨g, 1, none⟩ = some (.slice (some ⟨lb, off, none⟩) l.length cap) ∧ W.cell? ⟨lb, off + k * 4, none⟩ = some (.string xk) ∧ W.cell? ⟨lb, off + k * 4 + 1, none⟩ = some (.string xs) ∧ W.cell? ⟨lb, off + k * 4 + 2, none⟩ = some (.int .i64 xn) ∧ W.cell? ⟨lb, off + k * 4 + 3, none⟩ = some (.int .i64 xp)) 31 [(0, false), (1, false), (2, false), (3, false), (4, false), (5, false), (6, false), (9, false), (10, false), (11, false), (12, false), (13, false), (14, false), (16, false), (17, false), (18, false), (19, false), (20, false), (21, false), (24, false), (25, false), (26, false), (27, false), (28, false), (29, false), (7, true), (8, false), (15, false), (22, true), (23, false), (30, true)] (by kernel_rfl) (by kernel_rfl) ⟨kc, HCW.out _ LR.out⟩ ?_
        simp only [List.drop_succ_cons, List.drop_zero]
        clear kc
        iterate 25 (apply wpSch_step rfl; (intro W hS K hK; obtain ⟨r0, r1, r2, r3, r4⟩ := hS; go_simp; exact hK _ rfl))
        refine wpSch_make rfl (fun K' hK => ?_)
        go_simp
        refine (rtext_any xk 1 _ HXK.out).mono ?_
        rintro e w7 ⟨rfl, hb⟩
        rw [HPK.out]
        have B7 := Lib.hid ((BR.out.keep (Below.refl _ _).drew BR.out.lt).keep hb BR.out.lt)
        have H7 := Lib.hid (LR.out.trans (hb.mono (Nat.le_of_lt BR.out.lt)))
        refine hK _ _ _ (fun _ h => h) ⟨B7.out.cell 1 _ rfl, HCW.out _ H7.out⟩ ?_
        clear hK K' hb BR HB LR
        apply wpSch_step rfl
        · intro W hS K hK
          obtain ⟨r0, r1, r2, r3, r4⟩ := hS
          go_simp
          exact hK _ rfl
        apply wpSch_step rfl
        · intro W hS K hK
          obtain ⟨r0, r1, r2, r3, r4⟩ := hS
          go_simp
          exact hK _ rfl
        refine wpSch_make rfl (fun K' hK => ?_)
        go_simp
        refine (rput_any xn 2 _).mono ?_
        rintro e w8 ⟨rfl, hb⟩
        rw [HPN.out]
        have B8 := Lib.hid (B7.out.keep hb B7.out.lt)
        have H8 := Lib.hid (H7.out.trans (hb.mono (Nat.le_of_lt B7.out.lt)))
        refine hK _ _ _ (fun _ h => h) ⟨B8.out.cell 1 _ rfl, HCW.out _ H8.out⟩ ?_
        clear hK K' hb B7 H7
        apply wpSch_step rfl
        · intro W hS K hK
          obtain ⟨r0, r1, r2, r3, r4⟩ := hS
          go_simp
          exact hK _ rfl
        refine wpSch_make rfl (fun K' hK => ?_)
        go_simp
        refine (rput_any xp 2 _).mono ?_
        rintro e w9 ⟨rfl, hb⟩
        rw [HPP.out]
        have B9 := Lib.hid (B8.out.keep hb B8.out.lt)
        have H9 := Lib.hid (H8.out.trans (hb.mono (Nat.le_of_lt B8.out.lt)))
        refine hK _ _ _ (fun _ h => h) ⟨B9.out.cell 1 _ rfl, HCW.out _ H9.out⟩ ?_
        clear hK K' hb B8 H8
        refine wpSch_nil ?_
        go_wp2
        rw [HEB.out]
        clear q1 q2 q3 q4 q5 q6 q7
        go_roundw
        case rel => exact ⟨k + 1, HLT.out, by rw [HS'.out], by go_num, B9, H9⟩
        case measure => have := HLT.out; simp [RowKit.intOf]; omega
      · obtain rfl : k = l.length := by omega
        rw [List.take_length]
        have HBS' : Hid ((entsK (headC seq l.length) l).size ≤ 900) := HBS
        have HR' : Hid (encC seq l = (entsK (headC seq l.length) l ++ sha (entsK (headC seq l.length) l), 0)) := HR
        have hb9 := HBS'.out
        have H6 : Hid (Below w.heap.size w wr) := by rw [← HG.out]; exact HB.out
        clear HBS HR HB
        generalize entsK (headC seq l.length) l = S at *
        go_wp2_with fail
        refine (rof_any S _ (Nat.le_trans HBS'.out (by decide))).mono ?_
        rintro e w8 ⟨rfl, hb⟩
        have H8 := Lib.hid (H6.out.trans (hb.mono H6.out.size))
        have hsz := sha_size' S
        generalize hsh : sha S = sh at *
        have q1 : ¬ 9223372036854775807 < S.size + sh.size := by omega
        clear hb hsh
        go_wp2
        go_ret2
        exact ⟨by rw [HR'.out]; rfl, H8.out⟩
  · have HR : Hid (encC seq l = (⟨#[]⟩, 1)) := by show _ = _; unfold encC; rw [hc, if_neg (by decide)]
    have HC := Lib.hid hc
    clear hc
    go_enter Tryd.func12, Tryd.ntmps12
    go_wp2_with fail
    generalize World.alloc w _ = wx at *
    have k0 := BX.out.cell 0 _ rfl
    have k1 := BX.out.cell 1 _ rfl
    go_wp2_with fail
    refine (crcheck_any seq a cap l _ (H.out.keep HX.out)).mono ?_
    rintro e w1 ⟨rfl, hb⟩
    rw [HC.out]
    have H1 := Lib.hid (HX.out.trans (hb.mono HX.out.size))
    clear hb k0 k1 HX BX
    go_wp2
    go_ret2
    exact ⟨by rw [HR.out]; rfl, H1.out⟩
end Go.Proofs.YtljjcchdhnficaaDoor
