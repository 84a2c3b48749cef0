/-
  The walk of ModelRefused.
-/
import Derived.Test.YteimpebfenpifaaGreatDoorMg43
import Derived.Test.YteimpebfenpifaaGreatDoorMg24
namespace Go.Proofs.YteimpebfenpifaaGreatDoor.modelRefused
open Go Go.RowKit Go.ChangeShapes Go.WideShapes Go.ChangeAt

theorem sle_two (w : World) (o1 o2 : OpD) : SlE (w.alloc (.cells #[.int .i64 o1.do_, .string o1.path, .string o1.dst, .int .i64 o1.off, .int .i64 o1.len, .string o1.data, .int .i64 o2.do_, .string o2.path, .string o2.dst, .int .i64 o2.off, .int .i64 o2.len, .string o2.data] 36 (0, 0))) 6 MopK (some ⟨w.heap.size, 0, none⟩) [o1, o2] := by
  have hb := Box.new w 36 #[.int .i64 o1.do_, .string o1.path, .string o1.dst, .int .i64 o1.off, .int .i64 o1.len, .string o1.data, .int .i64 o2.do_, .string o2.path, .string o2.dst, .int .i64 o2.off, .int .i64 o2.len, .string o2.data]
  intro _
  refine ⟨w.heap.size, 0, rfl, hb.lt, fun i x hx => ?_⟩
  rcases i with _ | _ | i
  · injection hx with hx
    subst hx
    refine ⟨_, rfl, rfl, fun j u hj => ?_⟩
    have hj2 : j < 6 := by
      have := (List.getElem?_eq_some_iff.1 hj).1
      simpa using this
    have he : (#[.int .i64 o1.do_, .string o1.path, .string o1.dst, .int .i64 o1.off, .int .i64 o1.len, .string o1.data, .int .i64 o2.do_, .string o2.path, .string o2.dst, .int .i64 o2.off, .int .i64 o2.len, .string o2.data] : Array Value)[j]? = some u := by
      match j, hj2 with
      | 0, _ => exact hj
      | 1, _ => exact hj
      | 2, _ => exact hj
      | 3, _ => exact hj
      | 4, _ => exact hj
      | 5, _ => exact hj
    simpa using hb.cell j u he
  · injection hx with hx
    subst hx
    refine ⟨_, rfl, rfl, fun j u hj => ?_⟩
    have hj2 : j < 6 := by
      have := (List.getElem?_eq_some_iff.1 hj).1
      simpa using this
    have he : (#[.int .i64 o1.do_, .string o1.path, .string o1.dst, .int .i64 o1.off, .int .i64 o1.len, .string o1.data, .int .i64 o2.do_, .string o2.path, .string o2.dst, .int .i64 o2.off, .int .i64 o2.len, .string o2.data] : Array Value)[6 + j]? = some u := by
      match j, hj2 with
      | 0, _ => exact hj
      | 1, _ => exact hj
      | 2, _ => exact hj
      | 3, _ => exact hj
      | 4, _ => exact hj
      | 5, _ => exact hj
    simpa using hb.cell (6 + j) u he
  · simp at hx
theorem small_iff {l : List OpD} {m : Int} (h : smallB l m = true) : (∀ o ∈ l, okO o) ∧ (l.length : Int) ≤ m := of_decide_eq_true h

set_option maxRecDepth 100000 in
set_option maxHeartbeats 8000000 in
theorem walk (w : World) (hI : It w) (x0 : Option Addr) (c0 : Nat) (l0 : List OpD) (s0 : SlE w 6 MopK x0 l0) (m0 : l0.length ≤ maxLen) (o1 : OpD) (_ : o1.path.size ≤ maxLen) (_ : o1.dst.size ≤ maxLen) (_ : o1.data.size ≤ maxLen) (o2 : OpD) (_ : o2.path.size ≤ maxLen) (_ : o2.dst.size ≤ maxLen) (_ : o2.data.size ≤ maxLen) :
    Calls Tryz.prog 8 #[.slice x0 l0.length c0, opV o1, opV o2] w fun e w' => e = .returned (.bool true) ∧ Below w.heap.size w w' := by
  have HI := Lib.hid hI
  have HS := Lib.hid s0
  have HM := Lib.hid m0
  clear hI s0 m0
  have hb1 := (Below.refl w.heap.size w).alloc (Nat.le_refl _) (.cells (opA o1) 36 (0, 0))
  have hb2 := hb1.alloc (by rw [size_alloc]; omega) (.cells (opA o2) 36 (0, 0))
  have hx1 := (Box.new w 36 (opA o1)).alloc (.cells (opA o2) 36 (0, 0))
  have hx2 := Box.new (w.alloc (.cells (opA o1) 36 (0, 0))) 36 (opA o2)
  rw [size_alloc] at hx2
  have HB := Lib.hid hb2
  have HX1 := Lib.hid hx1
  have HX2 := Lib.hid hx2
  clear hb1 hb2 hx1 hx2
  unfold opA at HB HX1 HX2
  unfold opV opA
  obtain ⟨g1, hg1⟩ : ∃ g, g = w.heap.size := ⟨_, rfl⟩
  obtain ⟨g2, hg2⟩ : ∃ g, g = w.heap.size + 1 := ⟨_, rfl⟩
  rw [← hg2] at HX2
  rw [← hg1] at HX1
  go_enter Tryz.func8, Tryz.ntmps8
  go_wp2_with fail
  rw [← hg2, ← hg1]
  have HG1 := Lib.hid hg1
  have HG2 := Lib.hid hg2
  clear hg1 hg2
  generalize World.alloc (World.alloc w _) _ = w1 at *
  have HSM := Lib.hid (small_any w1 x0 c0 l0 30 (fun hne => by
    obtain ⟨b, off, e, hl, hc⟩ := HS.out hne
    exact ⟨b, off, e, Nat.lt_of_lt_of_le hl HB.out.size, fun i x hi => by
      obtain ⟨cs, h1, h2, h3⟩ := hc i x hi
      exact ⟨cs, h1, h2, fun j u hj => (HB.out.cell (p := ⟨b, off + i * 6 + j, none⟩) hl).trans (h3 j u hj)⟩⟩) HM.out)
  refine HSM.out.mono ?_
  rintro e w1' ⟨rfl, rfl⟩
  clear HSM
  by_cases hs1 : smallB l0 30 = true
  case neg =>
    have hs1 : smallB l0 30 = false := by simpa using hs1
    rw [hs1]
    go_wp2_with fail
    refine (live_any _ (HI.out.keep HB.out)).mono ?_
    rintro e wl ⟨rfl, hb⟩
    have HL := Lib.hid (HB.out.trans (hb.mono HB.out.size))
    clear hb
    go_wp2
    go_ret
    exact ⟨rfl, HL.out⟩
  have HO := Lib.hid (small_iff hs1)
  rw [hs1]
  clear hs1
  have p0 := HX1.out.cell 0 _ rfl
  have p1 := HX1.out.cell 1 _ rfl
  have p2 := HX1.out.cell 2 _ rfl
  have p3 := HX1.out.cell 3 _ rfl
  have p4 := HX1.out.cell 4 _ rfl
  have p5 := HX1.out.cell 5 _ rfl
  have q0 := HX2.out.cell 0 _ rfl
  have q1 := HX2.out.cell 1 _ rfl
  have q2 := HX2.out.cell 2 _ rfl
  have q3 := HX2.out.cell 3 _ rfl
  have q4 := HX2.out.cell 4 _ rfl
  have q5 := HX2.out.cell 5 _ rfl
  go_wp2_with fail
  refine (small_any _ (some ⟨w1'.heap.size, 0, none⟩) 2 [o1, o2] 2 (sle_two w1' o1 o2) (by show 2 ≤ maxLen; decide)).mono ?_
  rintro e w2 ⟨rfl, rfl⟩
  have hba := HB.out.trans (((Below.refl w1'.heap.size w1').alloc (Nat.le_refl _) (.cells #[.int .i64 o1.do_, .string o1.path, .string o1.dst, .int .i64 o1.off, .int .i64 o1.len, .string o1.data, .int .i64 o2.do_, .string o2.path, .string o2.dst, .int .i64 o2.off, .int .i64 o2.len, .string o2.data] 36 (0, 0))).mono HB.out.size)
  have HB2 := Lib.hid hba
  have HY1 := Lib.hid (HX1.out.alloc (.cells #[.int .i64 o1.do_, .string o1.path, .string o1.dst, .int .i64 o1.off, .int .i64 o1.len, .string o1.data, .int .i64 o2.do_, .string o2.path, .string o2.dst, .int .i64 o2.off, .int .i64 o2.len, .string o2.data] 36 (0, 0)))
  have HY2 := Lib.hid (HX2.out.alloc (.cells #[.int .i64 o1.do_, .string o1.path, .string o1.dst, .int .i64 o1.off, .int .i64 o1.len, .string o1.data, .int .i64 o2.do_, .string o2.path, .string o2.dst, .int .i64 o2.off, .int .i64 o2.len, .string o2.data] 36 (0, 0)))
  clear hba HB HX1 HX2 p0 p1 p2 p3 p4 p5 q0 q1 q2 q3 q4 q5
  generalize World.alloc w1' _ = w2 at *
  by_cases hs2 : smallB [o1, o2] 2 = true
  case neg =>
    have hs2 : smallB [o1, o2] 2 = false := by simpa using hs2
    rw [hs2]
    clear hs2
    go_wp2_with fail
    refine (live_any _ (HI.out.keep HB2.out)).mono ?_
    rintro e wl ⟨rfl, hb⟩
    have HL := Lib.hid (HB2.out.trans (hb.mono HB2.out.size))
    clear hb
    go_wp2
    go_ret
    exact ⟨rfl, HL.out⟩
  have HO1 : Hid (okO o1) := (small_iff hs2).1 o1 (by simp)
  have HO2 : Hid (okO o2) := (small_iff hs2).1 o2 (by simp)
  rw [hs2]
  clear hs2
  have HI2 := Lib.hid (HI.out.keep HB2.out)
  have HNW := Lib.hid (lv_new w2 HI2.out)
  go_wp2_with fail
  refine HNW.out.mono ?_
  rintro e w3 ⟨b, rfl, hs⟩
  have HLS := Lib.hid hs
  clear hs HNW
  go_wp2_with fail
  go_loopw [8] (fun i wr => ∃ j : Nat, j ≤ l0.length ∧ i = .int .i64 j ∧ Hid (LvS w2 b (runG newG (l0.take j)) j (fun j => j < w2.heap.size) wr)) (fun i _ => l0.length - (intOf i).toNat)
  case atStart => exact ⟨0, Nat.zero_le _, rfl, HLS⟩
  case round =>
    clear HLS
    rename_i hkl1
    obtain ⟨j, hj, rfl, HLJ⟩ := hrel
    have HLEN := Lib.hid HO.out.2
    by_cases hlt : j < l0.length
    · clear hkl1
      obtain ⟨x0b, x0o, rfl, _, q0, q1, q2, q3, q4, q5⟩ := HS.out.mop (HB2.out.trans (HLJ.out.bl.mono HB2.out.size)) j hlt
      have HOJ : Hid (okO l0[j]) := HO.out.1 _ (List.getElem_mem hlt)
      have HRJ : Hid (runG newG (l0.take (j + 1)) = (doG (runG newG (l0.take j)) l0[j]).2) := runG_take hlt
      have h0 : (0 : Int) ≤ (j : Int) := by omega
      have hj1 : (j : Int) < (l0.length : Int) := by omega
      have HLT := Lib.hid hlt
      generalize l0[j] = x at *
      have HD := Lib.hid (lv_ask HLJ.out HI2.out (by have := HLEN.out; omega) x HOJ.out)
      rw [← HRJ.out] at HD
      unfold opV opA at HD
      clear hlt
      go_wp2_with fail
      refine HD.out.mono ?_
      rintro e w4 ⟨⟨v, rfl⟩, hs⟩
      have HLS2 := Lib.hid hs
      clear hs HD q0 q1 q2 q3 q4 q5
      have hlt := HLT.out
      have hkk : j + 1 ≤ 30 := by have := HLEN.out; omega
      go_wp2
      go_roundw
      case rel => exact ⟨j + 1, by omega, by go_num, HLS2⟩
      case measure => simp [intOf]; omega
    · have hke : j = l0.length := by omega
      clear hlt
      rw [hke] at HLJ
      rw [List.take_length] at HLJ
      subst hke
      have HK : Hid (l0.length ≤ 30) := by have := HLEN.out; show _ ≤ _; omega
      clear hj
      generalize runG newG l0 = G at *
      obtain ⟨kk, hkk⟩ : ∃ kk, kk = l0.length := ⟨_, rfl⟩
      have HC := Lib.hid (lt_copy HLJ.out (by have := HK.out; omega))
      go_wp2_with fail
      refine HC.out.mono ?_
      rintro e w4 ⟨b2, rfl, hs, hb⟩
      have HT4 := Lib.hid hs
      clear hs hb HC HLJ
      go_wp2_with fail
      refine (lt_count HT4.out (by have := HK.out; omega)).mono ?_
      rintro e w5 ⟨rfl, hs, hb⟩
      have HT5 := Lib.hid hs
      clear hs hb HT4
      have HZ1 := Lib.hid (HY1.out.keep HT5.out.bl HY1.out.lt)
      have p0 := HZ1.out.cell 0 _ rfl
      have p1 := HZ1.out.cell 1 _ rfl
      have p2 := HZ1.out.cell 2 _ rfl
      have p3 := HZ1.out.cell 3 _ rfl
      have p4 := HZ1.out.cell 4 _ rfl
      have p5 := HZ1.out.cell 5 _ rfl
      obtain ⟨Q, hQ⟩ : ∃ Q, Q = (doG G o1).1 := ⟨_, rfl⟩
      obtain ⟨G', hG'⟩ : ∃ G', G' = (doG G o1).2 := ⟨_, rfl⟩
      have HR := Lib.hid (refused_same G o1)
      rw [← hQ] at HR
      have HDQ : Hid (doG G o1 = (Q, G')) := by show _ = _; rw [hQ, hG']
      have HD := Lib.hid (lt_do HT5.out HI2.out (by have := HK.out; omega) o1 HO1.out HDQ.out)
      unfold opV opA at HD
      clear hQ hG' HT5
      go_wp2_with fail
      refine HD.out.mono ?_
      rintro e w6 ⟨va, vc, rfl, K', hm, hs, hks, hown, hkp⟩
      clear HD p0 p1 p2 p3 p4 p5 HZ1
      have ha := hs.alloc (.cells #[.int .i64 Q.code, .int .i64 Q.n, .string Q.data, .slice va Q.names.length vc] 33 (0, 0))
      have hbx := Box.new w6 33 #[.int .i64 Q.code, .int .i64 Q.n, .string Q.data, .slice va Q.names.length vc]
      have HT7 := Lib.hid ha
      have HBX := Lib.hid hbx
      clear ha hbx hs hks hown hkp hm
      simp only [ansV]
      by_cases hc : Q.code = 0
      case pos =>
        have d0 : (w6.alloc (.cells #[.int .i64 Q.code, .int .i64 Q.n, .string Q.data, .slice va Q.names.length vc] 33 (0, 0))).cell? ⟨w6.heap.size, 0, none⟩ = some (.int .i64 0) := (HBX.out.cell 0 _ rfl).trans (congrArg (fun z => some (Value.int .i64 z)) hc)
        clear HR hc
        go_wp2_with fail
        refine (live_any _ HT7.out.it).mono ?_
        rintro e wl ⟨rfl, hb⟩
        have HL := Lib.hid ((HB2.out.trans (HT7.out.bl.mono HB2.out.size)).trans (hb.mono (by have := HB2.out.size; have := HT7.out.bl.size; omega)))
        clear hb
        go_wp2
        go_ret
        exact ⟨rfl, HL.out⟩
      have HE := HR.out hc
      rw [HDQ.out] at HE
      injection HE with he1 he2
      subst he2
      have d9 : (Q.code == 0) = false := by simpa using hc
      obtain ⟨c, hcc⟩ : ∃ c, c = Q.code := ⟨_, rfl⟩
      rw [← hcc] at he1 d9
      subst he1
      have d0 : (w6.alloc (.cells #[.int .i64 (noA c).code, .int .i64 (noA c).n, .string (noA c).data, .slice va (noA c).names.length vc] 33 (0, 0))).cell? ⟨w6.heap.size, 0, none⟩ = some (.int .i64 c) := HBX.out.cell 0 _ rfl
      clear hc HR HDQ hcc
      go_wp2_with fail
      clear d0 d9
      obtain ⟨a, haa⟩ : ∃ a, a = w6.heap.size := ⟨_, rfl⟩
      rw [← haa] at HBX HT7
      rw [← haa]
      clear haa
      generalize World.alloc w6 _ = w7 at *
      refine (lt_count HT7.out (by have := HK.out; omega)).mono ?_
      rintro e w8 ⟨rfl, hs, hb⟩
      have HT8 := Lib.hid hs
      have HBX := Lib.hid (HBX.out.keep hb HBX.out.lt)
      clear hs hb HT7
      have HZ2 := Lib.hid (HY2.out.keep HT8.out.bl HY2.out.lt)
      generalize (countG G').1 = n1 at *
      generalize (countG G').2.1 = n2 at *
      generalize (countG G').2.2 = n3 at *
      have i1 : ((n1 : Int) == (n1 : Int)) = true := by simp
      have i2 : ((n2 : Int) == (n2 : Int)) = true := by simp
      have i3 : ((n3 : Int) == (n3 : Int)) = true := by simp
      go_wp2_with fail
      have q0 : w8.drew.cell? ⟨g2, 0, none⟩ = some (.int .i64 o2.do_) := HZ2.out.cell 0 _ rfl
      have q1 : w8.drew.cell? ⟨g2, 1, none⟩ = some (.string o2.path) := HZ2.out.cell 1 _ rfl
      have q2 : w8.drew.cell? ⟨g2, 2, none⟩ = some (.string o2.dst) := HZ2.out.cell 2 _ rfl
      have q3 : w8.drew.cell? ⟨g2, 3, none⟩ = some (.int .i64 o2.off) := HZ2.out.cell 3 _ rfl
      have q4 : w8.drew.cell? ⟨g2, 4, none⟩ = some (.int .i64 o2.len) := HZ2.out.cell 4 _ rfl
      have q5 : w8.drew.cell? ⟨g2, 5, none⟩ = some (.string o2.data) := HZ2.out.cell 5 _ rfl
      have d1 : w8.drew.cell? ⟨a, 1, none⟩ = some (.int .i64 0) := HBX.out.cell 1 _ rfl
      have d2 : w8.drew.cell? ⟨a, 2, none⟩ = some (.string ⟨#[]⟩) := HBX.out.cell 2 _ rfl
      have d3 : w8.drew.cell? ⟨a, 3, none⟩ = some (.slice va 0 vc) := HBX.out.cell 3 _ rfl
      refine wp_region_tree (fun W => W.cell? ⟨g2, 0, none⟩ = some (.int .i64 o2.do_) ∧ W.cell? ⟨g2, 1, none⟩ = some (.string o2.path) ∧ W.cell? ⟨g2, 2, none⟩ = some (.string o2.dst) ∧ W.cell? ⟨g2, 3, none⟩ = some (.int .i64 o2.off) ∧ W.cell? ⟨g2, 4, none⟩ = some (.int .i64 o2.len) ∧ W.cell? ⟨g2, 5, none⟩ = some (.string o2.data) ∧ W.cell? ⟨a, 1, none⟩ = some (.int .i64 0) ∧ W.cell? ⟨a, 2, none⟩ = some (.string ⟨#[]⟩) ∧ W.cell? ⟨a, 3, none⟩ = some (.slice va 0 vc)) 35 (.quiet 0 (.quiet 1 (.quiet 2 (.quiet 3 (.quiet 4 (.quiet 5 (.quiet 6 (.quiet 7 (.quiet 8 (.quiet 9 (.quiet 10 (.quiet 11 (.quiet 12 (.quiet 13 (.quiet 14 (.quiet 15 (.quiet 16 (.quiet 17 (.quiet 18 (.quiet 19 (.quiet 20 (.quiet 21 (.quiet 22 (.quiet 23 (.quiet 24 (.quiet 25 (.quiet 26 (.quiet 27 (.quiet 28 (.quiet 29 (.quiet 30 (.quiet 31 (.quiet 33 (.quiet 34 (.make 32 .nil))))))))))))))))))))))))))))))))))) (by kernel_rfl) (by kernel_rfl) ⟨q0, q1, q2, q3, q4, q5, d1, d2, d3⟩ ?_
      simp only [List.drop_succ_cons, List.drop_zero]
      iterate 34 (apply wpTr_step rfl; (intro W hS K hK; obtain ⟨u0, u1, u2, u3, u4, u5, u6, u7, u8⟩ := hS; go_simp; exact hK _ rfl))
      have HT9 := Lib.hid HT8.out.drew
      have HBX9 : Hid (Box w8.drew a 33 _) := HBX.out
      have HZ9 : Hid (Box w8.drew g2 36 _) := HZ2.out
      have HLG : Hid (g2 < w2.heap.size) := HY2.out.lt
      clear q0 q1 q2 q3 q4 q5 d1 d2 d3 HT8 HBX HZ2 HY2 HY1
      generalize w8.drew = w9 at *
      obtain ⟨Q2, hQ2⟩ : ∃ Q, Q = (doG G' o2).1 := ⟨_, rfl⟩
      obtain ⟨G2, hG2⟩ : ∃ G, G = (doG G' o2).2 := ⟨_, rfl⟩
      have HDQ2 : Hid (doG G' o2 = (Q2, G2)) := by show _ = _; rw [hQ2, hG2]
      have HNL : Hid (Q2.names.length ≤ 100000) := by
        have h1 := names_len G' o2
        have h2 := HT9.out.bE
        have h3 := HK.out
        show _ ≤ _
        rw [hQ2]
        omega
      clear hQ2 hG2
      have HD := Lib.hid (lt_do HT9.out HI2.out (by have := HK.out; omega) o2 HO2.out HDQ2.out)
      unfold opV opA at HD
      refine wpTr_make rfl (fun K'' hK => ?_)
      go_simp
      refine HD.out.mono ?_
      rintro e w10 ⟨va2, vc2, rfl, K2, hm2, hs2, hks2, hown2, hkp2⟩
      have HZ10 := Lib.hid (hkp2.box HZ9.out (HT9.out.low _ HLG.out))
      have HBX10 := Lib.hid (hkp2.box HBX9.out (.inr rfl))
      have q0 : w10.cell? ⟨g2, 0, none⟩ = some (.int .i64 o2.do_) := HZ10.out.cell 0 _ rfl
      have q1 : w10.cell? ⟨g2, 1, none⟩ = some (.string o2.path) := HZ10.out.cell 1 _ rfl
      have q2 : w10.cell? ⟨g2, 2, none⟩ = some (.string o2.dst) := HZ10.out.cell 2 _ rfl
      have q3 : w10.cell? ⟨g2, 3, none⟩ = some (.int .i64 o2.off) := HZ10.out.cell 3 _ rfl
      have q4 : w10.cell? ⟨g2, 4, none⟩ = some (.int .i64 o2.len) := HZ10.out.cell 4 _ rfl
      have q5 : w10.cell? ⟨g2, 5, none⟩ = some (.string o2.data) := HZ10.out.cell 5 _ rfl
      have d1 : w10.cell? ⟨a, 1, none⟩ = some (.int .i64 0) := HBX10.out.cell 1 _ rfl
      have d2 : w10.cell? ⟨a, 2, none⟩ = some (.string ⟨#[]⟩) := HBX10.out.cell 2 _ rfl
      have d3 : w10.cell? ⟨a, 3, none⟩ = some (.slice va 0 vc) := HBX10.out.cell 3 _ rfl
      refine hK _ _ _ (fun _ h => h) ⟨q0, q1, q2, q3, q4, q5, d1, d2, d3⟩ ?_
      clear hK K''
      refine wpTr_nil ?_
      have HT10 := Lib.hid hs2
      have HKS := Lib.hid hks2
      have HOW := Lib.hid hown2
      clear hs2 hks2 hown2 hkp2 hm2 HD HZ9 HBX9 d1 d2 d3
      have HD := Lib.hid (lt_do HT10.out.swap HI2.out (by have := HK.out; omega) o2 HO2.out HDQ2.out)
      unfold opV opA at HD
      simp only [ansV]
      go_wp2_with fail
      refine HD.out.mono ?_
      rintro e w11 ⟨va3, vc3, rfl, K3, hm3, hs3, hks3, hown3, hkp3⟩
      have HT11 := Lib.hid hs3
      have hss := (same_ans Q2 Q2 va2 va3 vc2 vc3 w11 (hkp3.ks HKS.out HOW.out).sl2 hks3.sl2 HNL.out)
      rw [decide_eq_true (rfl : Q2 = Q2)] at hss
      have HSS := Lib.hid hss
      unfold ansV at HSS
      clear hs3 hks3 hown3 hkp3 hm3 hss HD HT10 HKS HOW
      simp only [ansV]
      go_wp2_with fail
      refine HSS.out.mono ?_
      rintro e w12 ⟨rfl, hb⟩
      have HT12 := Lib.hid (HT11.out.keep hb)
      clear hb HT11 HSS
      have HLV := Lib.hid (live_any w12 HT12.out.it)
      go_wp2_with fail
      refine HLV.out.mono ?_
      rintro e wl ⟨rfl, hb⟩
      have HL := Lib.hid ((HB2.out.trans (HT12.out.bl.mono HB2.out.size)).trans (hb.mono (by have := HB2.out.size; have := HT12.out.bl.size; omega)))
      clear hb HLV
      go_wp2
      go_ret
      exact ⟨rfl, HL.out⟩
end Go.Proofs.YteimpebfenpifaaGreatDoor.modelRefused
