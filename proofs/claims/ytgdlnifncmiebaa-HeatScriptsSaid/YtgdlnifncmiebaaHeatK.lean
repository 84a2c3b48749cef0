/-
  Contract: Touch of a heat.
-/
import Derived.Test.YtgdlnifncmiebaaHeatJ
import Derived.Test.YtgdlnifncmiebaaSched2
namespace Go.Proofs.Ytgdlnifncmiebaa
open Go.RowKit Go.ChangeShapes Go.WideShapes Go.ChangeAt

theorem half_le (c : Int) (n : Nat) (h : 0 ≤ c) : 0 ≤ c / 2 ^ n ∧ c / 2 ^ n ≤ c := by
  have h2 : (0 : Int) < 2 ^ n := by exact Int.pow_pos (by omega)
  exact ⟨Int.ediv_nonneg h (by omega), Int.ediv_le_self _ h⟩
theorem worth_le {c : Int} (t now : Int) (h : 0 ≤ c) : 0 ≤ worthOf c t now ∧ worthOf c t now ≤ c := by
  unfold worthOf
  split
  · exact ⟨h, Int.le_refl _⟩
  · exact half_le c _ h
theorem eq_nil_map (m : Nat) (w : World) : (binOp .eql 47 (.map (some m)) (.map none)).run Try.prog w = .ok (.bool false) w := by kernel_rfl
set_option maxRecDepth 100000 in
set_option maxHeartbeats 2000000 in
theorem touch_any (b : Nat) (F : List Nat) (l : List MkD) (k : ByteArray) (now : Int) (w : World) (h : HeatF b l F w) (hk : k.size ≤ maxLen) (hok : OkM l) (hn : -9223372036854775808 ≤ now ∧ now ≤ 9223372036854775807) :
    Calls Try.prog 11 #[.pointer (some ⟨b, 0, none⟩), .string k, .int .i64 now] w fun e w' => e = .returned (.tuple #[]) ∧ Tod (HeatF b (touchM l k now)) F w w' := by
  obtain ⟨m, rfl, hne, hb, hm⟩ := h
  obtain ⟨c, t, hrun, hct⟩ := look_ok hm hk
  have c0 := hb.cell 0 _ rfl
  have HB := Lib.hid hb
  have HM := Lib.hid hm
  have HCT := Lib.hid hct
  have HOK := Lib.hid hok
  have hmz := eq_nil_map m w
  clear hct hm hb hok
  cases hf : (findM l k).isSome
  · rw [hf] at hrun
    have HF := Lib.hid hf
    clear hf
    have hz : c = 0 ∧ t = 0 := by
      have := HCT.out
      have hn : findM l k = none := by have := HF.out; revert this; cases findM l k <;> simp
      rw [hn] at this
      cases this
      exact ⟨rfl, rfl⟩
    obtain ⟨rfl, rfl⟩ := hz
    have HC0 : Hid ((0 : Int) ≤ 0 ∧ (0 : Int) ≤ 1048576) := ⟨by omega, by omega⟩
    have HTT := Lib.hid hn.1
    have HNEW : Hid (∀ N M, N = min (worthOf 0 now now + 16) 1048576 → M = max now now → newM l k now = (N, M)) := by
      intro N M h1 h2
      have hn : findM l k = none := by have := HF.out; revert this; cases findM l k <;> simp
      unfold newM
      rw [hn, h1, h2, worth_zero]
      exact Prod.ext (by show (16 : Int) = _; omega) (by show now = _; omega)
    go_enter Try.func11, Try.ntmps11
    go_wp2_with fail
    obtain ⟨P, hP⟩ : ∃ P, P = w.heap.size := ⟨_, rfl⟩
    have B1 : Box (w.alloc (.cells #[.int .i64 0, .int .i64 now] 51)) w.heap.size 51 #[.int .i64 0, .int .i64 now] := Box.new w _ _
    have HC1 : Hid (Chg [] w (w.alloc (.cells #[.int .i64 0, .int .i64 now] 51))) := (Chg.refl _ _).alloc _
    rw [← hP] at B1 ⊢
    generalize w.alloc (.cells #[.int .i64 0, .int .i64 now] 51) = W at *
    have q1 : W.cell? ⟨P, 0, none⟩ = some (.int .i64 0) := B1.cell 0 _ rfl
    have q2 : W.cell? ⟨P, 1, none⟩ = some (.int .i64 now) := B1.cell 1 _ rfl
    have q0 : W.cell? ⟨b, 0, none⟩ = some (.map (some m)) := (HB.out.of (HC1.out.block b HB.out.lt (by simp))).cell 0 _ rfl
    have HM1 : Hid (MkAt W m l) := HM.out.chg HC1.out (by simp)
    clear B1 hrun c0 hP
    obtain ⟨g, hg⟩ : ∃ g, g = worthOf 0 now now := ⟨_, rfl⟩
    have HG := Lib.hid hg
    have HWW : Hid (∀ W, Calls Try.prog 21 #[.agg #[.int .i64 0, .int .i64 now], .int .i64 now] W fun e w' => e = .returned (.int .i64 g) ∧ Below W.heap.size W w') := by
      intro W
      rw [hg]
      exact worth_any 0 now now W HTT.out hn.2
    have g0 : 0 ≤ g := by rw [hg]; exact (worth_le now now HC0.out.1).1
    have g1 : g ≤ 1048576 := by rw [hg]; exact Int.le_trans (worth_le now now HC0.out.1).2 HC0.out.2
    clear hg
    have w16 : IntKind.i64.wrap (g + 16) = g + 16 := IntWalk.i64_in _ ⟨by omega, by omega⟩
    obtain ⟨NN, hNN⟩ : ∃ N, N = min (g + 16) 1048576 := ⟨_, rfl⟩
    obtain ⟨MM, hMM⟩ : ∃ M, M = max now now := ⟨_, rfl⟩
    have e1 : (if 1048576 < g + 16 then (1048576 : Int) else g + 16) = NN := by rw [hNN]; split <;> omega
    have e2 : (if now < now then now else now) = MM := by rw [hMM]; split <;> omega
    have HNN := Lib.hid hNN
    have HMM := Lib.hid hMM
    clear hNN hMM g0 g1 hmz
    refine wp_region_sched (fun W => W.cell? ⟨b, 0, none⟩ = some (.map (some m)) ∧ W.cell? ⟨P, 0, none⟩ = some (.int .i64 0) ∧ W.cell? ⟨P, 1, none⟩ = some (.int .i64 now)) 15 [(0, false), (1, false), (2, false), (3, false), (4, false), (5, false), (6, false), (10, false), (11, false), (12, false), (13, false), (7, true), (8, false), (9, false), (14, false)] (by kernel_rfl) (by kernel_rfl) ⟨q0, q1, q2⟩ ?_
    simp only [List.drop_succ_cons, List.drop_zero]
    iterate 10 (apply wpSch_step rfl; (intro W hS K hK; obtain ⟨r0, r1, r2⟩ := hS; go_simp; exact hK _ rfl))
    apply wpSch_step rfl
    · intro W hS K hK
      go_simp
      try rw [e2]
      exact hK _ rfl
    refine wpSch_make rfl (fun K' hK => ?_)
    go_simp
    refine (HWW.out _).mono ?_
    rintro e w2 ⟨rfl, hb⟩
    have r0 := (hb.cell (p := ⟨b, 0, none⟩) (lt_of_cell q0)).trans q0
    have HB2 : Hid (Below W.heap.size W w2) := ⟨hb.os, hb.tape, hb.output, hb.size, hb.block⟩
    have r1 := (hb.cell (p := ⟨P, 0, none⟩) (lt_of_cell q1)).trans q1
    have r2 := (hb.cell (p := ⟨P, 1, none⟩) (lt_of_cell q1)).trans q2
    refine hK _ _ _ (fun _ h => h) ⟨r0, r1, r2⟩ ?_
    clear hK K' hb q0 q1 q2 r0 r1 r2
    apply wpSch_step rfl
    · intro W hS K hK
      go_simp
      try rw [w16]
      exact hK _ rfl
    apply wpSch_step rfl
    · intro W hS K hK
      go_simp
      try rw [e1]
      exact hK _ rfl
    apply wpSch_step rfl
    · intro W hS K hK
      go_simp
      exact hK _ rfl
    refine wpSch_nil ?_
    obtain ⟨D, hown, hM⟩ := (HM1.out.chg (S := []) (Chg.of (S := []) HB2.out (Nat.le_refl _)) (by simp))
    have HD := Lib.hid hM
    have HTD : Hid (Maps.Tidy D) := hown.tidy keyedS
    go_wp2_with (first
      | (at_mapUpdate; refine wpList_mapUpdate_own _ rfl _ _ _ 47 rfl 9 51 keyedS Try.underlying47 markR m l.length D rfl hown (by have := HOK.out.1; unfold maxLen; omega) _ _ _ rfl rfl (keyOfS hk) _ [] (markR_mk NN now) ?_; intro w3 hown3 hgr3)
      | go_in)
    have HO := Lib.hid hown3
    have HC3 : Hid (Chg [m] w2 w3) := Chg.only hgr3
    clear hown3 hgr3 hown hM
    go_wp2
    go_end0
    have HE : newM l k now = (NN, now) := HNEW.out _ _ (by rw [HNN.out, HG.out]) (show now = max now now by omega)
    have HC2 : Chg [] w w2 := HC1.out.trans (Chg.of (S := []) HB2.out (Nat.le_refl _))
    have hput := HD.out.put HTD.out hk now
    rw [HE] at hput
    have ht := owns_tight HO.out
    rw [hput.size] at ht
    refine ⟨rfl, [b, m], ⟨m, rfl, hne, ?_, _, ht, hput⟩, (HC2.mono (by simp)).trans (HC3.out.mono (by simp)), fun i hi => .inl hi⟩
    exact (HB.out.of (HC2.block b HB.out.lt (by simp))).of (HC3.out.block b (Nat.lt_of_lt_of_le HB.out.lt HC2.size) (by simpa using hne))
  · rw [hf] at hrun
    have HF := Lib.hid hf
    clear hf
    have hs : findM l k = some (c, t) := by
      have := HCT.out
      have h2 := HF.out
      cases e : findM l k with
      | none => rw [e] at h2; cases h2
      | some x => rw [e] at this; rw [show x = (c, t) from this]
    have HC0 : Hid (0 ≤ c ∧ c ≤ 1048576) := by have := HOK.out.tick hs; exact ⟨this.2.1, this.2.2.1⟩
    have HTT : Hid (-9223372036854775808 ≤ t) := (HOK.out.tick hs).1
    have HNEW : Hid (∀ N M, N = min (worthOf c t now + 16) 1048576 → M = max t now → newM l k now = (N, M)) := by
      intro N M h1 h2
      unfold newM
      rw [hs, h1, h2]
    clear hs
    go_enter Try.func11, Try.ntmps11
    go_wp2_with fail
    obtain ⟨P, hP⟩ : ∃ P, P = w.heap.size := ⟨_, rfl⟩
    have B1 : Box (w.alloc (.cells #[.int .i64 c, .int .i64 t] 51)) w.heap.size 51 #[.int .i64 c, .int .i64 t] := Box.new w _ _
    have HC1 : Hid (Chg [] w (w.alloc (.cells #[.int .i64 c, .int .i64 t] 51))) := (Chg.refl _ _).alloc _
    rw [← hP] at B1 ⊢
    generalize w.alloc (.cells #[.int .i64 c, .int .i64 t] 51) = W at *
    have q1 : W.cell? ⟨P, 0, none⟩ = some (.int .i64 c) := B1.cell 0 _ rfl
    have q2 : W.cell? ⟨P, 1, none⟩ = some (.int .i64 t) := B1.cell 1 _ rfl
    have q0 : W.cell? ⟨b, 0, none⟩ = some (.map (some m)) := (HB.out.of (HC1.out.block b HB.out.lt (by simp))).cell 0 _ rfl
    have HM1 : Hid (MkAt W m l) := HM.out.chg HC1.out (by simp)
    clear B1 hrun c0 hP
    obtain ⟨g, hg⟩ : ∃ g, g = worthOf c t now := ⟨_, rfl⟩
    have HG := Lib.hid hg
    have HWW : Hid (∀ W, Calls Try.prog 21 #[.agg #[.int .i64 c, .int .i64 t], .int .i64 now] W fun e w' => e = .returned (.int .i64 g) ∧ Below W.heap.size W w') := by
      intro W
      rw [hg]
      exact worth_any c t now W HTT.out hn.2
    have g0 : 0 ≤ g := by rw [hg]; exact (worth_le t now HC0.out.1).1
    have g1 : g ≤ 1048576 := by rw [hg]; exact Int.le_trans (worth_le t now HC0.out.1).2 HC0.out.2
    clear hg
    have w16 : IntKind.i64.wrap (g + 16) = g + 16 := IntWalk.i64_in _ ⟨by omega, by omega⟩
    obtain ⟨NN, hNN⟩ : ∃ N, N = min (g + 16) 1048576 := ⟨_, rfl⟩
    obtain ⟨MM, hMM⟩ : ∃ M, M = max t now := ⟨_, rfl⟩
    have e1 : (if 1048576 < g + 16 then (1048576 : Int) else g + 16) = NN := by rw [hNN]; split <;> omega
    have e2 : (if t < now then now else t) = MM := by rw [hMM]; split <;> omega
    have HNN := Lib.hid hNN
    have HMM := Lib.hid hMM
    clear hNN hMM g0 g1 hmz
    refine wp_region_sched (fun W => W.cell? ⟨b, 0, none⟩ = some (.map (some m)) ∧ W.cell? ⟨P, 0, none⟩ = some (.int .i64 c) ∧ W.cell? ⟨P, 1, none⟩ = some (.int .i64 t)) 15 [(0, false), (1, false), (2, false), (3, false), (4, false), (5, false), (6, false), (10, false), (11, false), (12, false), (13, false), (7, true), (8, false), (9, false), (14, false)] (by kernel_rfl) (by kernel_rfl) ⟨q0, q1, q2⟩ ?_
    simp only [List.drop_succ_cons, List.drop_zero]
    iterate 10 (apply wpSch_step rfl; (intro W hS K hK; obtain ⟨r0, r1, r2⟩ := hS; go_simp; exact hK _ rfl))
    apply wpSch_step rfl
    · intro W hS K hK
      go_simp
      try rw [e2]
      exact hK _ rfl
    refine wpSch_make rfl (fun K' hK => ?_)
    go_simp
    refine (HWW.out _).mono ?_
    rintro e w2 ⟨rfl, hb⟩
    have r0 := (hb.cell (p := ⟨b, 0, none⟩) (lt_of_cell q0)).trans q0
    have HB2 : Hid (Below W.heap.size W w2) := ⟨hb.os, hb.tape, hb.output, hb.size, hb.block⟩
    have r1 := (hb.cell (p := ⟨P, 0, none⟩) (lt_of_cell q1)).trans q1
    have r2 := (hb.cell (p := ⟨P, 1, none⟩) (lt_of_cell q1)).trans q2
    refine hK _ _ _ (fun _ h => h) ⟨r0, r1, r2⟩ ?_
    clear hK K' hb q0 q1 q2 r0 r1 r2
    apply wpSch_step rfl
    · intro W hS K hK
      go_simp
      try rw [w16]
      exact hK _ rfl
    apply wpSch_step rfl
    · intro W hS K hK
      go_simp
      try rw [e1]
      exact hK _ rfl
    apply wpSch_step rfl
    · intro W hS K hK
      go_simp
      exact hK _ rfl
    refine wpSch_nil ?_
    obtain ⟨D, hown, hM⟩ := (HM1.out.chg (S := []) (Chg.of (S := []) HB2.out (Nat.le_refl _)) (by simp))
    have HD := Lib.hid hM
    have HTD : Hid (Maps.Tidy D) := hown.tidy keyedS
    go_wp2_with (first
      | (at_mapUpdate; refine wpList_mapUpdate_own _ rfl _ _ _ 47 rfl 9 51 keyedS Try.underlying47 markR m l.length D rfl hown (by have := HOK.out.1; unfold maxLen; omega) _ _ _ rfl rfl (keyOfS hk) _ [] (markR_mk NN MM) ?_; intro w3 hown3 hgr3)
      | go_in)
    have HO := Lib.hid hown3
    have HC3 : Hid (Chg [m] w2 w3) := Chg.only hgr3
    clear hown3 hgr3 hown hM
    go_wp2
    go_end0
    have HE : newM l k now = (NN, MM) := HNEW.out _ _ (by rw [HNN.out, HG.out]) HMM.out
    have HC2 : Chg [] w w2 := HC1.out.trans (Chg.of (S := []) HB2.out (Nat.le_refl _))
    have hput := HD.out.put HTD.out hk now
    rw [HE] at hput
    have ht := owns_tight HO.out
    rw [hput.size] at ht
    refine ⟨rfl, [b, m], ⟨m, rfl, hne, ?_, _, ht, hput⟩, (HC2.mono (by simp)).trans (HC3.out.mono (by simp)), fun i hi => .inl hi⟩
    exact (HB.out.of (HC2.block b HB.out.lt (by simp))).of (HC3.out.block b (Nat.lt_of_lt_of_le HB.out.lt HC2.size) (by simpa using hne))
end Go.Proofs.Ytgdlnifncmiebaa
