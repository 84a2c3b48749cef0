/-
  Contracts: Has, Drop, Target, New; none of them all.
-/
import Derived.Test.YtnfdcjchobonaaaArcG
namespace Go.Proofs.Ytnfdcjchobonaaa
open Go.RowKit Go.ChangeShapes Go.WideShapes Go.ChangeAt

theorem results_tmp4 {fn : Func} {t u v x : Tmp} (h : fn.results = #[.tmp t, .tmp u, .tmp v, .tmp x]) (tmps : Array Value) (P : Program) (w : World) :
    (results fn tmps).run P w = .ok (.tuple #[tmps.getD t undef, tmps.getD u undef, tmps.getD v undef, tmps.getD x undef]) w := by
  simp [results, h]

set_option maxRecDepth 100000 in
set_option maxHeartbeats 2000000 in
theorem hasq_any (b : Nat) (v : Nat → Value) (d : ArcD) (k : ByteArray) (w : World) (h : ArcAt w b v d) (hlen : d.len ≤ 10000) (hok : OkA d) :
    Calls Try.prog 17 #[.pointer (some ⟨b, 0, none⟩), .string k] w fun e w' => e = .returned (.bool (hasA d 2 k || hasA d 3 k)) ∧ Below w.heap.size w w' := by
  obtain ⟨W, hW⟩ : ∃ W, W = (w.alloc (.cells #[.pointer (some ⟨b, 2, none⟩), .pointer (some ⟨b, 3, none⟩)] 52 (0, 0))).drew := ⟨_, rfl⟩
  have hb : Below w.heap.size w W := by rw [hW]; exact ((Below.refl _ _).alloc (Nat.le_refl _) _).drew
  have hg : TwoP W w.heap.size b 2 3 := by rw [hW]; exact Box.new w _ _
  have HSM := Lib.hid (some_has w.heap.size b 2 3 in2 in3 v d k W (h.keep hb) hlen hg)
  have HA := Lib.hid h
  have HAW := Lib.hid (h.keep hb)
  have HB := Lib.hid hb
  have HWW := Lib.hid hW
  have HC := Lib.hid hok.1
  clear h hlen hok hW hb hg
  go_enter Try.func17, Try.ntmps17
  go_wp2_with fail
  refine wp_region_held_tail (fun W => ArcAt W b v d) 10 (by kernel_rfl) (by kernel_rfl) (HA.out.keep ((Below.refl _ _).drew)) ?_
  simp only [List.take_succ_cons, List.take_zero, List.drop_succ_cons, List.drop_zero]
  apply wpHeld_step
  · intro W' hS K hK
    go_simp
    exact hK _ rfl
  apply wpHeld_step
  · intro W' hS K hK
    go_simp
    exact ⟨_, callW (made_any b v d W' hS HC.out), hK _ rfl⟩
  iterate 8 (apply wpHeld_step; (intro W' hS K hK; go_simp; exact hK _ rfl))
  refine wpHeld_nil ?_
  refine wpOp_step rfl (fun K' hK => ?_)
  go_simp
  rw [← HWW.out]
  refine hK _ _ ⟨HAW.out, ?_⟩
  clear hK K'
  go_wp2_with fail
  refine HSM.out.mono ?_
  rintro e w2 ⟨rfl, rfl⟩
  go_wp2
  go_ret
  exact ⟨rfl, HB.out⟩

theorem target_any (b : Nat) (v : Nat → Value) (d : ArcD) (w : World) (h : ArcAt w b v d) (hok : OkA d) :
    Calls Try.prog 20 #[.pointer (some ⟨b, 0, none⟩)] w fun e w' => e = .returned (.int .i64 d.t) ∧ w = w' := by
  have HD := Lib.hid (made_any b v d w h hok.1)
  have q1 : w.cell? ⟨b, 1, none⟩ = some (.int .i64 d.t) := h.box.cell 1 _ rfl
  clear h hok
  go_enter Try.func20, Try.ntmps20
  go_wp2_with fail
  refine HD.out.mono ?_
  rintro e w1 ⟨rfl, rfl⟩
  go_wp2
  go_ret
  exact ⟨rfl, rfl⟩

set_option maxRecDepth 100000 in
set_option maxHeartbeats 2000000 in
theorem drop_any (b : Nat) (F : List Nat) (d : ArcD) (k : ByteArray) (w : World) (h : ArcF b d F w) (hlen : d.len ≤ 8000) (hok : OkA d) :
    Calls Try.prog 14 #[.pointer (some ⟨b, 0, none⟩), .string k] w fun e w' => e = .returned (.bool (dropA d k).2) ∧ Tod (ArcF b (dropA d k).1) F w w' := by
  have HMD : Hid (∃ v, ArcAt w b v d) := by obtain ⟨v, h1, _⟩ := h; exact ⟨v, h1⟩
  obtain ⟨v, hv⟩ := HMD.out
  have HD := Lib.hid (made_any b v d w hv hok.1)
  have HM : Hid (dropA d k = if (someA d 2 3 k).2 = true then someA d 2 3 k else ((someA d 4 5 k).1, false)) := rfl
  generalize hM : dropA d k = M at *
  clear hM
  obtain ⟨W, hW⟩ : ∃ W, W = (w.alloc (.cells #[.pointer (some ⟨b, 2, none⟩), .pointer (some ⟨b, 3, none⟩)] 52 (0, 0))).drew := ⟨_, rfl⟩
  obtain ⟨t1, t2, t3, t4⟩ := two_new h 2 3 W hW
  have HU := Lib.hid t4
  have HSM := Lib.hid (some_take w.heap.size b 2 3 in2 in3 F d k W t1 (by omega) t2 t3)
  have HNO := Lib.hid (@some_no d 2 3 k)
  generalize hr1 : someA d 2 3 k = r at *
  obtain ⟨d1, hit⟩ := r
  dsimp only at HM HSM HNO
  have HWW := Lib.hid hW
  have HLN := Lib.hid hlen
  clear h hlen hok hv HMD t1 t2 t3 t4 hW hr1
  go_enter Try.func14, Try.ntmps14
  go_wp2_with fail
  refine HD.out.mono ?_
  rintro e w1 ⟨rfl, rfl⟩
  go_wp2_with fail
  refine wp_region_held_tail (fun _ => True) 7 (by kernel_rfl) (by kernel_rfl) trivial ?_
  simp only [List.take_succ_cons, List.take_zero, List.drop_succ_cons, List.drop_zero]
  iterate 7 (apply wpHeld_step; (intro W' hS K hK; go_simp; exact hK _ rfl))
  refine wpHeld_nil ?_
  refine wpOp_step rfl (fun K' hK => ?_)
  go_simp
  rw [← HWW.out]
  refine hK _ _ ⟨trivial, ?_⟩
  clear hK K'
  go_wp2_with fail
  refine HSM.out.mono ?_
  rintro e w2 ⟨rfl, ht⟩
  cases hit
  · have e3 : d1 = d := HNO.out rfl
    have HMM : Hid (M = ((someA d 4 5 k).1, false)) := by show _ = _; rw [HM.out]; rfl
    subst e3
    obtain ⟨F2, h2, hc2, hf2⟩ := HU.out _ _ ht
    obtain ⟨W2, hW2⟩ : ∃ W2, W2 = (w2.alloc (.cells #[.pointer (some ⟨b, 4, none⟩), .pointer (some ⟨b, 5, none⟩)] 52 (0, 0))).drew := ⟨_, rfl⟩
    obtain ⟨t1, t2, t3, t4⟩ := two_new h2 4 5 W2 hW2
    have HU2 := Lib.hid t4
    have HSM2 := Lib.hid (some_take w2.heap.size b 4 5 in4 in5 F2 d1 k W2 t1 (by have := HLN.out; omega) t2 t3)
    have HC2 := Lib.hid hc2
    have HF2 := Lib.hid hf2
    have HWW2 := Lib.hid hW2
    clear ht h2 hc2 hf2 HSM t1 t2 t3 t4 hW2 HWW HU HM HNO
    go_wp2_with fail
    refine wp_region_held_tail (fun _ => True) 7 (by kernel_rfl) (by kernel_rfl) trivial ?_
    simp only [List.take_succ_cons, List.take_zero, List.drop_succ_cons, List.drop_zero]
    iterate 7 (apply wpHeld_step; (intro W' hS K hK; go_simp; exact hK _ rfl))
    refine wpHeld_nil ?_
    refine wpOp_step rfl (fun K' hK => ?_)
    go_simp
    rw [← HWW2.out]
    refine hK _ _ ⟨trivial, ?_⟩
    clear hK K'
    go_wp2_with fail
    refine HSM2.out.mono ?_
    rintro e w3 ⟨rfl, ht⟩
    have HT := Lib.hid (Tod.seq HC2.out HF2.out (HU2.out _ _ ht))
    clear ht
    go_wp2
    go_ret
    rw [HMM.out]
    exact ⟨rfl, HT.out⟩
  · have HMM : Hid (M = (d1, true)) := by show _ = _; rw [HM.out]; rfl
    have HT := Lib.hid (HU.out _ _ ht)
    clear ht
    go_wp2
    go_ret
    rw [HMM.out]
    exact ⟨rfl, HT.out⟩

def newD (c : Int) : ArcD := ⟨c, 0, fun _ => []⟩
set_option maxRecDepth 100000 in
theorem arc_new (c : Int) (w : World) (h1 : 1 ≤ c) (h2 : c ≤ 64) :
    Calls Try.prog 10 #[.int .i64 c] w fun e w' => e = .returned (.pointer (some ⟨w.heap.size, 0, none⟩)) ∧ ArcF w.heap.size (newD c) [w.heap.size] w' ∧ Below w.heap.size w w' := by
  have e1 : decide (c < 1) = false := decide_eq_false (by omega)
  have e2 : decide (64 < c) = false := decide_eq_false (by omega)
  have HB : Hid (∀ o, Below w.heap.size w (w.alloc o)) := fun o => (Below.refl _ _).alloc (Nat.le_refl _) o
  go_enter Try.func10, Try.ntmps10
  go_wp2
  go_ret
  refine ⟨rfl, ⟨fun _ => .slice none 0 0, ⟨Box.new w _ _, fun _ _ => Ks.nil _ _, fun _ _ h => (by cases h), fun _ _ _ _ _ _ h => (by cases h)⟩, rfl⟩, HB.out _⟩
theorem arc_new_none (c : Int) (w : World) (h : c < 1 ∨ 64 < c) :
    Calls Try.prog 10 #[.int .i64 c] w fun e w' => e = .returned (.pointer none) ∧ w = w' := by
  rcases h with h | h
  · have e1 : decide (c < 1) = true := decide_eq_true h
    go_enter Try.func10, Try.ntmps10
    go_wp2
    go_ret
    exact ⟨rfl, rfl⟩
  · have e1 : decide (c < 1) = false := decide_eq_false (by omega)
    have e2 : decide (64 < c) = true := decide_eq_true h
    go_enter Try.func10, Try.ntmps10
    go_wp2
    go_ret
    exact ⟨rfl, rfl⟩

theorem ask_nil (k : ByteArray) (w : World) : Calls Try.prog 12 #[.pointer none, .string k] w fun e w' => e = .returned (.tuple #[.bool false, .string emp]) ∧ w = w' := by
  have HD := Lib.hid (made_nil w)
  go_enter Try.func12, Try.ntmps12
  go_wp2_with fail
  refine HD.out.mono ?_
  rintro e w1 ⟨rfl, rfl⟩
  go_wp2
  go_ret2
  exact ⟨rfl, rfl⟩
theorem drop_nil (k : ByteArray) (w : World) : Calls Try.prog 14 #[.pointer none, .string k] w fun e w' => e = .returned (.bool false) ∧ w = w' := by
  have HD := Lib.hid (made_nil w)
  go_enter Try.func14, Try.ntmps14
  go_wp2_with fail
  refine HD.out.mono ?_
  rintro e w1 ⟨rfl, rfl⟩
  go_wp2
  go_ret
  exact ⟨rfl, rfl⟩
theorem target_nil (w : World) : Calls Try.prog 20 #[.pointer none] w fun e w' => e = .returned (.int .i64 0) ∧ w = w' := by
  have HD := Lib.hid (made_nil w)
  go_enter Try.func20, Try.ntmps20
  go_wp2_with fail
  refine HD.out.mono ?_
  rintro e w1 ⟨rfl, rfl⟩
  go_wp2
  go_ret
  exact ⟨rfl, rfl⟩
theorem lists_nil (w : World) : Calls Try.prog 19 #[.pointer none] w fun e w' => e = .returned (.tuple #[.slice none 0 0, .slice none 0 0, .slice none 0 0, .slice none 0 0]) ∧ w = w' := by
  have HD := Lib.hid (made_nil w)
  go_enter Try.func19, Try.ntmps19
  go_wp2_with fail
  refine HD.out.mono ?_
  rintro e w1 ⟨rfl, rfl⟩
  go_wp2
  refine bodyPost_ret (results_tmp4 rfl _ _ _) rfl ?_
  exact ⟨rfl, rfl⟩
theorem hasq_nil (k : ByteArray) (w : World) : Calls Try.prog 17 #[.pointer none, .string k] w fun e w' => e = .returned (.bool false) ∧ Below w.heap.size w w' := by
  have HB : Hid (Below w.heap.size w w.drew) := (Below.refl _ _).drew
  go_enter Try.func17, Try.ntmps17
  go_wp2_with fail
  refine wp_region_held_quiet (fun _ => True) (by kernel_rfl) (by kernel_rfl) trivial ?_
  apply wpHeld_step
  · intro W' hS K hK
    go_simp
    exact hK _ rfl
  apply wpHeld_step
  · intro W' hS K hK
    go_simp
    exact ⟨_, callW (made_nil W'), hK _ rfl⟩
  iterate 12 (apply wpHeld_step; (intro W' hS K hK; go_simp; exact hK _ rfl))
  refine wpHeld_nil ?_
  go_wp2
  go_ret
  exact ⟨rfl, HB.out⟩
end Go.Proofs.Ytnfdcjchobonaaa
