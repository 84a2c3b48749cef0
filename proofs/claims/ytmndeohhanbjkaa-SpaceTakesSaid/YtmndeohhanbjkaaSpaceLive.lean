/-
  law07's live.
-/
import Derived.Test.YtmndeohhanbjkaaSpaceGive
import Derived.Test.YtmndeohhanbjkaaSpaceOf
import Derived.Test.YtmndeohhanbjkaaSpaceSame
namespace Go.Proofs.Ytmndeohhanbjkaa
open Go.RowKit Go.ChangeShapes Go.WideShapes Go.ChangeAt
theorem wf_of {l : List (Int × Int)} (h : (l.all fun x => (Lit.int .i64 x.1).wf && (Lit.int .i64 x.2).wf) = true := by decide) : WfP l := by
  intro x hx
  have := List.all_eq_true.1 h x hx
  simpa using this

theorem eqRunS (x1 x2 y1 y2 : Int) (w : World) : (Op.equalIn 10000 46 (.agg #[.int .i64 x1, .int .i64 x2]) (.agg #[.int .i64 y1, .int .i64 y2])).run Try.prog w = .ok (x1 == y1 && x2 == y2) w := by
  have u3 := Try.underlying3
  have a3 := Try.isAgg3
  have z3 := Try.sizeOf3
  have hS : Try.prog.underlying 46 = some (.struct (Try.prog.fieldsOf 46)) := by kernel_rfl
  have hp : Try.prog.stoodInHeld 46 = false := by kernel_rfl
  rw [show (10000 : Nat) = 9999 + 1 from rfl, run_equalIn_agg w 9999 46 _ _ hS hp]
  simp only [Program.fieldsOf, Try.underlying46]
  go_simp
  by_cases h1 : x1 = y1 <;> by_cases h2 : x2 = y2 <;> simp [h1, h2]

set_option maxRecDepth 100000 in
set_option maxHeartbeats 2000000 in
theorem live_any (w : World) : Calls Try.prog 8 #[] w fun e w' => e = .returned (.bool true) ∧ Below w.heap.size w w' := by
  have L0 := Lib.hid (Below.refl w.heap.size w)
  go_enter Try.func8, Try.ntmps8
  have ha := (Below.refl w.heap.size w).alloc (Nat.le_refl _) (.cells #[.int .i64 0, .int .i64 3, .int .i64 5, .int .i64 4] 46 (0, 0))
  have BX := Lib.hid (Box.new w 46 #[.int .i64 0, .int .i64 3, .int .i64 5, .int .i64 4])
  have LB := Lib.hid (L0.out.trans (ha.mono L0.out.size))
  clear ha
  go_wp2_with fail
  generalize World.alloc w _ = u0 at *
  refine (give_any _ [(0, 3), (5, 4)] (3, 2) _ 0 (Prs.box (l := [(0, 3), (5, 4)]) 0 BX.out (Nat.zero_le _) (by unfold maxLen; decide)) (by decide) wf_of wf_of).mono ?_
  rintro e v1 ⟨lv1, rfl, hp, hb⟩
  rw [show giveL [(0, 3), (5, 4)] (3, 2) = ([(0, 9)], true) from by decide] at hp ⊢
  have P1 : Hid (Prs 46 v1 0 lv1 [(0, 9)]) := hp.base (Nat.zero_le _)
  have L1 := Lib.hid (LB.out.trans (hb.mono LB.out.size))
  clear hp hb BX LB L0
  have ha := (Below.refl v1.heap.size v1).alloc (Nat.le_refl _) (.cells #[.int .i64 1, .int .i64 1, .int .i64 5, .int .i64 4] 46 (0, 0))
  have BX := Lib.hid (Box.new v1 46 #[.int .i64 1, .int .i64 1, .int .i64 5, .int .i64 4])
  have LB := Lib.hid (L1.out.trans (ha.mono L1.out.size))
  have P1 := Lib.hid (P1.out.keep ha)
  clear ha
  go_wp2_with fail
  generalize World.alloc v1 _ = u1 at *
  generalize v1.heap.size = g1 at *
  refine (take_any _ [(1, 1), (5, 4)] 2 _ 0 (Prs.box (l := [(1, 1), (5, 4)]) 0 BX.out (Nat.zero_le _) (by unfold maxLen; decide)) (by decide) wf_of).mono ?_
  rintro e v2 ⟨lv2, rfl, hp, hb⟩
  rw [show takeL [(1, 1), (5, 4)] 2 = (5, [(1, 1), (7, 2)], true) from by decide] at hp ⊢
  have P2 : Hid (Prs 46 v2 0 lv2 [(1, 1), (7, 2)]) := hp.base (Nat.zero_le _)
  have L2 := Lib.hid (LB.out.trans (hb.mono LB.out.size))
  have P1 := Lib.hid (P1.out.keep hb)
  clear hp hb BX LB L1
  go_wp2_with fail
  refine (take_any _ [(0, 9)] 10 _ 0 P1.out (by decide) wf_of).mono ?_
  rintro e v3 ⟨lv3, rfl, hp, hb⟩
  rw [show takeL [(0, 9)] 10 = (0, [], false) from by decide] at hp ⊢
  have L3 := Lib.hid (L2.out.trans (hb.mono L2.out.size))
  have P1 := Lib.hid (P1.out.keep hb)
  have P2 := Lib.hid (P2.out.keep hb)
  clear hp hb L2
  go_wp2_with fail
  refine (give_any _ [(0, 9)] (8, 1) _ 0 P1.out (by decide) wf_of wf_of).mono ?_
  rintro e v4 ⟨lv4, rfl, hp, hb⟩
  rw [show giveL [(0, 9)] (8, 1) = ([], false) from by decide] at hp ⊢
  have L4 := Lib.hid (L3.out.trans (hb.mono L3.out.size))
  have P1 := Lib.hid (P1.out.keep hb)
  have P2 := Lib.hid (P2.out.keep hb)
  clear hp hb L3
  obtain ⟨a1, c1, e1, hs1⟩ := P1.out.slP'
  subst e1
  obtain ⟨b1, o1, ea, hb1, hc1⟩ := hs1 (by simp)
  subst ea
  obtain ⟨x0, x1⟩ := hc1 0 (0, 9) rfl
  rw [Nat.zero_mul, Nat.add_zero] at x0 x1
  have hq : ∀ w, (Op.equalIn 10000 46 (.agg #[.int .i64 0, .int .i64 9]) (.agg #[.int .i64 0, .int .i64 9])).run Try.prog w = .ok true w := fun w => eqRunS 0 9 0 9 w
  simp only [List.length_cons, List.length_nil, Nat.zero_add] at hs1 P1
  clear hc1 hs1
  obtain ⟨a2, c2, e2, hs2⟩ := P2.out.slP'
  subst e2
  have S2 := Lib.hid hs2
  clear hs2
  go_wp2_with fail
  refine (told_any a2 c2 [(1, 1), (7, 2)] _ S2.out (by decide)).mono ?_
  rintro e v5 ⟨t5, rfl, hp, hb⟩
  have P3 := Lib.hid hp
  have L5 := Lib.hid (L4.out.trans (hb.mono L4.out.size))
  have P1 := Lib.hid (P1.out.keep hb)
  have P2 := Lib.hid (P2.out.keep hb)
  clear hb hp hq x0 x1 L4 S2
  have ha := (Below.refl v5.heap.size v5).alloc (Nat.le_refl _) (.cells #[.int .i64 1, .int .i64 1, .int .i64 7, .int .i64 2] 39 (0, 0))
  have BX := Lib.hid (Box.new v5 39 #[.int .i64 1, .int .i64 1, .int .i64 7, .int .i64 2])
  have LB := Lib.hid (L5.out.trans (ha.mono L5.out.size))
  have P1 := Lib.hid (P1.out.keep ha)
  have P2 := Lib.hid (P2.out.keep ha)
  have P3 := Lib.hid (P3.out.keep ha)
  clear ha
  go_wp2_with fail
  generalize World.alloc v5 _ = u5 at *
  generalize v5.heap.size = g5 at *
  obtain ⟨a3, c3, e3, hs3⟩ := P3.out.slP'
  subst e3
  refine (same_any a3 _ c3 2 [(1, 1), (7, 2)] [(1, 1), (7, 2)] _ (by decide) (by decide) hs3 (slP_flat BX.out.lt (fun j u hj => BX.out.cell j u (by simpa [PrV] using hj)))).mono ?_
  rintro e v6 ⟨rfl, hb⟩
  rw [show decide (([(1, 1), (7, 2)] : List (Int × Int)) = [(1, 1), (7, 2)]) = true by simp]
  have L6 := Lib.hid (LB.out.trans (hb.mono LB.out.size))
  have P1 := Lib.hid (P1.out.keep hb)
  clear hb hs3 BX LB L5 P3 P2
  obtain ⟨a1', c1', e1, hs1⟩ := P1.out.slP'
  injection e1 with q1 q2 q3
  subst q1 q3
  have S1 := Lib.hid hs1
  clear hs1 q2
  go_wp2_with fail
  refine (total_any _ c1 [(0, 9)] _ S1.out (by decide) wf_of).mono ?_
  rintro e v7 ⟨rfl, hb⟩
  rw [show totL [(0, 9)] = 9 from by decide]
  have L7 := Lib.hid (L6.out.trans (hb.mono L6.out.size))
  have P1 := Lib.hid (P1.out.keep hb)
  have S1 := Lib.hid (S1.out.keep hb)
  clear hb L6 P1
  go_wp2_with fail
  refine (has_any _ c1 [(0, 9)] 8 _ S1.out (by decide) wf_of).mono ?_
  rintro e v8 ⟨rfl, hb⟩
  rw [show hasL [(0, 9)] 8 = true from by decide]
  have L8 := Lib.hid (L7.out.trans (hb.mono L7.out.size))
  have S1 := Lib.hid (S1.out.keep hb)
  clear hb L7
  go_wp2_with fail
  refine (has_any _ c1 [(0, 9)] 9 _ S1.out (by decide) wf_of).mono ?_
  rintro e v9 ⟨rfl, hb⟩
  rw [show hasL [(0, 9)] 9 = false from by decide]
  have L9 := Lib.hid (L8.out.trans (hb.mono L8.out.size))
  have S1 := Lib.hid (S1.out.keep hb)
  clear hb L8
  have ha := (Below.refl v9.heap.size v9).alloc (Nat.le_refl _) (.cells #[.int .i64 0, .int .i64 1, .int .i64 1, .int .i64 1] 46 (0, 0))
  have BX := Lib.hid (Box.new v9 46 #[.int .i64 0, .int .i64 1, .int .i64 1, .int .i64 1])
  have LB := Lib.hid (L9.out.trans (ha.mono L9.out.size))
  clear ha
  go_wp2_with fail
  generalize World.alloc v9 _ = u9 at *
  generalize v9.heap.size = g9 at *
  refine (may_any _ 2 [(0, 1), (1, 1)] _ (slP_flat BX.out.lt (fun j u hj => BX.out.cell j u (by simpa [PrV] using hj))) (by decide) wf_of).mono ?_
  rintro e v10 ⟨rfl, hb⟩
  rw [show mayL [(0, 1), (1, 1)] = false from by decide]
  have L10 := Lib.hid (LB.out.trans (hb.mono LB.out.size))
  clear hb BX LB L9 S1
  have ha := (Below.refl v10.heap.size v10).alloc (Nat.le_refl _) (.cells #[.bool false, .bool true, .bool false, .bool false] 4 (0, 0))
  have BX := Lib.hid (Box.new v10 4 #[.bool false, .bool true, .bool false, .bool false])
  have LB := Lib.hid (L10.out.trans (ha.mono L10.out.size))
  clear ha
  go_wp2_with fail
  generalize World.alloc v10 _ = u10 at *
  generalize v10.heap.size = g10 at *
  refine (of_any (some ⟨g10, 0, none⟩) 4 [false, true, false, false] _ (Sl.of fun i x hx => by rw [add_plain]; exact BX.out.cell _ _ (by rw [Nat.zero_add]; match i, hx with | 0, hx => (simp at hx; subst hx; rfl) | 1, hx => (simp at hx; subst hx; rfl) | 2, hx => (simp at hx; subst hx; rfl) | 3, hx => (simp at hx; subst hx; rfl))) (by decide)).mono ?_
  rintro e v11 ⟨t11, rfl, hp, hb⟩
  rw [show ofL [false, true, false, false] = [(0, 1), (2, 2)] from by decide] at hp
  have L11 := Lib.hid (LB.out.trans (hb.mono LB.out.size))
  have P4 := Lib.hid hp
  clear hp hb BX LB L10
  obtain ⟨a4, c4, e4, hs4⟩ := P4.out.slP'
  subst e4
  have S4' := Lib.hid hs4
  clear hs4 P4
  go_wp2_with fail
  refine (told_any a4 c4 [(0, 1), (2, 2)] _ S4'.out (by decide)).mono ?_
  rintro e v12 ⟨t12, rfl, hp, hb⟩
  have P3 := Lib.hid hp
  have L12 := Lib.hid (L11.out.trans (hb.mono L11.out.size))
  clear hb hp L11 S4'
  have ha := (Below.refl v12.heap.size v12).alloc (Nat.le_refl _) (.cells #[.int .i64 0, .int .i64 1, .int .i64 2, .int .i64 2] 39 (0, 0))
  have BX := Lib.hid (Box.new v12 39 #[.int .i64 0, .int .i64 1, .int .i64 2, .int .i64 2])
  have LB := Lib.hid (L12.out.trans (ha.mono L12.out.size))
  have P3 := Lib.hid (P3.out.keep ha)
  clear ha
  go_wp2_with fail
  generalize World.alloc v12 _ = u12 at *
  generalize v12.heap.size = g12 at *
  obtain ⟨a3, c3, e3, hs3⟩ := P3.out.slP'
  subst e3
  refine (same_any a3 _ c3 2 [(0, 1), (2, 2)] [(0, 1), (2, 2)] _ (by decide) (by decide) hs3 (slP_flat BX.out.lt (fun j u hj => BX.out.cell j u (by simpa [PrV] using hj)))).mono ?_
  rintro e v13 ⟨rfl, hb⟩
  rw [show decide (([(0, 1), (2, 2)] : List (Int × Int)) = [(0, 1), (2, 2)]) = true by simp]
  have L13 := Lib.hid (LB.out.trans (hb.mono LB.out.size))
  clear hb hs3 BX LB L12 P3
  go_wp2
  go_ret
  exact ⟨rfl, L13.out⟩
end Go.Proofs.Ytmndeohhanbjkaa
