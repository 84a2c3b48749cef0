/-
  Contracts: made, room, again.
-/
import Derived.Test.YtnfdcjchobonaaaArcC
import Derived.Test.YtnfdcjchobonaaaHeld
import Derived.StillTailTactics
namespace Go.Proofs.Ytnfdcjchobonaaa
open Go.RowKit Go.ChangeShapes Go.WideShapes Go.ChangeAt

theorem made_any (b : Nat) (v : Nat → Value) (d : ArcD) (w : World) (h : ArcAt w b v d) (hc : 1 ≤ d.c) :
    Calls Try.prog 23 #[.pointer (some ⟨b, 0, none⟩)] w fun e w' => e = .returned (.bool true) ∧ w = w' := by
  have q0 : w.cell? ⟨b, 0, none⟩ = some (.int .i64 d.c) := h.box.cell 0 _ rfl
  generalize d.c = c at *
  have h0 : (0 : Int) < c := by omega
  have h1 : decide ((0 : Int) < c) = true := decide_eq_true h0
  clear h
  go_enter Try.func23, Try.ntmps23
  go_wp2
  go_ret
  exact ⟨rfl, rfl⟩
theorem made_nil (w : World) : Calls Try.prog 23 #[.pointer none] w fun e w' => e = .returned (.bool false) ∧ w = w' := by
  go_enter Try.func23, Try.ntmps23
  go_wp2
  go_ret
  exact ⟨rfl, rfl⟩

/-- The cache's cells, as far as they are read. -/
structure Cell4 (w : World) (b : Nat) (d : ArcD) (a : Nat → Option Addr) (c : Nat → Nat) : Prop where
  z : w.cell? ⟨b, 0, none⟩ = some (.int .i64 d.c)
  t : w.cell? ⟨b, 1, none⟩ = some (.int .i64 d.t)
  l : ∀ i, InA i → w.cell? ⟨b, i, none⟩ = some (.slice (a i) (d.l i).length (c i))
theorem ArcAt.cells {w : World} {b : Nat} {v : Nat → Value} {d : ArcD} (h : ArcAt w b v d) : ∃ a c, Cell4 w b d a c := by
  have hv : ∀ i, ∃ x : Option Addr × Nat, InA i → v i = .slice x.1 (d.l i).length x.2 := by
    intro i
    by_cases hi : InA i
    · obtain ⟨a, c, e, _⟩ := (h.row i hi).view
      exact ⟨(a, c), fun _ => e⟩
    · exact ⟨(none, 0), fun h => absurd h hi⟩
  refine ⟨fun i => (Classical.choose (hv i)).1, fun i => (Classical.choose (hv i)).2, h.box.cell 0 _ rfl, h.box.cell 1 _ rfl, fun i hi => ?_⟩
  exact (h.box.cell i _ (cellsA_at _ _ v hi)).trans (congrArg some (Classical.choose_spec (hv i) hi))
theorem Tod.undrew {Q : List Nat → World → Prop} {F : List Nat} {w w' : World} (h : Tod Q F w.drew w') : Tod Q F w w' := by
  obtain ⟨F', h1, h2, h3⟩ := h
  exact ⟨F', h1, ⟨h2.os, h2.tape, h2.output, h2.size, h2.block⟩, h3⟩
theorem in2 : InA 2 := ⟨by omega, by omega⟩
theorem in3 : InA 3 := ⟨by omega, by omega⟩
theorem in4 : InA 4 := ⟨by omega, by omega⟩
theorem in5 : InA 5 := ⟨by omega, by omega⟩
def OkA (d : ArcD) : Prop := 1 ≤ d.c ∧ d.c ≤ 64 ∧ 0 ≤ d.t ∧ d.t ≤ d.c

set_option maxRecDepth 100000 in
set_option maxHeartbeats 2000000 in
theorem room_any (b : Nat) (F : List Nat) (d : ArcD) (even : Bool) (w : World) (h : ArcF b d F w) (hlen : d.len ≤ 10000) :
    Calls Try.prog 41 #[.pointer (some ⟨b, 0, none⟩), .bool even] w fun e w' => e = .returned (.string (roomA d even).2) ∧ Tod (ArcF b (roomA d even).1) F w w' := by
  obtain ⟨M, hM⟩ : ∃ M, M = roomA d even := ⟨_, rfl⟩
  rw [← hM]
  have HM : Hid (M = if room1 d even = true then moveA d 2 4 else moveA d 3 5) := hM
  have hlt : ArcF b d F w.drew := (fixed_arc b d).keep _ _ _ _ h (Chg.of (S := []) ((Below.refl _ _).drew) (Nat.le_refl _)) (fun _ _ hm => by cases hm)
  have HM24 := Lib.hid (move_list b 2 4 in2 in4 F d w.drew hlt hlen)
  have HM35 := Lib.hid (move_list b 3 5 in3 in5 F d w.drew hlt hlen)
  obtain ⟨v, h, rfl⟩ := h
  obtain ⟨a, c, hc⟩ := h.cells
  have q1 := hc.t
  have q2 := hc.l 2 in2
  have q3 := hc.l 3 in3
  have HS2 := Lib.hid (size_list b 2 _ _ _ w q2)
  have HS3 := Lib.hid (size_list b 3 _ _ _ w q3)
  have HR : Hid (room1 d even = (decide (0 < (d.l 2).length) && (decide (d.t < ((d.l 2).length : Int)) || (even && decide (((d.l 2).length : Int) = d.t)) || decide ((d.l 3).length = 0)))) := rfl
  clear hM h hlen hc hlt
  generalize (d.l 2).length = n2 at *
  generalize (d.l 3).length = n3 at *
  generalize d.t = t at *
  rcases Nat.eq_zero_or_pos n2 with h2 | h2
  · have HMf : Hid (M = moveA d 3 5) := by show _ = _; rw [HM.out, if_neg]; rw [HR.out, h2]; simp
    subst h2
    go_enter Try.func41, Try.ntmps41
    go_wp2_with fail
    refine HS2.out.mono ?_
    rintro e w1 ⟨rfl, rfl⟩
    go_wp2_with fail
    go_still_tail 6, (by kernel_rfl)
    go_wp2_with fail
    refine HM35.out.mono ?_
    rintro e w2 ⟨rfl, ht⟩
    have HT := Lib.hid (Tod.undrew ht)
    clear ht
    go_wp2
    go_ret
    rw [HMf.out]
    exact ⟨rfl, HT.out⟩
  · have e2 : decide ((0 : Int) < (n2 : Int)) = true := by rw [decide_eq_true_eq]; omega
    have D0 : decide (0 < n2) = true := decide_eq_true h2
    have hp2 : (0 : Int) < (n2 : Int) := by omega
    cases D1 : decide (t < (n2 : Int))
    · cases even
      · go_enter Try.func41, Try.ntmps41
        go_wp2_with fail
        refine HS2.out.mono ?_
        rintro e w1 ⟨rfl, rfl⟩
        rcases Nat.eq_zero_or_pos n3 with h3 | h3
        · have HMt : Hid (M = moveA d 2 4) := by show _ = _; rw [HM.out, if_pos]; rw [HR.out]; subst h3; simp [D0, D1]
          have e3 : ((n3 : Int) == 0) = true := by rw [h3]; rfl
          clear h3
          go_wp2_with fail
          refine HS3.out.mono ?_
          rintro e w1 ⟨rfl, rfl⟩
          go_wp2_with fail
          go_still_tail 6, (by kernel_rfl)
          go_wp2_with fail
          refine HM24.out.mono ?_
          rintro e w2 ⟨rfl, ht⟩
          have HT := Lib.hid (Tod.undrew ht)
          clear ht
          go_wp2
          go_ret
          rw [HMt.out]
          exact ⟨rfl, HT.out⟩
        · have HMf : Hid (M = moveA d 3 5) := by show _ = _; rw [HM.out, if_neg]; rw [HR.out]; have h4 : ¬ n3 = 0 := (by omega); simp [D0, D1, h4]
          have e3 : ((n3 : Int) == 0) = false := by rw [beq_eq_false_iff_ne]; omega
          clear h3
          go_wp2_with fail
          refine HS3.out.mono ?_
          rintro e w1 ⟨rfl, rfl⟩
          go_wp2_with fail
          go_still_tail 6, (by kernel_rfl)
          go_wp2_with fail
          refine HM35.out.mono ?_
          rintro e w2 ⟨rfl, ht⟩
          have HT := Lib.hid (Tod.undrew ht)
          clear ht
          go_wp2
          go_ret
          rw [HMf.out]
          exact ⟨rfl, HT.out⟩
      · cases D2 : decide ((n2 : Int) = t)
        · have e4 : ((n2 : Int) == t) = false := by rw [beq_eq_false_iff_ne]; simpa using D2
          go_enter Try.func41, Try.ntmps41
          go_wp2_with fail
          refine HS2.out.mono ?_
          rintro e w1 ⟨rfl, rfl⟩
          rcases Nat.eq_zero_or_pos n3 with h3 | h3
          · have HMt : Hid (M = moveA d 2 4) := by show _ = _; rw [HM.out, if_pos]; rw [HR.out]; subst h3; simp [D0, D1, D2]
            have e3 : ((n3 : Int) == 0) = true := by rw [h3]; rfl
            clear h3
            go_wp2_with fail
            refine HS3.out.mono ?_
            rintro e w1 ⟨rfl, rfl⟩
            go_wp2_with fail
            go_still_tail 6, (by kernel_rfl)
            go_wp2_with fail
            refine HM24.out.mono ?_
            rintro e w2 ⟨rfl, ht⟩
            have HT := Lib.hid (Tod.undrew ht)
            clear ht
            go_wp2
            go_ret
            rw [HMt.out]
            exact ⟨rfl, HT.out⟩
          · have HMf : Hid (M = moveA d 3 5) := by show _ = _; rw [HM.out, if_neg]; rw [HR.out]; have h4 : ¬ n3 = 0 := (by omega); simp [D0, D1, h4, D2]
            have e3 : ((n3 : Int) == 0) = false := by rw [beq_eq_false_iff_ne]; omega
            clear h3
            go_wp2_with fail
            refine HS3.out.mono ?_
            rintro e w1 ⟨rfl, rfl⟩
            go_wp2_with fail
            go_still_tail 6, (by kernel_rfl)
            go_wp2_with fail
            refine HM35.out.mono ?_
            rintro e w2 ⟨rfl, ht⟩
            have HT := Lib.hid (Tod.undrew ht)
            clear ht
            go_wp2
            go_ret
            rw [HMf.out]
            exact ⟨rfl, HT.out⟩
        · have HMt : Hid (M = moveA d 2 4) := by show _ = _; rw [HM.out, if_pos]; rw [HR.out]; simp [D0, D1, D2]
          have e4 : ((n2 : Int) == t) = true := by simpa using D2
          clear D0 D2
          go_enter Try.func41, Try.ntmps41
          go_wp2_with fail
          refine HS2.out.mono ?_
          rintro e w1 ⟨rfl, rfl⟩
          go_wp2_with fail
          go_still_tail 6, (by kernel_rfl)
          go_wp2_with fail
          refine HM24.out.mono ?_
          rintro e w2 ⟨rfl, ht⟩
          have HT := Lib.hid (Tod.undrew ht)
          clear ht
          go_wp2
          go_ret
          rw [HMt.out]
          exact ⟨rfl, HT.out⟩
    · have HMt : Hid (M = moveA d 2 4) := by show _ = _; rw [HM.out, if_pos]; rw [HR.out]; simp [D0, D1]
      clear D0
      go_enter Try.func41, Try.ntmps41
      go_wp2_with fail
      refine HS2.out.mono ?_
      rintro e w1 ⟨rfl, rfl⟩
      go_wp2_with fail
      go_still_tail 6, (by kernel_rfl)
      go_wp2_with fail
      refine HM24.out.mono ?_
      rintro e w2 ⟨rfl, ht⟩
      have HT := Lib.hid (Tod.undrew ht)
      clear ht
      go_wp2
      go_ret
      rw [HMt.out]
      exact ⟨rfl, HT.out⟩
end Go.Proofs.Ytnfdcjchobonaaa
