/-
  Contracts of package class and its reference: Need, wishes.
-/
import Derived.Test.YtjacogadmdjfcaaClassA
import Derived.Deep.QuietTactic
import Derived.BigQuiet
namespace Go.Proofs.Ytjacogadmdjfcaa
open Go.RowKit

set_option maxRecDepth 100000 in
theorem need_any (p : PolD) (m d : Int) (w : World) : Calls Try.prog 17 #[.agg #[.bool p.mf, .bool p.mi, .int .i64 p.small, .int .i64 p.arc, .int .i64 p.second], .int .i64 m, .int .i64 d] w fun e w' => e = .returned (.tuple #[.int .i64 (needA p m d), .int .i64 (needB p m d)]) ∧ Below w.heap.size w w' := by
  obtain ⟨mf, mi, s, a, c⟩ := p
  have B := Box.new w 23 #[.bool mf, .bool mi, .int .i64 s, .int .i64 a, .int .i64 c]
  have HL := Lib.hid ((Below.refl w.heap.size w).alloc (Nat.le_refl _) (.cells #[.bool mf, .bool mi, .int .i64 s, .int .i64 a, .int .i64 c] 23 (0, 0)))
  have HS := Lib.hid (size_alloc w (.cells #[.bool mf, .bool mi, .int .i64 s, .int .i64 a, .int .i64 c] 23 (0, 0)))
  have k0 := B.cell 0 _ rfl
  have k1 := B.cell 1 _ rfl
  have k2 := B.cell 2 _ rfl
  have k3 := B.cell 3 _ rfl
  have k4 := B.cell 4 _ rfl
  obtain ⟨ra, hra⟩ : ∃ r, needA ⟨mf, mi, s, a, c⟩ m d = r := ⟨_, rfl⟩
  obtain ⟨rb, hrb⟩ : ∃ r, needB ⟨mf, mi, s, a, c⟩ m d = r := ⟨_, rfl⟩
  rw [hra, hrb]
  unfold needA at hra
  unfold needB at hrb
  have HR := Lib.hid (And.intro hra hrb)
  clear hra hrb
  cases h1 : okPol ⟨mf, mi, s, a, c⟩
  · have hc : chkP ⟨mf, mi, s, a, c⟩ = 1 := by unfold chkP; rw [h1]; rfl
    go_enter Try.func17, Try.ntmps17
    go_wp2_with fail
    refine (check_any ⟨mf, mi, s, a, c⟩ _).mono ?_
    rintro e w1 ⟨rfl, hb⟩
    rw [hc]
    have HB := Lib.hid (HL.out.trans (hb.mono HL.out.size))
    have B1 := B.keep hb B.lt
    have k0 := B1.cell 0 _ rfl
    have k2 := B1.cell 2 _ rfl
    clear hb B1 B
    go_wp2
    go_ret2
    refine ⟨?_, HB.out⟩
    obtain ⟨e1, e2⟩ := HR.out
    rw [← e1, ← e2]
    simp [h1]
  have hc : chkP ⟨mf, mi, s, a, c⟩ = 0 := by unfold chkP; rw [h1]; rfl
  have H1 := Lib.hid h1
  clear h1
  cases h2 : inB m 1073741824
  · go_enter Try.func17, Try.ntmps17
    go_wp2_with fail
    refine (check_any ⟨mf, mi, s, a, c⟩ _).mono ?_
    rintro e w1 ⟨rfl, hb⟩
    rw [hc]
    have HB := Lib.hid (HL.out.trans (hb.mono HL.out.size))
    have B1 := B.keep hb B.lt
    have k0 := B1.cell 0 _ rfl
    have k2 := B1.cell 2 _ rfl
    clear hb B1 B
    go_wp2_with fail
    refine (within_any _ _ _).mono ?_
    rintro e w' ⟨rfl, rfl⟩
    rw [h2]
    go_wp2
    go_ret2
    refine ⟨?_, HB.out⟩
    obtain ⟨e1, e2⟩ := HR.out
    rw [← e1, ← e2]
    simp [h2]
  cases h3 : inB d 1073741824
  · go_enter Try.func17, Try.ntmps17
    go_wp2_with fail
    refine (check_any ⟨mf, mi, s, a, c⟩ _).mono ?_
    rintro e w1 ⟨rfl, hb⟩
    rw [hc]
    have HB := Lib.hid (HL.out.trans (hb.mono HL.out.size))
    have B1 := B.keep hb B.lt
    have k0 := B1.cell 0 _ rfl
    have k2 := B1.cell 2 _ rfl
    clear hb B1 B
    go_wp2_with fail
    refine (within_any _ _ _).mono ?_
    rintro e w' ⟨rfl, rfl⟩
    rw [h2]
    go_wp2_with fail
    refine (within_any _ _ _).mono ?_
    rintro e w' ⟨rfl, rfl⟩
    rw [h3]
    go_wp2
    go_ret2
    refine ⟨?_, HB.out⟩
    obtain ⟨e1, e2⟩ := HR.out
    rw [← e1, ← e2]
    simp [h3]
  have b1 := inB_lo h2
  have b2 := inB_hi h2
  have b3 := inB_lo h3
  have b4 := inB_hi h3
  cases h4 : (s != 0) <;> cases mf
  all_goals
    go_enter Try.func17, Try.ntmps17
    go_wp2_with fail
    refine (check_any ⟨_, mi, s, a, c⟩ _).mono ?_
    rintro e w1 ⟨rfl, hb⟩
    rw [hc]
    have HB := Lib.hid (HL.out.trans (hb.mono HL.out.size))
    have B1 := B.keep hb B.lt
    have k0 := B1.cell 0 _ rfl
    have k2 := B1.cell 2 _ rfl
    clear hb B1 B
    go_wp2_with fail
    refine (within_any _ _ _).mono ?_
    rintro e w' ⟨rfl, rfl⟩
    rw [h2]
    go_wp2_with fail
    refine (within_any _ _ _).mono ?_
    rintro e w' ⟨rfl, rfl⟩
    rw [h3]
    go_wp2
    go_ret2
    refine ⟨?_, HB.out⟩
    obtain ⟨e1, e2⟩ := HR.out
    rw [← e1, ← e2, H1.out, h2, h3]
    simp [h4]

set_option maxRecDepth 100000 in
theorem rneed_any (p : PolD) (m d : Int) (w : World) : Calls Try.prog 18 #[.agg #[.bool p.mf, .bool p.mi, .int .i64 p.small, .int .i64 p.arc, .int .i64 p.second], .int .i64 m, .int .i64 d] w fun e w' => e = .returned (.tuple #[.int .i64 (needA p m d), .int .i64 (needB p m d)]) ∧ Below w.heap.size w w' := by
  obtain ⟨mf, mi, s, a, c⟩ := p
  have B := Box.new w 23 #[.bool mf, .bool mi, .int .i64 s, .int .i64 a, .int .i64 c]
  have HL := Lib.hid ((Below.refl w.heap.size w).alloc (Nat.le_refl _) (.cells #[.bool mf, .bool mi, .int .i64 s, .int .i64 a, .int .i64 c] 23 (0, 0)))
  have HS := Lib.hid (size_alloc w (.cells #[.bool mf, .bool mi, .int .i64 s, .int .i64 a, .int .i64 c] 23 (0, 0)))
  have k0 := B.cell 0 _ rfl
  have k1 := B.cell 1 _ rfl
  have k2 := B.cell 2 _ rfl
  have k3 := B.cell 3 _ rfl
  have k4 := B.cell 4 _ rfl
  obtain ⟨ra, hra⟩ : ∃ r, needA ⟨mf, mi, s, a, c⟩ m d = r := ⟨_, rfl⟩
  obtain ⟨rb, hrb⟩ : ∃ r, needB ⟨mf, mi, s, a, c⟩ m d = r := ⟨_, rfl⟩
  rw [hra, hrb]
  unfold needA at hra
  unfold needB at hrb
  have HR := Lib.hid (And.intro hra hrb)
  clear hra hrb
  cases h1 : okPol ⟨mf, mi, s, a, c⟩
  · have hc : chkP ⟨mf, mi, s, a, c⟩ = 1 := by unfold chkP; rw [h1]; rfl
    go_enter Try.func18, Try.ntmps18
    go_wp2_with fail
    refine (rcheck_any ⟨mf, mi, s, a, c⟩ _).mono ?_
    rintro e w1 ⟨rfl, hb⟩
    rw [hc]
    have HB := Lib.hid (HL.out.trans (hb.mono HL.out.size))
    have B1 := B.keep hb B.lt
    have k0 := B1.cell 0 _ rfl
    have k2 := B1.cell 2 _ rfl
    clear hb B1 B
    go_wp2
    go_ret2
    refine ⟨?_, HB.out⟩
    obtain ⟨e1, e2⟩ := HR.out
    rw [← e1, ← e2]
    simp [h1]
  have hc : chkP ⟨mf, mi, s, a, c⟩ = 0 := by unfold chkP; rw [h1]; rfl
  have H1 := Lib.hid h1
  clear h1
  cases h2 : inB m 1073741824
  · go_enter Try.func18, Try.ntmps18
    go_wp2_with fail
    refine (rcheck_any ⟨mf, mi, s, a, c⟩ _).mono ?_
    rintro e w1 ⟨rfl, hb⟩
    rw [hc]
    have HB := Lib.hid (HL.out.trans (hb.mono HL.out.size))
    have B1 := B.keep hb B.lt
    have k0 := B1.cell 0 _ rfl
    have k2 := B1.cell 2 _ rfl
    clear hb B1 B
    go_wp2_with fail
    refine (in_any _ _ _).mono ?_
    rintro e w' ⟨rfl, rfl⟩
    rw [h2]
    go_wp2
    go_ret2
    refine ⟨?_, HB.out⟩
    obtain ⟨e1, e2⟩ := HR.out
    rw [← e1, ← e2]
    simp [h2]
  cases h3 : inB d 1073741824
  · go_enter Try.func18, Try.ntmps18
    go_wp2_with fail
    refine (rcheck_any ⟨mf, mi, s, a, c⟩ _).mono ?_
    rintro e w1 ⟨rfl, hb⟩
    rw [hc]
    have HB := Lib.hid (HL.out.trans (hb.mono HL.out.size))
    have B1 := B.keep hb B.lt
    have k0 := B1.cell 0 _ rfl
    have k2 := B1.cell 2 _ rfl
    clear hb B1 B
    go_wp2_with fail
    refine (in_any _ _ _).mono ?_
    rintro e w' ⟨rfl, rfl⟩
    rw [h2]
    go_wp2_with fail
    refine (in_any _ _ _).mono ?_
    rintro e w' ⟨rfl, rfl⟩
    rw [h3]
    go_wp2
    go_ret2
    refine ⟨?_, HB.out⟩
    obtain ⟨e1, e2⟩ := HR.out
    rw [← e1, ← e2]
    simp [h3]
  have b1 := inB_lo h2
  have b2 := inB_hi h2
  have b3 := inB_lo h3
  have b4 := inB_hi h3
  cases h4 : (s != 0) <;> cases mf
  all_goals
    go_enter Try.func18, Try.ntmps18
    go_wp2_with fail
    refine (rcheck_any ⟨_, mi, s, a, c⟩ _).mono ?_
    rintro e w1 ⟨rfl, hb⟩
    rw [hc]
    have HB := Lib.hid (HL.out.trans (hb.mono HL.out.size))
    have B1 := B.keep hb B.lt
    have k0 := B1.cell 0 _ rfl
    have k2 := B1.cell 2 _ rfl
    clear hb B1 B
    go_wp2_with fail
    refine (in_any _ _ _).mono ?_
    rintro e w' ⟨rfl, rfl⟩
    rw [h2]
    go_wp2_with fail
    refine (in_any _ _ _).mono ?_
    rintro e w' ⟨rfl, rfl⟩
    rw [h3]
    go_wp2
    go_ret2
    refine ⟨?_, HB.out⟩
    obtain ⟨e1, e2⟩ := HR.out
    rw [← e1, ← e2, H1.out, h2, h3]
    simp [h4]

set_option maxRecDepth 100000 in
theorem wishes_any (p : PolD) (kind size : Int) (w : World) : Calls Try.prog 39 #[.agg #[.bool p.mf, .bool p.mi, .int .i64 p.small, .int .i64 p.arc, .int .i64 p.second], .int .i64 kind, .int .i64 size] w fun e w' => e = .returned (.tuple #[.bool (wantF p kind size), .bool (wantB p kind)]) ∧ Below w.heap.size w w' := by
  obtain ⟨mf, mi, s, a, c⟩ := p
  have B := Box.new w 23 #[.bool mf, .bool mi, .int .i64 s, .int .i64 a, .int .i64 c]
  have HL := Lib.hid ((Below.refl w.heap.size w).alloc (Nat.le_refl _) (.cells #[.bool mf, .bool mi, .int .i64 s, .int .i64 a, .int .i64 c] 23 (0, 0)))
  have HS := Lib.hid (size_alloc w (.cells #[.bool mf, .bool mi, .int .i64 s, .int .i64 a, .int .i64 c] 23 (0, 0)))
  have k0 := B.cell 0 _ rfl
  have k1 := B.cell 1 _ rfl
  have k2 := B.cell 2 _ rfl
  have k3 := B.cell 3 _ rfl
  have k4 := B.cell 4 _ rfl
  clear B
  obtain ⟨ra, hra⟩ : ∃ r, wantF ⟨mf, mi, s, a, c⟩ kind size = r := ⟨_, rfl⟩
  obtain ⟨rb, hrb⟩ : ∃ r, wantB ⟨mf, mi, s, a, c⟩ kind = r := ⟨_, rfl⟩
  rw [hra, hrb]
  unfold wantF at hra
  unfold wantB at hrb
  have HR := Lib.hid (And.intro hra hrb)
  clear hra hrb
  cases h0 : (kind == 0)
  · cases h1 : (kind == 1)
    · go_enter Try.func39, Try.ntmps39
      go_wp2
      go_ret2
      refine ⟨?_, HL.out⟩
      obtain ⟨e1, e2⟩ := HR.out
      rw [← e1, ← e2]
      simp [h0, h1]
    · cases h2 : (s != 0)
      · go_enter Try.func39, Try.ntmps39
        go_wp2
        go_ret2
        refine ⟨?_, HL.out⟩
        obtain ⟨e1, e2⟩ := HR.out
        rw [← e1, ← e2]
        simp [h0, h1, h2]
      · cases h3 : decide (size ≤ s)
        all_goals
          go_enter Try.func39, Try.ntmps39
          go_wp2
          go_ret2
          refine ⟨?_, HL.out⟩
          obtain ⟨e1, e2⟩ := HR.out
          rw [← e1, ← e2]
          simp [h0, h1, h2, h3]
  · have h1 : (kind == 1) = false := by have := eq_of_beq h0; subst this; rfl
    cases mf
    · go_enter Try.func39, Try.ntmps39
      go_wp2
      go_ret2
      refine ⟨?_, HL.out⟩
      obtain ⟨e1, e2⟩ := HR.out
      rw [← e1, ← e2]
      simp [h0, h1]
    · cases mi
      all_goals
        go_enter Try.func39, Try.ntmps39
        go_wp2
        go_ret2
        refine ⟨?_, HL.out⟩
        obtain ⟨e1, e2⟩ := HR.out
        rw [← e1, ← e2]
        simp [h0, h1]

set_option maxRecDepth 100000 in
theorem wants_any (p : PolD) (kind size : Int) (hk : kind = 0 ∨ kind = 1) (w : World) : Calls Try.prog 41 #[.agg #[.bool p.mf, .bool p.mi, .int .i64 p.small, .int .i64 p.arc, .int .i64 p.second], .int .i64 kind, .int .i64 size] w fun e w' => e = .returned (.bool (wantF p kind size)) ∧ Below w.heap.size w w' := by
  obtain ⟨mf, mi, s, a, c⟩ := p
  have B := Box.new w 23 #[.bool mf, .bool mi, .int .i64 s, .int .i64 a, .int .i64 c]
  have HL := Lib.hid ((Below.refl w.heap.size w).alloc (Nat.le_refl _) (.cells #[.bool mf, .bool mi, .int .i64 s, .int .i64 a, .int .i64 c] 23 (0, 0)))
  have HS := Lib.hid (size_alloc w (.cells #[.bool mf, .bool mi, .int .i64 s, .int .i64 a, .int .i64 c] 23 (0, 0)))
  have k0 := B.cell 0 _ rfl
  have k1 := B.cell 1 _ rfl
  have k2 := B.cell 2 _ rfl
  have k3 := B.cell 3 _ rfl
  have k4 := B.cell 4 _ rfl
  clear B
  obtain ⟨ra, hra⟩ : ∃ r, wantF ⟨mf, mi, s, a, c⟩ kind size = r := ⟨_, rfl⟩
  rw [hra]
  unfold wantF at hra
  have HR := Lib.hid hra
  clear hra
  rcases hk with rfl | rfl
  · go_enter Try.func41, Try.ntmps41
    go_wp2
    go_ret
    refine ⟨?_, HL.out⟩
    rw [← HR.out]
    simp
  · cases h2 : (s != 0)
    · go_enter Try.func41, Try.ntmps41
      go_wp2
      go_ret
      refine ⟨?_, HL.out⟩
      rw [← HR.out]
      simp [h2]
    · cases h3 : decide (size ≤ s)
      all_goals
        go_enter Try.func41, Try.ntmps41
        go_wp2
        go_ret
        refine ⟨?_, HL.out⟩
        rw [← HR.out]
        simp [h2, h3]
end Go.Proofs.Ytjacogadmdjfcaa
