/-
  Texts put together: ClassD, StT, StV.
-/
import Derived.Test.YtphhnhldbajaoaaGreatDoorMg10
import Derived.Deep.QuietTactic
import Derived.BigQuiet
import Derived.Test.YtphhnhldbajaoaaGreatDoorStS
namespace Go.Proofs.YtphhnhldbajaoaaGreatDoor
open Go.RowKit

set_option maxRecDepth 100000 in
set_option maxHeartbeats 2000000 in
theorem choose_any (p : PolD) (k size : Int) (xa : Option Addr) (ca : Nat) (l : List Int) (w : World) (hl : l.length ≤ maxLen) (h : Sl w (Value.int .i64) xa l) :
    Calls Tryz.prog 96 #[.agg #[.bool p.mf, .bool p.mi, .int .i64 p.small, .int .i64 p.arc, .int .i64 p.second], .int .i64 k, .int .i64 size, .slice xa l.length ca] w (SlRes w.heap.size w (chooseP p k size l)) := by
  obtain ⟨mf, mi, s, a, c⟩ := p
  have B := Box.new w 23 #[.bool mf, .bool mi, .int .i64 s, .int .i64 a, .int .i64 c]
  have HL := Lib.hid ((Below.refl w.heap.size w).alloc (Nat.le_refl _) (.cells #[.bool mf, .bool mi, .int .i64 s, .int .i64 a, .int .i64 c] 23 (0, 0)))
  have HS := Lib.hid (size_alloc w (.cells #[.bool mf, .bool mi, .int .i64 s, .int .i64 a, .int .i64 c] 23 (0, 0)))
  have k0 := B.cell 0 _ rfl
  have k1 := B.cell 1 _ rfl
  have k2 := B.cell 2 _ rfl
  have k3 := B.cell 3 _ rfl
  have k4 := B.cell 4 _ rfl
  obtain ⟨r, hr⟩ : ∃ r, chooseP ⟨mf, mi, s, a, c⟩ k size l = r := ⟨_, rfl⟩
  rw [hr]
  have HR := Lib.hid hr
  have H := Lib.hid h
  unfold maxLen at hl
  clear hr h
  rcases chk_01 ⟨mf, mi, s, a, c⟩ with hc | hc
  case inr =>
    have HN := Lib.hid (show r = ([], 1) by rw [← HR.out]; exact choose_bad (by rw [hc]; simp))
    go_enter Tryz.func96, Tryz.ntmps96
    go_wp2_with fail
    refine (class_check ⟨mf, mi, s, a, c⟩ _).mono ?_
    rintro e w1 ⟨rfl, hb⟩
    rw [hc]
    have HB := Lib.hid (HL.out.trans (hb.mono HL.out.size))
    have B1 := B.keep hb B.lt
    have HBX := Lib.hid B1
    have k0 := B1.cell 0 _ rfl
    have k1 := B1.cell 1 _ rfl
    have k2 := B1.cell 2 _ rfl
    have k3 := B1.cell 3 _ rfl
    have k4 := B1.cell 4 _ rfl
    clear hb B1 B
    go_wp2
    go_ret2
    exact SlRes.nil HN.out HB.out
  have HC := Lib.hid hc
  by_cases hk : k = 0 ∨ k = 1
  case neg =>
    have hk0 : (k != 0) = true := by simp; omega
    have hk1 : (k != 1) = true := by simp; omega
    have HN := Lib.hid (show r = ([], 1) by rw [← HR.out]; exact choose_bad (by intro h; exact hk h.2.1))
    clear hk
    go_enter Tryz.func96, Tryz.ntmps96
    go_wp2_with fail
    refine (class_check ⟨mf, mi, s, a, c⟩ _).mono ?_
    rintro e w1 ⟨rfl, hb⟩
    rw [hc]
    have HB := Lib.hid (HL.out.trans (hb.mono HL.out.size))
    have B1 := B.keep hb B.lt
    have HBX := Lib.hid B1
    have k0 := B1.cell 0 _ rfl
    have k1 := B1.cell 1 _ rfl
    have k2 := B1.cell 2 _ rfl
    have k3 := B1.cell 3 _ rfl
    have k4 := B1.cell 4 _ rfl
    clear hb B1 B
    go_wp2
    go_ret2
    exact SlRes.nil HN.out HB.out
  have HKK := Lib.hid hk
  cases hs : inB size 960
  case false =>
    have HN := Lib.hid (show r = ([], 1) by rw [← HR.out]; exact choose_bad (by rw [hs]; simp))
    rcases hk with rfl | rfl
    all_goals
      go_enter Tryz.func96, Tryz.ntmps96
      go_wp2_with fail
      refine (class_check ⟨mf, mi, s, a, c⟩ _).mono ?_
      rintro e w1 ⟨rfl, hb⟩
      rw [hc]
      have HB := Lib.hid (HL.out.trans (hb.mono HL.out.size))
      have B1 := B.keep hb B.lt
      have HBX := Lib.hid B1
      have k0 := B1.cell 0 _ rfl
      have k1 := B1.cell 1 _ rfl
      have k2 := B1.cell 2 _ rfl
      have k3 := B1.cell 3 _ rfl
      have k4 := B1.cell 4 _ rfl
      clear hb B1 B
      go_wp2_with fail
      refine (class_within _ _ _).mono ?_
      rintro e w' ⟨rfl, rfl⟩
      rw [hs]
      go_wp2
      go_ret2
      exact SlRes.nil HN.out HB.out
  by_cases hlen : l.length = 2
  case neg =>
    have HN := Lib.hid (show r = ([], 1) by rw [← HR.out]; exact choose_len hlen)
    have hb2 : ((l.length : Int) != 2) = true := by simp; omega
    clear hlen
    rcases hk with rfl | rfl
    all_goals
      go_enter Tryz.func96, Tryz.ntmps96
      go_wp2_with fail
      refine (class_check ⟨mf, mi, s, a, c⟩ _).mono ?_
      rintro e w1 ⟨rfl, hb⟩
      rw [hc]
      have HB := Lib.hid (HL.out.trans (hb.mono HL.out.size))
      have B1 := B.keep hb B.lt
      have HBX := Lib.hid B1
      have k0 := B1.cell 0 _ rfl
      have k1 := B1.cell 1 _ rfl
      have k2 := B1.cell 2 _ rfl
      have k3 := B1.cell 3 _ rfl
      have k4 := B1.cell 4 _ rfl
      clear hb B1 B
      go_wp2_with fail
      refine (class_within _ _ _).mono ?_
      rintro e w' ⟨rfl, rfl⟩
      rw [hs]
      go_wp2
      go_ret2
      exact SlRes.nil HN.out HB.out
  obtain ⟨x, y, rfl⟩ : ∃ x y, l = [x, y] := by
    match l, hlen with
    | [x, y], _ => exact ⟨x, y, rfl⟩
  obtain ⟨fb, fo, rfl, hfb, hfc⟩ := H.out (by simp)
  have q0 := hfc 0 x rfl
  have q1 := hfc 1 y rfl
  rw [Nat.add_zero] at q0
  clear hfc H hlen
  simp only [List.length_cons, List.length_nil, Nat.zero_add, Nat.reduceAdd] at hl ⊢
  have HS := Lib.hid hs
  by_cases hx : x < 0
  case pos =>
    have HN := Lib.hid (show r = ([], 1) by rw [← HR.out]; exact choose_neg (by omega))
    rcases hk with rfl | rfl
    all_goals
      go_enter Tryz.func96, Tryz.ntmps96
      go_wp2_with fail
      refine (class_check ⟨mf, mi, s, a, c⟩ _).mono ?_
      rintro e w1 ⟨rfl, hb⟩
      rw [hc]
      have HB := Lib.hid (HL.out.trans (hb.mono HL.out.size))
      have B1 := B.keep hb B.lt
      have HBX := Lib.hid B1
      have k0 := B1.cell 0 _ rfl
      have k1 := B1.cell 1 _ rfl
      have k2 := B1.cell 2 _ rfl
      have k3 := B1.cell 3 _ rfl
      have k4 := B1.cell 4 _ rfl
      have L0 := HB.out
      rw [← L0.cell (p := ⟨fb, fo, none⟩) hfb] at q0
      rw [← L0.cell (p := ⟨fb, fo + 1, none⟩) hfb] at q1
      clear L0
      clear hb B1 B
      go_wp2_with fail
      refine (class_within _ _ _).mono ?_
      rintro e w' ⟨rfl, rfl⟩
      rw [hs]
      go_wp2
      go_ret2
      exact SlRes.nil HN.out HB.out
  by_cases hy : y < 0
  case pos =>
    have HN := Lib.hid (show r = ([], 1) by rw [← HR.out]; exact choose_neg (by omega))
    have hx' : decide (x < 0) = false := by simpa using hx
    rcases hk with rfl | rfl
    all_goals
      go_enter Tryz.func96, Tryz.ntmps96
      go_wp2_with fail
      refine (class_check ⟨mf, mi, s, a, c⟩ _).mono ?_
      rintro e w1 ⟨rfl, hb⟩
      rw [hc]
      have HB := Lib.hid (HL.out.trans (hb.mono HL.out.size))
      have B1 := B.keep hb B.lt
      have HBX := Lib.hid B1
      have k0 := B1.cell 0 _ rfl
      have k1 := B1.cell 1 _ rfl
      have k2 := B1.cell 2 _ rfl
      have k3 := B1.cell 3 _ rfl
      have k4 := B1.cell 4 _ rfl
      have L0 := HB.out
      rw [← L0.cell (p := ⟨fb, fo, none⟩) hfb] at q0
      rw [← L0.cell (p := ⟨fb, fo + 1, none⟩) hfb] at q1
      clear L0
      clear hb B1 B
      go_wp2_with fail
      refine (class_within _ _ _).mono ?_
      rintro e w' ⟨rfl, rfl⟩
      rw [hs]
      go_wp2
      go_ret2
      exact SlRes.nil HN.out HB.out
  have HG := Lib.hid (choose_good HC.out HKK.out HS.out (show 0 ≤ x by omega) (show 0 ≤ y by omega))
  have hx' : decide (x < 0) = false := by simpa using hx
  have hy' : decide (y < 0) = false := by simpa using hy
  have HLE := Lib.hid (@wantB_le ⟨mf, mi, s, a, c⟩ k size)
  obtain ⟨f, hf⟩ : ∃ f, wantF ⟨mf, mi, s, a, c⟩ k size = f := ⟨_, rfl⟩
  obtain ⟨g, hg⟩ : ∃ g, wantB ⟨mf, mi, s, a, c⟩ k = g := ⟨_, rfl⟩
  have HFG : Hid (chooseP ⟨mf, mi, s, a, c⟩ k size [x, y] = (if f = true ∧ 0 < y then (if g = true ∧ 0 < x then ([1, 0], 0) else ([1], 0)) else if 0 < x then ([0], 0) else ([], 6))) := by
    show _ = _
    rw [HG.out, hf, hg]
  have HWF := Lib.hid hf
  have HWG := Lib.hid hg
  have HGF : Hid (f = false → g = false) := by show f = false → g = false; rw [← hf, ← hg]; exact HLE.out
  clear hf hg HG HLE
  rcases hk with rfl | rfl
  all_goals
    rcases Int.lt_or_le 0 x with px | px
    all_goals
      rcases Int.lt_or_le 0 y with py | py
      all_goals
        go_enter Tryz.func96, Tryz.ntmps96
        go_wp2_with fail
        refine (class_check ⟨mf, mi, s, a, c⟩ _).mono ?_
        rintro e w1 ⟨rfl, hb⟩
        rw [hc]
        have HB := Lib.hid (HL.out.trans (hb.mono HL.out.size))
        have B1 := B.keep hb B.lt
        have HBX := Lib.hid B1
        have k0 := B1.cell 0 _ rfl
        have k1 := B1.cell 1 _ rfl
        have k2 := B1.cell 2 _ rfl
        have k3 := B1.cell 3 _ rfl
        have k4 := B1.cell 4 _ rfl
        have L0 := HB.out
        rw [← L0.cell (p := ⟨fb, fo, none⟩) hfb] at q0
        rw [← L0.cell (p := ⟨fb, fo + 1, none⟩) hfb] at q1
        clear L0
        clear hb B1 B
        go_wp2_with fail
        refine (class_within _ _ _).mono ?_
        rintro e w' ⟨rfl, rfl⟩
        rw [hs]
        first | (have dx : decide (0 < x) = true := decide_eq_true px) | (have dx : decide (0 < x) = false := decide_eq_false (Int.not_lt.2 px))
        first | (have dy : decide (0 < y) = true := decide_eq_true py) | (have dy : decide (0 < y) = false := decide_eq_false (Int.not_lt.2 py))
        have PX := Lib.hid px
        have PY := Lib.hid py
        clear px py
        go_wp2_with fail
        go_quiet (fail)
        have HD : Hid (∀ nq, Below w.heap.size w (w1.drewN nq)) := fun nq => ⟨HB.out.os, HB.out.tape, HB.out.output, HB.out.size, HB.out.block⟩
        have z0 : (w1.drewN nq).cell? ⟨w.heap.size, 0, none⟩ = some (.bool mf) := k0
        have z1 : (w1.drewN nq).cell? ⟨w.heap.size, 1, none⟩ = some (.bool mi) := k1
        have z2 : (w1.drewN nq).cell? ⟨w.heap.size, 2, none⟩ = some (.int .i64 s) := k2
        have z3 : (w1.drewN nq).cell? ⟨w.heap.size, 3, none⟩ = some (.int .i64 a) := k3
        have z4 : (w1.drewN nq).cell? ⟨w.heap.size, 4, none⟩ = some (.int .i64 c) := k4
        go_wp2_with fail
        refine (wishes_any ⟨mf, mi, s, a, c⟩ _ size _).mono ?_
        rintro e w2 ⟨rfl, hb2⟩
        rw [HWF.out, HWG.out]
        have HB2 := Lib.hid ((HD.out nq).trans (hb2.mono (HD.out nq).size))
        clear hb2 HD k0 k1 k2 k3 k4 z0 z1 z2 z3 z4 q0 q1 hx' hy'
        have px := PX.out
        have py := PY.out
        cases f
        · have hg' := HGF.out rfl
          subst hg'
          go_wp2
          go_ret2
          first
            | exact SlRes.nil (by rw [← HR.out, HFG.out]; simp [px, py, show ∀ z : Int, z ≤ 0 → ¬ 0 < z from fun z h => Int.not_lt.2 h]) HB2.out
            | exact SlRes.one (by rw [← HR.out, HFG.out]; simp [px, py, show ∀ z : Int, z ≤ 0 → ¬ 0 < z from fun z h => Int.not_lt.2 h]) HB2.out HB2.out.size
        · cases g
          all_goals
            go_wp2
            go_ret2
            first
              | exact SlRes.nil (by rw [← HR.out, HFG.out]; simp [px, py, show ∀ z : Int, z ≤ 0 → ¬ 0 < z from fun z h => Int.not_lt.2 h]) HB2.out
              | exact SlRes.one (by rw [← HR.out, HFG.out]; simp [px, py, show ∀ z : Int, z ≤ 0 → ¬ 0 < z from fun z h => Int.not_lt.2 h]) HB2.out HB2.out.size
              | exact SlRes.two (by rw [← HR.out, HFG.out]; simp [px, py, show ∀ z : Int, z ≤ 0 → ¬ 0 < z from fun z h => Int.not_lt.2 h]) HB2.out HB2.out.size
end Go.Proofs.YtphhnhldbajaoaaGreatDoor

namespace Go.Proofs.YtphhnhldbajaoaaGreatDoor
open Go Go.RowKit Go.ChangeShapes Go.WideShapes Go.ChangeAt

/-- How many sectors of a device may be taken. -/
def freS (σ : StD) (side : Int) : Nat := if devLost σ.d side = true then 0 else cntF (if side = 0 then σ.u0 else σ.u1)
/-- What Put and PutData answer. -/
def stoPut (σ : StD) (kind : Int) (t : ByteArray) : (ByteArray × Int) × StD :=
  let c := chooseP σ.pol kind t.size [(freS σ 0 : Nat), (freS σ 1 : Nat)]
  if c.2 ≠ 0 then ((⟨#[]⟩, c.2), σ) else putOnS σ t c.1
theorem choose_hold {p : PolD} {k s : Int} {l : List Int} (h : (chooseP p k s l).2 = 0) : holdT (chooseP p k s l).1 = true ∧ s ≤ 960 := by
  unfold chooseP at h ⊢
  split at h
  · next x y =>
    split at h
    · next hc =>
      try simp only
      rw [if_pos hc]
      have hs : s ≤ 960 := by
        have := hc.2.2.1
        unfold inB at this
        simp at this
        omega
      split at h
      · next h1 =>
        split at h
        · next h2 => rw [if_pos h1, if_pos h2]; exact ⟨rfl, hs⟩
        · next h2 => rw [if_pos h1, if_neg h2]; exact ⟨rfl, hs⟩
      · next h1 =>
        split at h
        · next h2 => rw [if_neg h1, if_pos h2]; exact ⟨rfl, hs⟩
        · cases h
    · cases h
  · cases h
theorem sl_two (w : World) (x y : Int) (t : TypeId) : Sl (w.alloc (.cells #[.int .i64 x, .int .i64 y] t (0, 0))) (Value.int .i64) (some ⟨w.heap.size, 0, none⟩) [x, y] := by
  have B := Box.new w t #[.int .i64 x, .int .i64 y]
  refine Sl.of fun i z hz => ?_
  rw [add_plain]
  match i, hz with
  | 0, hz => simp at hz; subst hz; exact B.cell 0 _ rfl
  | 1, hz => simp at hz; subst hz; exact B.cell 1 _ rfl
section
variable {B : Nat} {l : List (List Nat → World → Prop)} {s : Nat} {p : StP} {σ : StD} {w : World}
theorem tot_fre {few : Nat} (hw : WfS few σ) : totL (frS σ.d 0 (ofL σ.u0)) = (freS σ 0 : Nat) ∧ totL (frS σ.d 1 (ofL σ.u1)) = (freS σ 1 : Nat) := by
  have z0 : σ.u0.length ≤ 1000 := by rw [hw.r0]; have := hw.sz 0; omega
  have z1 : σ.u1.length ≤ 1000 := by rw [hw.r1]; have := hw.sz 1; omega
  constructor
  · unfold frS freS
    cases devLost σ.d 0
    · exact tot_of z0
    · rfl
  · unfold frS freS
    cases devLost σ.d 1
    · exact tot_of z1
    · rfl
theorem sfree_own {few : Nat} (hl : AllF l) (h : Own B (stL s p σ ++ l) w) (hw : WfS few σ) :
    Calls Tryz.prog 18 #[.pointer (some ⟨s, 0, none⟩)] w fun e w' => e = .returned (.tuple #[.int .i64 (freS σ 0 : Nat), .int .i64 (freS σ 1 : Nat)]) ∧ Own B (stL s p σ ++ l) w' ∧ Below w.heap.size w w' := by
  have z0 : σ.u0.length ≤ 1000 := by rw [hw.r0]; have := hw.sz 0; omega
  have z1 : σ.u1.length ≤ 1000 := by rw [hw.r1]; have := hw.sz 1; omega
  obtain ⟨⟨b0, h0⟩, b1, h1⟩ := sto_runs h
  obtain ⟨a0, c0, e0, s0⟩ := h0.slP'
  obtain ⟨a1, c1, e1, s1⟩ := h1.slP'
  obtain ⟨t0, t1⟩ := tot_fre hw
  refine (sfree_any (sto_fix hl) (sto_box h) (sto_one h) (ofL σ.u0) (ofL σ.u1) ⟨a0, c0, e0, s0, Nat.le_trans (of_len _) z0, of_wf z0⟩ ⟨a1, c1, e1, s1, Nat.le_trans (of_len _) z1, of_wf z1⟩).mono ?_
  rintro e w' ⟨rfl, hb⟩
  exact ⟨by rw [← t0, ← t1], h.keep (sto_all hl) hb, hb⟩
set_option maxRecDepth 100000 in
theorem sput_nil (k : Int) (t : ByteArray) (w : World) : Calls Tryz.prog 61 #[.pointer none, .int .i64 k, .string t] w fun e w' => e = .returned (.tuple #[.string ⟨#[]⟩, .int .i64 1]) ∧ w = w' := by
  go_enter Tryz.func61, Tryz.ntmps61
  go_wp2_with fail
  refine (smade_nil _).mono ?_
  rintro e w1 ⟨rfl, rfl⟩
  go_wp2
  go_ret2
  exact ⟨rfl, rfl⟩
set_option maxRecDepth 100000 in
set_option maxHeartbeats 8000000 in
theorem sput_any {few : Nat} (hl : AllF l) (h : Own B (stL s p σ ++ l) w) (hw : WfS few σ) (hfew : few ≤ 8000) (hK : Kt w) (hB : 0 < B) (k : Int) (t : ByteArray) (ht : t.size ≤ 140737488355328) :
    Calls Tryz.prog 61 #[.pointer (some ⟨s, 0, none⟩), .int .i64 k, .string t] w fun e w' => e = .returned (.tuple #[.string (stoPut σ k t).1.1, .int .i64 (stoPut σ k t).1.2]) ∧ (∃ p', p'.db = p.db ∧ Own B (stL s p' (stoPut σ k t).2 ++ l) w') ∧ Below B w w' := by
  have HL := Lib.hid hl
  have HO := Lib.hid h
  have HWF := Lib.hid hw
  have HFE := Lib.hid hfew
  have HK := Lib.hid hK
  have HBP := Lib.hid hB
  have HT := Lib.hid ht
  have HM := Lib.hid (smade_any s _ w (sto_box h))
  have HF := Lib.hid (sfree_own hl h hw)
  obtain ⟨x, hx⟩ : ∃ x : Nat, x = freS σ 0 := ⟨_, rfl⟩
  obtain ⟨y, hy⟩ : ∃ y : Nat, y = freS σ 1 := ⟨_, rfl⟩
  rw [← hx, ← hy] at HF
  obtain ⟨c, hc⟩ : ∃ c, c = chooseP σ.pol k t.size [(x : Int), (y : Int)] := ⟨_, rfl⟩
  have HC := Lib.hid hc
  have HZ : Hid (stoPut σ k t = if c.2 ≠ 0 then ((⟨#[]⟩, c.2), σ) else putOnS σ t c.1) := by show _ = _; rw [hc, hx, hy]; rfl
  have HHO : Hid (c.2 = 0 → holdT c.1 = true ∧ (t.size : Int) ≤ 960) := fun e => by rw [hc] at e ⊢; exact choose_hold e
  obtain ⟨Z, hZ⟩ : ∃ Z, Z = stoPut σ k t := ⟨_, rfl⟩
  rw [← hZ] at HZ ⊢
  clear h hl hw hfew hK hB ht hx hy hc hZ
  go_enter Tryz.func61, Tryz.ntmps61
  go_wp2_with fail
  refine HM.out.mono ?_
  rintro e w1 ⟨rfl, rfl⟩
  go_wp2_with fail
  refine HF.out.mono ?_
  rintro e w1 ⟨rfl, ho1, hb1⟩
  have HO1 := Lib.hid ho1
  have HB1 := Lib.hid (hb1.mono HO.out.size)
  have c1 : w1.cell? ⟨s, 1, none⟩ = some (.bool σ.pol.mf) := (sto_box ho1).cell 1 _ rfl
  have c2 : w1.cell? ⟨s, 2, none⟩ = some (.bool σ.pol.mi) := (sto_box ho1).cell 2 _ rfl
  have c3 : w1.cell? ⟨s, 3, none⟩ = some (.int .i64 σ.pol.small) := (sto_box ho1).cell 3 _ rfl
  have c4 : w1.cell? ⟨s, 4, none⟩ = some (.int .i64 σ.pol.arc) := (sto_box ho1).cell 4 _ rfl
  have c5 : w1.cell? ⟨s, 5, none⟩ = some (.int .i64 σ.pol.second) := (sto_box ho1).cell 5 _ rfl
  clear ho1 hb1 HM HF HO
  go_wp2_with fail
  have HS2 := Lib.hid (sl_two w1 (x : Int) (y : Int) 3)
  have HO2 := Lib.hid (HO1.out.keep (sto_all HL.out) ((Below.refl w1.heap.size w1).alloc (Nat.le_refl _) (.cells #[.int .i64 (x : Int), .int .i64 (y : Int)] 3 (0, 0))))
  have HB2 := Lib.hid (HB1.out.alloc HO1.out.size (.cells #[.int .i64 (x : Int), .int .i64 (y : Int)] 3 (0, 0)))
  refine (choose_any σ.pol k (t.size : Int) _ 2 [(x : Int), (y : Int)] _ (by unfold maxLen; simp) HS2.out).mono ?_
  rw [← HC.out]
  rintro e w3 ⟨a, cc, rfl, hs3, hb3⟩
  have HS3 := Lib.hid hs3
  have HO3 := Lib.hid (HO2.out.keep (sto_all HL.out) hb3)
  have HB3 := Lib.hid (HB2.out.trans (hb3.mono HO2.out.size))
  clear hs3 hb3 HO2 HB2 HS2 HO1 HB1 c1 c2 c3 c4 c5 HC
  obtain ⟨dv, er⟩ := c
  by_cases he : er = 0
  · have hne : (er != 0) = false := by simp [he]
    obtain ⟨hh, hz⟩ := HHO.out he
    have HPO := Lib.hid (sputon_ok HL.out HO3.out HWF.out HFE.out (HK.out.below HB3.out HBP.out) HBP.out t a cc dv HS3.out (by omega) hh)
    have HE : Hid (Z = putOnS σ t dv) := by show _ = _; rw [HZ.out]; exact if_neg (fun h => h he)
    rw [← HE.out] at HPO
    clear hh hz HHO HZ
    go_wp2_with fail
    refine HPO.out.mono ?_
    rintro e w4 ⟨rfl, ho4, hb4⟩
    have HO4 := Lib.hid ho4
    have HB4 := Lib.hid (HB3.out.trans hb4)
    clear ho4 hb4 HPO
    go_wp2
    go_ret2
    exact ⟨rfl, HO4.out, HB4.out⟩
  · have hne : (er != 0) = true := by simpa using he
    have HE : Hid (Z = ((⟨#[]⟩, er), σ)) := by show _ = _; rw [HZ.out]; exact if_pos he
    clear HHO HZ he
    go_wp2
    go_ret2
    rw [HE.out]
    exact ⟨rfl, ⟨p, rfl, HO3.out⟩, HB3.out⟩
theorem sputM_nil (t : ByteArray) (w : World) : Calls Tryz.prog 27 #[.pointer none, .string t] w fun e w' => e = .returned (.tuple #[.string ⟨#[]⟩, .int .i64 1]) ∧ w = w' := by
  go_enter Tryz.func27, Tryz.ntmps27
  go_wp2_with fail
  refine (sput_nil 0 t _).mono ?_
  rintro e w1 ⟨rfl, rfl⟩
  go_wp2
  go_ret2
  exact ⟨rfl, rfl⟩
set_option maxRecDepth 100000 in
theorem sputM_any {few : Nat} (hl : AllF l) (h : Own B (stL s p σ ++ l) w) (hw : WfS few σ) (hfew : few ≤ 8000) (hK : Kt w) (hB : 0 < B) (t : ByteArray) (ht : t.size ≤ 140737488355328) :
    Calls Tryz.prog 27 #[.pointer (some ⟨s, 0, none⟩), .string t] w fun e w' => e = .returned (.tuple #[.string (stoPut σ 0 t).1.1, .int .i64 (stoPut σ 0 t).1.2]) ∧ (∃ p', p'.db = p.db ∧ Own B (stL s p' (stoPut σ 0 t).2 ++ l) w') ∧ Below B w w' := by
  have HP := Lib.hid (sput_any hl h hw hfew hK hB 0 t ht)
  clear h hl hw hfew hK hB ht
  obtain ⟨Z, hZ⟩ : ∃ Z, Z = stoPut σ 0 t := ⟨_, rfl⟩
  rw [← hZ] at HP ⊢
  clear hZ
  go_enter Tryz.func27, Tryz.ntmps27
  go_wp2_with fail
  refine HP.out.mono ?_
  rintro e w4 ⟨rfl, ho4, hb4⟩
  have HO4 := Lib.hid ho4
  have HB4 := Lib.hid hb4
  clear ho4 hb4 HP
  go_wp2
  go_ret2
  exact ⟨rfl, HO4.out, HB4.out⟩
theorem sputD_nil (t : ByteArray) (w : World) : Calls Tryz.prog 26 #[.pointer none, .string t] w fun e w' => e = .returned (.tuple #[.string ⟨#[]⟩, .int .i64 1]) ∧ w = w' := by
  go_enter Tryz.func26, Tryz.ntmps26
  go_wp2_with fail
  refine (sput_nil 1 t _).mono ?_
  rintro e w1 ⟨rfl, rfl⟩
  go_wp2
  go_ret2
  exact ⟨rfl, rfl⟩
set_option maxRecDepth 100000 in
theorem sputD_any {few : Nat} (hl : AllF l) (h : Own B (stL s p σ ++ l) w) (hw : WfS few σ) (hfew : few ≤ 8000) (hK : Kt w) (hB : 0 < B) (t : ByteArray) (ht : t.size ≤ 140737488355328) :
    Calls Tryz.prog 26 #[.pointer (some ⟨s, 0, none⟩), .string t] w fun e w' => e = .returned (.tuple #[.string (stoPut σ 1 t).1.1, .int .i64 (stoPut σ 1 t).1.2]) ∧ (∃ p', p'.db = p.db ∧ Own B (stL s p' (stoPut σ 1 t).2 ++ l) w') ∧ Below B w w' := by
  have HP := Lib.hid (sput_any hl h hw hfew hK hB 1 t ht)
  clear h hl hw hfew hK hB ht
  obtain ⟨Z, hZ⟩ : ∃ Z, Z = stoPut σ 1 t := ⟨_, rfl⟩
  rw [← hZ] at HP ⊢
  clear hZ
  go_enter Tryz.func26, Tryz.ntmps26
  go_wp2_with fail
  refine HP.out.mono ?_
  rintro e w4 ⟨rfl, ho4, hb4⟩
  have HO4 := Lib.hid ho4
  have HB4 := Lib.hid hb4
  clear ho4 hb4 HP
  go_wp2
  go_ret2
  exact ⟨rfl, HO4.out, HB4.out⟩
end
end Go.Proofs.YtphhnhldbajaoaaGreatDoor

namespace Go.Proofs.YtphhnhldbajaoaaGreatDoor
open Go Go.RowKit Go.ChangeShapes Go.WideShapes Go.ChangeAt

theorem Own.beside {B s : Nat} {t : TypeId} {cs : Array Value} {L : List (List Nat → World → Prop)} {w W : World} (hL : AllF L) (h : Own B (BoxP s t cs :: L) w) (hc : Chg [s] w W) : Own B L W := by
  obtain ⟨hz, G, ⟨G1, G2, rfl, ⟨rfl, _⟩, h2, h3⟩, h4⟩ := h
  exact ⟨Nat.le_trans hz hc.size, G2, (fixed_alls hL).keep _ _ _ _ h2 hc (fun k hk hm => h3 k hm hk), fun k hk => h4 k (List.mem_append_right _ hk)⟩
section
variable {B : Nat} {l : List (List Nat → World → Prop)} {s : Nat} {p : StP} {σ : StD} {w : World}
/-- What Settle makes. -/
def setlS (σ : StD) (p : StP) (used : List (Int × Int)) (t : Int) : StD := { σ with txg := t, u0 := takenS (stV p σ) σ.d 0 used, u1 := takenS (stV p σ) σ.d 1 used }
theorem ssettle_own (hl : AllF l) (h : Own B (stL s p σ ++ l) w) (hz : ∀ t, devSize σ.d t ≤ 512) (hsec : -1000000 ≤ σ.pol.second ∧ σ.pol.second ≤ 1000000) (a : Option Addr) (cap : Nat) (used : List (Int × Int)) (hn : used.length ≤ 1000) (hu : ∀ W, Chg [s] w W → SlP W a used) (t : Int) :
    Calls Tryz.prog 25 #[.pointer (some ⟨s, 0, none⟩), .slice a used.length cap, .int .i64 t] w fun e w' => e = .returned (.int .i64 (if settleOk σ.d used t = true then 0 else 1)) ∧ (∃ p', p'.db = p.db ∧ Own B (stL s p' (if settleOk σ.d used t = true then setlS σ p used t else σ) ++ l) w') ∧ Below B w w' := by
  have hX : AllF ([RunF p.v0 (ofL σ.u0), RunF p.v1 (ofL σ.u1), ArcO p.av σ.a, MapF p.m σ.L, SecO p.cv p.db σ.c] ++ l) := .append (.cons (fixed_run _ _) (.cons (fixed_run _ _) (.cons (fixed_arcO _ _) (.cons (fixed_map _ _) (.cons (fixed_secO _ _ _) .nil))))) hl
  have hO : ∀ W, Chg [s] w W → One B (Alls ([RunF p.v0 (ofL σ.u0), RunF p.v1 (ofL σ.u1), ArcO p.av σ.a, MapF p.m σ.L, SecO p.cv p.db σ.c] ++ l)) (stV p σ).db σ.d W := fun W hc => by
    have h1 : Own B ([RunF p.v0 (ofL σ.u0), RunF p.v1 (ofL σ.u1), ArcO p.av σ.a, MapF p.m σ.L, SecO p.cv p.db σ.c, DevF p.db σ.d] ++ l) W := Own.beside (.append (.cons (fixed_run _ _) (.cons (fixed_run _ _) (.cons (fixed_arcO _ _) (.cons (fixed_map _ _) (.cons (fixed_secO _ _ _) (.cons (fixed_dev _ _) .nil)))))) hl) h hc
    exact (h1.pick [RunF p.v0 (ofL σ.u0), RunF p.v1 (ofL σ.u1), ArcO p.av σ.a, MapF p.m σ.L, SecO p.cv p.db σ.c]).one
  cases hb : settleOk σ.d used t
  · refine (ssettle_bad (fixed_alls hX) (sto_box h) (hO w (Chg.refl _ _)) a cap used hn (hu w (Chg.refl _ _)) t hb).mono ?_
    rintro e w' ⟨rfl, hbb⟩
    exact ⟨rfl, ⟨p, rfl, h.keep (sto_all hl) hbb⟩, hbb.mono h.size⟩
  · refine (ssettle_ok (fixed_alls hX) (sto_box h) hO hz hsec a cap used hn hu t hb).mono ?_
    rintro e w' ⟨rfl, v0, v1, hx, hp0, hp1, hd, hc⟩
    have hp0 := hp0 (by decide)
    have hp1 := hp1 (by decide)
    have hd := hd (by decide)
    have hR : AllF ([ArcO p.av σ.a, MapF p.m σ.L, SecO p.cv p.db σ.c, DevF p.db σ.d] ++ l) := .append (.cons (fixed_arcO _ _) (.cons (fixed_map _ _) (.cons (fixed_secO _ _ _) (.cons (fixed_dev _ _) .nil)))) hl
    have h1 : Own B (BoxP s 93 (stV p σ).cells :: ([ArcO p.av σ.a, MapF p.m σ.L, SecO p.cv p.db σ.c, DevF p.db σ.d] ++ l)) w := h.subl (by
      show List.Sublist (BoxP s 93 (stV p σ).cells :: ([ArcO p.av σ.a, MapF p.m σ.L, SecO p.cv p.db σ.c, DevF p.db σ.d] ++ l)) (BoxP s 93 (stV p σ).cells :: RunF p.v0 (ofL σ.u0) :: RunF p.v1 (ofL σ.u1) :: ([ArcO p.av σ.a, MapF p.m σ.L, SecO p.cv p.db σ.c, DevF p.db σ.d] ++ l))
      exact .cons_cons _ (.cons _ (.cons _ (List.Sublist.refl _))))
    have hs := (sto_box h).lt
    obtain ⟨h2, h3⟩ := h1.onto (Q' := Alls [BoxP s 93 (stV { p with v0 := v0, v1 := v1 } (setlS σ p used t)).cells, RunF v0 (ofL (takenS (stV p σ) σ.d 0 used)), RunF v1 (ofL (takenS (stV p σ) σ.d 1 used))]) hR (w' := w') fun F hF => by
      refine ⟨[s] ++ (v0.ownBlock.toList ++ (v1.ownBlock.toList ++ [])), ⟨[s], _, rfl, ⟨rfl, hx⟩, ⟨v0.ownBlock.toList, _, rfl, ⟨rfl, _, hp0⟩, ⟨v1.ownBlock.toList, [], rfl, ⟨rfl, _, hp1⟩, rfl, fun _ _ h => by cases h⟩, fun k hk hm => ?_⟩, fun k hk hm => ?_⟩, by rw [hF.1]; exact hc, fun k hk => ?_⟩
      · rw [List.append_nil, Option.mem_toList] at hm
        rw [Option.mem_toList] at hk
        exact hd k hk hm
      · rw [List.mem_singleton] at hk
        subst hk
        rw [List.append_nil, List.mem_append, Option.mem_toList, Option.mem_toList] at hm
        rcases hm with hm | hm
        · have := hp0.own _ hm; omega
        · have := hp1.own _ hm; omega
      · rw [List.append_nil, List.mem_append, List.mem_append, Option.mem_toList, Option.mem_toList] at hk
        rcases hk with hk | hk | hk
        · exact .inl (by rw [hF.1]; exact hk)
        · exact .inr (hp0.own _ hk)
        · exact .inr (hp1.own _ hk)
    exact ⟨rfl, ⟨{ p with v0 := v0, v1 := v1 }, rfl, h2.open⟩, h3⟩
/-- The cache of keys that Open makes. -/
def arcO (c : Int) : Option ArcD := if 1 ≤ c then some (newDA c) else none
theorem own_arc (hl : AllF l) (h : Own B l w) (c : Int) (h64 : c ≤ 64) : Calls Tryz.prog 67 #[.int .i64 c] w fun e w' => ∃ av, e = .returned (.pointer av) ∧ Own B (ArcO (.pointer av) (arcO c) :: l) w' ∧ Below w.heap.size w w' := by
  unfold arcO
  by_cases h1 : 1 ≤ c
  · rw [if_pos h1]
    refine (arc_new c w h1 h64).mono ?_
    rintro e w' ⟨rfl, hf, hb⟩
    exact ⟨_, rfl, h.more hl hb (R := ArcO (.pointer (some ⟨w.heap.size, 0, none⟩)) (some (newDA c))) ⟨_, rfl, hf⟩ (fun k hk => by rw [List.mem_singleton] at hk; omega), hb⟩
  · rw [if_neg h1]
    refine (arc_new_none c w (.inl (by omega))).mono ?_
    rintro e w' ⟨rfl, rfl⟩
    exact ⟨_, rfl, h.more hl (Below.refl _ _) (R := ArcO (.pointer none) none) (H := []) ⟨rfl, rfl⟩ (fun _ h => by cases h), Below.refl _ _⟩
theorem own_map (hl : AllF l) (h : Own B l w) : Own B (MapF w.heap.size [] :: l) (w.alloc (.map #[] 0)) :=
  h.more hl ((Below.refl _ _).alloc (Nat.le_refl _) _) (R := MapF w.heap.size []) (H := [w.heap.size]) ⟨rfl, MapAt.made BlS w⟩ (fun k hk => by rw [List.mem_singleton] at hk; omega)
set_option maxRecDepth 100000 in
theorem second_small {P : List Nat → World → Prop} {b : Nat} {d : DevD} (ho : One B P b d w) (f : Int) : Calls Tryz.prog 69 #[.pointer (some ⟨b, 0, none⟩), .int .i64 f, .int .i64 0] w fun e w' => e = .returned (.pointer none) ∧ w = w' := by
  have HSZ := Lib.hid (one_size ho 1)
  clear ho
  by_cases h0 : f < 0
  · go_enter Tryz.func69, Tryz.ntmps69
    go_wp2
    go_ret
    exact ⟨rfl, rfl⟩
  · go_enter Tryz.func69, Tryz.ntmps69
    go_wp2
    go_ret
    exact ⟨rfl, rfl⟩
/-- The second cache that Open makes. -/
def secOf (d : DevD) (pol : PolD) : Option SecD := if pol.second < 2 ∨ (devSize d 1 : Int) - 4 < pol.second then none else some (recX d (newX (devSize d 1 - pol.second.toNat) pol.second.toNat))
/-- A store that Open made. -/
def openS (d : DevD) (pol : PolD) (used : List (Int × Int)) (t : Int) : StD :=
  let x : StoV := ⟨0, pol, 0, .slice none 0 0, .slice none 0 0, .slice none 0 0, 0, .slice none 0 0, 0, 0, 0⟩
  { d := d, pol := pol, txg := t, u0 := takenS x d 0 used, u1 := takenS x d 1 used, a := arcO pol.arc, L := [], c := secOf d pol, h0 := 0, h1 := 0, h2 := 0 }
end
end Go.Proofs.YtphhnhldbajaoaaGreatDoor
