/-
  Texts put together: DevCheck, DevRead.
-/
import Derived.Test.YtopinlnjdgedeaaDoorMg3
import Derived.Deep.QuietTactic
namespace Go.Proofs.YtopinlnjdgedeaaDoor
open Go.RowKit

def locV (l : Int × Int) : Value := .agg #[.int .i64 l.1, .int .i64 l.2]
def chkD (d : DevD) (l : Int × Int) (n : Nat) : Int :=
  if l.2 < 0 ∨ (devSize d l.1 : Int) ≤ l.2 ∨ 1024 < n then 1 else if devLost d l.1 then 5 else 0

theorem dcheck_nil (l : Int × Int) (s : ByteArray) (w : World) : Calls Tryd.prog 35 #[.pointer none, locV l, .string s] w fun e w' => e = .returned (.int .i64 1) ∧ Below w.heap.size w w' := by
  obtain ⟨a, b⟩ := l
  have hx := Lib.hid ((Below.refl w.heap.size w).alloc (Nat.le_refl _) (.cells #[.int .i64 a, .int .i64 b] 48 (0, 0)))
  have k0 : (w.alloc (.cells #[.int .i64 a, .int .i64 b] 48 (0, 0))).cell? ⟨w.heap.size, 0, none⟩ = some (.int .i64 a) := boxed0 _ _ _ _ 0 _ rfl
  have k1 : (w.alloc (.cells #[.int .i64 a, .int .i64 b] 48 (0, 0))).cell? ⟨w.heap.size, 1, none⟩ = some (.int .i64 b) := boxed0 _ _ _ _ 1 _ rfl
  unfold locV
  by_cases h : b < 0
  · have hd : decide (b < 0) = true := decide_eq_true h
    clear h
    go_enter Tryd.func35, Tryd.ntmps35
    go_wp2_with fail
    generalize World.alloc _ _ = wx at *
    go_region
    go_wp2
    go_ret
    exact ⟨rfl, hx.out.drew⟩
  · have hd : decide (b < 0) = false := decide_eq_false h
    have hd2 : decide (0 ≤ b) = true := decide_eq_true (by omega)
    clear h
    go_enter Tryd.func35, Tryd.ntmps35
    go_wp2_with fail
    generalize World.alloc _ _ = wx at *
    go_quiet ((go_at_call 17; exact Calls.quiet_of_same ((dsize_nil _ _).mono fun e w' h => ⟨h.1, h.2.symm⟩)))
    go_wp2
    go_ret
    exact ⟨rfl, ⟨hx.out.os, hx.out.tape, hx.out.output, hx.out.size, hx.out.block⟩⟩

set_option maxRecDepth 100000 in
set_option maxHeartbeats 1000000 in
theorem dcheck_any (p : DevP) (d : DevD) (l : Int × Int) (s : ByteArray) (w : World) (h : DevAt w p d) : Calls Tryd.prog 35 #[.pointer (some ⟨p.b, 0, none⟩), locV l, .string s] w fun e w' => e = .returned (.int .i64 (chkD d l s.size)) ∧ Below w.heap.size w w' := by
  obtain ⟨a, b⟩ := l
  have hx := Lib.hid ((Below.refl w.heap.size w).alloc (Nat.le_refl _) (.cells #[.int .i64 a, .int .i64 b] 48 (0, 0)))
  have k0 : (w.alloc (.cells #[.int .i64 a, .int .i64 b] 48 (0, 0))).cell? ⟨w.heap.size, 0, none⟩ = some (.int .i64 a) := boxed0 _ _ _ _ 0 _ rfl
  have k1 : (w.alloc (.cells #[.int .i64 a, .int .i64 b] 48 (0, 0))).cell? ⟨w.heap.size, 1, none⟩ = some (.int .i64 b) := boxed0 _ _ _ _ 1 _ rfl
  have HX := Lib.hid (h.chg (Chg.of (S := []) hx.out (Nat.le_refl _)) (fun _ _ hm => by cases hm))
  have HU : Hid (chkD d (a, b) s.size = if b < 0 ∨ (devSize d a : Int) ≤ b ∨ 1024 < s.size then 1 else if devLost d a then 5 else 0) := rfl
  clear h
  unfold locV
  by_cases h0 : b < 0
  · rw [HU.out, if_pos (Or.inl h0)]
    have hd : decide (b < 0) = true := decide_eq_true h0
    clear h0
    go_enter Tryd.func35, Tryd.ntmps35
    go_wp2_with fail
    generalize World.alloc _ _ = wx at *
    go_region
    go_wp2
    go_ret
    exact ⟨rfl, ⟨hx.out.os, hx.out.tape, hx.out.output, hx.out.size, hx.out.block⟩⟩
  · by_cases h1 : (devSize d a : Int) ≤ b
    · rw [HU.out, if_pos (Or.inr (Or.inl h1))]
      have hd : decide (b < 0) = false := decide_eq_false h0
      have hd2 : decide ((devSize d a : Int) ≤ b) = true := decide_eq_true h1
      obtain ⟨n, hn⟩ : ∃ n, n = devSize d a := ⟨_, rfl⟩
      clear h0 h1 hn
      go_enter Tryd.func35, Tryd.ntmps35
      go_wp2_with fail
      generalize World.alloc _ _ = wx at *
      go_quiet ((go_at_call 17; exact Calls.quiet_of_same ((dsize_any p d _ _ (by exact HX.out.drewN _)).mono fun e w' h => ⟨h.1, h.2.symm⟩)))
      go_wp2
      go_ret
      exact ⟨rfl, ⟨hx.out.os, hx.out.tape, hx.out.output, hx.out.size, hx.out.block⟩⟩
    · by_cases h2 : 1024 < s.size
      · rw [HU.out, if_pos (Or.inr (Or.inr h2))]
        have hd : decide (b < 0) = false := decide_eq_false h0
        have hd2 : decide ((devSize d a : Int) ≤ b) = false := decide_eq_false h1
        have hd3 : (1024 : Int) < s.size := by omega
        clear h0 h1 h2
        go_enter Tryd.func35, Tryd.ntmps35
        go_wp2_with fail
        generalize World.alloc _ _ = wx at *
        go_quiet ((go_at_call 17; exact Calls.quiet_of_same ((dsize_any p d _ _ (by exact HX.out.drewN _)).mono fun e w' h => ⟨h.1, h.2.symm⟩)))
        go_wp2
        go_ret
        exact ⟨rfl, ⟨hx.out.os, hx.out.tape, hx.out.output, hx.out.size, hx.out.block⟩⟩
      · rw [HU.out, if_neg (by omega)]
        have hd : decide (b < 0) = false := decide_eq_false h0
        have hd2 : decide ((devSize d a : Int) ≤ b) = false := decide_eq_false h1
        have hd3 : (s.size : Int) ≤ 1024 := by omega
        have ha : a = 0 ∨ a = 1 := by
          by_cases h3 : a = 0 ∨ a = 1
          · exact h3
          · unfold devSize at h1
            rw [if_neg (by omega), if_neg (by omega)] at h1
            simp at h1; omega
        have c2 : (w.alloc (.cells #[.int .i64 a, .int .i64 b] 48 (0, 0))).cell? ⟨p.b, 2, none⟩ = some (.bool d.s0.lost) := HX.out.box.cell 2 _ rfl
        have c5 : (w.alloc (.cells #[.int .i64 a, .int .i64 b] 48 (0, 0))).cell? ⟨p.b, 5, none⟩ = some (.bool d.s1.lost) := HX.out.box.cell 5 _ rfl
        clear h0 h1 h2
        rcases ha with rfl | rfl
        · rw [show devLost d 0 = d.s0.lost from rfl]
          cases hl : d.s0.lost
          all_goals
            rw [hl] at c2
            have HLo := Lib.hid hl
            clear hl c5
            go_enter Tryd.func35, Tryd.ntmps35
            go_wp2_with fail
            generalize World.alloc _ _ = wx at *
            go_quiet ((go_at_call 17; exact Calls.quiet_of_same ((dsize_any p d _ _ (by exact HX.out.drewN _)).mono fun e w' h => ⟨h.1, h.2.symm⟩)))
            go_wp2_with fail
            go_region
            go_wp2
            go_ret
            exact ⟨rfl, ⟨hx.out.os, hx.out.tape, hx.out.output, hx.out.size, hx.out.block⟩⟩
        · rw [show devLost d 1 = d.s1.lost from rfl]
          cases hl : d.s1.lost
          all_goals
            rw [hl] at c5
            have HLo := Lib.hid hl
            clear hl c2
            go_enter Tryd.func35, Tryd.ntmps35
            go_wp2_with fail
            generalize World.alloc _ _ = wx at *
            go_quiet ((go_at_call 17; exact Calls.quiet_of_same ((dsize_any p d _ _ (by exact HX.out.drewN _)).mono fun e w' h => ⟨h.1, h.2.symm⟩)))
            go_wp2_with fail
            go_region
            go_wp2
            go_ret
            exact ⟨rfl, ⟨hx.out.os, hx.out.tape, hx.out.output, hx.out.size, hx.out.block⟩⟩
end Go.Proofs.YtopinlnjdgedeaaDoor

namespace Go.Proofs.YtopinlnjdgedeaaDoor
open Go.RowKit

def sideOf (d : DevD) (dev : Int) : SideD := if dev = 0 then d.s0 else d.s1
def tellD (d : DevD) (l : Int × Int) : ByteArray := if chkD d l 0 = 0 then (sideOf d l.1).tells.getD l.2.toNat ⟨#[]⟩ else ⟨#[]⟩
theorem chkD_ok {d : DevD} {l : Int × Int} {n : Nat} (h : chkD d l n = 0) : (l.1 = 0 ∨ l.1 = 1) ∧ 0 ≤ l.2 ∧ l.2 < devSize d l.1 ∧ n ≤ 1024 ∧ devLost d l.1 = false := by
  unfold chkD at h
  split at h
  · simp at h
  · rename_i h1
    split at h
    · simp at h
    · rename_i h2
      refine ⟨?_, by omega, by omega, by omega, by simpa using h2⟩
      by_cases h3 : l.1 = 0 ∨ l.1 = 1
      · exact h3
      · have : devSize d l.1 = 0 := by unfold devSize; rw [if_neg (by omega), if_neg (by omega)]
        omega

theorem dread_nil (l : Int × Int) (w : World) : Calls Tryd.prog 18 #[.pointer none, locV l] w fun e w' => e = .returned (.tuple #[.string ⟨#[]⟩, .int .i64 1]) ∧ Below w.heap.size w w' := by
  obtain ⟨a, b⟩ := l
  unfold locV
  have hx := Lib.hid ((Below.refl w.heap.size w).alloc (Nat.le_refl _) (.cells #[.int .i64 a, .int .i64 b] 48 (0, 0)))
  go_enter Tryd.func18, Tryd.ntmps18
  go_wp2_with fail
  generalize World.alloc _ _ = wx at *
  refine (dcheck_nil (a, b) ⟨#[]⟩ wx).mono ?_
  rintro e w1 ⟨rfl, hb⟩
  have HB := Lib.hid (hx.out.trans (hb.mono hx.out.size))
  clear hb
  go_wp2
  go_ret2
  exact ⟨rfl, HB.out⟩

set_option maxRecDepth 100000 in
set_option maxHeartbeats 1000000 in
theorem dread_any (p : DevP) (d : DevD) (l : Int × Int) (w : World) (h : DevAt w p d) : Calls Tryd.prog 18 #[.pointer (some ⟨p.b, 0, none⟩), locV l] w fun e w' => e = .returned (.tuple #[.string (tellD d l), .int .i64 (chkD d l 0)]) ∧ Below w.heap.size w w' := by
  obtain ⟨a, b⟩ := l
  unfold locV
  have hx := Lib.hid ((Below.refl w.heap.size w).alloc (Nat.le_refl _) (.cells #[.int .i64 a, .int .i64 b] 48 (0, 0)))
  have BX := Lib.hid (Box.new w 48 #[.int .i64 a, .int .i64 b])
  have HX := Lib.hid (h.chg (Chg.of (S := []) hx.out (Nat.le_refl _)) (fun _ _ hm => by cases hm))
  clear h
  have HT : Hid (tellD d (a, b) = if chkD d (a, b) 0 = 0 then (sideOf d a).tells.getD b.toNat ⟨#[]⟩ else ⟨#[]⟩) := rfl
  go_enter Tryd.func18, Tryd.ntmps18
  go_wp2_with fail
  generalize World.alloc _ _ = wx at *
  refine (dcheck_any p d (a, b) ⟨#[]⟩ wx HX.out).mono ?_
  rintro e w1 ⟨rfl, hb⟩
  rw [show (⟨#[]⟩ : ByteArray).size = 0 from rfl]
  have HB := Lib.hid (hx.out.trans (hb.mono hx.out.size))
  have H1 := Lib.hid (HX.out.chg (Chg.of (S := []) hb (Nat.le_refl _)) (fun _ _ hm => by cases hm))
  have B1 := Lib.hid (BX.out.keep hb BX.out.lt)
  clear hb HX BX
  by_cases hc : chkD d (a, b) 0 = 0
  · obtain ⟨ha, h0, h1, _, _⟩ := chkD_ok hc
    simp only at ha h0 h1
    have HC := Lib.hid hc
    rw [hc]
    rw [if_pos hc] at HT
    have k0 : w1.cell? ⟨w.heap.size, 0, none⟩ = some (.int .i64 a) := B1.out.cell 0 _ rfl
    have k1 : w1.cell? ⟨w.heap.size, 1, none⟩ = some (.int .i64 b) := B1.out.cell 1 _ rfl
    obtain ⟨k, rfl⟩ : ∃ k : Nat, b = k := ⟨b.toNat, by omega⟩
    clear hc
    rw [Int.toNat_natCast] at HT
    rcases ha with rfl | rfl
    · have hk : k < d.s0.tells.length := by rw [H1.out.l0]; have : devSize d 0 = d.s0.has.length := rfl; omega
      have c1 : w1.cell? ⟨p.b, 1, none⟩ = some (.slice (some ⟨p.t0, 0, none⟩) d.s0.tells.length p.ct0) := H1.out.box.cell 1 _ rfl
      have ce : w1.cell? ⟨p.t0, k, none⟩ = some (.string ((sideOf d 0).tells.getD k ⟨#[]⟩)) := by
        have e : d.s0.tells[k]? = some ((sideOf d 0).tells.getD k ⟨#[]⟩) := by
          show d.s0.tells[k]? = some (d.s0.tells.getD k ⟨#[]⟩)
          rw [List.getD, List.getElem?_eq_getElem hk]; rfl
        exact H1.out.t0.get k _ e
      generalize (sideOf d 0).tells.getD k ⟨#[]⟩ = x at *
      clear h0 h1
      go_wp2_with fail
      go_region
      go_wp2
      go_ret2
      exact ⟨by rw [HT.out, HC.out]; rfl, HB.out.drew⟩
    · have hk : k < d.s1.tells.length := by rw [H1.out.l1]; have : devSize d 1 = d.s1.has.length := rfl; omega
      have c4 : w1.cell? ⟨p.b, 4, none⟩ = some (.slice (some ⟨p.t1, 0, none⟩) d.s1.tells.length p.ct1) := H1.out.box.cell 4 _ rfl
      have ce : w1.cell? ⟨p.t1, k, none⟩ = some (.string ((sideOf d 1).tells.getD k ⟨#[]⟩)) := by
        have e : d.s1.tells[k]? = some ((sideOf d 1).tells.getD k ⟨#[]⟩) := by
          show d.s1.tells[k]? = some (d.s1.tells.getD k ⟨#[]⟩)
          rw [List.getD, List.getElem?_eq_getElem hk]; rfl
        exact H1.out.t1.get k _ e
      generalize (sideOf d 1).tells.getD k ⟨#[]⟩ = x at *
      clear h0 h1
      go_wp2_with fail
      go_region
      go_wp2
      go_ret2
      exact ⟨by rw [HT.out, HC.out]; rfl, HB.out.drew⟩
  · have hq : (chkD d (a, b) 0 != 0) = true := by simpa using hc
    rw [if_neg hc] at HT
    clear hc
    go_wp2
    go_ret2
    exact ⟨by rw [HT.out]; rfl, HB.out⟩
end Go.Proofs.YtopinlnjdgedeaaDoor
