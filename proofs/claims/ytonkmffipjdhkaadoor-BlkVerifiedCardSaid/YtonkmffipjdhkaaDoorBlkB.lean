/-
  Blocks: isOf, the closures of Write, and whether one of some Locs is so.
-/
import Derived.Test.YtonkmffipjdhkaaDoorMg16
import Derived.Test.YtonkmffipjdhkaaDoorMg18
import Derived.Deep.QuietTactic
import Derived.BigQuiet
namespace Go.Proofs.YtonkmffipjdhkaaDoor
open Go.RowKit Go.ChangeShapes Go.WideShapes Go.ChangeAt

/-- Is s the text that p was made of? -/
def isT (p : PtrD) (s : ByteArray) : Bool := ((s.size : Int) == p.len) && ((sha s).toList == p.sum.toList)

set_option maxRecDepth 100000 in
set_option maxHeartbeats 1000000 in
theorem isof_any (a : Option Addr) (cap : Nat) (p : PtrD) (s : ByteArray) (w : World) (hs : s.size ≤ 140737488355328) (hK : Kt w) :
    Calls Tryd.prog 56 #[ptrV a cap p, .string s] w fun e w' => e = .returned (.bool (isT p s)) ∧ Below w.heap.size w w' := by
  obtain ⟨ll, ln, bi, su⟩ := p
  have HX := Lib.hid ((Below.refl w.heap.size w).alloc (Nat.le_refl _) (.cells #[.slice a ll.length cap, .int .i64 ln, .int .i64 bi, .string su] 25 (0, 0)))
  have BX := Lib.hid (Box.new w 25 #[.slice a ll.length cap, .int .i64 ln, .int .i64 bi, .string su])
  have HK := Lib.hid hK
  have HP := Lib.hid hK.pos
  clear hK
  unfold ptrV
  simp only
  cases hq : ((s.size : Int) == ln)
  · have HQ : Hid (isT ⟨ll, ln, bi, su⟩ s = false) := by show _ = _; unfold isT; simp only; rw [hq]; rfl
    go_enter Tryd.func56, Tryd.ntmps56
    go_wp2_with fail
    generalize World.alloc _ _ = wx at *
    have k1 : wx.cell? ⟨w.heap.size, 1, none⟩ = some (.int .i64 ln) := BX.out.cell 1 _ rfl
    go_quiet (fail)
    have L4 : Hid (Below w.heap.size w (wx.drewN nq)) := ⟨HX.out.os, HX.out.tape, HX.out.output, HX.out.size, HX.out.block⟩
    go_wp2
    go_ret
    exact ⟨ret_bool HQ.out.symm, L4.out⟩
  · have HQ : Hid (isT ⟨ll, ln, bi, su⟩ s = ((sha s).toList == su.toList)) := by show _ = _; unfold isT; simp only; rw [hq]; rfl
    go_enter Tryd.func56, Tryd.ntmps56
    go_wp2_with fail
    generalize World.alloc _ _ = wx at *
    have k1 : wx.cell? ⟨w.heap.size, 1, none⟩ = some (.int .i64 ln) := BX.out.cell 1 _ rfl
    have k3 : wx.cell? ⟨w.heap.size, 3, none⟩ = some (.string su) := BX.out.cell 3 _ rfl
    have KX := Lib.hid (HK.out.below HX.out.drew HP.out)
    refine wp_region_sched (fun W => W.cell? ⟨w.heap.size, 1, none⟩ = some (.int .i64 ln) ∧ W.cell? ⟨w.heap.size, 3, none⟩ = some (.string su)) 10 [(0, false), (1, false), (2, false), (3, false), (4, false), (5, false), (6, false), (8, false), (9, false), (7, true)] (by kernel_rfl) (by kernel_rfl) ⟨k1, k3⟩ ?_
    simp only [List.drop_succ_cons, List.drop_zero]
    iterate 9 (apply wpSch_step rfl; (intro W hS K hK; obtain ⟨q1, q2⟩ := hS; go_simp; exact hK _ rfl))
    refine wpSch_make rfl (fun K' hK => ?_)
    go_simp
    refine (of_any s _ hs KX.out).mono ?_
    rintro e w2 ⟨rfl, hb⟩
    have L2 := Lib.hid (HX.out.drew.trans (hb.mono HX.out.size))
    refine hK _ _ _ (fun _ h => h) ⟨(hb.cell (p := ⟨w.heap.size, 1, none⟩) BX.out.lt).trans k1, (hb.cell (p := ⟨w.heap.size, 3, none⟩) BX.out.lt).trans k3⟩ ?_
    clear hK K' hb k1 k3
    refine wpSch_nil ?_
    go_wp2
    go_ret
    exact ⟨ret_bool HQ.out.symm, L2.out⟩

/-- What a closure of Locs answers, as long as old memory stays. -/
def OfB (f : FuncId) (C : Nat) (R : Int × Int → Bool) (w : World) : Prop :=
  ∀ w', Below w.heap.size w w' → ∀ x : Int × Int, Calls Tryd.prog f #[locV x, .pointer (some ⟨C, 0, none⟩)] w' fun e w'' => e = .returned (.bool (R x)) ∧ Below w'.heap.size w' w''

set_option maxRecDepth 100000 in
theorem write1_any (x : Option Addr) (sz : Int → Nat) (l : Int × Int) (C : Nat) (w : World) (hc : w.cell? ⟨C, 0, none⟩ = some (.pointer x)) (hs : ∀ w', Below w.heap.size w w' → ∀ dev, Calls Tryd.prog 29 #[.pointer x, .int .i64 dev] w' fun e w'' => e = .returned (.int .i64 (sz dev : Nat)) ∧ w' = w'') :
    Calls Tryd.prog 28 #[locV l, .pointer (some ⟨C, 0, none⟩)] w fun e w' => e = .returned (.bool (decide ((sz l.1 : Int) ≤ l.2))) ∧ Below w.heap.size w w' := by
  obtain ⟨da, db⟩ := l
  unfold locV
  simp only
  have hx := (Below.refl w.heap.size w).alloc (Nat.le_refl _) (.cells #[.int .i64 da, .int .i64 db] 33 (0, 0))
  have HX := Lib.hid hx
  have BX := Lib.hid (Box.new w 33 #[.int .i64 da, .int .i64 db])
  have HC := Lib.hid ((hx.cell (p := ⟨C, 0, none⟩) (lt_of_cell hc)).trans hc)
  have HS := Lib.hid (hs _ (hx.drew) da)
  clear hx hc hs
  go_enter Tryd.func28, Tryd.ntmps28
  go_wp2_with fail
  generalize World.alloc _ _ = wx at *
  have k0 : wx.cell? ⟨w.heap.size, 0, none⟩ = some (.int .i64 da) := BX.out.cell 0 _ rfl
  have k1 : wx.cell? ⟨w.heap.size, 1, none⟩ = some (.int .i64 db) := BX.out.cell 1 _ rfl
  have kc : wx.cell? ⟨C, 0, none⟩ = some (.pointer x) := HC.out
  refine wp_region_sched (fun W => W.cell? ⟨w.heap.size, 0, none⟩ = some (.int .i64 da) ∧ W.cell? ⟨w.heap.size, 1, none⟩ = some (.int .i64 db) ∧ W.cell? ⟨C, 0, none⟩ = some (.pointer x)) 6 [(0, false), (1, false), (2, false), (3, false), (4, false), (5, true)] (by kernel_rfl) (by kernel_rfl) ⟨k0, k1, kc⟩ ?_
  simp only [List.drop_succ_cons, List.drop_zero]
  iterate 5 (apply wpSch_step rfl; (intro W hS K hK; obtain ⟨q1, q2, q3⟩ := hS; go_simp; exact hK _ rfl))
  refine wpSch_make rfl (fun K' hK => ?_)
  go_simp
  refine HS.out.mono ?_
  rintro e w2 ⟨rfl, rfl⟩
  refine hK _ _ _ (fun _ h => h) ⟨k0, k1, kc⟩ ?_
  clear hK K' k0 k1 kc
  refine wpSch_nil ?_
  have L2 := Lib.hid HX.out.drew
  go_wp2
  go_ret
  exact ⟨rfl, L2.out⟩

theorem write2_any (x : Option Addr) (lo : Int → Bool) (l : Int × Int) (C : Nat) (w : World) (hc : w.cell? ⟨C, 0, none⟩ = some (.pointer x)) (hs : ∀ w', Below w.heap.size w w' → ∀ dev, Calls Tryd.prog 31 #[.pointer x, .int .i64 dev] w' fun e w'' => e = .returned (.bool (lo dev)) ∧ w' = w'') :
    Calls Tryd.prog 30 #[locV l, .pointer (some ⟨C, 0, none⟩)] w fun e w' => e = .returned (.bool (lo l.1)) ∧ Below w.heap.size w w' := by
  obtain ⟨da, db⟩ := l
  unfold locV
  simp only
  have hx := (Below.refl w.heap.size w).alloc (Nat.le_refl _) (.cells #[.int .i64 da, .int .i64 db] 33 (0, 0))
  have HX := Lib.hid hx
  have BX := Lib.hid (Box.new w 33 #[.int .i64 da, .int .i64 db])
  have HC := Lib.hid ((hx.cell (p := ⟨C, 0, none⟩) (lt_of_cell hc)).trans hc)
  have HS := Lib.hid (hs _ hx da)
  have k0 : (w.alloc (.cells #[.int .i64 da, .int .i64 db] 33 (0, 0))).cell? ⟨w.heap.size, 0, none⟩ = some (.int .i64 da) := BX.out.cell 0 _ rfl
  have kc := HC.out
  clear hx hc hs
  go_enter Tryd.func30, Tryd.ntmps30
  go_wp2_with fail
  refine HS.out.mono ?_
  rintro e w2 ⟨rfl, rfl⟩
  go_wp2
  go_ret
  exact ⟨rfl, HX.out⟩

set_option maxRecDepth 100000 in
set_option maxHeartbeats 1000000 in
theorem index_w1 (a : Option Addr) (cap : Nat) (l : List (Int × Int)) (C : Nat) (R : Int × Int → Bool) (w : World) (h : SlP w a l) (hl : l.length ≤ 1000) (hR : OfB 28 C R w) :
    Calls Tryd.prog 47 #[.slice a l.length cap, .func (.func 28) #[] #[.pointer (some ⟨C, 0, none⟩)]] w fun e w' =>
      e = .returned (.int .i64 (idxP R l)) ∧ Below w.heap.size w w' := by
  have H := Lib.hid h
  have HC := Lib.hid hR
  clear h hR
  go_enter Tryd.func47, Tryd.ntmps47
  go_wp2
  go_loopw [5, 8] (fun _ i wr => ∃ k : Nat, k ≤ l.length ∧ i = .int .i64 k ∧ Hid (∀ x ∈ l.take k, R x = false) ∧ Hid (Below w.heap.size w wr)) (fun _ i _ => l.length - (intOf i).toNat)
  case atStart => exact ⟨0, Nat.zero_le _, rfl, Lib.hid (fun x hx => by simp at hx), Below.refl _ _⟩
  case round =>
    obtain ⟨k, hk, rfl, HN, HL⟩ := hrel
    by_cases hlt : k < l.length
    · obtain ⟨b, off, rfl, hb, hc0, hc1⟩ := (H.out.keep HL.out).get k hlt
      have HS := Lib.hid (fun e => step_no HN.out hlt e)
      have HI := Lib.hid (fun e => idx_at HN.out hlt e)
      generalize l[k] = x at *
      have HCW := Lib.hid (HC.out _ HL.out x)
      unfold locV at HCW
      cases hx : R x
      · have Hx := Lib.hid hx
        go_wp2_with fail
        refine HCW.out.mono ?_
        rintro e w1 ⟨rfl, hb1⟩
        rw [hx]
        have HB := Lib.hid (HL.out.trans (hb1.mono HL.out.size))
        have HY := Lib.hid (HS.out Hx.out)
        clear hx hb1 hc0 hc1 hb
        go_wp2
        go_roundw
        case rel => exact ⟨k + 1, by omega, by go_num, HY, HB⟩
        case measure => simp [intOf]; omega
      · have Hx := Lib.hid hx
        go_wp2_with fail
        refine HCW.out.mono ?_
        rintro e w1 ⟨rfl, hb1⟩
        rw [hx]
        have HB := Lib.hid (HL.out.trans (hb1.mono HL.out.size))
        have HY := Lib.hid (HI.out Hx.out)
        clear hx hb1 hc0 hc1 hb
        go_wp2
        go_ret
        exact ⟨ret_int HY.out.symm, HB.out⟩
    · obtain rfl : k = l.length := by omega
      have HF := Lib.hid (idx_no (P := R) (l := l) (by have := HN.out; rwa [List.take_length] at this))
      go_wp2
      go_ret
      exact ⟨ret_int HF.out.symm, HL.out⟩

theorem contains_w1 (a : Option Addr) (cap : Nat) (l : List (Int × Int)) (C : Nat) (R : Int × Int → Bool) (w : World) (h : SlP w a l) (hl : l.length ≤ 1000) (hR : OfB 28 C R w) :
    Calls Tryd.prog 27 #[.slice a l.length cap, .func (.func 28) #[] #[.pointer (some ⟨C, 0, none⟩)]] w fun e w' =>
      e = .returned (.bool (l.any R)) ∧ Below w.heap.size w w' := by
  have H := Lib.hid h
  have HR := Lib.hid hR
  clear h hR
  go_enter Tryd.func27, Tryd.ntmps27
  go_wp2_with fail
  refine (index_w1 a cap l C R _ H.out hl HR.out).mono ?_
  rintro e w1 ⟨rfl, hb⟩
  have HB := Lib.hid hb
  have HI := Lib.hid (idx_any R l)
  clear hb
  generalize idxP R l = i at *
  go_wp2
  go_ret
  exact ⟨ret_bool HI.out, HB.out⟩

set_option maxRecDepth 100000 in
set_option maxHeartbeats 1000000 in
theorem index_w2 (a : Option Addr) (cap : Nat) (l : List (Int × Int)) (C : Nat) (R : Int × Int → Bool) (w : World) (h : SlP w a l) (hl : l.length ≤ 1000) (hR : OfB 30 C R w) :
    Calls Tryd.prog 47 #[.slice a l.length cap, .func (.func 30) #[] #[.pointer (some ⟨C, 0, none⟩)]] w fun e w' =>
      e = .returned (.int .i64 (idxP R l)) ∧ Below w.heap.size w w' := by
  have H := Lib.hid h
  have HC := Lib.hid hR
  clear h hR
  go_enter Tryd.func47, Tryd.ntmps47
  go_wp2
  go_loopw [5, 8] (fun _ i wr => ∃ k : Nat, k ≤ l.length ∧ i = .int .i64 k ∧ Hid (∀ x ∈ l.take k, R x = false) ∧ Hid (Below w.heap.size w wr)) (fun _ i _ => l.length - (intOf i).toNat)
  case atStart => exact ⟨0, Nat.zero_le _, rfl, Lib.hid (fun x hx => by simp at hx), Below.refl _ _⟩
  case round =>
    obtain ⟨k, hk, rfl, HN, HL⟩ := hrel
    by_cases hlt : k < l.length
    · obtain ⟨b, off, rfl, hb, hc0, hc1⟩ := (H.out.keep HL.out).get k hlt
      have HS := Lib.hid (fun e => step_no HN.out hlt e)
      have HI := Lib.hid (fun e => idx_at HN.out hlt e)
      generalize l[k] = x at *
      have HCW := Lib.hid (HC.out _ HL.out x)
      unfold locV at HCW
      cases hx : R x
      · have Hx := Lib.hid hx
        go_wp2_with fail
        refine HCW.out.mono ?_
        rintro e w1 ⟨rfl, hb1⟩
        rw [hx]
        have HB := Lib.hid (HL.out.trans (hb1.mono HL.out.size))
        have HY := Lib.hid (HS.out Hx.out)
        clear hx hb1 hc0 hc1 hb
        go_wp2
        go_roundw
        case rel => exact ⟨k + 1, by omega, by go_num, HY, HB⟩
        case measure => simp [intOf]; omega
      · have Hx := Lib.hid hx
        go_wp2_with fail
        refine HCW.out.mono ?_
        rintro e w1 ⟨rfl, hb1⟩
        rw [hx]
        have HB := Lib.hid (HL.out.trans (hb1.mono HL.out.size))
        have HY := Lib.hid (HI.out Hx.out)
        clear hx hb1 hc0 hc1 hb
        go_wp2
        go_ret
        exact ⟨ret_int HY.out.symm, HB.out⟩
    · obtain rfl : k = l.length := by omega
      have HF := Lib.hid (idx_no (P := R) (l := l) (by have := HN.out; rwa [List.take_length] at this))
      go_wp2
      go_ret
      exact ⟨ret_int HF.out.symm, HL.out⟩

theorem contains_w2 (a : Option Addr) (cap : Nat) (l : List (Int × Int)) (C : Nat) (R : Int × Int → Bool) (w : World) (h : SlP w a l) (hl : l.length ≤ 1000) (hR : OfB 30 C R w) :
    Calls Tryd.prog 27 #[.slice a l.length cap, .func (.func 30) #[] #[.pointer (some ⟨C, 0, none⟩)]] w fun e w' =>
      e = .returned (.bool (l.any R)) ∧ Below w.heap.size w w' := by
  have H := Lib.hid h
  have HR := Lib.hid hR
  clear h hR
  go_enter Tryd.func27, Tryd.ntmps27
  go_wp2_with fail
  refine (index_w2 a cap l C R _ H.out hl HR.out).mono ?_
  rintro e w1 ⟨rfl, hb⟩
  have HB := Lib.hid hb
  have HI := Lib.hid (idx_any R l)
  clear hb
  generalize idxP R l = i at *
  go_wp2
  go_ret
  exact ⟨ret_bool HI.out, HB.out⟩
end Go.Proofs.YtonkmffipjdhkaaDoor
