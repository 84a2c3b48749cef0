/-
  Texts put together: SpaceHas, StC, PtrKind, PtrCheck, PtrCheck2.
-/
import Derived.Test.YtphhnhldbajaoaaGreatDoorMg11
import Derived.Deep.RegionHeld3
import Derived.Deep.QuietTactic
import Derived.BigQuiet
import Derived.Test.YtphhnhldbajaoaaGreatDoorMg0
import Derived.Lib.Hide
namespace Go.Proofs.YtphhnhldbajaoaaGreatDoor
open Go.RowKit Go.ChangeShapes Go.WideShapes Go.ChangeAt

def longB (n : Int) (x : Int × Int) : Bool := decide (n ≤ x.2)
def sidxP (P : Int × Int → Bool) (l : List (Int × Int)) : Int := match l.findIdx? P with | some i => (i : Int) | none => -1
theorem sidx_at {P : Int × Int → Bool} {l : List (Int × Int)} {k : Nat} (h : ∀ x ∈ l.take k, P x = false) (hk : k < l.length) (hp : P l[k] = true) : sidxP P l = k := by
  unfold sidxP
  have : l.findIdx? P = some k := by
    rw [List.findIdx?_eq_some_iff_getElem]
    refine ⟨hk, hp, fun j hj => ?_⟩
    have := h l[j] (by rw [List.mem_take_iff_getElem]; exact ⟨j, by omega, rfl⟩)
    simp [this]
  rw [this]
theorem sidx_no {P : Int × Int → Bool} {l : List (Int × Int)} (h : ∀ x ∈ l, P x = false) : sidxP P l = -1 := by
  unfold sidxP
  have : l.findIdx? P = none := by rw [List.findIdx?_eq_none_iff]; exact h
  rw [this]
theorem sidx_any (P : Int × Int → Bool) (l : List (Int × Int)) : decide (0 ≤ sidxP P l) = l.any P := by
  unfold sidxP
  cases h : l.findIdx? P with
  | none =>
    rw [List.findIdx?_eq_none_iff] at h
    have : l.any P = false := by rw [List.any_eq_false]; intro x hx; simp [h x hx]
    rw [this]
    decide
  | some i =>
    rw [List.findIdx?_eq_some_iff_getElem] at h
    obtain ⟨hi, hp, _⟩ := h
    have : l.any P = true := List.any_eq_true.2 ⟨l[i], List.getElem_mem hi, hp⟩
    rw [this]
    simp
theorem sstep_no {P : Int × Int → Bool} {l : List (Int × Int)} {k : Nat} (h : ∀ x ∈ l.take k, P x = false) (hk : k < l.length) (hp : P l[k] = false) : ∀ x ∈ l.take (k + 1), P x = false := by
  rw [snoc_take l k hk]
  intro x hx
  rcases List.mem_append.1 hx with hx | hx
  · exact h x hx
  · rw [List.mem_singleton.1 hx]; exact hp

end Go.Proofs.YtphhnhldbajaoaaGreatDoor

namespace Go.Proofs.YtphhnhldbajaoaaGreatDoor
open Go Go.RowKit Go.ChangeShapes Go.WideShapes Go.ChangeAt

/-- What the method value tells. -/
def NowB (s : Nat) (R : Int × Int → Bool) (w : World) : Prop := ∀ W, Below w.heap.size w W → ∀ l : Int × Int, Calls Tryz.prog 58 #[.pointer (some ⟨s, 0, none⟩), locV l] W fun e w' => e = .returned (.bool (R l)) ∧ Below W.heap.size W w'
set_option maxRecDepth 100000 in
set_option maxHeartbeats 2000000 in
theorem sindex_any (a : Option Addr) (cap : Nat) (l : List (Int × Int)) (s : Nat) (R : Int × Int → Bool) (w : World) (h : SlP w a l) (hl : l.length ≤ 1000) (hR : NowB s R w) :
    Calls Tryz.prog 94 #[.slice a l.length cap, .func (.func 58) #[.pointer (some ⟨s, 0, none⟩)] #[]] w fun e w' =>
      e = .returned (.int .i64 (sidxP R l)) ∧ Below w.heap.size w w' := by
  have H := Lib.hid h
  have HC := Lib.hid hR
  clear h hR
  go_enter Tryz.func94, Tryz.ntmps94
  go_wp2
  go_loopw [5, 8] (fun _ i wr => ∃ k : Nat, k ≤ l.length ∧ i = .int .i64 k ∧ Hid (∀ x ∈ l.take k, R x = false) ∧ Hid (Below w.heap.size w wr)) (fun _ i _ => l.length - (intOf i).toNat)
  case atStart => exact ⟨0, Nat.zero_le _, rfl, Lib.hid (fun x hx => by simp at hx), Below.refl _ _⟩
  case round =>
    obtain ⟨k, hk, rfl, HN, HL⟩ := hrel
    by_cases hlt : k < l.length
    · obtain ⟨b, off, rfl, hb, hc0, hc1⟩ := (H.out.keep HL.out).get k hlt
      have HS := Lib.hid (fun e => sstep_no HN.out hlt e)
      have HI := Lib.hid (fun e => sidx_at HN.out hlt e)
      generalize l[k] = x at *
      have HCW := Lib.hid (HC.out _ HL.out x)
      unfold locV at HCW
      cases hx : R x
      · have Hx := Lib.hid hx
        go_wp2_with fail
        refine HCW.out.mono ?_
        rintro e w1 ⟨rfl, hb1⟩
        rw [hx]
        have HB := Lib.hid (HL.out.trans (hb1.mono HL.out.size))
        have HY := Lib.hid (HS.out Hx.out)
        clear hx hb1 hc0 hc1 hb
        go_wp2
        go_roundw
        case rel => exact ⟨k + 1, by omega, by go_num, HY, HB⟩
        case measure => simp [intOf]; omega
      · have Hx := Lib.hid hx
        go_wp2_with fail
        refine HCW.out.mono ?_
        rintro e w1 ⟨rfl, hb1⟩
        rw [hx]
        have HB := Lib.hid (HL.out.trans (hb1.mono HL.out.size))
        have HY := Lib.hid (HI.out Hx.out)
        clear hx hb1 hc0 hc1 hb
        go_wp2
        go_ret
        exact ⟨ret_int HY.out.symm, HB.out⟩
    · obtain rfl : k = l.length := by omega
      have HF := Lib.hid (sidx_no (P := R) (l := l) (by have := HN.out; rwa [List.take_length] at this))
      go_wp2
      go_ret
      exact ⟨ret_int HF.out.symm, HL.out⟩
set_option maxRecDepth 100000 in
set_option maxHeartbeats 2000000 in
theorem scontains_any (a : Option Addr) (cap : Nat) (l : List (Int × Int)) (s : Nat) (R : Int × Int → Bool) (w : World) (h : SlP w a l) (hl : l.length ≤ 1000) (hR : NowB s R w) :
    Calls Tryz.prog 57 #[.slice a l.length cap, .func (.func 58) #[.pointer (some ⟨s, 0, none⟩)] #[]] w fun e w' =>
      e = .returned (.bool (l.any R)) ∧ Below w.heap.size w w' := by
  have H := Lib.hid h
  have HR := Lib.hid hR
  clear h hR
  go_enter Tryz.func57, Tryz.ntmps57
  go_wp2_with fail
  refine (sindex_any a cap l s R _ H.out hl HR.out).mono ?_
  rintro e w1 ⟨rfl, hb⟩
  have HB := Lib.hid hb
  have HI := Lib.hid (sidx_any R l)
  clear hb
  generalize sidxP R l = i at *
  go_wp2
  go_ret
  exact ⟨ret_bool HI.out, HB.out⟩
theorem now_of {B : Nat} {P : List Nat → World → Prop} {s : Nat} {x : StoV} {d : DevD} {w : World} (hP : Fixed P) (h : StoB w s x) (ho : One B P x.db d w) : NowB s (nowhS d) w := fun _ hW l => snowh_any hP (h.keep hW h.lt) (ho.keep hP hW) l
end Go.Proofs.YtphhnhldbajaoaaGreatDoor

namespace Go.Proofs.YtphhnhldbajaoaaGreatDoor
open Go.RowKit

structure PtrD where
  locs : List (Int × Int)
  len : Int
  birth : Int
  sum : ByteArray

def ptrV (a : Option Addr) (cap : Nat) (p : PtrD) : Value := .agg #[.slice a p.locs.length cap, .int .i64 p.len, .int .i64 p.birth, .string p.sum]

def nowhereP (x : Int × Int) : Prop := (x.1 ≠ 0 ∧ x.1 ≠ 1) ∨ ¬ (0 ≤ x.2 ∧ x.2 ≤ 511)
instance (x : Int × Int) : Decidable (nowhereP x) := inferInstanceAs (Decidable (_ ∨ _))
def twins (l : List (Int × Int)) : Prop := l.length = 2 ∧ (l.getD 0 (0, 0)).1 = (l.getD 1 (0, 0)).1
instance (l : List (Int × Int)) : Decidable (twins l) := inferInstanceAs (Decidable (_ ∧ _))
def restBad (p : PtrD) : Prop := ¬ (0 ≤ p.len ∧ p.len ≤ 960) ∨ ¬ (0 ≤ p.birth ∧ p.birth ≤ 1099511627776) ∨ p.sum.size ≠ 32
instance (p : PtrD) : Decidable (restBad p) := inferInstanceAs (Decidable (_ ∨ _ ∨ _))
def badP (p : PtrD) : Prop := ¬ (1 ≤ p.locs.length ∧ p.locs.length ≤ 2) ∨ (∃ x ∈ p.locs, nowhereP x) ∨ twins p.locs ∨ restBad p
instance (p : PtrD) : Decidable (badP p) := inferInstanceAs (Decidable (_ ∨ _ ∨ _ ∨ _))
/-- Check's answer. -/
def chkP (p : PtrD) : Int := if badP p then 1 else 0
end Go.Proofs.YtphhnhldbajaoaaGreatDoor

namespace Go.Proofs.YtphhnhldbajaoaaGreatDoor
open Go.RowKit

theorem within_any (n most : Int) (w : World) : Calls Tryz.prog 113 #[.int .i64 n, .int .i64 most] w fun e w' => e = .returned (.bool (decide (0 ≤ n ∧ n ≤ most))) ∧ w = w' := by
  by_cases h : 0 ≤ n
  · have e : decide (0 ≤ n ∧ n ≤ most) = decide (n ≤ most) := by simp [h]
    rw [e]
    clear e
    go_enter Tryz.func113, Tryz.ntmps113
    go_wp2
    go_ret
    exact ⟨rfl, rfl⟩
  · have e : decide (0 ≤ n ∧ n ≤ most) = false := by simp; omega
    rw [e]
    clear e
    go_enter Tryz.func113, Tryz.ntmps113
    go_wp2
    go_ret
    exact ⟨rfl, rfl⟩

theorem some_any (n : Int) (w : World) : Calls Tryz.prog 80 #[.int .i64 n] w fun e w' => e = .returned (.bool (decide (1 ≤ n ∧ n ≤ 2))) ∧ w = w' := by
  by_cases h : 1 ≤ n
  · have e : decide (1 ≤ n ∧ n ≤ 2) = decide (n ≤ 2) := by simp [h]
    rw [e]
    clear e
    go_enter Tryz.func80, Tryz.ntmps80
    go_wp2
    go_ret
    exact ⟨rfl, rfl⟩
  · have e : decide (1 ≤ n ∧ n ≤ 2) = false := by simp; omega
    rw [e]
    clear e
    go_enter Tryz.func80, Tryz.ntmps80
    go_wp2
    go_ret
    exact ⟨rfl, rfl⟩

theorem nowhere_any (x : Int × Int) (w : World) : Calls Tryz.prog 112 #[.agg #[.int .i64 x.1, .int .i64 x.2]] w fun e w' => e = .returned (.bool (decide (nowhereP x))) ∧ Below w.heap.size w w' := by
  obtain ⟨d, at'⟩ := x
  by_cases h : d ≠ 0 ∧ d ≠ 1
  · have e : decide (nowhereP (d, at')) = true := by unfold nowhereP; simp [h]
    obtain ⟨h0, h1⟩ := h
    have h0' : (d != 0) = true := by simp [h0]
    have h1' : (d != 1) = true := by simp [h1]
    rw [e]
    clear e h0 h1
    go_enter Tryz.func112, Tryz.ntmps112
    go_wp2
    go_ret
    exact ⟨rfl, (Below.refl _ _).alloc (Nat.le_refl _) _⟩
  · have e : decide (nowhereP (d, at')) = !decide (0 ≤ at' ∧ at' ≤ 511) := by unfold nowhereP; simp only [h, false_or, decide_not]
    rw [e]
    clear e
    have hd : d = 0 ∨ d = 1 := by omega
    clear h
    rcases hd with rfl | rfl
    all_goals
      go_enter Tryz.func112, Tryz.ntmps112
      go_wp2_with fail
      refine (within_any at' 511 _).mono ?_
      rintro e w' ⟨rfl, rfl⟩
      go_wp2
      go_ret
      exact ⟨ret_bool (by rw [Bool.decide_and, Bool.not_and]), (Below.refl _ _).alloc (Nat.le_refl _) _⟩

theorem index_nowhere (a : Option Addr) (cap : Nat) (l : List (Int × Int)) (w : World) (h : SlP w a l) (hl : l.length ≤ 1000) :
    Calls Tryz.prog 94 #[.slice a l.length cap, .func (.func 112) #[] #[]] w fun e w' =>
      ∃ r : Int, e = .returned (.int .i64 r) ∧ (0 ≤ r ↔ ∃ x ∈ l, nowhereP x) ∧ Below w.heap.size w w' := by
  have H := Lib.hid h
  clear h
  go_enter Tryz.func94, Tryz.ntmps94
  go_wp2
  go_loopw [5, 8] (fun _ i wr => ∃ k : Nat, k ≤ l.length ∧ i = .int .i64 k ∧ Hid (∀ x ∈ l.take k, ¬ nowhereP x) ∧ Hid (Below w.heap.size w wr)) (fun _ i _ => l.length - (intOf i).toNat)
  case atStart => exact ⟨0, Nat.zero_le _, rfl, Lib.hid (fun x hx => by simp at hx), Below.refl _ _⟩
  case round =>
    obtain ⟨k, hk, rfl, HN, HL⟩ := hrel
    by_cases hlt : k < l.length
    · obtain ⟨b, off, rfl, hb, hc0, hc1⟩ := (H.out.keep HL.out).get k hlt
      have HT := Lib.hid (List.take_succ_eq_append_getElem hlt)
      have HM := Lib.hid (List.getElem_mem hlt)
      generalize l[k] = x at *
      by_cases hx : nowhereP x
      · have Hx := Lib.hid hx
        have hd : decide (nowhereP x) = true := decide_eq_true hx
        go_wp2_with fail
        refine (nowhere_any x _).mono ?_
        rintro e w1 ⟨rfl, hb1⟩
        rw [hd]
        have HB := Lib.hid (HL.out.trans (hb1.mono HL.out.size))
        clear hx hb1 hc0 hc1 hd
        go_wp2
        go_ret
        exact ⟨k, rfl, ⟨fun _ => ⟨x, HM.out, Hx.out⟩, fun _ => by omega⟩, HB.out⟩
      · have Hx := Lib.hid hx
        have hd : decide (nowhereP x) = false := decide_eq_false hx
        go_wp2_with fail
        refine (nowhere_any x _).mono ?_
        rintro e w1 ⟨rfl, hb1⟩
        rw [hd]
        have HB := Lib.hid (HL.out.trans (hb1.mono HL.out.size))
        clear hx hb1 hc0 hc1 hd
        go_wp2
        go_roundw
        case rel => exact ⟨k + 1, by omega, by go_num, by show ∀ y ∈ _, _; rw [HT.out]; intro y hy; rcases List.mem_append.1 hy with hy | hy; exact HN.out y hy; rw [List.mem_singleton.1 hy]; exact Hx.out, HB⟩
        case measure => simp [intOf]; omega
    · have hkl : k = l.length := by omega
      subst hkl
      rw [List.take_length] at HN
      go_wp2
      go_ret
      exact ⟨-1, rfl, ⟨fun h => absurd h (by decide), fun ⟨x, hx, hn⟩ => absurd hn (HN.out x hx)⟩, HL.out⟩

theorem contains_nowhere (a : Option Addr) (cap : Nat) (l : List (Int × Int)) (w : World) (h : SlP w a l) (hl : l.length ≤ 1000) :
    Calls Tryz.prog 57 #[.slice a l.length cap, .func (.func 112) #[] #[]] w fun e w' =>
      e = .returned (.bool (decide (∃ x ∈ l, nowhereP x))) ∧ Below w.heap.size w w' := by
  have H := Lib.hid h
  clear h
  go_enter Tryz.func57, Tryz.ntmps57
  go_wp2_with fail
  refine (index_nowhere a cap l _ H.out hl).mono ?_
  rintro e w1 ⟨r, rfl, hr, hb⟩
  have HR := Lib.hid hr
  have HB := Lib.hid hb
  clear hr hb
  go_wp2
  go_ret
  exact ⟨ret_bool (decide_eq_decide.2 HR.out), HB.out⟩
end Go.Proofs.YtphhnhldbajaoaaGreatDoor

namespace Go.Proofs.YtphhnhldbajaoaaGreatDoor
open Go.RowKit

set_option maxHeartbeats 1000000 in
theorem check_any (a : Option Addr) (cap : Nat) (p : PtrD) (w : World) (h : SlP w a p.locs) (hl : p.locs.length ≤ 1000) :
    Calls Tryz.prog 83 #[ptrV a cap p] w fun e w' => e = .returned (.int .i64 (chkP p)) ∧ Below w.heap.size w w' := by
  have H := Lib.hid h
  clear h
  obtain ⟨l, n, m, s⟩ := p
  simp only at H hl
  unfold ptrV
  simp only
  by_cases c1 : 1 ≤ l.length ∧ l.length ≤ 2
  · have e1 : decide ((1 : Int) ≤ (l.length : Int) ∧ (l.length : Int) ≤ 2) = true := decide_eq_true (by omega)
    have E1 := Lib.hid e1
    have C1 := Lib.hid c1
    clear e1
    by_cases c2 : ∃ x ∈ l, nowhereP x
    · have e2 : decide (∃ x ∈ l, nowhereP x) = true := decide_eq_true c2
      have E2 := Lib.hid e2
      have ec : chkP ⟨l, n, m, s⟩ = 1 := if_pos (Or.inr (Or.inl c2))
      rw [ec]
      clear ec c2 e2 c1
      go_enter Tryz.func83, Tryz.ntmps83
      go_wp2_with fail
      refine (some_any _ _).mono ?_
      rintro e w' ⟨rfl, rfl⟩
      rw [E1.out]
      go_wp2_with fail
      refine (contains_nowhere a cap l _ (H.out.keep ((Below.refl _ _).alloc (Nat.le_refl _) _)) hl).mono ?_
      rintro e w1 ⟨rfl, hb⟩
      rw [E2.out]
      have HB := Lib.hid (((Below.refl w.heap.size w).alloc (Nat.le_refl _) _).trans (hb.mono (by rw [size_alloc]; omega)))
      clear hb
      go_wp2
      go_ret
      exact ⟨rfl, HB.out⟩
    · have e2 : decide (∃ x ∈ l, nowhereP x) = false := decide_eq_false c2
      have E2 := Lib.hid e2
      by_cases c3 : twins l
      · have ec : chkP ⟨l, n, m, s⟩ = 1 := if_pos (Or.inr (Or.inr (Or.inl c3)))
        rw [ec]
        clear ec c2 e2 c1
        obtain ⟨x, y, rfl⟩ : ∃ x y, l = [x, y] := by
          match l, c3.1 with
          | [x, y], _ => exact ⟨x, y, rfl⟩
        have hxy : x.1 = y.1 := c3.2
        obtain ⟨x1, x2⟩ := x
        obtain ⟨y1, y2⟩ := y
        simp only at hxy
        subst hxy
        clear c3
        go_enter Tryz.func83, Tryz.ntmps83
        go_wp2_with fail
        refine (some_any _ _).mono ?_
        rintro e w' ⟨rfl, rfl⟩
        rw [show decide ((1 : Int) ≤ 2 ∧ (2 : Int) ≤ 2) = true from rfl]
        go_wp2_with fail
        refine (contains_nowhere a cap _ _ (H.out.keep ((Below.refl _ _).alloc (Nat.le_refl _) _)) hl).mono ?_
        rintro e w1 ⟨rfl, hb⟩
        rw [E2.out]
        have HB := Lib.hid (((Below.refl w.heap.size w).alloc (Nat.le_refl _) _).trans (hb.mono (by rw [size_alloc]; omega)))
        obtain ⟨b, off, rfl, hlt, hc⟩ := (H.out.keep HB.out) (by simp)
        have g0 := boxed hb (by rw [size_alloc]; omega) 0 _ rfl
        have k0 := (hc 0 _ rfl).1
        have k1 := (hc 1 _ rfl).1
        simp only [Nat.zero_mul, Nat.one_mul, Nat.add_zero] at k0 k1
        clear hb hc hlt
        go_wp2
        go_region
        go_wp2
        go_ret
        exact ⟨rfl, HB.out.drew⟩
      · have hshape : (∃ x, l = [x]) ∨ ∃ x y, l = [x, y] ∧ x.1 ≠ y.1 := by
          match l, c1, c3 with
          | [x], _, _ => exact Or.inl ⟨x, rfl⟩
          | [x, y], _, c3 => exact Or.inr ⟨x, y, rfl, fun h => c3 ⟨rfl, h⟩⟩
          | _ :: _ :: _ :: _, c1, _ => simp at c1
        have CC : Hid (chkP ⟨l, n, m, s⟩ = if restBad ⟨l, n, m, s⟩ then 1 else 0) := by
          show _ = _
          unfold chkP
          by_cases hr : restBad ⟨l, n, m, s⟩
          · rw [if_pos hr, if_pos (show badP ⟨l, n, m, s⟩ from Or.inr (Or.inr (Or.inr hr)))]
          · rw [if_neg hr, if_neg]
            show ¬ (_ ∨ _ ∨ _ ∨ _)
            rintro (h | h | h | h)
            · exact h c1
            · exact c2 h
            · exact c3 h
            · exact hr h
        rw [CC.out]
        clear CC c2 e2 c1 c3
        by_cases c4 : 0 ≤ n ∧ n ≤ 960
        · have F1 : Hid (decide (0 ≤ n ∧ n ≤ 960) = true) := decide_eq_true c4
          by_cases c5 : 0 ≤ m ∧ m ≤ 1099511627776
          · have F2 : Hid (decide (0 ≤ m ∧ m ≤ 1099511627776) = true) := decide_eq_true c5
            by_cases c6 : s.size = 32
            · rw [if_neg (show ¬ restBad ⟨l, n, m, s⟩ from fun h => h.elim (fun h => h c4) (fun h => h.elim (fun h => h c5) (fun h => h c6)))]
              have q : ((s.size : Int) != 32) = false := by simp [c6]
              clear c4 c5
              rcases hshape with ⟨x, rfl⟩ | ⟨⟨x1, x2⟩, ⟨y1, y2⟩, rfl, hne⟩
              · go_enter Tryz.func83, Tryz.ntmps83
                go_wp2_with fail
                refine (some_any _ _).mono ?_
                rintro e w' ⟨rfl, rfl⟩
                rw [show decide ((1 : Int) ≤ 1 ∧ (1 : Int) ≤ 2) = true from rfl]
                go_wp2_with fail
                refine (contains_nowhere a cap _ _ (H.out.keep ((Below.refl _ _).alloc (Nat.le_refl _) _)) hl).mono ?_
                rintro e w1 ⟨rfl, hb⟩
                rw [E2.out]
                have HB := Lib.hid (((Below.refl w.heap.size w).alloc (Nat.le_refl _) _).trans (hb.mono (by rw [size_alloc]; omega)))
                have g0 := boxed hb (by rw [size_alloc]; omega) 0 _ rfl
                have g1 := boxed hb (by rw [size_alloc]; omega) 1 _ rfl
                have g2 := boxed hb (by rw [size_alloc]; omega) 2 _ rfl
                have g3 := boxed hb (by rw [size_alloc]; omega) 3 _ rfl
                clear hb
                go_wp2_with fail
                go_region
                go_wp2_with fail
                refine (within_any _ _ _).mono ?_
                rintro e w' ⟨rfl, rfl⟩
                rw [F1.out]
                go_wp2_with fail
                refine (within_any _ _ _).mono ?_
                rintro e w' ⟨rfl, rfl⟩
                rw [F2.out]
                go_wp2
                go_ret
                exact ⟨rfl, HB.out.drew⟩
              · have hq : (x1 == y1) = false := by simpa using hne
                clear hne
                go_enter Tryz.func83, Tryz.ntmps83
                go_wp2_with fail
                refine (some_any _ _).mono ?_
                rintro e w' ⟨rfl, rfl⟩
                rw [show decide ((1 : Int) ≤ 2 ∧ (2 : Int) ≤ 2) = true from rfl]
                go_wp2_with fail
                refine (contains_nowhere a cap _ _ (H.out.keep ((Below.refl _ _).alloc (Nat.le_refl _) _)) hl).mono ?_
                rintro e w1 ⟨rfl, hb⟩
                rw [E2.out]
                have HB := Lib.hid (((Below.refl w.heap.size w).alloc (Nat.le_refl _) _).trans (hb.mono (by rw [size_alloc]; omega)))
                have g0 := boxed hb (by rw [size_alloc]; omega) 0 _ rfl
                have g1 := boxed hb (by rw [size_alloc]; omega) 1 _ rfl
                have g2 := boxed hb (by rw [size_alloc]; omega) 2 _ rfl
                have g3 := boxed hb (by rw [size_alloc]; omega) 3 _ rfl
                obtain ⟨b, off, rfl, hlt, hc⟩ := (H.out.keep HB.out) (by simp)
                have k0 := (hc 0 _ rfl).1
                have k1 := (hc 1 _ rfl).1
                simp only [Nat.zero_mul, Nat.one_mul, Nat.add_zero] at k0 k1
                clear hb hc hlt
                go_wp2_with fail
                go_region
                go_wp2_with fail
                refine (within_any _ _ _).mono ?_
                rintro e w' ⟨rfl, rfl⟩
                rw [F1.out]
                go_wp2_with fail
                refine (within_any _ _ _).mono ?_
                rintro e w' ⟨rfl, rfl⟩
                rw [F2.out]
                go_wp2
                go_ret
                exact ⟨rfl, HB.out.drew⟩
            · rw [if_pos (show restBad ⟨l, n, m, s⟩ from Or.inr (Or.inr c6))]
              have q : ((s.size : Int) != 32) = true := by simp; omega
              clear c4 c5
              rcases hshape with ⟨x, rfl⟩ | ⟨⟨x1, x2⟩, ⟨y1, y2⟩, rfl, hne⟩
              · go_enter Tryz.func83, Tryz.ntmps83
                go_wp2_with fail
                refine (some_any _ _).mono ?_
                rintro e w' ⟨rfl, rfl⟩
                rw [show decide ((1 : Int) ≤ 1 ∧ (1 : Int) ≤ 2) = true from rfl]
                go_wp2_with fail
                refine (contains_nowhere a cap _ _ (H.out.keep ((Below.refl _ _).alloc (Nat.le_refl _) _)) hl).mono ?_
                rintro e w1 ⟨rfl, hb⟩
                rw [E2.out]
                have HB := Lib.hid (((Below.refl w.heap.size w).alloc (Nat.le_refl _) _).trans (hb.mono (by rw [size_alloc]; omega)))
                have g0 := boxed hb (by rw [size_alloc]; omega) 0 _ rfl
                have g1 := boxed hb (by rw [size_alloc]; omega) 1 _ rfl
                have g2 := boxed hb (by rw [size_alloc]; omega) 2 _ rfl
                have g3 := boxed hb (by rw [size_alloc]; omega) 3 _ rfl
                clear hb
                go_wp2_with fail
                go_region
                go_wp2_with fail
                refine (within_any _ _ _).mono ?_
                rintro e w' ⟨rfl, rfl⟩
                rw [F1.out]
                go_wp2_with fail
                refine (within_any _ _ _).mono ?_
                rintro e w' ⟨rfl, rfl⟩
                rw [F2.out]
                go_wp2
                go_ret
                exact ⟨rfl, HB.out.drew⟩
              · have hq : (x1 == y1) = false := by simpa using hne
                clear hne
                go_enter Tryz.func83, Tryz.ntmps83
                go_wp2_with fail
                refine (some_any _ _).mono ?_
                rintro e w' ⟨rfl, rfl⟩
                rw [show decide ((1 : Int) ≤ 2 ∧ (2 : Int) ≤ 2) = true from rfl]
                go_wp2_with fail
                refine (contains_nowhere a cap _ _ (H.out.keep ((Below.refl _ _).alloc (Nat.le_refl _) _)) hl).mono ?_
                rintro e w1 ⟨rfl, hb⟩
                rw [E2.out]
                have HB := Lib.hid (((Below.refl w.heap.size w).alloc (Nat.le_refl _) _).trans (hb.mono (by rw [size_alloc]; omega)))
                have g0 := boxed hb (by rw [size_alloc]; omega) 0 _ rfl
                have g1 := boxed hb (by rw [size_alloc]; omega) 1 _ rfl
                have g2 := boxed hb (by rw [size_alloc]; omega) 2 _ rfl
                have g3 := boxed hb (by rw [size_alloc]; omega) 3 _ rfl
                obtain ⟨b, off, rfl, hlt, hc⟩ := (H.out.keep HB.out) (by simp)
                have k0 := (hc 0 _ rfl).1
                have k1 := (hc 1 _ rfl).1
                simp only [Nat.zero_mul, Nat.one_mul, Nat.add_zero] at k0 k1
                clear hb hc hlt
                go_wp2_with fail
                go_region
                go_wp2_with fail
                refine (within_any _ _ _).mono ?_
                rintro e w' ⟨rfl, rfl⟩
                rw [F1.out]
                go_wp2_with fail
                refine (within_any _ _ _).mono ?_
                rintro e w' ⟨rfl, rfl⟩
                rw [F2.out]
                go_wp2
                go_ret
                exact ⟨rfl, HB.out.drew⟩
          · have F2 : Hid (decide (0 ≤ m ∧ m ≤ 1099511627776) = false) := decide_eq_false c5
            rw [if_pos (show restBad ⟨l, n, m, s⟩ from Or.inr (Or.inl c5))]
            clear c4 c5
            rcases hshape with ⟨x, rfl⟩ | ⟨⟨x1, x2⟩, ⟨y1, y2⟩, rfl, hne⟩
            · go_enter Tryz.func83, Tryz.ntmps83
              go_wp2_with fail
              refine (some_any _ _).mono ?_
              rintro e w' ⟨rfl, rfl⟩
              rw [show decide ((1 : Int) ≤ 1 ∧ (1 : Int) ≤ 2) = true from rfl]
              go_wp2_with fail
              refine (contains_nowhere a cap _ _ (H.out.keep ((Below.refl _ _).alloc (Nat.le_refl _) _)) hl).mono ?_
              rintro e w1 ⟨rfl, hb⟩
              rw [E2.out]
              have HB := Lib.hid (((Below.refl w.heap.size w).alloc (Nat.le_refl _) _).trans (hb.mono (by rw [size_alloc]; omega)))
              have g0 := boxed hb (by rw [size_alloc]; omega) 0 _ rfl
              have g1 := boxed hb (by rw [size_alloc]; omega) 1 _ rfl
              have g2 := boxed hb (by rw [size_alloc]; omega) 2 _ rfl
              have g3 := boxed hb (by rw [size_alloc]; omega) 3 _ rfl
              clear hb
              go_wp2_with fail
              go_region
              go_wp2_with fail
              refine (within_any _ _ _).mono ?_
              rintro e w' ⟨rfl, rfl⟩
              rw [F1.out]
              go_wp2_with fail
              refine (within_any _ _ _).mono ?_
              rintro e w' ⟨rfl, rfl⟩
              rw [F2.out]
              go_wp2
              go_ret
              exact ⟨rfl, HB.out.drew⟩
            · have hq : (x1 == y1) = false := by simpa using hne
              clear hne
              go_enter Tryz.func83, Tryz.ntmps83
              go_wp2_with fail
              refine (some_any _ _).mono ?_
              rintro e w' ⟨rfl, rfl⟩
              rw [show decide ((1 : Int) ≤ 2 ∧ (2 : Int) ≤ 2) = true from rfl]
              go_wp2_with fail
              refine (contains_nowhere a cap _ _ (H.out.keep ((Below.refl _ _).alloc (Nat.le_refl _) _)) hl).mono ?_
              rintro e w1 ⟨rfl, hb⟩
              rw [E2.out]
              have HB := Lib.hid (((Below.refl w.heap.size w).alloc (Nat.le_refl _) _).trans (hb.mono (by rw [size_alloc]; omega)))
              have g0 := boxed hb (by rw [size_alloc]; omega) 0 _ rfl
              have g1 := boxed hb (by rw [size_alloc]; omega) 1 _ rfl
              have g2 := boxed hb (by rw [size_alloc]; omega) 2 _ rfl
              have g3 := boxed hb (by rw [size_alloc]; omega) 3 _ rfl
              obtain ⟨b, off, rfl, hlt, hc⟩ := (H.out.keep HB.out) (by simp)
              have k0 := (hc 0 _ rfl).1
              have k1 := (hc 1 _ rfl).1
              simp only [Nat.zero_mul, Nat.one_mul, Nat.add_zero] at k0 k1
              clear hb hc hlt
              go_wp2_with fail
              go_region
              go_wp2_with fail
              refine (within_any _ _ _).mono ?_
              rintro e w' ⟨rfl, rfl⟩
              rw [F1.out]
              go_wp2_with fail
              refine (within_any _ _ _).mono ?_
              rintro e w' ⟨rfl, rfl⟩
              rw [F2.out]
              go_wp2
              go_ret
              exact ⟨rfl, HB.out.drew⟩
        · have F1 : Hid (decide (0 ≤ n ∧ n ≤ 960) = false) := decide_eq_false c4
          rw [if_pos (show restBad ⟨l, n, m, s⟩ from Or.inl c4)]
          clear c4
          rcases hshape with ⟨x, rfl⟩ | ⟨⟨x1, x2⟩, ⟨y1, y2⟩, rfl, hne⟩
          · go_enter Tryz.func83, Tryz.ntmps83
            go_wp2_with fail
            refine (some_any _ _).mono ?_
            rintro e w' ⟨rfl, rfl⟩
            rw [show decide ((1 : Int) ≤ 1 ∧ (1 : Int) ≤ 2) = true from rfl]
            go_wp2_with fail
            refine (contains_nowhere a cap _ _ (H.out.keep ((Below.refl _ _).alloc (Nat.le_refl _) _)) hl).mono ?_
            rintro e w1 ⟨rfl, hb⟩
            rw [E2.out]
            have HB := Lib.hid (((Below.refl w.heap.size w).alloc (Nat.le_refl _) _).trans (hb.mono (by rw [size_alloc]; omega)))
            have g0 := boxed hb (by rw [size_alloc]; omega) 0 _ rfl
            have g1 := boxed hb (by rw [size_alloc]; omega) 1 _ rfl
            have g2 := boxed hb (by rw [size_alloc]; omega) 2 _ rfl
            have g3 := boxed hb (by rw [size_alloc]; omega) 3 _ rfl
            clear hb
            go_wp2_with fail
            go_region
            go_wp2_with fail
            refine (within_any _ _ _).mono ?_
            rintro e w' ⟨rfl, rfl⟩
            rw [F1.out]
            go_wp2
            go_ret
            exact ⟨rfl, HB.out.drew⟩
          · have hq : (x1 == y1) = false := by simpa using hne
            clear hne
            go_enter Tryz.func83, Tryz.ntmps83
            go_wp2_with fail
            refine (some_any _ _).mono ?_
            rintro e w' ⟨rfl, rfl⟩
            rw [show decide ((1 : Int) ≤ 2 ∧ (2 : Int) ≤ 2) = true from rfl]
            go_wp2_with fail
            refine (contains_nowhere a cap _ _ (H.out.keep ((Below.refl _ _).alloc (Nat.le_refl _) _)) hl).mono ?_
            rintro e w1 ⟨rfl, hb⟩
            rw [E2.out]
            have HB := Lib.hid (((Below.refl w.heap.size w).alloc (Nat.le_refl _) _).trans (hb.mono (by rw [size_alloc]; omega)))
            have g0 := boxed hb (by rw [size_alloc]; omega) 0 _ rfl
            have g1 := boxed hb (by rw [size_alloc]; omega) 1 _ rfl
            have g2 := boxed hb (by rw [size_alloc]; omega) 2 _ rfl
            have g3 := boxed hb (by rw [size_alloc]; omega) 3 _ rfl
            obtain ⟨b, off, rfl, hlt, hc⟩ := (H.out.keep HB.out) (by simp)
            have k0 := (hc 0 _ rfl).1
            have k1 := (hc 1 _ rfl).1
            simp only [Nat.zero_mul, Nat.one_mul, Nat.add_zero] at k0 k1
            clear hb hc hlt
            go_wp2_with fail
            go_region
            go_wp2_with fail
            refine (within_any _ _ _).mono ?_
            rintro e w' ⟨rfl, rfl⟩
            rw [F1.out]
            go_wp2
            go_ret
            exact ⟨rfl, HB.out.drew⟩
  · have e1 : decide ((1 : Int) ≤ (l.length : Int) ∧ (l.length : Int) ≤ 2) = false := decide_eq_false (by omega)
    have E1 := Lib.hid e1
    have ec : chkP ⟨l, n, m, s⟩ = 1 := if_pos (Or.inl c1)
    rw [ec]
    clear ec c1 e1
    go_enter Tryz.func83, Tryz.ntmps83
    go_wp2_with fail
    refine (some_any _ _).mono ?_
    rintro e w' ⟨rfl, rfl⟩
    rw [E1.out]
    go_wp2
    go_ret
    exact ⟨rfl, (Below.refl _ _).alloc (Nat.le_refl _) _⟩
end Go.Proofs.YtphhnhldbajaoaaGreatDoor
