/-
  The contracts of ptr.On and ptr.Same.
-/
import Derived.Test.YtbdnkmkagglmhaaPtrPlain
import Derived.Test.YtbdnkmkagglmhaaPtrCheck2
namespace Go.Proofs.Ytbdnkmkagglmhaa
open Go.RowKit

theorem on1_any (x : Int × Int) (g : Nat) (dev : Int) (w : World) (hg : w.cell? ⟨g, 0, none⟩ = some (.int .i64 dev)) (hg2 : g < w.heap.size) :
    Calls Try.prog 66 #[.agg #[.int .i64 x.1, .int .i64 x.2], .pointer (some ⟨g, 0, none⟩)] w fun e w' => e = .returned (.bool (x.1 == dev)) ∧ Below w.heap.size w w' := by
  obtain ⟨d, at'⟩ := x
  go_enter Try.func66, Try.ntmps66
  go_wp2
  go_ret
  exact ⟨rfl, (Below.refl _ _).alloc (Nat.le_refl _) _⟩

def onP (l : List (Int × Int)) (dev : Int) : Bool := l.any fun x => x.1 == dev

theorem index_on (g : Nat) (dev : Int) (a : Option Addr) (cap : Nat) (l : List (Int × Int)) (w : World) (h : SlP w a l) (hl : l.length ≤ 1000) (hg : w.cell? ⟨g, 0, none⟩ = some (.int .i64 dev)) (hg2 : g < w.heap.size) :
    Calls Try.prog 80 #[.slice a l.length cap, .func (.func 66) #[] #[.pointer (some ⟨g, 0, none⟩)]] w fun e w' =>
      ∃ r : Int, e = .returned (.int .i64 r) ∧ (0 ≤ r ↔ onP l dev = true) ∧ Below w.heap.size w w' := by
  have H := Lib.hid h
  have HG := Lib.hid hg
  have HG2 := Lib.hid hg2
  clear h hg hg2
  go_enter Try.func80, Try.ntmps80
  go_wp2
  go_loopw [5, 8] (fun _ i wr => ∃ k : Nat, k ≤ l.length ∧ i = .int .i64 k ∧ Hid (∀ x ∈ l.take k, (x.1 == dev) = false) ∧ Hid (Below w.heap.size w wr)) (fun _ i _ => l.length - (intOf i).toNat)
  case atStart => exact ⟨0, Nat.zero_le _, rfl, Lib.hid (fun x hx => by simp at hx), Below.refl _ _⟩
  case round =>
    obtain ⟨k, hk, rfl, HN, HL⟩ := hrel
    by_cases hlt : k < l.length
    · obtain ⟨b, off, rfl, hb, hc0, hc1⟩ := (H.out.keep HL.out).get k hlt
      have HT := Lib.hid (List.take_succ_eq_append_getElem hlt)
      have HM := Lib.hid (List.getElem_mem hlt)
      have HK : Hid (wr.cell? ⟨g, 0, none⟩ = some (.int .i64 dev)) := by show _ = _; rw [HL.out.cell HG2.out]; exact HG.out
      have hsz := HL.out.size
      have HK2 : Hid (g < wr.heap.size) := Nat.lt_of_lt_of_le HG2.out hsz
      generalize l[k] = x at *
      by_cases hx : (x.1 == dev) = true
      · have Hx := Lib.hid hx
        go_wp2_with fail
        refine (on1_any x g dev _ HK.out HK2.out).mono ?_
        rintro e w1 ⟨rfl, hb1⟩
        rw [Hx.out]
        have HB := Lib.hid (HL.out.trans (hb1.mono HL.out.size))
        clear hx hb1 hc0 hc1
        go_wp2
        go_ret
        exact ⟨k, rfl, ⟨fun _ => List.any_eq_true.2 ⟨x, HM.out, Hx.out⟩, fun _ => by omega⟩, HB.out⟩
      · have hx' : (x.1 == dev) = false := by simpa using hx
        have Hx := Lib.hid hx'
        clear hx hx'
        go_wp2_with fail
        refine (on1_any x g dev _ HK.out HK2.out).mono ?_
        rintro e w1 ⟨rfl, hb1⟩
        rw [Hx.out]
        have HB := Lib.hid (HL.out.trans (hb1.mono HL.out.size))
        clear hb1 hc0 hc1
        go_wp2
        go_roundw
        case rel => exact ⟨k + 1, by omega, by go_num, by show ∀ y ∈ _, _; rw [HT.out]; intro y hy; rcases List.mem_append.1 hy with hy | hy; exact HN.out y hy; rw [List.mem_singleton.1 hy]; exact Hx.out, HB⟩
        case measure => simp [intOf]; omega
    · have hkl : k = l.length := by omega
      subst hkl
      rw [List.take_length] at HN
      go_wp2
      go_ret
      refine ⟨-1, rfl, ⟨fun h => absurd h (by decide), fun h => ?_⟩, HL.out⟩
      obtain ⟨x, hx, hn⟩ := List.any_eq_true.1 h
      rw [HN.out x hx] at hn
      cases hn

theorem contains_on (g : Nat) (dev : Int) (a : Option Addr) (cap : Nat) (l : List (Int × Int)) (w : World) (h : SlP w a l) (hl : l.length ≤ 1000) (hg : w.cell? ⟨g, 0, none⟩ = some (.int .i64 dev)) (hg2 : g < w.heap.size) :
    Calls Try.prog 63 #[.slice a l.length cap, .func (.func 66) #[] #[.pointer (some ⟨g, 0, none⟩)]] w fun e w' =>
      e = .returned (.bool (onP l dev)) ∧ Below w.heap.size w w' := by
  have H := Lib.hid h
  have HG := Lib.hid hg
  have HG2 := Lib.hid hg2
  clear h hg hg2
  go_enter Try.func63, Try.ntmps63
  go_wp2_with fail
  refine (index_on g dev a cap l _ H.out hl HG.out HG2.out).mono ?_
  rintro e w1 ⟨r, rfl, hr, hb⟩
  have HR := Lib.hid hr
  have HB := Lib.hid hb
  clear hr hb
  go_wp2
  go_ret
  exact ⟨ret_bool (by rw [Bool.eq_iff_iff, decide_eq_true_iff]; exact HR.out), HB.out⟩

theorem on_any (a : Option Addr) (cap : Nat) (p : PtrD) (dev : Int) (w : World) (h : SlP w a p.locs) (hl : p.locs.length ≤ 1000) :
    Calls Try.prog 38 #[ptrV a cap p, .int .i64 dev] w fun e w' => e = .returned (.bool (onP p.locs dev)) ∧ Below w.heap.size w w' := by
  have H := Lib.hid h
  clear h
  obtain ⟨l, n, m, s⟩ := p
  unfold ptrV
  simp only at *
  go_enter Try.func38, Try.ntmps38
  go_wp2_with fail
  generalize hx : World.alloc _ _ = wx
  have HX : Hid (Below w.heap.size w wx) := by show Below _ _ _; rw [← hx]; exact ((Below.refl _ _).alloc (Nat.le_refl _) _).alloc (by rw [size_alloc]; omega) _
  have HG : Hid (wx.cell? ⟨w.heap.size + 1, 0, none⟩ = some (.int .i64 dev)) := by show _ = _; rw [← hx, ← size_alloc w (.cells #[.slice a l.length cap, .int .i64 n, .int .i64 m, .string s] 59 (0, 0))]; exact boxed0 _ _ _ _ 0 _ rfl
  have HS : Hid (w.heap.size + 1 < wx.heap.size) := by show _ < _; rw [← hx, size_alloc, size_alloc]; omega
  clear hx
  go_wp2_with fail
  refine (contains_on (w.heap.size + 1) dev a cap l wx (H.out.keep HX.out) hl HG.out HS.out).mono ?_
  rintro e w1 ⟨rfl, hb⟩
  have HB := Lib.hid (HX.out.trans (hb.mono HX.out.size))
  clear hb
  go_wp2
  go_ret
  exact ⟨rfl, HB.out⟩

/-- The model's '==' at a Loc. -/
theorem eqLoc (x1 x2 y1 y2 : Int) (w : World) : (Op.equalIn 10000 29 (.agg #[.int .i64 x1, .int .i64 x2]) (.agg #[.int .i64 y1, .int .i64 y2])).run Try.prog w = .ok (x1 == y1 && x2 == y2) w := by
  have u3 := Try.underlying3
  have a3 := Try.isAgg3
  have z3 := Try.sizeOf3
  have hS : Try.prog.underlying 29 = some (.struct (Try.prog.fieldsOf 29)) := by kernel_rfl
  have hp : Try.prog.stoodInHeld 29 = false := by kernel_rfl
  rw [show (10000 : Nat) = 9999 + 1 from rfl, run_equalIn_agg w 9999 29 _ _ hS hp]
  simp only [Program.fieldsOf, Try.underlying29]
  go_simp
  by_cases h1 : x1 = y1 <;> by_cases h2 : x2 = y2 <;> simp [h1, h2]

def sameP (a b : List (Int × Int)) : Bool := decide (a = b)

set_option maxHeartbeats 1000000 in
theorem equal_any (x y : Option Addr) (cx cy : Nat) (a b : List (Int × Int)) (w : World) (ha : SlP w x a) (hb : SlP w y b) (la : a.length ≤ 1000) (lb : b.length ≤ 1000) :
    Calls Try.prog 74 #[.slice x a.length cx, .slice y b.length cy] w fun e w' => e = .returned (.bool (sameP a b)) ∧ Below w.heap.size w w' := by
  have HA := Lib.hid ha
  have HB := Lib.hid hb
  clear ha hb
  by_cases hlen : a.length = b.length
  · go_enter Try.func74, Try.ntmps74
    go_wp2
    go_loopw [5, 13] (fun _ i wr => ∃ k : Nat, k ≤ a.length ∧ i = .int .i64 k ∧ Hid (a.take k = b.take k) ∧ Hid (Below w.heap.size w wr)) (fun _ i _ => a.length - (intOf i).toNat)
    case atStart => exact ⟨0, Nat.zero_le _, rfl, Lib.hid rfl, Below.refl _ _⟩
    case round =>
      obtain ⟨k, hk, rfl, HN, HL⟩ := hrel
      by_cases hlt : k < a.length
      · have hltb : k < b.length := by omega
        obtain ⟨b1, o1, rfl, hb1, hc0, hc1⟩ := (HA.out.keep HL.out).get k hlt
        obtain ⟨b2, o2, rfl, hb2, hd0, hd1⟩ := (HB.out.keep HL.out).get k hltb
        have T1 := Lib.hid (List.take_succ_eq_append_getElem hlt)
        have T2 := Lib.hid (List.take_succ_eq_append_getElem hltb)
        have G1 := Lib.hid (List.getElem?_eq_getElem hlt)
        have G2 := Lib.hid (List.getElem?_eq_getElem hltb)
        generalize a[k] = u at *
        generalize b[k] = v at *
        obtain ⟨u1, u2⟩ := u
        obtain ⟨v1, v2⟩ := v
        simp only at hc0 hc1 hd0 hd1
        by_cases huv : u1 = v1 ∧ u2 = v2
        · obtain ⟨rfl, rfl⟩ := huv
          have hq : ∀ w, (Op.equalIn 10000 29 (.agg #[.int .i64 u1, .int .i64 u2]) (.agg #[.int .i64 u1, .int .i64 u2])).run Try.prog w = .ok true w := fun w => by rw [eqLoc]; simp
          go_wp2_with fail
          go_region
          clear hq hc0 hc1 hd0 hd1
          go_wp2
          go_roundw
          case rel => exact ⟨k + 1, by omega, by go_num, Lib.hid (by rw [T1.out, T2.out, HN.out]), HL.out.drew⟩
          case measure => simp [intOf]; omega
        · have hq : ∀ w, (Op.equalIn 10000 29 (.agg #[.int .i64 u1, .int .i64 u2]) (.agg #[.int .i64 v1, .int .i64 v2])).run Try.prog w = .ok false w := fun w => by
            rw [eqLoc]
            congr 1
            cases h : (u1 == v1 && u2 == v2)
            · rfl
            · simp at h; exact absurd h huv
          have HU := Lib.hid huv
          clear huv
          go_wp2_with fail
          go_region
          clear hq hc0 hc1 hd0 hd1
          go_wp2
          go_ret
          refine ⟨ret_bool (Eq.symm (decide_eq_false fun h => ?_)), HL.out.drew⟩
          have h1 := G1.out
          rw [h, G2.out] at h1
          injection h1 with h1
          injection h1 with h1 h2
          exact HU.out ⟨h1.symm, h2.symm⟩
      · have hkl : k = a.length := by omega
        subst hkl
        have HE : Hid (a = b) := by
          have := HN.out
          rw [hlen, List.take_length, ← hlen, List.take_length] at this
          exact this
        go_wp2
        go_ret
        exact ⟨ret_bool (Eq.symm (decide_eq_true HE.out)), HL.out⟩
  · have HE : Hid (sameP a b = false) := decide_eq_false fun h => hlen (by rw [h])
    have hq : ((a.length : Int) != (b.length : Int)) = true := by rw [bne_iff_ne]; omega
    rw [HE.out]
    clear HE hlen
    go_enter Try.func74, Try.ntmps74
    go_wp2
    go_ret
    exact ⟨rfl, Below.refl _ _⟩
end Go.Proofs.Ytbdnkmkagglmhaa
