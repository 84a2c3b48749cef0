/-
  Texts put together: ClogA, ClogC.
-/
import Derived.Test.YtljjcchdhnficaaDoorMg1
namespace Go.Proofs.YtljjcchdhnficaaDoor
open Go.RowKit

/-- An entry: key, digest, length, place. -/
structure CgE where
  key : ByteArray
  sum : ByteArray
  len : Int
  pos : Int
deriving Inhabited, DecidableEq
def cgL (x : CgE) : List Value := [.string x.key, .string x.sum, .int .i64 x.len, .int .i64 x.pos]
abbrev cgV (x : CgE) : Value := .agg #[.string x.key, .string x.sum, .int .i64 x.len, .int .i64 x.pos]
/-- A slice of entries, as it was handed over. -/
def SlC (w : World) (a : Option Addr) (l : List CgE) : Prop := l ≠ [] → ∃ b off, a = some ⟨b, off, none⟩ ∧ b < w.heap.size ∧ ∀ i x, l[i]? = some x → ∀ j u, (cgL x)[j]? = some u → w.cell? ⟨b, off + i * 4 + j, none⟩ = some u
theorem SlC.keep {w w' : World} {a : Option Addr} {l : List CgE} (h : SlC w a l) (hb : Below w.heap.size w w') : SlC w' a l := fun hne => by
  obtain ⟨b, off, e, hlt, hc⟩ := h hne
  exact ⟨b, off, e, Nat.lt_of_lt_of_le hlt hb.size, fun i x hx j u hj => (hb.cell (p := ⟨b, off + i * 4 + j, none⟩) hlt).trans (hc i x hx j u hj)⟩
theorem SlC.get {w : World} {a : Option Addr} {l : List CgE} (h : SlC w a l) (k : Nat) (hk : k < l.length) :
    ∃ b off, a = some ⟨b, off, none⟩ ∧ b < w.heap.size ∧ w.cell? ⟨b, off + k * 4, none⟩ = some (.string (l[k]).key) ∧ w.cell? ⟨b, off + k * 4 + 1, none⟩ = some (.string (l[k]).sum) ∧ w.cell? ⟨b, off + k * 4 + 2, none⟩ = some (.int .i64 (l[k]).len) ∧ w.cell? ⟨b, off + k * 4 + 3, none⟩ = some (.int .i64 (l[k]).pos) := by
  obtain ⟨b, off, e, hlt, hc⟩ := h (by intro e; rw [e] at hk; simp at hk)
  have := hc k _ (List.getElem?_eq_getElem hk)
  exact ⟨b, off, e, hlt, this 0 _ rfl, this 1 _ rfl, this 2 _ rfl, this 3 _ rfl⟩

/-- May it be an entry? -/
def MayC (x : CgE) : Prop := 1 ≤ x.key.size ∧ x.key.size ≤ 60 ∧ x.sum.size = 32 ∧ 0 ≤ x.len ∧ x.len ≤ 960 ∧ 0 ≤ x.pos ∧ x.pos < 512
instance (x : CgE) : Decidable (MayC x) := by unfold MayC; infer_instance
/-- Check's answer. -/
def chkC (seq : Int) (l : List CgE) : Int := if 0 ≤ seq ∧ seq ≤ 1099511627776 ∧ l.length ≤ 7 ∧ ∀ x ∈ l, MayC x then 0 else 1
theorem chkC_bad {seq : Int} {l : List CgE} (h : ¬ (0 ≤ seq ∧ seq ≤ 1099511627776 ∧ l.length ≤ 7)) : chkC seq l = 1 := if_neg fun e => h ⟨e.1, e.2.1, e.2.2.1⟩
theorem chkC_no {seq : Int} {l : List CgE} {k : Nat} (hk : k < l.length) (h : ¬ MayC l[k]) : chkC seq l = 1 := if_neg fun e => h (e.2.2.2 _ (List.getElem_mem hk))
theorem chkC_ok {seq : Int} {l : List CgE} (h : 0 ≤ seq ∧ seq ≤ 1099511627776 ∧ l.length ≤ 7) (ha : ∀ k (hk : k < l.length), MayC l[k]) : chkC seq l = 0 := if_pos ⟨h.1, h.2.1, h.2.2, fun x hx => by
  obtain ⟨k, hk, rfl⟩ := List.getElem_of_mem hx
  exact ha k hk⟩
theorem str_zero {s : ByteArray} (h : s.size = 0) : s = ⟨#[]⟩ := by
  apply ByteArray.ext
  apply Array.eq_empty_of_size_eq_zero
  exact h
theorem str_nz {s : ByteArray} (h : 1 ≤ s.size) : (s.toList == []) = false := by
  rw [beq_eq_false_iff_ne]
  intro e
  rw [ByteArray.toList_eq] at e
  have : s.data.toList.length = 0 := by rw [e]; rfl
  have h2 : s.data.toList.length = s.size := by rw [Array.length_toList]; rfl
  omega

set_option maxRecDepth 100000 in
set_option maxHeartbeats 1000000 in
theorem cmay_any (x : CgE) (w : World) : Calls Tryd.prog 29 #[cgV x] w fun e w' => e = .returned (.bool (decide (MayC x))) ∧ Below w.heap.size w w' := by
  obtain ⟨k, s, n, p⟩ := x
  by_cases h0 : 1 ≤ k.size
  · skip
    by_cases h1 : k.size ≤ 60
    · skip
      by_cases h2 : s.size = 32
      · skip
        by_cases h3 : 0 ≤ n
        · skip
          by_cases h4 : n ≤ 960
          · skip
            by_cases h5 : 0 ≤ p
            · skip
              by_cases h6 : p < 512
              · skip
                rw [show decide (MayC ⟨k, s, n, p⟩) = true from decide_eq_true ⟨h0, h1, h2, h3, h4, h5, h6⟩]
                have d0 : (k.toList == []) = false := str_nz h0
                have d1 : decide ((k.size : Int) ≤ 60) = true := decide_eq_true (by omega)
                have d2 : ((s.size : Int) == 32) = true := by rw [h2]; rfl
                clear h0 h1 h2
                go_enter Tryd.func29, Tryd.ntmps29
                go_wp2
                go_ret
                exact ⟨rfl, (Below.refl _ _).alloc (Nat.le_refl _) _⟩
              · rw [show decide (MayC ⟨k, s, n, p⟩) = false from decide_eq_false (fun h => h6 h.2.2.2.2.2.2)]
                have d0 : (k.toList == []) = false := str_nz h0
                have d1 : decide ((k.size : Int) ≤ 60) = true := decide_eq_true (by omega)
                have d2 : ((s.size : Int) == 32) = true := by rw [h2]; rfl
                have d6 : decide (p < 512) = false := decide_eq_false (by omega)
                clear h0 h1 h2 h6
                go_enter Tryd.func29, Tryd.ntmps29
                go_wp2
                go_ret
                exact ⟨rfl, (Below.refl _ _).alloc (Nat.le_refl _) _⟩
            · rw [show decide (MayC ⟨k, s, n, p⟩) = false from decide_eq_false (fun h => h5 h.2.2.2.2.2.1)]
              have d0 : (k.toList == []) = false := str_nz h0
              have d1 : decide ((k.size : Int) ≤ 60) = true := decide_eq_true (by omega)
              have d2 : ((s.size : Int) == 32) = true := by rw [h2]; rfl
              have d5 : decide (0 ≤ p) = false := decide_eq_false (by omega)
              clear h0 h1 h2 h5
              go_enter Tryd.func29, Tryd.ntmps29
              go_wp2
              go_ret
              exact ⟨rfl, (Below.refl _ _).alloc (Nat.le_refl _) _⟩
          · rw [show decide (MayC ⟨k, s, n, p⟩) = false from decide_eq_false (fun h => h4 h.2.2.2.2.1)]
            have d0 : (k.toList == []) = false := str_nz h0
            have d1 : decide ((k.size : Int) ≤ 60) = true := decide_eq_true (by omega)
            have d2 : ((s.size : Int) == 32) = true := by rw [h2]; rfl
            have d4 : decide (n ≤ 960) = false := decide_eq_false (by omega)
            clear h0 h1 h2 h4
            go_enter Tryd.func29, Tryd.ntmps29
            go_wp2
            go_ret
            exact ⟨rfl, (Below.refl _ _).alloc (Nat.le_refl _) _⟩
        · rw [show decide (MayC ⟨k, s, n, p⟩) = false from decide_eq_false (fun h => h3 h.2.2.2.1)]
          have d0 : (k.toList == []) = false := str_nz h0
          have d1 : decide ((k.size : Int) ≤ 60) = true := decide_eq_true (by omega)
          have d2 : ((s.size : Int) == 32) = true := by rw [h2]; rfl
          have d3 : decide (0 ≤ n) = false := decide_eq_false (by omega)
          clear h0 h1 h2 h3
          go_enter Tryd.func29, Tryd.ntmps29
          go_wp2
          go_ret
          exact ⟨rfl, (Below.refl _ _).alloc (Nat.le_refl _) _⟩
      · rw [show decide (MayC ⟨k, s, n, p⟩) = false from decide_eq_false (fun h => h2 h.2.2.1)]
        have d0 : (k.toList == []) = false := str_nz h0
        have d1 : decide ((k.size : Int) ≤ 60) = true := decide_eq_true (by omega)
        have d2 : ((s.size : Int) == 32) = false := by rw [beq_eq_false_iff_ne]; omega
        clear h0 h1 h2
        go_enter Tryd.func29, Tryd.ntmps29
        go_wp2
        go_ret
        exact ⟨rfl, (Below.refl _ _).alloc (Nat.le_refl _) _⟩
    · rw [show decide (MayC ⟨k, s, n, p⟩) = false from decide_eq_false (fun h => h1 h.2.1)]
      have d0 : (k.toList == []) = false := str_nz h0
      have d1 : decide ((k.size : Int) ≤ 60) = false := decide_eq_false (by omega)
      clear h0 h1
      go_enter Tryd.func29, Tryd.ntmps29
      go_wp2
      go_ret
      exact ⟨rfl, (Below.refl _ _).alloc (Nat.le_refl _) _⟩
  · rw [show decide (MayC ⟨k, s, n, p⟩) = false from decide_eq_false (fun h => h0 h.1)]
    have d0 : k = ⟨#[]⟩ := str_zero (by omega)
    subst d0
    clear h0
    go_enter Tryd.func29, Tryd.ntmps29
    go_wp2
    go_ret
    exact ⟨rfl, (Below.refl _ _).alloc (Nat.le_refl _) _⟩
end Go.Proofs.YtljjcchdhnficaaDoor

namespace Go.Proofs.YtljjcchdhnficaaDoor
open Go.RowKit

set_option maxRecDepth 100000 in
set_option maxHeartbeats 1000000 in
theorem ccheck_any (seq : Int) (a : Option Addr) (cap : Nat) (l : List CgE) (w : World) (h : SlC w a l) :
    Calls Tryd.prog 13 #[.agg #[.int .i64 seq, .slice a l.length cap]] w fun e w' => e = .returned (.int .i64 (chkC seq l)) ∧ Below w.heap.size w w' := by
  have H := Lib.hid h
  have HX := Lib.hid ((Below.refl w.heap.size w).alloc (Nat.le_refl _) (.cells #[.int .i64 seq, .slice a l.length cap] 32))
  have BX := Lib.hid (Box.new w 32 #[.int .i64 seq, .slice a l.length cap])
  clear h
  by_cases h0 : 0 ≤ seq
  · by_cases h1 : seq ≤ 1099511627776
    · by_cases h2 : l.length ≤ 7
      · have d0 : decide (seq < 0) = false := decide_eq_false (by omega)
        have d1 : decide (1099511627776 < seq) = false := decide_eq_false (by omega)
        have d2 : decide ((7 : Int) < (l.length : Int)) = false := decide_eq_false (by omega)
        go_enter Tryd.func13, Tryd.ntmps13
        go_wp2_with fail
        generalize World.alloc w _ = wx at *
        have k0 := BX.out.cell 0 _ rfl
        have k1 := BX.out.cell 1 _ rfl
        have HS := Lib.hid (And.intro h0 (And.intro h1 h2))
        clear h0 h1 BX
        go_wp2
        clear k0 k1
        go_loopw [22] (fun i wr => ∃ k : Nat, k ≤ l.length ∧ i = .int .i64 k ∧ Hid (Below w.heap.size w wr) ∧ Hid (∀ j (hj : j < l.length), j < k → MayC l[j])) (fun i _ => l.length - (RowKit.intOf i).toNat)
        case atStart => exact ⟨0, Nat.zero_le _, rfl, HX, fun j hj h => absurd h (Nat.not_lt_zero _)⟩
        case round =>
          clear HX
          obtain ⟨k, hk, rfl, HB, HA⟩ := hrel
          by_cases hlt : k < l.length
          · obtain ⟨b, off, rfl, hb, e0, e1, e2, e3⟩ := (H.out.keep HB.out).get k hlt
            have HC : Hid (MayC l[k] → ∀ j (hj : j < l.length), j < k + 1 → MayC l[j]) := fun h j hj h1 => by
              by_cases hjk : j < k
              · exact HA.out j hj hjk
              · obtain rfl : j = k := by omega
                exact h
            have HN : Hid (¬ MayC l[k] → chkC seq l = 1) := fun h => chkC_no hlt h
            have HLT := Lib.hid hlt
            generalize l[k] = x at *
            obtain ⟨xk, xs, xn, xp⟩ := x
            simp only at e0 e1 e2 e3
            go_wp2_with fail
            refine (cmay_any ⟨xk, xs, xn, xp⟩ _).mono ?_
            rintro e w1 ⟨rfl, hb⟩
            have HB1 := Lib.hid ((HB.out.alloc HB.out.size _).trans (hb.mono (by rw [size_alloc]; have := HB.out.size; omega)))
            clear hb HB HA e0 e1 e2 e3
            by_cases hm : MayC ⟨xk, xs, xn, xp⟩
            · have HA2 := Lib.hid (HC.out hm)
              rw [show decide (MayC ⟨xk, xs, xn, xp⟩) = true from decide_eq_true hm]
              clear hm
              go_wp2
              go_roundw
              case rel => exact ⟨k + 1, HLT.out, by go_num, HB1, HA2⟩
              case measure => have := HLT.out; simp [RowKit.intOf]; omega
            · have HZ := Lib.hid (HN.out hm)
              rw [show decide (MayC ⟨xk, xs, xn, xp⟩) = false from decide_eq_false hm]
              clear hm
              go_wp2
              go_ret
              exact ⟨by rw [HZ.out]; rfl, HB1.out⟩
          · obtain rfl : k = l.length := by omega
            have HZ := Lib.hid (chkC_ok HS.out (fun j hj => HA.out j hj hj))
            clear HA
            go_wp2
            go_ret
            exact ⟨by rw [HZ.out]; rfl, HB.out⟩
      · rw [chkC_bad (fun h => h2 h.2.2)]
        have d0 : decide (seq < 0) = false := decide_eq_false (by omega)
        have d1 : decide (1099511627776 < seq) = false := decide_eq_false (by omega)
        have d2 : decide ((7 : Int) < (l.length : Int)) = true := decide_eq_true (by omega)
        go_enter Tryd.func13, Tryd.ntmps13
        go_wp2_with fail
        generalize World.alloc w _ = wx at *
        have k0 := BX.out.cell 0 _ rfl
        have k1 := BX.out.cell 1 _ rfl
        clear BX
        go_wp2
        go_ret
        exact ⟨rfl, HX.out⟩
    · rw [chkC_bad (fun h => h1 h.2.1)]
      have d0 : decide (seq < 0) = false := decide_eq_false (by omega)
      have d1 : decide (1099511627776 < seq) = true := decide_eq_true (by omega)
      go_enter Tryd.func13, Tryd.ntmps13
      go_wp2_with fail
      generalize World.alloc w _ = wx at *
      have k0 := BX.out.cell 0 _ rfl
      have k1 := BX.out.cell 1 _ rfl
      clear BX
      go_wp2
      go_ret
      exact ⟨rfl, HX.out⟩
  · rw [chkC_bad (fun h => h0 h.1)]
    have d0 : decide (seq < 0) = true := decide_eq_true (by omega)
    go_enter Tryd.func13, Tryd.ntmps13
    go_wp2_with fail
    generalize World.alloc w _ = wx at *
    have k0 := BX.out.cell 0 _ rfl
    have k1 := BX.out.cell 1 _ rfl
    clear BX
    go_wp2
    go_ret
    exact ⟨rfl, HX.out⟩
end Go.Proofs.YtljjcchdhnficaaDoor
