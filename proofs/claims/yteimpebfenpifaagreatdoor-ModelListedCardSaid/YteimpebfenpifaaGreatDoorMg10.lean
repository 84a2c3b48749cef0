/-
  Texts put together: Res4, PathOps, PathRef.
-/
import Derived.WalkKit
import Derived.Laws.ResultCell
import Derived.Deep.RegionLaw
import Derived.Test.YteimpebfenpifaaGreatDoorPathSplit
import Derived.Test.YteimpebfenpifaaGreatDoorMg9
namespace Go.Proofs.YteimpebfenpifaaGreatDoor
open Go Go.RowKit Go.WideShapes

theorem results_four {fn : Func} {t u v x : Tmp} (h : fn.results = #[.tmp t, .tmp u, .tmp v, .tmp x]) (tmps : Array Value) (P : Program) (w : World) :
    (results fn tmps).run P w = .ok (.tuple #[tmps.getD t undef, tmps.getD u undef, tmps.getD v undef, tmps.getD x undef]) w := by
  simp [results, h]
theorem results_box_tmp {P : Program} {fn : Func} {p u : Tmp} {ty : TypeId} (h : fn.results = #[.cell p ty, .tmp u]) (tmps : Array Value) (w : World) (g : Nat) (t : TypeId) (cs : Array Value) (fr : Nat × Nat) (d : TypeDesc)
    (hp : tmps.getD p undef = .pointer (some ⟨g, 0, none⟩)) (hg : w.heap[g]? = some (.cells cs t fr))
    (hu : P.underlying ty = some d) (hd : (match d with | .struct _ | .array _ _ => true | _ => false) = true) (hi : (P.info? ty).map (·.size) = some cs.size) :
    (results fn tmps).run P w = .ok (.tuple #[.agg cs, tmps.getD u undef]) w := by
  rw [results_cell_tmp h, hp]
  simp [asAddr, run_loadVar_row w g t ty cs fr d hg hu hd hi]

end Go.Proofs.YteimpebfenpifaaGreatDoor

namespace Go.Proofs.YteimpebfenpifaaGreatDoor
open Go Go.RowKit Go.Shelf

theorem split_any (s : ByteArray) (hs : s.size ≤ 1100000) (w : World) : Calls Tryz.prog 24 #[.string s] w fun e w' => ∃ v, e = .returned (.tuple #[v, .int .i64 (splitD s).2]) ∧ Ks w' w.heap.size v (splitD s).1 ∧ Below w.heap.size w w' :=
  callsIn_wide.1 (split_in s hs w)

/-- The names, joined. -/
def joinD (l : List ByteArray) : ByteArray := (⟨#[47]⟩ : ByteArray) ++ ⟨(Lib.join (l.map (·.data.toList)) [47]).toArray⟩
theorem pb_joinD (l : List ByteArray) : pb (joinD l) = 47 :: ([47] : List UInt8).intercalate (l.map pb) := by
  unfold joinD
  rw [pb_append, pb_mk]
  rfl

theorem join_any (a : Option Addr) (c : Nat) (l : List ByteArray) (w : World) (h : Sl w Value.string a l) (hc : l.length ≤ c) (hz : (joinD l).size ≤ 1000000) :
    Calls Tryz.prog 25 #[.slice a l.length c] w fun e w' => e = .returned (.string (joinD l)) ∧ Below w.heap.size w w' := by
  have hj : (⟨(Lib.join (l.map (·.data.toList)) [47]).toArray⟩ : ByteArray).size ≤ 1000000 := by
    unfold joinD at hz
    rw [ByteArray.size_append] at hz
    omega
  have hjl : (Lib.join (l.map (·.data.toList)) [47]).length ≤ 1000000 := by simpa [ByteArray.size] using hj
  have hq : ¬ 9223372036854775807 < 1 + (⟨(Lib.join (l.map (·.data.toList)) [47]).toArray⟩ : ByteArray).size := by omega
  have HC : Calls Tryz.prog 42 #[.slice a l.length c, .string ⟨#[47]⟩] w fun e w' => e = .returned (.string ⟨(Lib.join (l.map (·.data.toList)) [47]).toArray⟩) ∧ Below w.heap.size w w' := by
    by_cases h0 : l = []
    · subst h0
      exact (Tryz.strings_Join_none a c ⟨#[47]⟩ w).mono fun e w' ⟨h1, h2⟩ => ⟨h1, h2 ▸ Below.refl _ _⟩
    · obtain ⟨b, off, rfl, hb, hcell⟩ := h h0
      exact Tryz.strings_Join b off c l ⟨#[47]⟩ w (fun j x hx => hcell j x hx) hb (by
        have : l.length ≤ (Lib.join (l.map (·.data.toList)) [47]).length + 1 := by
          have := join_len (l.map (·.data.toList))
          rw [List.length_map] at this
          exact this
        omega) hc (by show (Lib.join (l.map (·.data.toList)) [47]).length ≤ _; omega)
  have HJ : Hid (joinD l = (⟨#[47]⟩ : ByteArray) ++ ⟨(Lib.join (l.map (·.data.toList)) [47]).toArray⟩) := rfl
  have HCC := Lib.hid HC
  generalize joinD l = R at *
  generalize (⟨(Lib.join (l.map (·.data.toList)) [47]).toArray⟩ : ByteArray) = T at *
  clear h hc hz hj hjl HC
  go_enter Tryz.func25, Tryz.ntmps25
  go_wp2_with fail
  refine HCC.out.mono ?_
  rintro e w1 ⟨rfl, hb⟩
  have HB := Lib.hid hb
  clear hb
  go_wp2
  go_ret
  exact ⟨by rw [HJ.out]; rfl, HB.out⟩
end Go.Proofs.YteimpebfenpifaaGreatDoor

namespace Go.Proofs.YteimpebfenpifaaGreatDoor
open Go Go.RowKit Go.Shelf

/-- A name of the reference's: no byte '/', too. -/
def okR (s : ByteArray) : Prop := okN s ∧ ∀ x ∈ pb s, x ≠ 47
instance (s : ByteArray) : Decidable (okR s) := inferInstanceAs (Decidable (_ ∧ _))

theorem bad_at {s : ByteArray} {k : Nat} (hk : k < s.size) (h : s[k] = 47 ∨ s[k] = 0) : ¬ okR s := by
  have hm : s[k] ∈ pb s := by
    have : (pb s)[k]'(by rw [pb_size]; exact hk) = s[k] := rfl
    rw [← this]
    exact List.getElem_mem _
  rintro ⟨h1, h2⟩
  rcases h with h | h
  · exact h2 _ hm h
  · exact h1.2.2.2.2 _ hm h

set_option maxHeartbeats 1000000 in
theorem rname_any (s : ByteArray) (hs : s.size ≤ 100000) (w : World) : Calls Tryz.prog 37 #[.string s] w fun e w' => e = .returned (.bool (decide (okR s))) ∧ w = w' := by
  obtain ⟨R, hR⟩ : ∃ R, R = decide (okR s) := ⟨_, rfl⟩
  rw [← hR]
  have HR := Lib.hid hR
  clear hR
  go_enter Tryz.func37, Tryz.ntmps37
  go_wp2
  go_loop [3] (fun i => ∃ k : Nat, k ≤ s.size ∧ i = .int .i64 k ∧ Hid (∀ j (hj : j < k) (hj2 : j < s.size), s[j] ≠ 47 ∧ s[j] ≠ 0)) (fun i => s.size - (intOf i).toNat)
  case atStart => exact ⟨0, Nat.zero_le _, rfl, fun j hj => absurd hj (Nat.not_lt_zero _)⟩
  case round =>
    obtain ⟨k, hk, rfl, HB⟩ := hrel
    by_cases hlt : k < s.size
    · by_cases h1 : s[k] = 47
      · have HF : Hid (R = false) := HR.out.trans (decide_eq_false (bad_at hlt (.inl h1)))
        have q1 : ((s[k].toNat : Int) == 47) = true := by rw [h1]; rfl
        clear h1
        go_wp2
        go_ret
        exact ⟨ret_bool HF.out.symm, rfl⟩
      · have q1 : ((s[k].toNat : Int) == 47) = false := by
          rw [beq_eq_false_iff_ne]; intro e
          exact h1 (UInt8.toNat_inj.1 (show s[k].toNat = 47 by omega))
        by_cases h2 : s[k] = 0
        · have HF : Hid (R = false) := HR.out.trans (decide_eq_false (bad_at hlt (.inr h2)))
          have q2 : ((s[k].toNat : Int) == 0) = true := by rw [h2]; rfl
          clear h1 h2
          go_wp2
          go_ret
          exact ⟨ret_bool HF.out.symm, rfl⟩
        · have q2 : ((s[k].toNat : Int) == 0) = false := by
            rw [beq_eq_false_iff_ne]; intro e
            exact h2 (UInt8.toNat_inj.1 (show s[k].toNat = 0 by omega))
          have HB2 : Hid (∀ j (hj : j < k + 1) (hj2 : j < s.size), s[j] ≠ 47 ∧ s[j] ≠ 0) := fun j hj hj2 => by
            by_cases e : j = k
            · subst e; exact ⟨h1, h2⟩
            · exact HB.out j (by omega) hj2
          clear h1 h2
          go_wp2
          go_round
          case rel => exact ⟨k + 1, by omega, by go_num, HB2⟩
          case measure => simp [intOf]; omega
    · have hall : ∀ x ∈ pb s, x ≠ 47 ∧ x ≠ 0 := by
        intro x hx
        obtain ⟨j, hj, rfl⟩ := List.getElem_of_mem hx
        rw [pb_size] at hj
        exact HB.out j (by omega) hj
      have hok : okR s ↔ (0 < s.size ∧ s.size ≤ 255 ∧ pb s ≠ [46] ∧ pb s ≠ [46, 46]) :=
        ⟨fun h => ⟨h.1.1, h.1.2.1, h.1.2.2.1, h.1.2.2.2.1⟩, fun h => ⟨⟨h.1, h.2.1, h.2.2.1, h.2.2.2, fun x hx => (hall x hx).2⟩, fun x hx => (hall x hx).1⟩⟩
      have HOK := Lib.hid hok
      clear hall hok
      by_cases h0 : s.size = 0
      · have e0 : s = ⟨#[]⟩ := by
          apply ByteArray.ext
          exact Array.eq_empty_of_size_eq_zero h0
        have HF : Hid (R = false) := HR.out.trans (decide_eq_false (fun h => by have := (HOK.out.1 h).1; omega))
        subst e0
        go_wp2
        go_ret
        exact ⟨ret_bool HF.out.symm, rfl⟩
      · obtain ⟨g1, g2⟩ := str_some s (by omega)
        by_cases h1 : 255 < s.size
        · have HF : Hid (R = false) := HR.out.trans (decide_eq_false (fun h => by have := (HOK.out.1 h).2.1; omega))
          go_wp2
          go_ret
          exact ⟨ret_bool HF.out.symm, rfl⟩
        · by_cases h2 : pb s = [46]
          · have HF : Hid (R = false) := HR.out.trans (decide_eq_false (fun h => (HOK.out.1 h).2.2.1 h2))
            have d1 : (s.toList == [46]) = true := by rw [ByteArray.toList_eq]; exact beq_iff_eq.2 h2
            clear h2
            go_wp2
            go_ret
            exact ⟨ret_bool HF.out.symm, rfl⟩
          · have d1 := dot_ne h2
            by_cases h3 : pb s = [46, 46]
            · have HF : Hid (R = false) := HR.out.trans (decide_eq_false (fun h => (HOK.out.1 h).2.2.2 h3))
              have d2 : (s.toList == [46, 46]) = true := by rw [ByteArray.toList_eq]; exact beq_iff_eq.2 h3
              clear h2 h3
              go_wp2
              go_ret
              exact ⟨ret_bool HF.out.symm, rfl⟩
            · have d2 := dot_ne h3
              have HF : Hid (R = true) := HR.out.trans (decide_eq_true (HOK.out.2 ⟨by omega, by omega, h2, h3⟩))
              clear h2 h3
              go_wp2
              go_ret
              exact ⟨ret_bool HF.out.symm, rfl⟩
end Go.Proofs.YteimpebfenpifaaGreatDoor
