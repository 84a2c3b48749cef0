/-
  path.Join, Parent, Within; the reference's Split, in the same words.
-/
import Derived.Test.YtjimjaimfejonaaDoorPathSplit
import Derived.Test.YtjimjaimfejonaaDoorSched2
import Derived.Test.YtjimjaimfejonaaDoorRes4
namespace Go.Proofs.YtjimjaimfejonaaDoor
open Go Go.RowKit Go.Shelf

theorem split_any (s : ByteArray) (hs : s.size ≤ 1100000) (w : World) : Calls Tryd.prog 10 #[.string s] w fun e w' => ∃ v, e = .returned (.tuple #[v, .int .i64 (splitD s).2]) ∧ Ks w' w.heap.size v (splitD s).1 ∧ Below w.heap.size w w' :=
  callsIn_wide.1 (split_in s hs w)

/-- The names, joined. -/
def joinD (l : List ByteArray) : ByteArray := (⟨#[47]⟩ : ByteArray) ++ ⟨(Lib.join (l.map (·.data.toList)) [47]).toArray⟩
theorem pb_joinD (l : List ByteArray) : pb (joinD l) = 47 :: ([47] : List UInt8).intercalate (l.map pb) := by
  unfold joinD
  rw [pb_append, pb_mk]
  rfl

theorem join_any (a : Option Addr) (c : Nat) (l : List ByteArray) (w : World) (h : Sl w Value.string a l) (hc : l.length ≤ c) (hz : (joinD l).size ≤ 1000000) :
    Calls Tryd.prog 17 #[.slice a l.length c] w fun e w' => e = .returned (.string (joinD l)) ∧ Below w.heap.size w w' := by
  have hj : (⟨(Lib.join (l.map (·.data.toList)) [47]).toArray⟩ : ByteArray).size ≤ 1000000 := by
    unfold joinD at hz
    rw [ByteArray.size_append] at hz
    omega
  have hjl : (Lib.join (l.map (·.data.toList)) [47]).length ≤ 1000000 := by simpa [ByteArray.size] using hj
  have hq : ¬ 9223372036854775807 < 1 + (⟨(Lib.join (l.map (·.data.toList)) [47]).toArray⟩ : ByteArray).size := by omega
  have HC : Calls Tryd.prog 24 #[.slice a l.length c, .string ⟨#[47]⟩] w fun e w' => e = .returned (.string ⟨(Lib.join (l.map (·.data.toList)) [47]).toArray⟩) ∧ Below w.heap.size w w' := by
    by_cases h0 : l = []
    · subst h0
      exact (Tryd.strings_Join_none a c ⟨#[47]⟩ w).mono fun e w' ⟨h1, h2⟩ => ⟨h1, h2 ▸ Below.refl _ _⟩
    · obtain ⟨b, off, rfl, hb, hcell⟩ := h h0
      exact Tryd.strings_Join b off c l ⟨#[47]⟩ w (fun j x hx => hcell j x hx) hb (by
        have : l.length ≤ (Lib.join (l.map (·.data.toList)) [47]).length + 1 := by
          have := join_len (l.map (·.data.toList))
          rw [List.length_map] at this
          exact this
        omega) hc (by show (Lib.join (l.map (·.data.toList)) [47]).length ≤ _; omega)
  have HJ : Hid (joinD l = (⟨#[47]⟩ : ByteArray) ++ ⟨(Lib.join (l.map (·.data.toList)) [47]).toArray⟩) := rfl
  have HCC := Lib.hid HC
  generalize joinD l = R at *
  generalize (⟨(Lib.join (l.map (·.data.toList)) [47]).toArray⟩ : ByteArray) = T at *
  clear h hc hz hj hjl HC
  go_enter Tryd.func17, Tryd.ntmps17
  go_wp2_with fail
  refine HCC.out.mono ?_
  rintro e w1 ⟨rfl, hb⟩
  have HB := Lib.hid hb
  clear hb
  go_wp2
  go_ret
  exact ⟨by rw [HJ.out]; rfl, HB.out⟩
end Go.Proofs.YtjimjaimfejonaaDoor
