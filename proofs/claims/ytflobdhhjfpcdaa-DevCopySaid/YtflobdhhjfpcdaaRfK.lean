/-
  The reference's devices beside the program's: each call's contract so.
-/
import Derived.Test.YtflobdhhjfpcdaaRfJ
import Derived.Test.YtflobdhhjfpcdaaDevOneS
namespace Go.Proofs.Ytflobdhhjfpcdaa
open Go.RowKit Go.ChangeShapes Go.WideShapes Go.ChangeAt

theorem One.exch {B : Nat} {P Q R : List Nat → World → Prop} {b : Nat} {d : DevD} {w : World} (h : One B (Both (Both P Q) R) b d w) : One B (Both (Both P R) Q) b d w := by
  obtain ⟨hz, F, G, h1, ⟨G1, G2, rfl, ⟨G3, G4, rfl, h2, h3, h4⟩, h5, h6⟩, h7, h8⟩ := h
  refine ⟨hz, F, (G3 ++ G2) ++ G4, h1, ⟨G3 ++ G2, G4, rfl, ⟨G3, G2, rfl, h2, h5, fun k hk => h6 k (List.mem_append_left _ hk)⟩, h3, fun k hk hm => ?_⟩, fun k hk => ⟨(h7 k hk).1, fun hm => ?_⟩, fun k hk => ?_⟩
  · rcases List.mem_append.1 hk with h | h
    · exact h4 k h hm
    · exact h6 k (List.mem_append_right _ hm) h
  · apply (h7 k hk).2
    rcases List.mem_append.1 hm with hm | hm
    · rcases List.mem_append.1 hm with hm | hm
      · exact List.mem_append_left _ (List.mem_append_left _ hm)
      · exact List.mem_append_right _ hm
    · exact List.mem_append_left _ (List.mem_append_right _ hm)
  · apply h8 k
    rcases List.mem_append.1 hk with hm | hm
    · rcases List.mem_append.1 hm with hm | hm
      · exact List.mem_append_left _ (List.mem_append_left _ hm)
      · exact List.mem_append_right _ hm
    · exact List.mem_append_left _ (List.mem_append_right _ hm)
/-- The reference's devices that lie beside. -/
theorem one_ref {B : Nat} {P : List Nat → World → Prop} {rb b : Nat} {r d : DevD} {w : World} (hP : Fixed P) (h : One B (Both P (RefF rb r)) b d w) :
    ∃ p, p.b = rb ∧ RefAt w p r ∧ (∀ k ∈ p.fp, B ≤ k) ∧ ∀ r' w', RefTo p r' w w' → One B (Both P (RefF rb r')) b d w' ∧ Below B w w' := by
  obtain ⟨hz, F, G, h1, ⟨G1, G2, rfl, h2, ⟨p, e, h3, rfl⟩, h4⟩, h5, h6⟩ := h
  refine ⟨p, e, h3, fun k hk => h6 k (List.mem_append_right _ hk), fun r' w' ⟨p', e', h7, hc, hf⟩ => ⟨⟨Nat.le_trans hz hc.size, F, G1 ++ p'.fp, ?_, ⟨G1, p'.fp, rfl, ?_, ⟨p', e'.trans e, h7, rfl⟩, ?_⟩, ?_, ?_⟩, hc.below hz (fun k hk => h6 k (List.mem_append_right _ hk))⟩⟩
  · exact (fixed_dev b d).keep _ _ _ _ h1 hc (fun k hk hm => (h5 k hk).2 (List.mem_append_right _ hm))
  · exact hP.keep _ _ _ _ h2 hc (fun k hk hm => h4 k hk hm)
  · intro k hk hm
    rcases hf k hm with h | h
    · exact h4 k hk h
    · have := hP.lt _ _ h2 k hk
      omega
  · intro k hk
    refine ⟨(h5 k hk).1, fun hm => ?_⟩
    rcases List.mem_append.1 hm with hm | hm
    · exact (h5 k hk).2 (List.mem_append_left _ hm)
    · rcases hf k hm with h | h
      · exact (h5 k hk).2 (List.mem_append_right _ h)
      · have := (fixed_dev b d).lt _ _ h1 k hk
        omega
  · intro k hk
    rcases List.mem_append.1 hk with hm | hm
    · exact h6 k (List.mem_append_left _ hm)
    · rcases hf k hm with h | h
      · exact h6 k (List.mem_append_right _ h)
      · omega

section
variable {B : Nat} {P : List Nat → World → Prop} (hP : Fixed P) {rb b : Nat} {r d : DevD} {w : World} (h : One B (Both P (RefF rb r)) b d w)
include hP h
theorem or_read (l : Int × Int) (hlen : r.waits.length ≤ 100000) : Calls Try.prog 13 #[.pointer (some ⟨rb, 0, none⟩), locV l] w fun e w' => e = .returned (.tuple #[.string (rtell r l), .int .i64 (chkD r l 0)]) ∧ One B (Both P (RefF rb r)) b d w' ∧ Below B w w' := by
  obtain ⟨p, rfl, h3, _, hs⟩ := one_ref hP h
  refine (rread_any p r l w h3 hlen).mono ?_
  rintro e w' ⟨rfl, hb⟩
  exact ⟨rfl, hs r w' (RefTo.same h3 hb)⟩
theorem or_write (l : Int × Int) (s : ByteArray) (hlen : r.waits.length ≤ 100000) : Calls Try.prog 24 #[.pointer (some ⟨rb, 0, none⟩), locV l, .string s] w fun e w' => e = .returned (.int .i64 (chkD r l s.size)) ∧ One B (Both P (RefF rb (writeD r l s))) b d w' ∧ Below B w w' := by
  obtain ⟨p, rfl, h3, _, hs⟩ := one_ref hP h
  refine (rwrite_any p r l s w h3 hlen).mono ?_
  rintro e w' ⟨rfl, ht⟩
  exact ⟨rfl, hs _ w' ht⟩
theorem or_flush (hlen : r.waits.length ≤ 100000) : Calls Try.prog 25 #[.pointer (some ⟨rb, 0, none⟩)] w fun e w' => e = .returned (.int .i64 0) ∧ One B (Both P (RefF rb (endD r r.waits))) b d w' ∧ Below B w w' := by
  obtain ⟨p, rfl, h3, _, hs⟩ := one_ref hP h
  refine (rflush_any p r w h3 hlen).mono ?_
  rintro e w' ⟨rfl, ht⟩
  exact ⟨rfl, hs _ w' ht⟩
theorem or_crash (ka : Option Addr) (kc : Nat) (keep : List Bool) (hk : Sl w Value.bool ka keep) (hka : keep ≠ [] → ∀ g off, ka = some ⟨g, off, none⟩ → g < B) (hlen : r.waits.length ≤ 100000) : Calls Try.prog 26 #[.pointer (some ⟨rb, 0, none⟩), .slice ka keep.length kc] w fun e w' => e = .returned (.int .i64 0) ∧ One B (Both P (RefF rb (crashD r keep))) b d w' ∧ Below B w w' := by
  obtain ⟨p, rfl, h3, hge, hs⟩ := one_ref hP h
  refine (rcrash_any p r ka kc keep w h3 hk (fun hne g off e hm => by have := hge g hm; have := hka hne g off e; omega) hlen).mono ?_
  rintro e w' ⟨rfl, ht⟩
  exact ⟨rfl, hs _ w' ht⟩
theorem or_spoil (l : Int × Int) (s : ByteArray) (hlen : r.waits.length ≤ 100000) : Calls Try.prog 27 #[.pointer (some ⟨rb, 0, none⟩), locV l, .string s] w fun e w' => e = .returned (.int .i64 (chkD r l s.size)) ∧ One B (Both P (RefF rb (spoilD r l s))) b d w' ∧ Below B w w' := by
  obtain ⟨p, rfl, h3, _, hs⟩ := one_ref hP h
  refine (rspoil_any p r l s w h3 hlen).mono ?_
  rintro e w' ⟨rfl, ht⟩
  exact ⟨rfl, hs _ w' ht⟩
theorem or_lose (dev : Int) (hlen : r.waits.length ≤ 100000) : Calls Try.prog 28 #[.pointer (some ⟨rb, 0, none⟩), .int .i64 dev] w fun e w' => e = .returned (.int .i64 (loseE dev)) ∧ One B (Both P (RefF rb (loseD r dev))) b d w' ∧ Below B w w' := by
  obtain ⟨p, rfl, h3, _, hs⟩ := one_ref hP h
  refine (rlose_any p r dev w h3 hlen).mono ?_
  rintro e w' ⟨rfl, ht⟩
  exact ⟨rfl, hs _ w' ht⟩
theorem or_waits (hlen : r.waits.length ≤ 10000) : Calls Try.prog 11 #[.pointer (some ⟨rb, 0, none⟩)] w fun e w' => ∃ v, e = .returned v ∧ Prs w' w.heap.size v (r.waits.map (·.1)) ∧ Below w.heap.size w w' := by
  obtain ⟨p, rfl, h3, _, hs⟩ := one_ref hP h
  exact rwaits_any p r w h3 hlen
end
/-- A new one, beside devices. -/
theorem or_new {B : Nat} {P : List Nat → World → Prop} (hP : Fixed P) {b : Nat} {d : DevD} {w : World} (h : One B P b d w) (m n : Nat) (hm : 1 ≤ m ∧ m ≤ 512) (hn : 1 ≤ n ∧ n ≤ 512) :
    Calls Try.prog 7 #[.int .i64 m, .int .i64 n] w fun e w' => ∃ rb, e = .returned (.pointer (some ⟨rb, 0, none⟩)) ∧ One B (Both P (RefF rb (newD m n))) b d w' ∧ Below B w w' := by
  refine (rnew_ok m n w hm hn).mono ?_
  rintro e w' ⟨p, rfl, hr, hf, hb⟩
  obtain ⟨hz, F, G, h1, h2, h3, h4⟩ := h
  have hc : Chg [] w w' := Chg.of hb (Nat.le_refl _)
  refine ⟨p.b, rfl, ⟨Nat.le_trans hz hb.size, F, G ++ p.fp, (fixed_dev b d).keep _ _ _ _ h1 hc (fun _ _ h => by cases h), ⟨G, p.fp, rfl, hP.keep _ _ _ _ h2 hc (fun _ _ h => by cases h), ⟨p, rfl, hr, rfl⟩, fun k hk hm => ?_⟩, fun k hk => ⟨(h3 k hk).1, fun hm => ?_⟩, fun k hk => ?_⟩, hb.mono hz⟩
  · have := hP.lt _ _ h2 k hk
    have := hf k hm
    omega
  · rcases List.mem_append.1 hm with hm | hm
    · exact (h3 k hk).2 hm
    · have := (fixed_dev b d).lt _ _ h1 k hk
      have := hf k hm
      omega
  · rcases List.mem_append.1 hk with hm | hm
    · exact h4 k hm
    · have := hf k hm
      omega
end Go.Proofs.Ytflobdhhjfpcdaa
