/-
  Find; slices.Clone of strings; own, between.
-/
import Derived.Test.YtlkkgboaicjaiaaNodeC
namespace Go.Proofs.Ytlkkgboaicjaiaa
open Go.RowKit Go.ChangeShapes Go.WideShapes Go.ChangeAt

theorem may_up {d : NodeD} (h : mayD d = true) : Up d.keys := by
  obtain ⟨E, e, hE, _⟩ := may_of h
  rw [e]; exact hE.up
set_option maxHeartbeats 1000000 in
theorem find_any (ka : Option Addr) (kc : Nat) (va : Option Addr) (vc : Nat) (d : NodeD) (key : ByteArray) (w : World) (h : NodeIn w ka va d) (hz : ∀ s ∈ d.keys ++ d.vals, s.size ≤ maxLen) :
    Calls Try.prog 15 #[nodeV ka kc va vc d, .string key] w fun e w' => e = .returned (.tuple #[.int .i64 (findD d key).1, .bool (findD d key).2]) ∧ Below w.heap.size w w' := by
  have H := Lib.hid h
  have HZ := Lib.hid hz
  have HB0 : Hid (∀ o, Below w.heap.size w (w.alloc o)) := fun o => (Below.refl _ _).alloc (Nat.le_refl _) o
  clear h hz
  have HV : Hid (Value.agg #[.bool d.leaf, .slice ka d.keys.length kc, .slice va d.vals.length vc] = nodeV ka kc va vc d) := rfl
  obtain ⟨F, hF⟩ : ∃ F, F = findD d key := ⟨_, rfl⟩
  rw [← hF]
  unfold nodeV
  go_enter Try.func15, Try.ntmps15
  go_wp2_with fail
  rw [HV.out]
  refine (maybe_any ka kc va vc d _ (H.out.keep (HB0.out _)) HZ.out).mono ?_
  rintro e w1 ⟨rfl, hb⟩
  have HX : Hid (Box w1 w.heap.size 30 #[.bool d.leaf, .slice ka d.keys.length kc, .slice va d.vals.length vc]) := (Box.new _ _ _).keep hb (by rw [size_alloc]; omega)
  have HB1 := Lib.hid ((HB0.out _).trans (hb.mono (by rw [size_alloc]; omega)))
  have c1 := HX.out.cell 1 _ rfl
  clear hb
  cases hm : mayD d
  · have HF : Hid (F = (0, false)) := by show _ = _; rw [hF]; unfold findD; rw [hm]; rfl
    clear hF
    go_wp2
    go_ret2
    exact ⟨by rw [HF.out]; rfl, HB1.out⟩
  · have HU := Lib.hid (may_up hm)
    have hF2 : F = (if isK d.keys key = true then (cntK d.keys key, true) else (cntK d.keys key - 1, false)) := by rw [hF]; unfold findD; rw [if_pos hm]
    have hcl : cntK d.keys key ≤ d.keys.length := (List.takeWhile_prefix _).length_le
    have hkl := H.out.kl
    clear hF
    go_wp2_with fail
    refine (bsearch_any ka kc d.keys key _ (H.out.keep HB1.out).ks hkl HU.out).mono ?_
    rintro e w2 ⟨rfl, hb⟩
    have HB2 := Lib.hid (HB1.out.trans (hb.mono HB1.out.size))
    clear hb
    generalize cntK d.keys key = c at *
    generalize isK d.keys key = i at *
    cases i
    · have HF : Hid (F = (c - 1, false)) := hF2
      clear hF2
      rcases Nat.eq_zero_or_pos c with rfl | hc
      · go_wp2
        go_ret2
        exact ⟨by rw [HF.out]; rfl, HB2.out⟩
      · obtain ⟨q, rfl⟩ : ∃ q, c = q + 1 := ⟨c - 1, by omega⟩
        have w1 : wrap64 (((q + 1 : Nat) : Int) - 1) = (q : Int) := by rw [IntWalk.wrap64_in _ (by omega)]; omega
        have w2 : wrap64 ((q : Int) + 1 - 1) = (q : Int) := by rw [IntWalk.wrap64_in _ (by omega)]; omega
        have w3 : ¬ (q : Int) < 0 := by omega
        go_wp2
        go_ret2
        exact ⟨by rw [HF.out]; simp, HB2.out⟩
    · have HF : Hid (F = (c, true)) := hF2
      clear hF2
      go_wp2
      go_ret2
      exact ⟨by rw [HF.out]; rfl, HB2.out⟩

/-! Rows of strings, cloned. -/
set_option maxRecDepth 100000 in
set_option maxHeartbeats 1000000 in
theorem clone_sl (a : Option Addr) (cap : Nat) (l : List ByteArray) (w : World) (hs : Sl w Value.string a l) (hlen : l.length ≤ 100000) : Calls Try.prog 63 #[.slice a l.length cap] w fun e w' =>
    ∃ v', e = .returned v' ∧ Ks w' w.heap.size v' l ∧ Below w.heap.size w w' := by
  cases a with
  | none =>
    have hl : l = [] := by
      rcases Classical.em (l = []) with h | h
      · exact h
      · obtain ⟨b, off, e, _⟩ := hs h; cases e
    subst hl
    have hq := fun W => eq_nil_keys none 0 cap true rfl W
    clear hs
    go_enter Try.func63, Try.ntmps63
    go_wp2
    go_ret
    exact ⟨_, rfl, Ks.nil _ _, Below.refl _ _⟩
  | some ad =>
    have hq := fun W => eq_nil_keys (some ad) l.length cap false rfl W
    have HB0 : Hid (∀ o, Below w.heap.size w (w.alloc o)) := fun o => (Below.refl _ _).alloc (Nat.le_refl _) o
    have HC0 : Hid (∀ o j u, l[j]? = some u → (w.alloc o).cell? (ad.add j) = some (.string u)) := by
      intro o j u hu
      obtain ⟨b, off, e, hb, hc⟩ := hs (by rintro rfl; simp at hu)
      obtain rfl : ad = ⟨b, off, none⟩ := by injection e
      rw [add_plain, (HB0.out o).cell (p := ⟨b, off + j, none⟩) hb]
      exact hc j u hu
    have HN : Hid (∀ cs : Array Value, cs.size = 0 → Ks (w.alloc (.cells cs 9)) w.heap.size (.slice (some ⟨w.heap.size, 0, none⟩) 0 0) []) := fun cs hcs => by
      obtain rfl := Array.eq_empty_of_size_eq_zero hcs
      exact World.ownsRow_lit w #[] 0 (Nat.le_refl _) (by unfold maxLen; omega) (by simp)
    clear hs
    go_enter Try.func63, Try.ntmps63
    go_wp2_with (at_builtin; refine wp_keys_push _ rfl _ _ rfl w.heap.size _ [] rfl (HN.out _ rfl) ad l.length cap l rfl rfl (HC0.out _) (by simp; omega) (by rw [size_alloc]; omega) ?_)
    intro v' w' hk hg hob
    have HK : Hid (Ks w' w.heap.size v' l) := hk
    have hb : Below w.heap.size w w' := (HB0.out _).grown hg (by rw [size_alloc]; omega) (fun k hk => by simp [Value.ownBlock] at hk; omega)
    have HB := Lib.hid hb
    clear hk hg hob hb
    go_wp2
    go_ret
    exact ⟨_, rfl, HK.out, HB.out⟩
end Go.Proofs.Ytlkkgboaicjaiaa
