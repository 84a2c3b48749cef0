/-
  Contracts of package node: what may be, sizes.
-/
import Derived.Test.YtlkkgboaicjaiaaNodeE
import Derived.Test.YtlkkgboaicjaiaaKeysS
import Derived.Test.YtlkkgboaicjaiaaSched3
namespace Go.Proofs.Ytlkkgboaicjaiaa
open Go.RowKit Go.ChangeShapes Go.WideShapes Go.ChangeAt

theorem Sl.keep {w w' : World} {f : ByteArray → Value} {a : Option Addr} {l : List ByteArray} (h : Sl w f a l) (hb : Below w.heap.size w w') : Sl w' f a l := by
  intro hne
  obtain ⟨b, off, e, hlt, hc⟩ := h hne
  exact ⟨b, off, e, Nat.lt_of_lt_of_le hlt hb.size, fun i x hx => (hb.cell (p := ⟨b, off + i, none⟩) hlt).trans (hc i x hx)⟩
theorem Sl.get {w : World} {a : Option Addr} {l : List ByteArray} (h : Sl w Value.string a l) (k : Nat) (hk : k < l.length) : ∃ b off, a = some ⟨b, off, none⟩ ∧ b < w.heap.size ∧ w.cell? ⟨b, off + k, none⟩ = some (.string l[k]) := by
  obtain ⟨b, off, e, hlt, hc⟩ := h (by intro e; rw [e] at hk; simp at hk)
  exact ⟨b, off, e, hlt, hc k _ (List.getElem?_eq_getElem hk)⟩
def nodeV (ka : Option Addr) (kc : Nat) (va : Option Addr) (vc : Nat) (d : NodeD) : Value := .agg #[.bool d.leaf, .slice ka d.keys.length kc, .slice va d.vals.length vc]
/-- What lies in a node's slices, and how many there may be. -/
structure NodeIn (w : World) (ka va : Option Addr) (d : NodeD) : Prop where
  ks : Sl w Value.string ka d.keys
  vs : Sl w Value.string va d.vals
  kl : d.keys.length ≤ 100000
  vl : d.vals.length ≤ 100000
theorem NodeIn.keep {w w' : World} {ka va : Option Addr} {d : NodeD} (h : NodeIn w ka va d) (hb : Below w.heap.size w w') : NodeIn w' ka va d := ⟨h.ks.keep hb, h.vs.keep hb, h.kl, h.vl⟩

theorem maystand_any (k v : ByteArray) (w : World) (hk : k.size ≤ maxLen) (hv : v.size ≤ maxLen) : Calls Try.prog 54 #[.string k, .string v] w fun e w' => e = .returned (.bool (okE k v)) ∧ w = w' := by
  unfold maxLen at hk hv
  by_cases h0 : 0 < k.size
  · obtain ⟨hs1, hs2⟩ := str_some k h0
    by_cases h1 : k.size ≤ 300
    · have e : okE k v = decide (v.size ≤ 120) := by unfold okE; simp [h0, h1]
      rw [e]
      go_enter Try.func54, Try.ntmps54
      go_wp2
      go_ret
      exact ⟨ret_bool (decide_eq_decide.2 (by omega)), rfl⟩
    · have e : okE k v = false := by unfold okE; simp [h1]
      rw [e]
      go_enter Try.func54, Try.ntmps54
      go_wp2
      go_ret
      exact ⟨rfl, rfl⟩
  · have e : okE k v = false := by unfold okE; simp [h0]
    rw [e]
    have : k = ⟨#[]⟩ := by
      have h1 : k.data.size = 0 := by have : k.data.size = k.size := rfl; omega
      cases k; simp_all
    subst this
    go_enter Try.func54, Try.ntmps54
    go_wp2
    go_ret
    exact ⟨rfl, rfl⟩
theorem str_leq0 (x y : ByteArray) (W : World) : (binOp .leq 9 (.string x) (.string y)).run Try.prog W = .ok (.bool (Op.bytesLess x.toList y.toList || (x.toList == y.toList))) W := by kernel_rfl
theorem str_leq (x y : ByteArray) (W : World) : (binOp .leq 9 (.string x) (.string y)).run Try.prog W = .ok (.bool (!ltK y x)) W := by rw [str_leq0, leK_eq]
theorem str_geq (x y : ByteArray) (W : World) : (binOp .geq 9 (.string x) (.string y)).run Try.prog W = .ok (.bool (!ltK x y)) W := by kernel_rfl
theorem str_gtr0 (x y : ByteArray) (W : World) : (binOp .gtr 9 (.string x) (.string y)).run Try.prog W = .ok (.bool (!(Op.bytesLess x.toList y.toList || (x.toList == y.toList)))) W := by kernel_rfl
theorem str_gtr (x y : ByteArray) (W : World) : (binOp .gtr 9 (.string x) (.string y)).run Try.prog W = .ok (.bool (ltK y x)) W := by rw [str_gtr0, leK_eq, Bool.not_not]

/-- The key ahead of place k. -/
def lastK (l : List ByteArray) : Nat → ByteArray
  | 0 => ⟨#[]⟩
  | k + 1 => l.getD k ⟨#[]⟩
theorem may_step (d : NodeD) (k : Nat) (h1 : k < d.keys.length) (h2 : k < d.vals.length) : mayG (lastK d.keys k) (d.keys.drop k) (d.vals.drop k) = (ltK (lastK d.keys k) d.keys[k] && (okE d.keys[k] d.vals[k] && mayG (lastK d.keys (k + 1)) (d.keys.drop (k + 1)) (d.vals.drop (k + 1)))) := by
  rw [List.drop_eq_getElem_cons h1, List.drop_eq_getElem_cons h2, mayG]
  simp [lastK, List.getD, h1]
set_option maxHeartbeats 1000000 in
theorem maybe_any (ka : Option Addr) (kc : Nat) (va : Option Addr) (vc : Nat) (d : NodeD) (w : World) (h : NodeIn w ka va d) (hz : ∀ s ∈ d.keys ++ d.vals, s.size ≤ maxLen) :
    Calls Try.prog 39 #[nodeV ka kc va vc d] w fun e w' => e = .returned (.bool (mayD d)) ∧ Below w.heap.size w w' := by
  have H := Lib.hid h
  have HZ := Lib.hid hz
  have hkl := h.kl
  have hvl := h.vl
  have HB0 : Hid (∀ o, Below w.heap.size w (w.alloc o)) := fun o => (Below.refl _ _).alloc (Nat.le_refl _) o
  clear h hz
  unfold nodeV
  by_cases h1 : d.keys.length = d.vals.length
  · by_cases h2 : d.keys.length ≤ 255
    · have hm : mayD d = mayG ⟨#[]⟩ d.keys d.vals := by unfold mayD; simp [h1, show d.vals.length ≤ 255 by omega]
      obtain ⟨R, hR⟩ : ∃ R, R = mayD d := ⟨_, rfl⟩
      rw [← hR]
      have HR : Hid (R = mayG (lastK d.keys 0) (d.keys.drop 0) (d.vals.drop 0)) := by show _ = _; rw [hR, hm]; rfl
      have H1 := Lib.hid h1
      clear hR hm
      have e1 : ((d.keys.length : Int) != (d.vals.length : Int)) = false := by rw [h1]; simp
      clear h1
      go_enter Try.func39, Try.ntmps39
      go_wp2_with fail
      go_loopw [3, 4, 5, 22] (fun t _ _ i wr => ∃ k : Nat, k ≤ d.keys.length ∧ t = .string (lastK d.keys k) ∧ i = .int .i64 k ∧ Hid (R = mayG (lastK d.keys k) (d.keys.drop k) (d.vals.drop k)) ∧ Hid (NodeIn wr ka va d) ∧ Hid (Below w.heap.size w wr) ∧ Hid (Box wr w.heap.size 30 #[.bool d.leaf, .slice ka d.keys.length kc, .slice va d.vals.length vc])) (fun _ _ _ i _ => d.keys.length - (intOf i).toNat)
      case atStart => exact ⟨0, Nat.zero_le _, rfl, rfl, HR, H.out.keep (HB0.out _), HB0.out _, Box.new _ _ _⟩
      case round =>
        obtain ⟨k, hk, rfl, rfl, HG, HN, HL, HX⟩ := hrel
        by_cases hlt : k < d.keys.length
        · have h2v : k < d.vals.length := by have := H1.out; omega
          obtain ⟨b, off, hka, _, hc⟩ := HN.out.ks.get k hlt
          obtain ⟨b2, off2, hva, _, hc2⟩ := HN.out.vs.get k h2v
          subst hka hva
          have HS := Lib.hid (may_step d k hlt h2v)
          have z1 := HZ.out d.keys[k] (by simp)
          have z2 := HZ.out d.vals[k] (by simp)
          have c2 := HX.out.cell 2 _ rfl
          have hle := fun W => str_leq d.keys[k] (lastK d.keys k) W
          have hlk : Hid (lastK d.keys (k + 1) = d.keys[k]) := by show _ = _; simp [lastK, List.getD, hlt]
          have h1i : (k : Int) < (d.keys.length : Int) := by omega
          have h2i : (k : Int) < (d.vals.length : Int) := by omega
          generalize d.keys[k] = x at *
          generalize d.vals[k] = y at *
          generalize lastK d.keys k = t at *
          cases hg : ltK t x
          · have hq : ∀ W, (binOp .leq 9 (.string x) (.string t)).run Try.prog W = .ok (.bool true) W := fun W => by rw [hle W, hg]; rfl
            have HF : Hid (R = false) := by show _ = _; rw [HG.out, HS.out, hg]; rfl
            clear hle hg
            go_wp2
            go_ret
            exact ⟨ret_bool HF.out.symm, HL.out⟩
          · have hq : ∀ W, (binOp .leq 9 (.string x) (.string t)).run Try.prog W = .ok (.bool false) W := fun W => by rw [hle W, hg]; rfl
            have HT : Hid (R = (okE x y && mayG (lastK d.keys (k + 1)) (d.keys.drop (k + 1)) (d.vals.drop (k + 1)))) := by show _ = _; rw [HG.out, HS.out, hg]; rfl
            clear hle hg
            go_wp2_with fail
            refine (maystand_any x y _ z1 z2).mono ?_
            rintro e w1 ⟨rfl, rfl⟩
            cases ho : okE x y
            · have HF : Hid (R = false) := by show _ = _; rw [HT.out, ho]; rfl
              clear ho
              go_wp2
              go_ret
              exact ⟨ret_bool HF.out.symm, HL.out⟩
            · have HT2 : Hid (R = mayG (lastK d.keys (k + 1)) (d.keys.drop (k + 1)) (d.vals.drop (k + 1))) := by show _ = _; rw [HT.out, ho]; rfl
              clear ho
              go_wp2
              go_roundw
              case rel => exact ⟨k + 1, by omega, by rw [hlk.out], by go_num, HT2, HN, HL, HX⟩
              case measure => simp [intOf]; omega
        · have hkl : k = d.keys.length := by omega
          have HF : Hid (R = true) := by
            show _ = _
            have := H1.out
            rw [HG.out, List.drop_of_length_le (by omega), List.drop_of_length_le (by omega)]; rfl
          subst hkl
          go_wp2
          go_ret
          exact ⟨ret_bool HF.out.symm, HL.out⟩
    · have HM : Hid (mayD d = false) := by show _ = _; unfold mayD; simp [h2]
      rw [HM.out]
      have e1 : ((d.keys.length : Int) != (d.vals.length : Int)) = false := by rw [h1]; simp
      clear h1
      go_enter Try.func39, Try.ntmps39
      go_wp2
      go_ret
      exact ⟨rfl, HB0.out _⟩
  · have HM : Hid (mayD d = false) := by show _ = _; unfold mayD; simp [h1]
    rw [HM.out]
    have e1 : ((d.keys.length : Int) != (d.vals.length : Int)) = true := by simpa using fun h => h1 (by exact_mod_cast h)
    clear h1
    go_enter Try.func39, Try.ntmps39
    go_wp2
    go_ret
    exact ⟨rfl, HB0.out _⟩
end Go.Proofs.Ytlkkgboaicjaiaa
