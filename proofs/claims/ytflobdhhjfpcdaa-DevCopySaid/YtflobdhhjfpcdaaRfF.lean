/-
  The reference's devices: Flush.
-/
import Derived.Test.YtflobdhhjfpcdaaRfE
import Derived.Deep.OwnRows
namespace Go.Proofs.Ytflobdhhjfpcdaa
open Go.RowKit Go.ChangeShapes Go.WideShapes Go.ChangeAt

theorem infoBoolR : (Try.prog.info? 4).map (fun i => (i.zero, i.size, i.bytes)) = some (some (.bool false), 1, 1) := by kernel_rfl
theorem keptL_all (l : List WrD) : keptL l (List.replicate l.length true) = l := by
  have h : ∀ k, k ≤ l.length → keptN l (List.replicate l.length true) k = l.take k := by
    intro k
    induction k with
    | zero => intro _; rfl
    | succ k ih =>
      intro hk
      rw [keptN_yes l _ k (by omega) (by rw [List.getD_eq_getElem?_getD, List.getElem?_replicate, if_pos (by omega)]; rfl), ih (by omega), List.take_succ_eq_append_getElem (by omega)]
  have := h l.length (Nat.le_refl _)
  rw [List.take_length] at this
  exact this
def flC (n k : Nat) : Array Value := ((List.replicate k true ++ List.replicate (n - k) false).map Value.bool).toArray
theorem flC_zero (n : Nat) : madeCells #[Value.bool false] n = flC n 0 := by
  apply Array.ext
  · simp [madeCells, flC]
  · intro i h1 h2
    simp [madeCells, flC, Nat.mod_one]
theorem flC_size (n k : Nat) (h : k ≤ n) : (flC n k).size = n := by
  simp [flC]
  omega
theorem flC_set (n k : Nat) (h : k < n) : (flC n k).setIfInBounds k (.bool true) = flC n (k + 1) := by
  apply Array.ext
  · simp [flC]
    omega
  · intro i h1 h2
    simp only [flC, List.setIfInBounds_toArray, List.getElem_toArray]
    by_cases e : k = i
    · subst e
      rw [List.getElem_set_self, List.getElem_map, List.getElem_append_left (by simp)]
      simp
    · rw [List.getElem_set_ne e, List.getElem_map, List.getElem_map]
      congr 1
      by_cases hi : i < k
      · rw [List.getElem_append_left (by simpa using hi), List.getElem_append_left (by simp; omega)]
        simp
      · rw [List.getElem_append_right (by simp; omega), List.getElem_append_right (by simp; omega)]
        simp
theorem flC_get (n k : Nat) (h : k < n) : (flC n k)[k]? = some (.bool false) := by
  simp only [flC, List.map_append, List.map_replicate, List.getElem?_toArray]
  rw [List.getElem?_append_right (by simp), List.length_replicate, Nat.sub_self, List.getElem?_replicate, if_pos (by omega)]
theorem flC_end (n : Nat) {w : World} {g : Nat} (h : Box w g 4 (flC n n)) : Sl w Value.bool (some ⟨g, 0, none⟩) (List.replicate n true) := fun _ => ⟨g, 0, rfl, h.lt, fun i x hx => by
  refine h.cell (0 + i) _ ?_
  obtain ⟨hi, rfl⟩ := List.getElem?_eq_some_iff.1 hx
  simp at hi
  simp [flC, hi]⟩

set_option maxRecDepth 100000 in
set_option maxHeartbeats 4000000 in
theorem rflush_any (p : RefP) (d : DevD) (w : World) (h : RefAt w p d) (hlen : d.waits.length ≤ 100000) :
    Calls Try.prog 25 #[.pointer (some ⟨p.b, 0, none⟩)] w fun e w' => e = .returned (.int .i64 0) ∧ RefTo p (endD d d.waits) w w' := by
  have hmk := fun W => run_make_row' (P := Try.prog) 30 4 (.bool false) 1 Try.underlying30 infoBoolR rfl .i64 .i64 d.waits.length (by omega) (by omega) W
  have HP := Lib.hid h.lt
  have HL := Lib.hid hlen
  have HE : Hid (crashD d (List.replicate d.waits.length true) = endD d d.waits) := by show endD d _ = _; rw [keptL_all]
  obtain ⟨wa, wc, hwv, _⟩ := h.wt.view
  have g2 := h.box.cell 2 _ rfl
  rw [hwv] at g2
  have H := Lib.hid h
  clear h hlen hwv
  rw [flC_zero] at hmk
  go_enter Try.func25, Try.ntmps25
  go_wp2
  have hx := (Below.refl w.heap.size w).alloc (Nat.le_refl _) (.cells (flC d.waits.length 0) 4)
  have B0 := Lib.hid (Box.new w 4 (flC d.waits.length 0))
  have L0 := Lib.hid hx
  clear hmk g2 hx
  generalize World.alloc w _ = w0 at *
  obtain ⟨g, hg⟩ : ∃ g, g = w.heap.size := ⟨_, rfl⟩
  have HG := Lib.hid hg
  rw [← hg] at B0 ⊢
  clear hg
  obtain ⟨n, hn⟩ : ∃ n, n = d.waits.length := ⟨_, rfl⟩
  have HN := Lib.hid hn
  rw [← hn] at B0 HE ⊢
  have hn1 : n ≤ 100000 := by have := HL.out; omega
  clear hn
  go_loopw [4] (fun i wr => ∃ j : Nat, j ≤ n ∧ i = .int .i64 j ∧ Hid (Box wr g 4 (flC n j) ∧ Below w.heap.size w wr)) (fun i _ => n - (RowKit.intOf i).toNat)
  case atStart => exact ⟨0, Nat.zero_le _, rfl, B0.out, L0.out⟩
  case round =>
    clear B0 L0
    obtain ⟨j, hj, rfl, HJ⟩ := hrel
    by_cases hlt : j < n
    · have hj0 : (0 : Int) ≤ (j : Int) := by omega
      have hjl : (j : Int) < (n : Int) := by omega
      have hjh : (j : Int) ≤ 100000 := by omega
      have c0 := HJ.out.1.cell j _ (flC_get n j hlt)
      have f0 := HJ.out.1.free j
      have J2 : Hid (Box (wr.setCell ⟨g, j, none⟩ (.bool true)) g 4 (flC n (j + 1)) ∧ Below w.heap.size w (wr.setCell ⟨g, j, none⟩ (.bool true))) := by
        refine ⟨?_, HJ.out.2.setCell (p := ⟨g, j, none⟩) (by have := HG.out; show w.heap.size ≤ g; omega) _⟩
        rw [← flC_set n j hlt]
        exact HJ.out.1.set j _
      clear HJ
      go_wp2
      go_roundw
      case rel => exact ⟨j + 1, hlt, by go_num, J2⟩
      case measure => simp [RowKit.intOf]; omega
    · obtain rfl : j = n := by omega
      clear hj hlt
      have hcr := rcrash_any p d (some ⟨g, 0, none⟩) j (List.replicate j true) wr (H.out.keep HJ.out.2) (flC_end j HJ.out.1) (fun _ b off e hm => by
        injection e with e
        injection e with e1 _ _
        have := HP.out b hm
        have := HG.out
        omega) HL.out
      rw [List.length_replicate, HE.out] at hcr
      have HCR := Lib.hid hcr
      have L1 := Lib.hid HJ.out.2
      clear hcr HJ
      go_wp2_with fail
      refine HCR.out.mono ?_
      rintro e w2 ⟨rfl, hto⟩
      have HTO := Lib.hid (hto.ahead L1.out)
      clear hto HCR L1
      go_wp2
      go_ret
      exact ⟨rfl, HTO.out⟩
end Go.Proofs.Ytflobdhhjfpcdaa
