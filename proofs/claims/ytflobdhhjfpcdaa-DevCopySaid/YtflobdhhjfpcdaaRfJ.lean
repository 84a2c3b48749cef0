/-
  The reference's devices: New.
-/
import Derived.Test.YtflobdhhjfpcdaaRfI
namespace Go.Proofs.Ytflobdhhjfpcdaa
open Go.RowKit Go.ChangeShapes Go.WideShapes Go.ChangeAt

theorem rnew_bad (a b : Int) (w : World) (h : ¬ ((1 ≤ a ∧ a ≤ 512) ∧ (1 ≤ b ∧ b ≤ 512))) : Calls Try.prog 7 #[.int .i64 a, .int .i64 b] w fun e w' => e = .returned (.pointer none) ∧ w = w' := by
  by_cases h1 : a < 1
  · have d1 : decide (a < 1) = true := decide_eq_true h1
    clear h h1
    go_enter Try.func7, Try.ntmps7
    go_wp2
    go_ret
    exact ⟨rfl, rfl⟩
  have d1 : decide (a < 1) = false := decide_eq_false h1
  by_cases h2 : 512 < a
  · have d2 : decide (512 < a) = true := decide_eq_true h2
    clear h h1 h2
    go_enter Try.func7, Try.ntmps7
    go_wp2
    go_ret
    exact ⟨rfl, rfl⟩
  have d2 : decide (512 < a) = false := decide_eq_false h2
  by_cases h3 : b < 1
  · have d3 : decide (b < 1) = true := decide_eq_true h3
    clear h h1 h2 h3
    go_enter Try.func7, Try.ntmps7
    go_wp2
    go_ret
    exact ⟨rfl, rfl⟩
  have d3 : decide (b < 1) = false := decide_eq_false h3
  have h4 : 512 < b := by omega
  have d4 : decide (512 < b) = true := decide_eq_true h4
  clear h h1 h2 h3 h4
  go_enter Try.func7, Try.ntmps7
  go_wp2
  go_ret
  exact ⟨rfl, rfl⟩

def NewRef (w : World) (m n : Nat) (e : Ending) (w' : World) : Prop := ∃ p : RefP, e = .returned (.pointer (some ⟨p.b, 0, none⟩)) ∧ RefAt w' p (newD m n) ∧ (∀ k ∈ p.fp, w.heap.size ≤ k) ∧ Below w.heap.size w w'
/-- Five blocks made one behind the other. -/
def sel5 (o0 o1 o2 o3 o4 : Obj) : Nat → Obj
  | 0 => o0 | 1 => o1 | 2 => o2 | 3 => o3 | _ => o4
def Five (w W : World) (o : Nat → Obj) : Prop := (∀ k, k < 5 → W.heap[w.heap.size + k]? = some (o k)) ∧ Below w.heap.size w W
theorem five (w : World) (o0 o1 o2 o3 o4 : Obj) : Five w (((((w.alloc o0).alloc o1).alloc o2).alloc o3).alloc o4).drew (sel5 o0 o1 o2 o3 o4) := by
  have b0 := (Below.refl w.heap.size w).alloc (Nat.le_refl _) o0
  have b1 := b0.alloc b0.size o1
  have b2 := b1.alloc b1.size o2
  have b3 := b2.alloc b2.size o3
  have b4 := b3.alloc b3.size o4
  have s1 : (w.alloc o0).heap.size = w.heap.size + 1 := size_alloc ..
  have s2 : ((w.alloc o0).alloc o1).heap.size = w.heap.size + 2 := by rw [size_alloc, s1]
  have s3 : (((w.alloc o0).alloc o1).alloc o2).heap.size = w.heap.size + 3 := by rw [size_alloc, s2]
  have s4 : ((((w.alloc o0).alloc o1).alloc o2).alloc o3).heap.size = w.heap.size + 4 := by rw [size_alloc, s3]
  have g : ∀ (V : World) (o : Obj), (V.alloc o).heap[V.heap.size]? = some o := fun V o => (MapKept.heap_alloc V o).1
  have k : ∀ (V : World) (o : Obj) (i : Nat), i < V.heap.size → (V.alloc o).heap[i]? = V.heap[i]? := fun V o i hi => ((Below.refl V.heap.size V).alloc (Nat.le_refl _) o).block i hi
  refine ⟨fun i hi => ?_, b4.drew⟩
  show (World.alloc _ _).heap[_]? = _
  match i, hi with
  | 0, _ => rw [k _ _ _ (by rw [s4]; omega), k _ _ _ (by rw [s3]; omega), k _ _ _ (by rw [s2]; omega), k _ _ _ (by rw [s1]; omega)]; exact g w o0
  | 1, _ => rw [k _ _ _ (by rw [s4]; omega), k _ _ _ (by rw [s3]; omega), k _ _ _ (by rw [s2]; omega), ← s1]; exact g _ o1
  | 2, _ => rw [k _ _ _ (by rw [s4]; omega), k _ _ _ (by rw [s3]; omega), ← s2]; exact g _ o2
  | 3, _ => rw [k _ _ _ (by rw [s4]; omega), ← s3]; exact g _ o3
  | 4, _ => rw [← s4]; exact g _ o4
theorem strs_at {W : World} {g n : Nat} (h : W.heap[g]? = some (.cells (madeCells #[Value.string ⟨#[]⟩] n) 9)) (hn : n ≤ 1000) : Strs W g n (List.replicate n emp) := by
  refine ⟨by simp, .inr ⟨g, n, _, by simp, Nat.zero_le _, h, by simp, by unfold maxLen; omega, by simp [size_madeCells], ?_⟩⟩
  apply List.ext_getElem?
  intro i
  by_cases hi : i < n
  · simp [madeCells, hi, Nat.mod_one, emp]
  · simp [madeCells, hi]
theorem rnew_of {w W : World} {m n : Nat} {o : Nat → Obj} (h : Five w W o) (hm : 1 ≤ m ∧ m ≤ 512) (hn : 1 ≤ n ∧ n ≤ 512) (k0 k1 kg ks : Nat)
    (a0 : o k0 = .cells (madeCells #[Value.string ⟨#[]⟩] m) 9) (a1 : o k1 = .cells (madeCells #[Value.string ⟨#[]⟩] n) 9) (ag : o kg = .cells (madeCells #[Value.bool false] 2) 4)
    (as_ : o ks = .cells #[.slice (some ⟨w.heap.size + k0, 0, none⟩) m m, .slice (some ⟨w.heap.size + k1, 0, none⟩) n n] 53)
    (ab : o 4 = .cells #[.slice (some ⟨w.heap.size + ks, 0, none⟩) 2 2, .slice (some ⟨w.heap.size + kg, 0, none⟩) 2 2, .slice none 0 0] 45)
    (hk : k0 < 4 ∧ k1 < 4 ∧ kg < 4 ∧ ks < 4 ∧ k0 ≠ k1 ∧ k0 ≠ kg ∧ k0 ≠ ks ∧ k1 ≠ kg ∧ k1 ≠ ks ∧ kg ≠ ks) : NewRef w m n (.returned (.pointer (some ⟨w.heap.size + 4, 0, none⟩))) W := by
  obtain ⟨hf, hb⟩ := h
  obtain ⟨l0, l1, lg, ls, n1, n2, n3, n4, n5, n6⟩ := hk
  have f0 := hf k0 (by omega)
  have f1 := hf k1 (by omega)
  have fg := hf kg (by omega)
  have fs := hf ks (by omega)
  have fb := hf 4 (by omega)
  rw [a0] at f0
  rw [a1] at f1
  rw [ag] at fg
  rw [as_] at fs
  rw [ab] at fb
  refine ⟨⟨w.heap.size + 4, w.heap.size + ks, w.heap.size + kg, w.heap.size + k0, w.heap.size + k1, m, n, .slice none 0 0⟩, rfl, ⟨fb, ?_, ?_, strs_at f0 (Nat.le_trans hm.2 (by decide)), strs_at f1 (Nat.le_trans hn.2 (by decide)), Rws.nil _, ?_, ?_, ?_, fun x hx => by cases hx⟩, ?_, hb⟩
  · show W.heap[_]? = _
    rw [fs]
    simp [newD, newS]
  · show W.heap[_]? = _
    rw [fg]
    have e : madeCells #[Value.bool false] 2 = #[.bool false, .bool false] := by
      apply Array.ext
      · simp [madeCells]
      · intro i h1 h2
        have h3 : i < 2 := h2
        match i, h3 with
        | 0, _ => simp [madeCells]
        | 1, _ => simp [madeCells]
    rw [e]
    rfl
  · simp [RefP.fp, Value.ownBlock]
    omega
  · show 1 ≤ (List.replicate m emp).length ∧ (List.replicate m emp).length ≤ 512
    rw [List.length_replicate]; exact hm
  · show 1 ≤ (List.replicate n emp).length ∧ (List.replicate n emp).length ≤ 512
    rw [List.length_replicate]; exact hn
  · intro k hk
    simp [RefP.fp, Value.ownBlock] at hk
    omega
set_option maxRecDepth 100000 in
set_option maxHeartbeats 4000000 in
theorem rnew_ok (m n : Nat) (w : World) (hm : 1 ≤ m ∧ m ≤ 512) (hn : 1 ≤ n ∧ n ≤ 512) : Calls Try.prog 7 #[.int .i64 m, .int .i64 n] w (NewRef w m n) := by
  have h0 := fun W => run_make_row' (P := Try.prog) 53 9 (.string ⟨#[]⟩) 16 Try.underlying53 infoStr rfl .i64 .i64 m (by omega) (by omega) W
  have h1 := fun W => run_make_row' (P := Try.prog) 53 9 (.string ⟨#[]⟩) 16 Try.underlying53 infoStr rfl .i64 .i64 n (by omega) (by omega) W
  have h2 : ∀ W : World, (Instr.makeSlice 30 (.int .i64 2) (.int .i64 2)).run Try.prog W = .ok (.slice (some ⟨W.heap.size, 0, none⟩) 2 2) (W.alloc (.cells (madeCells #[Value.bool false] 2) 4)) := fun W => run_make_row' (P := Try.prog) 30 4 (.bool false) 1 Try.underlying30 infoBoolR rfl .i64 .i64 2 (by omega) (by omega) W
  have d1 : ¬ (m : Int) < 1 := by omega
  have d2 : ¬ (512 : Int) < (m : Int) := by omega
  have d3 : ¬ (n : Int) < 1 := by omega
  have d4 : ¬ (512 : Int) < (n : Int) := by omega
  have HM := Lib.hid (And.intro hm hn)
  clear hm hn
  go_enter Try.func7, Try.ntmps7
  go_wp2_with fail
  go_region
  all_goals
    go_wp2
    go_ret
    first
      | exact rnew_of (five w _ _ _ _ _) HM.out.1 HM.out.2 0 1 2 3 rfl rfl rfl rfl rfl (by decide)
      | exact rnew_of (five w _ _ _ _ _) HM.out.1 HM.out.2 0 1 3 2 rfl rfl rfl rfl rfl (by decide)
      | exact rnew_of (five w _ _ _ _ _) HM.out.1 HM.out.2 1 0 2 3 rfl rfl rfl rfl rfl (by decide)
      | exact rnew_of (five w _ _ _ _ _) HM.out.1 HM.out.2 1 0 3 2 rfl rfl rfl rfl rfl (by decide)
      | exact rnew_of (five w _ _ _ _ _) HM.out.1 HM.out.2 0 2 1 3 rfl rfl rfl rfl rfl (by decide)
      | exact rnew_of (five w _ _ _ _ _) HM.out.1 HM.out.2 2 0 1 3 rfl rfl rfl rfl rfl (by decide)
      | exact rnew_of (five w _ _ _ _ _) HM.out.1 HM.out.2 1 2 0 3 rfl rfl rfl rfl rfl (by decide)
      | exact rnew_of (five w _ _ _ _ _) HM.out.1 HM.out.2 2 1 0 3 rfl rfl rfl rfl rfl (by decide)
end Go.Proofs.Ytflobdhhjfpcdaa
