/-
  Texts put together: UberRM, UberRO, Rows2.
-/
import Derived.Test.YtkapbkkbkfmidaaDoorUberRD
import Derived.Test.YtkapbkkbkfmidaaDoorMg4
import Derived.Test.YtkapbkkbkfmidaaDoorMg0
import Derived.Deep.RegionLaw
import Derived.Maps.AppendAt
namespace Go.Proofs.YtkapbkkbkfmidaaDoor
open Go.RowKit

theorem bl_extract (s : ByteArray) (i j : Nat) : bl (s.extract i j) = ((bl s).drop i).take (j - i) := by
  unfold bl
  rw [ByteArray.data_extract, Array.toList_extract]

theorem bl_rbody (s : ByteArray) : bl (rbodyOf s) = (bl (bodyOf s)).drop 2 := by
  unfold rbodyOf bodyOf
  rw [bl_extract, bl_extract, List.drop_zero, Nat.sub_zero, List.drop_take]

theorem size_rbody (s : ByteArray) (h : ¬ s.size < 42) : (bodyOf s).size = s.size - 32 ∧ (rbodyOf s).size + 2 = (bodyOf s).size := by
  unfold rbodyOf bodyOf
  rw [ByteArray.size_extract, ByteArray.size_extract]
  omega

theorem valB_shift {b r : ByteArray} (hr : bl r = (bl b).drop 2) (hz : r.size + 2 = b.size) (k n : Nat) : valB r k n = valB b (k + 2) n := by
  by_cases h : k + n ≤ r.size
  · apply bl_ext
    rw [valB_bl _ _ _ h, valB_bl _ _ _ (by omega), hr]
    unfold vL
    rw [List.drop_drop, Nat.add_comm 2 k]
  · unfold valB
    rw [if_neg h, if_neg (by omega)]
theorem valN_shift {b r : ByteArray} (hr : bl r = (bl b).drop 2) (hz : r.size + 2 = b.size) (k n : Nat) : valN r k n = valN b (k + 2) n := by
  unfold valN; rw [valB_shift hr hz]
theorem posEnd_shift {b r : ByteArray} (hz : r.size + 2 = b.size) (k : Nat) : posEnd r k = posEnd b (k + 2) := by
  unfold posEnd
  by_cases h : k < r.size
  · rw [if_pos h, if_pos (by omega)]
  · by_cases h2 : k = r.size
    · rw [if_neg h, if_pos h2, if_neg (by omega), if_pos (by omega)]
    · rw [if_neg h, if_neg h2, if_neg (by omega), if_neg (by omega)]
theorem rraw_eq {b r : ByteArray} (hr : bl r = (bl b).drop 2) (hz : r.size + 2 = b.size) : rrawU r = rawU b := by
  unfold rrawU rawU
  rw [valN_shift hr hz, valN_shift hr hz, valB_shift hr hz]

theorem posEnd_zero {s : ByteArray} {k : Nat} (h : posEnd s k = 0) : k = s.size := by
  unfold posEnd at h
  split at h
  · cases h
  · split at h
    · assumption
    · cases h

theorem body_raw {b : ByteArray} (hm : valB b 0 2 = markB) (he : 10 + valN b 8 2 = b.size) (hu : mayU (rawU b)) : bodyU (rawU b) = b := by
  apply bl_ext
  have hz : ∀ k n, k + n ≤ b.size → (vL (bl b) k n).length = n := fun k n h => by
    unfold vL; rw [List.length_take, List.length_drop, bl_size]; omega
  have h0 : bl markB = vL (bl b) 0 2 := by rw [← hm, valB_bl _ _ _ (by omega)]
  have h1 : leList (valN b 2 6) 6 = vL (bl b) 2 6 := by
    have := leL_leVal (vL (bl b) 2 6)
    rw [hz 2 6 (by omega)] at this
    rw [valN_bl _ _ _ (by omega)]; exact this
  have h2 : leList (valN b 8 2) 2 = vL (bl b) 8 2 := by
    have := leL_leVal (vL (bl b) 8 2)
    rw [hz 8 2 (by omega)] at this
    rw [valN_bl _ _ _ (by omega)]; exact this
  have h3 : bl (valB b 10 (valN b 8 2)) = (bl b).drop 10 := by
    rw [valB_bl _ _ _ (by omega)]
    unfold vL
    rw [List.take_of_length_le]
    rw [List.length_drop, bl_size]; omega
  have h4 : (valB b 10 (valN b 8 2)).size = valN b 8 2 := by
    rw [← bl_size, h3, List.length_drop, bl_size]; omega
  rw [bodyU_bl hu]
  have j0 : vL (bl b) 0 2 ++ (bl b).drop 2 = (bl b).drop 0 := vL_join (bl b) 0 2
  have j1 : vL (bl b) 2 6 ++ (bl b).drop 8 = (bl b).drop 2 := vL_join (bl b) 2 6
  have j2 : vL (bl b) 8 2 ++ (bl b).drop 10 = (bl b).drop 8 := vL_join (bl b) 8 2
  unfold rawU
  simp only [Int.toNat_natCast]
  rw [h4, h1, h2, h3, j2, j1, show ([80, 70] : List UInt8) = bl markB from rfl, h0, j0, List.drop_zero]

theorem rdec_eq (s : ByteArray) : rdecU s = decU s := by
  by_cases h : s.size < 42
  · rw [show rdecU s = (ub0, 2) from if_pos h, show decU s = (ub0, 2) from if_pos h]
  · obtain ⟨hb, hz⟩ := size_rbody s h
    have hr := bl_rbody s
    by_cases hc : sha (bodyOf s) = sumOf' s
    · have hR : rdecU s = if posEnd (bodyOf s) (10 + valN (bodyOf s) 8 2) ≠ 0 ∨ (encU (rawU (bodyOf s))).2 ≠ 0 ∨ (encU (rawU (bodyOf s))).1 ≠ s then (ub0, 3) else (rawU (bodyOf s), 0) := by
        unfold rdecU
        rw [if_neg h, if_neg (fun e => e hc), rraw_eq hr hz, posEnd_shift hz, valN_shift hr hz, show 8 + valN (bodyOf s) (6 + 2) 2 + 2 = 10 + valN (bodyOf s) 8 2 from by show 8 + valN (bodyOf s) 8 2 + 2 = _; omega]
      have hD : decU s = if valB (bodyOf s) 0 2 ≠ markB ∨ posEnd (bodyOf s) (10 + valN (bodyOf s) 8 2) ≠ 0 ∨ ¬ mayU (rawU (bodyOf s)) then (ub0, 3) else (rawU (bodyOf s), 0) := by
        unfold decU
        rw [if_neg h, if_neg (fun e => e hc)]
      by_cases hu : mayU (rawU (bodyOf s))
      · by_cases hp : posEnd (bodyOf s) (10 + valN (bodyOf s) 8 2) = 0
        · by_cases hs : (encU (rawU (bodyOf s))).1 = s
          · have := dec_encU hu
            rw [hs] at this
            rw [this, hR, if_neg]
            rw [encU_ok hu] at hs ⊢
            intro e
            rcases e with e | e | e
            · exact e hp
            · exact e rfl
            · exact e hs
          · rw [hR, if_pos (.inr (.inr hs)), hD, if_pos]
            refine .inl fun hm => hs ?_
            rw [encU_ok hu, body_raw hm (posEnd_zero hp) hu, hc]
            unfold bodyOf sumOf'
            apply bl_ext
            rw [bl_append, bl_extract, bl_extract, List.drop_zero, Nat.sub_zero]
            rw [List.take_of_length_le (l := List.drop _ _) (by rw [List.length_drop, bl_size]; omega), List.take_append_drop]
        · rw [hR, if_pos (.inl hp), hD, if_pos (.inr (.inl hp))]
      · have he : encU (rawU (bodyOf s)) = (⟨#[]⟩, 1) := if_neg hu
        rw [hR, if_pos (.inr (.inl (by rw [he]; decide))), hD, if_pos (.inr (.inr hu))]
    · unfold rdecU decU
      rw [if_neg h, if_pos hc, if_neg h, if_pos hc]
end Go.Proofs.YtkapbkkbkfmidaaDoor

namespace Go.Proofs.YtkapbkkbkfmidaaDoor
open Go.RowKit

theorem own_any (u : UbD) (w : World) : Calls Tryd.prog 16 #[ubV u] w fun e w' => e = .returned (ubV u) ∧ Below w.heap.size w w' := by
  obtain ⟨t, l⟩ := u
  unfold ubV
  have hx := Lib.hid (Box.new (w.alloc (.cells #[.int .i64 t, .string l] 26 (0, 0))) 30 #[.int .i64 t, .string l])
  go_enter Tryd.func16, Tryd.ntmps16
  go_wp2
  refine bodyPost_ret (results_cell_row rfl _ _ (w.heap.size + 1) 30 #[.int .i64 t, .string l] (0, 0) _ rfl (by have := hx.out; rw [size_alloc] at this; exact this) Tryd.underlying30 rfl sizeUb) rfl ?_
  exact ⟨rfl, ((Below.refl _ _).alloc (Nat.le_refl _) _).alloc (by rw [size_alloc]; omega) _⟩

theorem told_any (u : UbD) (w : World) : Calls Tryd.prog 20 #[ubV u] w fun e w' => e = .returned (ubV u) ∧ Below w.heap.size w w' := by
  obtain ⟨t, l⟩ := u
  unfold ubV
  have hx := Lib.hid (Box.new (w.alloc (.cells #[.int .i64 t, .string l] 30 (0, 0))) 26 #[.int .i64 t, .string l])
  go_enter Tryd.func20, Tryd.ntmps20
  go_wp2
  refine bodyPost_ret (results_cell_row rfl _ _ (w.heap.size + 1) 26 #[.int .i64 t, .string l] (0, 0) _ rfl (by have := hx.out; rw [size_alloc] at this; exact this) Tryd.underlying26 rfl sizeRUb) rfl ?_
  exact ⟨rfl, ((Below.refl _ _).alloc (Nat.le_refl _) _).alloc (by rw [size_alloc]; omega) _⟩
end Go.Proofs.YtkapbkkbkfmidaaDoor

namespace Go.Proofs.YtkapbkkbkfmidaaDoor
open Go.RowKit

theorem flat_len {α : Type} (f : α → List Value) (n : Nat) (hn : ∀ x, (f x).length = n) : ∀ l : List α, (l.flatMap f).length = l.length * n
  | [] => by simp
  | x :: r => by rw [List.flatMap_cons, List.length_append, hn, flat_len f n hn r, List.length_cons, Nat.add_mul]; omega

theorem flat_get {α : Type} (f : α → List Value) (n : Nat) (hn : ∀ x, (f x).length = n) : ∀ (l : List α) (i : Nat) (x : α), l[i]? = some x → ∀ j, j < n → (l.flatMap f)[i * n + j]? = (f x)[j]?
  | [], i, x, h, _, _ => by simp at h
  | y :: r, 0, x, h, j, hj => by
    simp only [List.getElem?_cons_zero, Option.some.injEq] at h
    subst h
    rw [List.flatMap_cons, Nat.zero_mul, Nat.zero_add, List.getElem?_append_left (by rw [hn]; exact hj)]
  | y :: r, i + 1, x, h, j, hj => by
    simp only [List.getElem?_cons_succ] at h
    have h1 := flat_get f n hn r i x h j hj
    rw [List.flatMap_cons, List.getElem?_append_right (by rw [hn, Nat.add_mul]; omega), hn, ← h1]
    congr 1
    rw [Nat.add_mul]; omega

/-- Whatever holds of the row's block holds of the row. -/
theorem ownsRow_of {w w' : World} {base : Nat} {e : TypeId} {sz : Nat} {v : Value} {n : Nat} {xs : List Value} (h : w.ownsRow base e sz v n xs) (hb : ∀ k, v.ownBlock = some k → k < w.heap.size → w'.heap[k]? = w.heap[k]?) : w'.ownsRow base e sz v n xs := by
  refine ⟨h.1, ?_⟩
  rcases h.2 with ⟨rfl, h0⟩ | ⟨g, cap, cur, rfl, hg, hh, h3⟩
  · exact .inl ⟨rfl, h0⟩
  · exact .inr ⟨g, cap, cur, rfl, hg, by rw [hb g rfl (lt_of_block hh)]; exact hh, h3⟩
theorem ownsRow_lt {w : World} {base : Nat} {e : TypeId} {sz : Nat} {v : Value} {n : Nat} {xs : List Value} (h : w.ownsRow base e sz v n xs) (k : Nat) (hk : v.ownBlock = some k) : k < w.heap.size := by
  rcases h.2 with ⟨rfl, h0⟩ | ⟨g, cap, cur, rfl, hg, hh, h3⟩
  · cases hk
  · simp [Value.ownBlock] at hk; subst hk; exact lt_of_block hh
end Go.Proofs.YtkapbkkbkfmidaaDoor
