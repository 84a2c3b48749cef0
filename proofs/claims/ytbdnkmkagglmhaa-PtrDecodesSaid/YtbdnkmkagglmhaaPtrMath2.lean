/-
  What is encoded is decoded as it was; what is decoded is encoded as it was; what is cut is cut.
-/
import Derived.Test.YtbdnkmkagglmhaaPtrMath
namespace Go.Proofs.Ytbdnkmkagglmhaa
open Go.RowKit

theorem ptrD_ext {a b : PtrD} (h1 : a.locs = b.locs) (h2 : a.len = b.len) (h3 : a.birth = b.birth) (h4 : a.sum = b.sum) : a = b := by
  obtain ⟨a1, a2, a3, a4⟩ := a
  obtain ⟨b1, b2, b3, b4⟩ := b
  simp only at h1 h2 h3 h4
  subst h1 h2 h3 h4
  rfl

theorem posEnd_end (s : ByteArray) (k : Nat) (h : s.size = k) : posEnd s k = 0 := by
  unfold posEnd; rw [if_neg (by omega), if_pos (by omega)]

/-- Each field of a text of one place. -/
theorem raw_one {s : ByteArray} {x : Nat × Nat} {n m : Nat} {t : List UInt8} (e : bl s = leList 1 1 ++ ((leList x.1 1 ++ leList x.2 2) ++ (leList n 2 ++ (leList m 6 ++ t)))) (ht : t.length = 32)
    (hx : x.1 < 256 ∧ x.2 < 65536) (hn : n < 65536) (hm : m < 281474976710656) :
    s.size = 44 ∧ valN s 0 1 = 1 ∧ valN s 1 1 = x.1 ∧ valN s 2 2 = x.2 ∧ valN s 4 2 = n ∧ valN s 6 6 = m ∧ bl (valB s 12 32) = t := by
  have hz : s.size = 44 := by rw [← bl_size, e]; simp only [List.length_append, leList_length, ht]
  refine ⟨hz, ?_, ?_, ?_, ?_, ?_, ?_⟩
  · rw [valN_bl s _ _ (by omega), e, vL_here (leList_length _ _)]; exact leVal_leL 1 1 (by decide)
  · rw [valN_bl s _ _ (by omega), e, vL_skip (leList_length 1 1) (by decide), List.append_assoc, vL_here (leList_length _ _)]; exact leVal_leL _ _ (by simpa using hx.1)
  · rw [valN_bl s _ _ (by omega), e, vL_skip (leList_length 1 1) (by decide), List.append_assoc, vL_skip (leList_length x.1 1) (by decide), vL_here (leList_length _ _)]; exact leVal_leL _ _ (by simpa using hx.2)
  · rw [valN_bl s _ _ (by omega), e, vL_skip (leList_length 1 1) (by decide), List.append_assoc, vL_skip (leList_length x.1 1) (by decide), vL_skip (leList_length x.2 2) (by decide), vL_here (leList_length _ _)]; exact leVal_leL _ _ (by simpa using hn)
  · rw [valN_bl s _ _ (by omega), e, vL_skip (leList_length 1 1) (by decide), List.append_assoc, vL_skip (leList_length x.1 1) (by decide), vL_skip (leList_length x.2 2) (by decide), vL_skip (leList_length n 2) (by decide), vL_here (leList_length _ _)]; exact leVal_leL _ _ (by simpa using hm)
  · rw [valB_bl s _ _ (by omega), e, vL_skip (leList_length 1 1) (by decide), List.append_assoc, vL_skip (leList_length x.1 1) (by decide), vL_skip (leList_length x.2 2) (by decide), vL_skip (leList_length n 2) (by decide), vL_skip (leList_length m 6) (by decide), vL_last ht]

theorem raw_two {s : ByteArray} {x y : Nat × Nat} {n m : Nat} {t : List UInt8} (e : bl s = leList 2 1 ++ (leList x.1 1 ++ (leList x.2 2 ++ (leList y.1 1 ++ (leList y.2 2 ++ (leList n 2 ++ (leList m 6 ++ t))))))) (ht : t.length = 32)
    (hx : x.1 < 256 ∧ x.2 < 65536) (hy : y.1 < 256 ∧ y.2 < 65536) (hn : n < 65536) (hm : m < 281474976710656) :
    s.size = 47 ∧ valN s 0 1 = 2 ∧ valN s 1 1 = x.1 ∧ valN s 2 2 = x.2 ∧ valN s 4 1 = y.1 ∧ valN s 5 2 = y.2 ∧ valN s 7 2 = n ∧ valN s 9 6 = m ∧ bl (valB s 15 32) = t := by
  have hz : s.size = 47 := by rw [← bl_size, e]; simp only [List.length_append, leList_length, ht]
  refine ⟨hz, ?_, ?_, ?_, ?_, ?_, ?_, ?_, ?_⟩
  · rw [valN_bl s _ _ (by omega), e, vL_here (leList_length _ _)]; exact leVal_leL 2 1 (by decide)
  · rw [valN_bl s _ _ (by omega), e, vL_skip (leList_length 2 1) (by decide), vL_here (leList_length _ _)]; exact leVal_leL _ _ (by simpa using hx.1)
  · rw [valN_bl s _ _ (by omega), e, vL_skip (leList_length 2 1) (by decide), vL_skip (leList_length x.1 1) (by decide), vL_here (leList_length _ _)]; exact leVal_leL _ _ (by simpa using hx.2)
  · rw [valN_bl s _ _ (by omega), e, vL_skip (leList_length 2 1) (by decide), vL_skip (leList_length x.1 1) (by decide), vL_skip (leList_length x.2 2) (by decide), vL_here (leList_length _ _)]; exact leVal_leL _ _ (by simpa using hy.1)
  · rw [valN_bl s _ _ (by omega), e, vL_skip (leList_length 2 1) (by decide), vL_skip (leList_length x.1 1) (by decide), vL_skip (leList_length x.2 2) (by decide), vL_skip (leList_length y.1 1) (by decide), vL_here (leList_length _ _)]; exact leVal_leL _ _ (by simpa using hy.2)
  · rw [valN_bl s _ _ (by omega), e, vL_skip (leList_length 2 1) (by decide), vL_skip (leList_length x.1 1) (by decide), vL_skip (leList_length x.2 2) (by decide), vL_skip (leList_length y.1 1) (by decide), vL_skip (leList_length y.2 2) (by decide), vL_here (leList_length _ _)]; exact leVal_leL _ _ (by simpa using hn)
  · rw [valN_bl s _ _ (by omega), e, vL_skip (leList_length 2 1) (by decide), vL_skip (leList_length x.1 1) (by decide), vL_skip (leList_length x.2 2) (by decide), vL_skip (leList_length y.1 1) (by decide), vL_skip (leList_length y.2 2) (by decide), vL_skip (leList_length n 2) (by decide), vL_here (leList_length _ _)]; exact leVal_leL _ _ (by simpa using hm)
  · rw [valB_bl s _ _ (by omega), e, vL_skip (leList_length 2 1) (by decide), vL_skip (leList_length x.1 1) (by decide), vL_skip (leList_length x.2 2) (by decide), vL_skip (leList_length y.1 1) (by decide), vL_skip (leList_length y.2 2) (by decide), vL_skip (leList_length n 2) (by decide), vL_skip (leList_length m 6) (by decide), vL_last ht]

theorem shape_of {p : PtrD} {l : List (Nat × Nat)} {n m : Nat} (g : Good p l n m) : (∃ x, l = [x]) ∨ ∃ x y, l = [x, y] := by
  match l, g.l1 with
  | [x], _ => exact Or.inl ⟨x, rfl⟩
  | [x, y], _ => exact Or.inr ⟨x, y, rfl⟩

/-- A pointer's text tells how many places it has, and what it is. -/
theorem raw_enc {p : PtrD} (h : ¬ badP p) : valN (encB p) 0 1 = p.locs.length ∧ rawP (encB p) p.locs.length = p := by
  obtain ⟨l, n, m, g⟩ := good_of h
  have e := encB_bl g
  generalize encB p = s at *
  rcases shape_of g with ⟨x, rfl⟩ | ⟨x, y, rfl⟩
  · have e' : bl s = leList 1 1 ++ ((leList x.1 1 ++ leList x.2 2) ++ (leList n 2 ++ (leList m 6 ++ bl p.sum))) := by
      rw [e]; simp [locBL]
    obtain ⟨_, h1, h2, h3, h4, h5, h6⟩ := raw_one e' (by rw [bl_size, g.sb]) (g.lb x (by simp)) g.nb g.mb
    rw [g.locs]
    refine ⟨by rw [h1]; rfl, ptrD_ext ?_ ?_ ?_ ?_⟩
    · show (List.range 1).map (locAt s) = _
      rw [g.locs]
      show [locAt s 0] = [((x.1 : Int), (x.2 : Int))]
      unfold locAt
      rw [show valN s (1 + 3 * 0) 1 = x.1 from h2, show valN s (2 + 3 * 0) 2 = x.2 from h3]
    · show ((valN s 4 2 : Nat) : Int) = _
      rw [h4, g.len]
    · show ((valN s 6 6 : Nat) : Int) = _
      rw [h5, g.birth]
    · exact bl_ext h6
  · have e' : bl s = leList 2 1 ++ (leList x.1 1 ++ (leList x.2 2 ++ (leList y.1 1 ++ (leList y.2 2 ++ (leList n 2 ++ (leList m 6 ++ bl p.sum)))))) := by
      rw [e]; simp [locBL]
    obtain ⟨_, h1, h2, h3, h4, h5, h6, h7, h8⟩ := raw_two e' (by rw [bl_size, g.sb]) (g.lb x (by simp)) (g.lb y (by simp)) g.nb g.mb
    rw [g.locs]
    refine ⟨by rw [h1]; rfl, ptrD_ext ?_ ?_ ?_ ?_⟩
    · show (List.range 2).map (locAt s) = _
      rw [g.locs]
      show [locAt s 0, locAt s 1] = [((x.1 : Int), (x.2 : Int)), ((y.1 : Int), (y.2 : Int))]
      unfold locAt
      rw [show valN s (1 + 3 * 0) 1 = x.1 from h2, show valN s (2 + 3 * 0) 2 = x.2 from h3, show valN s (1 + 3 * 1) 1 = y.1 from h4, show valN s (2 + 3 * 1) 2 = y.2 from h5]
    · show ((valN s 7 2 : Nat) : Int) = _
      rw [h6, g.len]
    · show ((valN s 9 6 : Nat) : Int) = _
      rw [h7, g.birth]
    · exact bl_ext h8

theorem dec_enc {p : PtrD} (h : ¬ badP p) : decP (encB p) = (p, 0) := by
  obtain ⟨h1, h2⟩ := raw_enc h
  have hz := encB_size h
  have hl : 1 ≤ p.locs.length ∧ p.locs.length ≤ 2 := Decidable.byContradiction fun hc => h (Or.inl hc)
  unfold decP
  rw [if_neg (by omega), if_neg (by omega), h1, posEnd_end _ _ hz, if_neg (by simp), h2, if_neg h]

/-- Encoding tells pointers that may be apart. -/
theorem enc_inj {p q : PtrD} (hp : ¬ badP p) (hq : ¬ badP q) (e : encB p = encB q) : p = q := by
  have h1 := dec_enc hp
  have h2 := dec_enc hq
  rw [e, h2] at h1
  injection h1 with h1 _
  exact h1.symm

theorem dec_cut {p : PtrD} (h : ¬ badP p) (k : Nat) (hk : k < 41 + 3 * p.locs.length) : decP ((encB p).extract 0 k) = (nilP, 2) := by
  obtain ⟨h1, _⟩ := raw_enc h
  have hz := encB_size h
  have hl : 1 ≤ p.locs.length ∧ p.locs.length ≤ 2 := Decidable.byContradiction fun hc => h (Or.inl hc)
  have hzk : ((encB p).extract 0 k).size = k := by rw [ByteArray.size_extract]; omega
  unfold decP
  by_cases h0 : k = 0
  · rw [if_pos (by omega)]
  · have hv : valN ((encB p).extract 0 k) 0 1 = p.locs.length := by
      rw [← h1]
      have hx : ((encB p).extract 0 k).extract 0 (0 + 1) = (encB p).extract 0 (0 + 1) := by
        rw [ByteArray.extract_extract, Nat.zero_add, Nat.zero_add, Nat.min_eq_left (by omega)]
      unfold valN valB
      rw [if_pos (show 0 + 1 ≤ ((encB p).extract 0 k).size by omega), if_pos (show 0 + 1 ≤ (encB p).size by omega), hx]
    have hpe : posEnd ((encB p).extract 0 k) (41 + 3 * p.locs.length) = 2 := by
      unfold posEnd; rw [if_neg (by omega), if_neg (by omega)]
    rw [if_neg (by omega), hv, if_neg (by omega), hpe, if_pos (by decide)]

/-- What is decoded with an error is nothing. -/
theorem dec_err (s : ByteArray) (h : (decP s).2 ≠ 0) : (decP s).1 = nilP := by
  unfold decP at *
  split
  · rfl
  · split
    · rfl
    · split
      · rfl
      · split
        · rfl
        · rename_i h1 h2 h3 h4
          rw [if_neg h1, if_neg h2, if_neg h3, if_neg h4] at h
          exact absurd rfl h

theorem put_val (s : ByteArray) (k n : Nat) (h1 : 1 ≤ n) (h7 : n ≤ 7) (h : k + n ≤ s.size) : bl (putB ((valN s k n : Nat) : Int) (n : Nat)) = vL (bl s) k n := by
  have hz : (vL (bl s) k n).length = n := by
    unfold vL; rw [List.length_take, List.length_drop, bl_size]; omega
  have hlt := leVal_lt (vL (bl s) k n)
  rw [hz] at hlt
  rw [valN_bl s k n h, putB_bl _ n h1 h7 hlt]
  have := leL_leVal (vL (bl s) k n)
  rwa [hz] at this

/-- What is decoded is encoded as it was. -/
theorem enc_dec (s : ByteArray) (h : (decP s).2 = 0) : ¬ badP (decP s).1 ∧ encB (decP s).1 = s := by
  have hd : ∃ c, valN s 0 1 = c ∧ 1 ≤ c ∧ c ≤ 2 ∧ s.size = 41 + 3 * c ∧ ¬ badP (rawP s c) ∧ decP s = (rawP s c, 0) := by
    refine ⟨valN s 0 1, rfl, ?_⟩
    unfold decP at *
    split at h
    · cases h
    · split at h
      · cases h
      · split at h
        · rename_i h3; exact absurd h h3
        · split at h
          · cases h
          · rename_i h1 h2 h3 h4
            refine ⟨by omega, by omega, ?_, h4, by rw [if_neg h1, if_neg h2, if_neg h3, if_neg h4]⟩
            unfold posEnd at h3
            split at h3
            · simp at h3
            · split at h3
              · omega
              · simp at h3
  obtain ⟨c, hc, hc1, hc2, hz, hb, e⟩ := hd
  rw [e]
  refine ⟨hb, bl_ext ?_⟩
  have hsum : bl (valB s (9 + 3 * c) 32) = (bl s).drop (9 + 3 * c) := by
    rw [valB_bl s _ _ (by omega)]
    unfold vL
    rw [List.take_of_length_le (by rw [List.length_drop, bl_size]; omega)]
  have e1 := put_val s (1 + 3 * c) 2 (by decide) (by decide) (by omega)
  have e2 := put_val s (3 + 3 * c) 6 (by decide) (by decide) (by omega)
  have j1 := vL_join (bl s) (3 + 3 * c) 6
  have j2 := vL_join (bl s) (1 + 3 * c) 2
  have e0 := put_val s 0 1 (by decide) (by decide) (by omega)
  have j0 := vL_join (bl s) 0 1
  rw [hc] at e0
  have hlc : (rawP s c).locs.length = c := by simp [rawP]
  unfold encB
  rw [bl_append, bl_append, bl_append]
  rw [show bl (rawP s c).sum = _ from hsum, show bl (putB (rawP s c).len 2) = _ from e1, show bl (putB (rawP s c).birth 6) = _ from e2, List.append_assoc, List.append_assoc,
    show 9 + 3 * c = 3 + 3 * c + 6 by omega, j1, show 3 + 3 * c = 1 + 3 * c + 2 by omega, j2, hlc]
  have hlocs : ∀ k, k ≤ c → bl (((List.range k).map (locAt s)).foldl (fun s x => s ++ locB x) (putB (c : Nat) 1)) ++ (bl s).drop (1 + 3 * k) = bl s := by
    intro k
    induction k with
    | zero =>
      intro _
      show bl (putB (c : Nat) 1) ++ _ = _
      rw [show bl (putB (c : Nat) 1) = _ from e0, show 1 + 3 * 0 = 0 + 1 from rfl, j0]; rfl
    | succ k ih =>
      intro hk
      rw [List.range_succ, List.map_append, List.foldl_append]
      show bl (_ ++ (putB (valN s (1 + 3 * k) 1 : Nat) 1 ++ putB (valN s (2 + 3 * k) 2 : Nat) 2)) ++ _ = _
      have f1 := put_val s (1 + 3 * k) 1 (by decide) (by decide) (by omega)
      have f2 := put_val s (2 + 3 * k) 2 (by decide) (by decide) (by omega)
      have i1 := vL_join (bl s) (1 + 3 * k) 1
      have i2 := vL_join (bl s) (2 + 3 * k) 2
      rw [bl_append, bl_append, show bl (putB (valN s (1 + 3 * k) 1 : Nat) 1) = _ from f1, show bl (putB (valN s (2 + 3 * k) 2 : Nat) 2) = _ from f2, List.append_assoc, List.append_assoc,
        show 1 + 3 * (k + 1) = 2 + 3 * k + 2 by omega, i2, show 2 + 3 * k = 1 + 3 * k + 1 by omega, i1]
      exact ih (by omega)
  exact hlocs c (Nat.le_refl _)
end Go.Proofs.Ytbdnkmkagglmhaa
