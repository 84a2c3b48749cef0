/-
  Texts put together: RefPos, RefEnd, ClogS.
-/
import Derived.Test.YtljjcchdhnficaaDoorMg17
import Derived.Test.YtljjcchdhnficaaDoorMg21
import Derived.Test.YtljjcchdhnficaaDoorMg4
namespace Go.Proofs.YtljjcchdhnficaaDoor
open Go.RowKit

/-- Block b is a reader of the reference's. -/
def RrAt (w : World) (b : Nat) (s : ByteArray) (e : Int) : Prop := w.heap[b]? = some (.cells #[.string s, .int .i64 e] 79 (0, 0))

theorem RrAt.cells {w : World} {b : Nat} {s : ByteArray} {e : Int} (h : RrAt w b s e) :
    w.cell? ⟨b, 0, none⟩ = some (.string s) ∧ w.cell? ⟨b, 1, none⟩ = some (.int .i64 e) ∧ w.frozen? ⟨b, 0, none⟩ = false ∧ w.frozen? ⟨b, 1, none⟩ = false := by
  unfold RrAt at h
  refine ⟨?_, ?_, ?_, ?_⟩ <;> simp [World.cell?, World.frozen?, h]
theorem RrAt.set0 {w : World} {b : Nat} {s : ByteArray} {e : Int} (h : RrAt w b s e) (s' : ByteArray) : RrAt (w.setCell ⟨b, 0, none⟩ (.string s')) b s' e := by
  have := heap_setCell_same w b 0 _ _ (.string s') h
  exact this
theorem RrAt.set1 {w : World} {b : Nat} {s : ByteArray} {e : Int} (h : RrAt w b s e) (e' : Int) : RrAt (w.setCell ⟨b, 1, none⟩ (.int .i64 e')) b s e' := by
  have := heap_setCell_same w b 1 _ _ (.int .i64 e') h
  exact this

/-- .. at place k of s; behind an error its rest is of no moment. -/
def RrPos (w : World) (b : Nat) (s : ByteArray) (k : Nat) : Prop := ∃ r, RrAt w b r (posE s k) ∧ (k ≤ s.size → r = s.extract k s.size)

theorem rbytes_pos (b : Nat) (s : ByteArray) (k n : Nat) (w : World) (h : RrPos w b s k) :
    Calls Tryd.prog 41 #[.pointer (some ⟨b, 0, none⟩), .int .i64 n] w fun e w' => e = .returned (.string (valB s k n)) ∧ RrPos w' b s (k + n) ∧ Only b w w' := by
  obtain ⟨r, hr, hs⟩ := h
  by_cases hk : k ≤ s.size
  · obtain rfl := hs hk
    rw [show posE s k = 0 from if_pos hk] at hr
    obtain ⟨h0, h1, f0, f1⟩ := hr.cells
    have H := Lib.hid hr
    clear hr hs
    have hz : (s.extract k s.size).size = s.size - k := by rw [ByteArray.size_extract]; omega
    by_cases hn : k + n ≤ s.size
    · have e1 : valB s k n = (s.extract k s.size).extract 0 n := by unfold valB; rw [if_pos hn, extract_extract' s k n hn]
      have E2 := Lib.hid (extract_drop' s k n hn)
      have HP : Hid (posE s (k + n) = 0) := if_pos hn
      rw [e1]
      clear e1
      have E3 := Lib.hid hz
      have hnz : n ≤ (s.extract k s.size).size := by omega
      generalize s.extract k s.size = t at *
      clear hz
      go_enter Tryd.func41, Tryd.ntmps41
      go_wp2
      go_ret
      refine ⟨rfl, ⟨_, ?_, fun _ => rfl⟩, Only.set b 0 w _⟩
      rw [HP.out, ← E2.out, ← E3.out]
      exact H.out.set0 _
    · have e1 : valB s k n = ⟨#[]⟩ := if_neg hn
      have HP : Hid (posE s (k + n) = 2) := if_neg hn
      have HQ : Hid (¬ k + n ≤ s.size) := hn
      rw [e1]
      clear e1
      have hnz : (s.extract k s.size).size < n := by omega
      generalize s.extract k s.size = t at *
      clear hz
      go_enter Tryd.func41, Tryd.ntmps41
      go_wp2
      go_ret
      exact ⟨rfl, ⟨t, by rw [HP.out]; exact H.out.set1 _, fun h => absurd h HQ.out⟩, Only.set b 1 w _⟩
  · have hn : ¬ k + n ≤ s.size := by omega
    rw [show posE s k = 2 from if_neg hk] at hr
    obtain ⟨h0, h1, f0, f1⟩ := hr.cells
    have H := Lib.hid hr
    have e1 : valB s k n = ⟨#[]⟩ := if_neg hn
    have HP : Hid (posE s (k + n) = 2) := if_neg hn
    have HQ : Hid (¬ k + n ≤ s.size) := hn
    rw [e1]
    clear e1 hs hr hk hn
    go_enter Tryd.func41, Tryd.ntmps41
    go_wp2
    go_ret
    exact ⟨rfl, ⟨r, by rw [HP.out]; exact H.out, fun h => absurd h HQ.out⟩, Only.refl _ _⟩

theorem leVal_drop (s : ByteArray) (k : Nat) (h : k < s.size) : leVal (s.data.toList.drop k) = s[k].toNat + 256 * leVal (s.data.toList.drop (k + 1)) := by
  rw [List.drop_eq_getElem_cons (by simpa using h)]
  rfl
theorem leVal_drop_lt (s : ByteArray) (k : Nat) (h : s.size ≤ 7) : leVal (s.data.toList.drop k) < 72057594037927936 := by
  have h1 := leVal_lt (s.data.toList.drop k)
  have h2 : 256 ^ (s.data.toList.drop k).length ≤ 256 ^ 7 := Nat.pow_le_pow_right (by decide) (by rw [List.length_drop]; simp; omega)
  have h3 : 256 ^ 7 = 72057594037927936 := by decide
  omega

theorem rnumber_pos (b : Nat) (s : ByteArray) (k n : Nat) (h1 : 1 ≤ n) (h7 : n ≤ 7) (w : World) (h : RrPos w b s k) :
    Calls Tryd.prog 39 #[.pointer (some ⟨b, 0, none⟩), .int .i64 n] w fun e w' => e = .returned (.int .i64 (valN s k n)) ∧ RrPos w' b s (k + n) ∧ Only b w w' := by
  have H := Lib.hid h
  obtain ⟨r, hr, hs⟩ := h
  obtain ⟨c0, c1, f0, f1⟩ := hr.cells
  clear hr hs
  by_cases hk : k ≤ s.size
  · have hm : 0 ≤ mostI n := by unfold mostI; rw [if_pos (by omega)]; have := p256' n (by omega); rw [Int.toNat_natCast]; omega
    rw [show posE s k = 0 from if_pos hk] at c1
    have hsz : (valB s k n).size ≤ 7 := by
      unfold valB; split
      · rw [ByteArray.size_extract]; omega
      · exact Nat.zero_le _
    have HV : Hid (valN s k n = leVal (valB s k n).data.toList) := rfl
    rw [HV.out]
    obtain ⟨t, ht⟩ : ∃ t, t = valB s k n := ⟨_, rfl⟩
    rw [← ht] at hsz ⊢
    have HT := Lib.hid ht
    clear ht
    go_enter Tryd.func39, Tryd.ntmps39
    go_wp2_with fail
    refine (rmost_any n _).mono ?_
    rintro e w' ⟨rfl, rfl⟩
    go_wp2_with fail
    refine (rbytes_pos b s k n _ H.out).mono ?_
    rintro e w' ⟨rfl, hr, hb⟩
    have Hr := Lib.hid hr
    have Hb := Lib.hid hb
    clear hr hb c0 c1 f0 f1
    rw [← HT.out]
    go_wp2
    go_loop [6, 7] (fun v i => ∃ j : Nat, j ≤ t.size ∧ i = .int .i64 ((j : Int) - 1) ∧ v = .int .i64 (leVal (t.data.toList.drop j))) (fun _ i => (RowKit.intOf i + 1).toNat)
    case atStart => exact ⟨t.size, Nat.le_refl _, rfl, by rw [List.drop_of_length_le (by simp)]; rfl⟩
    case round =>
      obtain ⟨j, hj, rfl, rfl⟩ := hrel
      cases j with
      | zero =>
        go_wp2
        go_ret
        exact ⟨ret_int (by first | rfl | rw [List.drop_zero]), Hr.out, Hb.out⟩
      | succ j =>
        have e1 : ((j + 1 : Nat) : Int) - 1 = j := by omega
        rw [e1]
        clear e1
        have hlt : j < t.size := by omega
        have hb : (t[j].toNat : Int) ≤ 255 := by have := t[j].toNat_lt; omega
        have hd := leVal_drop_lt t (j + 1) hsz
        have hs := Lib.hid (leVal_drop t j hlt)
        have hd2 := leVal_drop_lt t j hsz
        rw [hs.out] at hd2
        go_wp2
        go_round
        case rel => exact ⟨j, by omega, by go_num, by rw [hs.out]; go_num⟩
        case measure => simp [RowKit.intOf]
  · rw [show posE s k = 2 from if_neg hk] at c1
    have hn : ¬ k + n ≤ s.size := by omega
    have e1 : valN s k n = 0 := by unfold valN valB; rw [if_neg hn]; rfl
    have HP : Hid (posE s (k + n) = posE s k) := by show _ = _; unfold posE; rw [if_neg hn, if_neg hk]
    have HQ : Hid (¬ k + n ≤ s.size) := hn
    rw [e1]
    clear e1 hk hn
    go_enter Tryd.func39, Tryd.ntmps39
    go_wp2
    go_ret
    refine ⟨rfl, ?_, Only.refl _ _⟩
    obtain ⟨r, hr, _⟩ := H.out
    exact ⟨r, by rw [HP.out]; exact hr, fun h => absurd h HQ.out⟩

end Go.Proofs.YtljjcchdhnficaaDoor

namespace Go.Proofs.YtljjcchdhnficaaDoor
open Go.RowKit

theorem rend_pos (b : Nat) (s : ByteArray) (k : Nat) (w : World) (h : RrPos w b s k) :
    Calls Tryd.prog 42 #[.pointer (some ⟨b, 0, none⟩)] w fun e w' => e = .returned (.int .i64 (posEnd s k)) ∧ w = w' := by
  obtain ⟨r, hr, hs⟩ := h
  obtain ⟨c0, c1, f0, f1⟩ := hr.cells
  clear hr
  by_cases hk : k ≤ s.size
  · obtain rfl := hs hk
    rw [show posE s k = 0 from if_pos hk] at c1
    have hz : (s.extract k s.size).size = s.size - k := by rw [ByteArray.size_extract]; omega
    clear hs
    by_cases hk2 : k < s.size
    · rw [show posEnd s k = 3 from if_pos hk2]
      have hp : 0 < (s.extract k s.size).size := by omega
      generalize s.extract k s.size = t at *
      obtain ⟨g1, g2⟩ := str_some t hp
      clear hz
      go_enter Tryd.func42, Tryd.ntmps42
      go_wp2
      go_ret
      exact ⟨rfl, rfl⟩
    · rw [show posEnd s k = 0 from by unfold posEnd; rw [if_neg hk2, if_pos (by omega)]]
      have hp : s.extract k s.size = ⟨#[]⟩ := by apply ByteArray.ext; apply Array.eq_empty_of_size_eq_zero; show (s.extract k s.size).size = 0; omega
      rw [hp] at c0
      clear hz hp
      go_enter Tryd.func42, Tryd.ntmps42
      go_wp2
      go_ret
      exact ⟨rfl, rfl⟩
  · rw [show posE s k = 2 from if_neg hk] at c1
    rw [show posEnd s k = 2 from by unfold posEnd; rw [if_neg (by omega), if_neg (by omega)]]
    clear hs
    go_enter Tryd.func42, Tryd.ntmps42
    go_wp2
    go_ret
    exact ⟨rfl, rfl⟩
end Go.Proofs.YtljjcchdhnficaaDoor

namespace Go.Proofs.YtljjcchdhnficaaDoor
open Go.RowKit

theorem crtext_pos (b : Nat) (s : ByteArray) (k n : Nat) (h1 : 1 ≤ n) (h7 : n ≤ 7) (w : World) (h : RrPos w b s k) :
    Calls Tryd.prog 40 #[.pointer (some ⟨b, 0, none⟩), .int .i64 n] w fun e w' => e = .returned (.string (valB s (k + n) (valN s k n))) ∧ RrPos w' b s (k + n + valN s k n) ∧ Only b w w' := by
  have H := Lib.hid h
  clear h
  go_enter Tryd.func40, Tryd.ntmps40
  go_wp2_with fail
  refine (rnumber_pos b s k n h1 h7 _ H.out).mono ?_
  rintro e w1 ⟨rfl, hr, hb⟩
  have Hr := Lib.hid hr
  have Hb := Lib.hid hb
  clear hr hb
  go_wp2_with fail
  refine (rbytes_pos b s _ _ _ Hr.out).mono ?_
  rintro e w2 ⟨rfl, hr, hb⟩
  have Hr2 := Lib.hid hr
  have Hb2 := Lib.hid (Hb.out.trans hb)
  clear hr hb
  go_wp2
  go_ret
  exact ⟨rfl, Hr2.out, Hb2.out⟩
theorem crr_of {w w' : World} {b : Nat} {s : ByteArray} {k : Nat} (h : RrPos w b s k) (e : w'.heap[b]? = w.heap[b]?) : RrPos w' b s k := by
  obtain ⟨r, hr, hs⟩ := h
  exact ⟨r, e.trans hr, hs⟩
theorem crr_lt {w : World} {b : Nat} {s : ByteArray} {k : Nat} (h : RrPos w b s k) : b < w.heap.size := by
  obtain ⟨r, hr, _⟩ := h
  exact lt_of_block hr
/-- The loop of the reference's Decode: the answer's place, the reader, the block that is filled. -/
structure DeR (w : World) (g R U : Nat) (bo : ByteArray) (seq : Int) (v : Value) (k : Nat) (p : List CgE) (W : World) : Prop where
  lt : g < R ∧ R < U
  bg : Box W g 24 #[.int .i64 0, .slice none 0 0]
  rd : RrPos W R bo k
  bu : Box W U 24 #[.int .i64 seq, v]
  pr : Cgs 53 W (U + 1) v p
  bl : Below g w W
theorem DeR.keep {w : World} {g R U : Nat} {bo : ByteArray} {seq : Int} {v : Value} {k : Nat} {p : List CgE} {W W' : World} (h : DeR w g R U bo seq v k p W) (hb : Below W.heap.size W W') : DeR w g R U bo seq v k p W' :=
  ⟨h.lt, h.bg.keep hb h.bg.lt, crr_of h.rd (hb.block _ (crr_lt h.rd)), h.bu.keep hb h.bu.lt, h.pr.keep hb, h.bl.trans (hb.mono (Nat.le_of_lt h.bg.lt))⟩
theorem DeR.only {w : World} {g R U : Nat} {bo : ByteArray} {seq : Int} {v : Value} {k : Nat} {p : List CgE} {W W' : World} (h : DeR w g R U bo seq v k p W) {k' : Nat} (hb : Only R W W') (hr : RrPos W' R bo k') : DeR w g R U bo seq v k' p W' :=
  ⟨h.lt, hb.box (Nat.ne_of_lt h.lt.1) h.bg, hr, hb.box (Nat.ne_of_gt h.lt.2) h.bu, hb.row (fun e => by have := (h.pr.own_blk _ e).1; have := h.lt.2; omega) h.pr, h.bl.trans (hb.below' (Nat.le_of_lt h.lt.1) (Nat.le_of_lt h.bg.lt))⟩
theorem DeR.setX {w : World} {g R U : Nat} {bo : ByteArray} {seq : Int} {v : Value} {k : Nat} {p : List CgE} {W : World} (h : DeR w g R U bo seq v k p W) {x j : Nat} (hx : U < x) (hv : v.ownBlock ≠ some x) (u : Value) : DeR w g R U bo seq v k p (W.setCell ⟨x, j, none⟩ u) := by
  have := h.lt
  exact ⟨h.lt, h.bg.of (heap_setCell_other W ⟨x, j, none⟩ _ u (by show g ≠ x; omega)), crr_of h.rd (heap_setCell_other W ⟨x, j, none⟩ _ u (by show R ≠ x; omega)), h.bu.of (heap_setCell_other W ⟨x, j, none⟩ _ u (by show U ≠ x; omega)),
    ownsRow_of h.pr fun b hb _ => heap_setCell_other W ⟨x, j, none⟩ _ u (fun e => hv (by rw [hb]; exact congrArg some e)), h.bl.setCell (p := ⟨x, j, none⟩) (by show g ≤ x; omega) u⟩
theorem DeR.push {w : World} {g R U : Nat} {bo : ByteArray} {seq : Int} {v : Value} {k : Nat} {p : List CgE} {W W' : World} (h : DeR w g R U bo seq v k p W) {v' : Value} {p' : List CgE} (hg : W.grownBy W' v.ownBlock) (hp : Cgs 53 W' (U + 1) v' p') :
    Box W' U 24 #[.int .i64 seq, v] ∧ DeR w g R U bo seq v' k p' (W'.setCell ⟨U, 1, none⟩ v') := by
  have hown := h.pr.own_blk
  have hl := h.lt
  have q0 := h.bg.of (hg.block g h.bg.lt (fun e => by have := (hown _ e.symm).1; omega))
  have q1 := crr_of h.rd (hg.block R (crr_lt h.rd) (fun e => by have := (hown _ e.symm).1; omega))
  have q2 := h.bu.of (hg.block U h.bu.lt (fun e => by have := (hown _ e.symm).1; omega))
  have q3 := h.bl.grown hg (Nat.le_of_lt h.bg.lt) (fun b hb => by have := (hown b hb).1; omega)
  exact ⟨q2, hl, q0.of (heap_setCell_other _ ⟨U, 1, none⟩ _ _ (by show g ≠ U; omega)), crr_of q1 (heap_setCell_other _ ⟨U, 1, none⟩ _ _ (by show R ≠ U; omega)), q2.set 1 v',
    ownsRow_of hp fun b hb _ => heap_setCell_other _ ⟨U, 1, none⟩ _ _ (by have := (hp.own_blk b hb).1; show b ≠ U; omega), q3.setCell (p := ⟨U, 1, none⟩) (by show g ≤ U; omega) _⟩
theorem DeR.seq0 {w : World} {g R U : Nat} {bo : ByteArray} {seq : Int} {v : Value} {k : Nat} {p : List CgE} {W : World} (h : DeR w g R U bo seq v k p W) (n : Int) : DeR w g R U bo n v k p (W.setCell ⟨U, 0, none⟩ (.int .i64 n)) := by
  have hl := h.lt
  exact ⟨h.lt, h.bg.of (heap_setCell_other W ⟨U, 0, none⟩ _ _ (by show g ≠ U; omega)), crr_of h.rd (heap_setCell_other W ⟨U, 0, none⟩ _ _ (by show R ≠ U; omega)), h.bu.set 0 _,
    ownsRow_of h.pr fun b hb _ => heap_setCell_other W ⟨U, 0, none⟩ _ _ (by have := (h.pr.own_blk b hb).1; show b ≠ U; omega), h.bl.setCell (p := ⟨U, 0, none⟩) (by show g ≤ U; omega) _⟩
theorem crr_start (bo : ByteArray) (w : World) (h : 2 ≤ bo.size) : RrPos (w.alloc (.cells #[.string (bo.extract 2 bo.size), .int .i64 0] 79 (0, 0))) w.heap.size bo 2 :=
  ⟨_, by unfold posE; rw [if_pos h]; exact (MapKept.heap_alloc w _).1, fun _ => rfl⟩
theorem sizeRBd : (Tryd.prog.info? 24).map (·.size) = some 2 := by kernel_rfl
end Go.Proofs.YtljjcchdhnficaaDoor
