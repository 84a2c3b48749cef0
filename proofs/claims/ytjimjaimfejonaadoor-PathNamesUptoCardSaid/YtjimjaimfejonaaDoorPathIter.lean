/-
  The iterator of strings.SplitSeq, at the separator '/': it yields the pieces, one behind the other; what is left it keeps in a cell of its own.
-/
import Derived.Test.YtjimjaimfejonaaDoorRange
import Derived.Test.YtjimjaimfejonaaDoorPathMath
import Derived.Test.YtjimjaimfejonaaDoorPathShelf
import Derived.RangeFuncBound
import Derived.RangeFuncCalls
import Derived.RangeFuncLeaves
import Derived.Shelf.Abstract
import Derived.Shelf.RegionOpen
import Derived.WalkKit
import Derived.OwnWalkIn
import Derived.TacticsInMore
import Derived.LoopNIn
import Derived.LoopIn
import Derived.Shelf.AbstractIn
import Derived.Lib.Hide
namespace Go.Proofs.YtjimjaimfejonaaDoor
open Go Go.RowKit Go.Shelf

attribute [local go_sem] Oper.semAt_some

def textAt (W : World) (b : Nat) : Nat := match W.cell? ⟨b, 0, none⟩ with
  | some (.string u) => u.size
  | _ => 0
theorem textAt_eq {W : World} {b : Nat} {u : ByteArray} (h : W.cell? ⟨b, 0, none⟩ = some (.string u)) : textAt W b = u.size := by unfold textAt; rw [h]

set_option maxRecDepth 100000 in
set_option maxHeartbeats 1000000 in
theorem iter_any (n l sb eb vb : Nat) (hn : 1 ≤ n) (s0 : ByteArray) (hs0 : s0.size ≤ 1100000) (J Jx : List ByteArray → World → Prop)
    (hJs : ∀ pre W, J pre W → W.cell? ⟨eb, 0, none⟩ = some (.string ⟨#[47]⟩) ∧ W.cell? ⟨vb, 0, none⟩ = some (.int .i64 0) ∧ W.frozen? ⟨sb, 0, none⟩ = false)
    (hJt : ∀ pre W (u : ByteArray), J pre W → J pre (W.setCell ⟨sb, 0, none⟩ (.string u)))
    (hY : ∀ pre x W u, J pre W → W.cell? ⟨sb, 0, none⟩ = some (.string u) → pre ++ [x] <+: piecesB s0 → YieldAt Fence.wide (n - 1) Tryd.prog l #[.string x] W fun e W' =>
      (e = .returned (.bool true) ∧ J (pre ++ [x]) W' ∧ W'.cell? ⟨sb, 0, none⟩ = some (.string u)) ∨ (e = .returned (.bool false) ∧ Jx (pre ++ [x]) W'))
    (W : World) (hs : W.cell? ⟨sb, 0, none⟩ = some (.string s0)) (h0 : J [] W) :
    CallsIn Fence.wide n Tryd.prog 32 #[.func (.yield l) #[] #[], .pointer (some ⟨eb, 0, none⟩), .pointer (some ⟨sb, 0, none⟩), .pointer (some ⟨vb, 0, none⟩)] W fun e W' => (∃ v, e = .returned v) ∧
      (J (piecesB s0) W' ∨ ∃ pre, pre <+: piecesB s0 ∧ Jx pre W') := by
  have HY := Lib.hid hY
  have HJT := Lib.hid hJt
  have HJS := Lib.hid hJs
  obtain ⟨c1, c2, f0⟩ := hJs _ _ h0
  have H0 := Lib.hid h0
  clear hY hJt hJs h0
  refine callsIn_of_wp Tryd.func32 rfl trivial ?_ rfl
  simp only [Tryd.ntmps32, List.size_toArray, List.length_cons, List.length_nil, Nat.reduceAdd, Nat.reduceSub, Array.replicate_succ, Array.replicate_zero, List.push_toArray, List.append_toArray, List.nil_append, List.cons_append]
  gi_wp2
  gi_loopw [7] (fun _ wr => ∃ (pre : List ByteArray) (s : ByteArray), s.size ≤ 1100000 ∧ Hid (piecesB s0 = pre ++ piecesB s) ∧ wr.cell? ⟨sb, 0, none⟩ = some (.string s) ∧ Hid (J pre wr)) (fun _ wr => textAt wr sb)
  case atStart => exact ⟨[], s0, hs0, rfl, hs, H0⟩
  case round =>
    obtain ⟨pre, s, hsz, HP, hc, HJ⟩ := hrel
    clear c1 c2 f0 hs H0
    obtain ⟨c1, c2, f0⟩ := HJS.out _ _ HJ.out
    gi_wp2_with fail
    refine ⟨trivial, ?_⟩
    refine (callsIn_wide.2 (Tryd.strings_Index_one s 47 _)).mono ?_
    rintro e w' ⟨rfl, rfl⟩
    rw [show s.data.toList = pb s from rfl]
    have hge := Lib.indexByte_ge (pb s) 47
    rcases (show Lib.indexByte (pb s) 47 < 0 ∨ 0 ≤ Lib.indexByte (pb s) 47 by omega) with hneg | hpos
    · have hm : Lib.indexByte (pb s) 47 = -1 := by omega
      have HL : Hid (piecesB s0 = pre ++ [s]) := by show _ = _; rw [HP.out, piecesB_last hm]
      rw [hm]
      obtain ⟨fn, tmps, assign, body, hy, hR⟩ := HY.out pre s _ s HJ.out hc (by rw [HL.out]; exact List.prefix_refl _)
      clear hneg hge hm
      gi_wp2
      refine hR.mono ?_
      rintro e W3 (⟨rfl, hJ3, hk3⟩ | ⟨rfl, hJx3⟩)
      · gi_wp2
        go_end0
        exact ⟨⟨_, rfl⟩, .inl (by rw [HL.out]; exact hJ3)⟩
      · gi_wp2
        go_end0
        exact ⟨⟨_, rfl⟩, .inr ⟨pre ++ [s], by rw [HL.out]; exact List.prefix_refl _, hJx3⟩⟩
    · obtain ⟨i, hi⟩ : ∃ i : Nat, Lib.indexByte (pb s) 47 = i := ⟨_, (Int.toNat_of_nonneg hpos).symm⟩
      obtain ⟨hlt, hcut⟩ := piecesB_cut hi
      have HL : Hid (piecesB s0 = (pre ++ [s.extract 0 i]) ++ piecesB (s.extract (i + 1) s.size)) := by show _ = _; rw [HP.out, hcut, List.append_assoc]; rfl
      have HZ : Hid ((s.extract (i + 1) s.size).size < s.size) := by show _ < _; rw [ByteArray.size_extract]; omega
      rw [hi]
      obtain ⟨fn, tmps, assign, body, hy, hR⟩ := HY.out pre (s.extract 0 i) _ s HJ.out hc (by rw [HL.out]; exact List.prefix_append _ _)
      have hi5 : i < 1100000 := by omega
      have hw1 : wrap64 (i : Int) = i := IntWalk.wrap64_in _ (by omega)
      have hw2 : wrap64 ((i : Int) + 1) = i + 1 := IntWalk.wrap64_in _ (by omega)
      have hle : (s.extract (i + 1) s.size).size ≤ 1100000 := by have := HZ.out; omega
      clear hge hpos hi hcut
      gi_wp2
      refine hR.mono ?_
      rintro e W3 (⟨rfl, hJ3, hk3⟩ | ⟨rfl, hJx3⟩)
      · have HC := Lib.hid hc
        clear c1 c2 f0 hc hy hR
        obtain ⟨c1, c2, f0⟩ := HJS.out _ _ hJ3
        have HJ3 := Lib.hid hJ3
        clear hJ3
        gi_wp2
        go_roundw
        case rel => exact ⟨_, _, hle, HL, World.cell?_setCell_same' _ _ _ (by rw [hk3]; rfl), HJT.out _ _ _ HJ3.out⟩
        case measure => rw [textAt_eq (World.cell?_setCell_same' _ _ _ (by rw [hk3]; rfl)), textAt_eq HC.out]; exact HZ.out
      · gi_wp2
        refine bodyPost_ret (results_none rfl _ _ _) rfl ?_
        exact ⟨⟨_, rfl⟩, .inr ⟨pre ++ [s.extract 0 i], by rw [HL.out]; exact List.prefix_append _ _, hJx3⟩⟩
end Go.Proofs.YtjimjaimfejonaaDoor
