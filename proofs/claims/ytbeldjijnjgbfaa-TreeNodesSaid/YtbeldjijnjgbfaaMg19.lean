/-
  Texts put together: NodeL, NodeRp.
-/
import Derived.Test.YtbeldjijnjgbfaaMg17
import Derived.Test.YtbeldjijnjgbfaaNodeK
import Derived.Test.YtbeldjijnjgbfaaNodeP
import Derived.Test.YtbeldjijnjgbfaaMg2
namespace Go.Proofs.Ytbeldjijnjgbfaa
open Go.RowKit Go.ChangeShapes Go.WideShapes Go.ChangeAt

/-- A node m of the call's own in block bm, beside the result's block br; its rows lie from B on. -/
structure MNode (T : TypeId) (w : World) (B br bm : Nat) (leaf : Bool) (kv vv : Value) (ks vs : List ByteArray) : Prop where
  res : Box w br T #[.bool false, .slice none 0 0, .slice none 0 0]
  box : Box w bm T #[.bool leaf, kv, vv]
  kr : Ks w B kv ks
  vr : Ks w B vv vs
  ne : ∀ k, kv.ownBlock = some k → vv.ownBlock ≠ some k
  kb : kv.ownBlock ≠ some bm
  vb : vv.ownBlock ≠ some bm
  lt : br < B
  lm : br ≠ bm
theorem MNode.keep {T : TypeId} {w w' : World} {B br bm : Nat} {leaf : Bool} {kv vv : Value} {ks vs : List ByteArray} (h : MNode T w B br bm leaf kv vv ks vs) (hb : Below w.heap.size w w') : MNode T w' B br bm leaf kv vv ks vs :=
  ⟨h.res.keep hb h.res.lt, h.box.keep hb h.box.lt, h.kr.keep hb, h.vr.keep hb, h.ne, h.kb, h.vb, h.lt, h.lm⟩
/-- A clone laid into a block. -/
theorem MNode.mk' {T : TypeId} {w : World} {B br : Nat} {leaf : Bool} {kv vv : Value} {ks vs : List ByteArray} (hr : Box w br T #[.bool false, .slice none 0 0, .slice none 0 0]) (hk : Ks w B kv ks) (hv : Ks w B vv vs) (hn : ∀ k, kv.ownBlock = some k → vv.ownBlock ≠ some k) (hB : br < B) :
    MNode T (w.alloc (.cells #[.bool leaf, kv, vv] T (0, 0))) B br w.heap.size leaf kv vv ks vs := by
  have hb0 : Below w.heap.size w (w.alloc (.cells #[.bool leaf, kv, vv] T (0, 0))) := (Below.refl _ _).alloc (Nat.le_refl _) _
  have hlt := hr.lt
  refine ⟨hr.keep hb0 hr.lt, Box.new w _ _, hk.keep hb0, hv.keep hb0, hn, fun h => ?_, fun h => ?_, hB, by omega⟩
  · have := hk.lt _ h; omega
  · have := hv.lt _ h; omega
/-- m, laid into the result. -/
theorem MNode.end {T : TypeId} {w : World} {B br bm : Nat} {leaf : Bool} {kv vv : Value} {ks vs : List ByteArray} (h : MNode T w B br bm leaf kv vv ks vs) (n : Nat) (hn : n ≤ br) :
    Box (((w.setCell ⟨br, 0, none⟩ (.bool leaf)).setCell ⟨br, 1, none⟩ kv).setCell ⟨br, 2, none⟩ vv) br T #[.bool leaf, kv, vv] ∧
    NodeOwn (((w.setCell ⟨br, 0, none⟩ (.bool leaf)).setCell ⟨br, 1, none⟩ kv).setCell ⟨br, 2, none⟩ vv) n (.agg #[.bool leaf, kv, vv]) ⟨leaf, ks, vs⟩ := by
  have hC := chg_set3 w br (.bool leaf) kv vv
  have hlt := h.lt
  refine ⟨box_set3 h.res _ _ _, kv, vv, rfl, (h.kr.chg hC (fun k h1 h2 => ?_)).low (by omega), (h.vr.chg hC (fun k h1 h2 => ?_)).low (by omega)⟩
  · simp at h2; have := h.kr.own_block k h1; omega
  · simp at h2; have := h.vr.own_block k h1; omega
/-- The keys' row is another one now. -/
theorem MNode.newK {T : TypeId} {w w' : World} {B br bm : Nat} {leaf : Bool} {kv vv kv' : Value} {ks vs ks' : List ByteArray} (h : MNode T w B br bm leaf kv vv ks vs) (hk : Ks w' B kv' ks') (S : List Nat) (hc : Chg S w w') (hS : ∀ k ∈ S, kv.ownBlock = some k) (ho : ∀ k, kv'.ownBlock = some k → kv.ownBlock = some k ∨ w.heap.size ≤ k) :
    MNode T (w'.setCell ⟨bm, 1, none⟩ kv') B br bm leaf kv' vv ks' vs := by
  have hbr : br ∉ S := fun hm => by have := h.kr.own_block br (hS br hm); have := h.lt; omega
  have hbm : bm ∉ S := fun hm => h.kb (hS bm hm)
  have hvv : ∀ k, vv.ownBlock = some k → k ∉ S := fun k h1 hm => h.ne k (hS k hm) h1
  have hnb : kv'.ownBlock ≠ some bm := fun he => by
    rcases ho bm he with h1 | h1
    · exact h.kb h1
    · have := h.box.lt; omega
  have hC : Chg [bm] w' (w'.setCell ⟨bm, 1, none⟩ kv') := Chg.only (Only.set bm 1 w' kv')
  refine ⟨(h.res.of (hc.block br h.res.lt hbr)).of (hC.block br (Nat.lt_of_lt_of_le h.res.lt hc.size) (by simpa using h.lm)), (h.box.of (hc.block bm h.box.lt hbm)).set 1 kv', hk.chg hC (fun k h1 h2 => ?_), (h.vr.chg hc hvv).chg hC (fun k h1 h2 => ?_), fun k h1 h2 => ?_, hnb, h.vb, h.lt, h.lm⟩
  · simp at h2; subst h2; exact hnb h1
  · simp at h2; subst h2; exact h.vb h1
  · rcases ho k h1 with h3 | h3
    · exact h.ne k h3 h2
    · have := h.vr.lt k h2; omega
/-- The values' row is another one now. -/
theorem MNode.newV {T : TypeId} {w w' : World} {B br bm : Nat} {leaf : Bool} {kv vv vv' : Value} {ks vs vs' : List ByteArray} (h : MNode T w B br bm leaf kv vv ks vs) (hk : Ks w' B vv' vs') (S : List Nat) (hc : Chg S w w') (hS : ∀ k ∈ S, vv.ownBlock = some k) (ho : ∀ k, vv'.ownBlock = some k → vv.ownBlock = some k ∨ w.heap.size ≤ k) :
    MNode T (w'.setCell ⟨bm, 2, none⟩ vv') B br bm leaf kv vv' ks vs' := by
  have hbr : br ∉ S := fun hm => by have := h.vr.own_block br (hS br hm); have := h.lt; omega
  have hbm : bm ∉ S := fun hm => h.vb (hS bm hm)
  have hkk : ∀ k, kv.ownBlock = some k → k ∉ S := fun k h1 hm => h.ne k h1 (hS k hm)
  have hnb : vv'.ownBlock ≠ some bm := fun he => by
    rcases ho bm he with h1 | h1
    · exact h.vb h1
    · have := h.box.lt; omega
  have hC : Chg [bm] w' (w'.setCell ⟨bm, 2, none⟩ vv') := Chg.only (Only.set bm 2 w' vv')
  refine ⟨(h.res.of (hc.block br h.res.lt hbr)).of (hC.block br (Nat.lt_of_lt_of_le h.res.lt hc.size) (by simpa using h.lm)), (h.box.of (hc.block bm h.box.lt hbm)).set 2 vv', (h.kr.chg hc hkk).chg hC (fun k h1 h2 => ?_), hk.chg hC (fun k h1 h2 => ?_), fun k h1 h2 => ?_, h.kb, hnb, h.lt, h.lm⟩
  · simp at h2; subst h2; exact h.kb h1
  · simp at h2; subst h2; exact hnb h1
  · rcases ho k h2 with h3 | h3
    · exact h.ne k h1 h3
    · have := h.kr.lt k h1; omega
theorem MNode.boxK {T : TypeId} {w w' : World} {B br bm : Nat} {leaf : Bool} {kv vv : Value} {ks vs : List ByteArray} (h : MNode T w B br bm leaf kv vv ks vs) (S : List Nat) (hc : Chg S w w') (hS : ∀ k ∈ S, kv.ownBlock = some k) : Box w' bm T #[.bool leaf, kv, vv] :=
  h.box.of (hc.block bm h.box.lt (fun hm => h.kb (hS bm hm)))
theorem MNode.boxV {T : TypeId} {w w' : World} {B br bm : Nat} {leaf : Bool} {kv vv : Value} {ks vs : List ByteArray} (h : MNode T w B br bm leaf kv vv ks vs) (S : List Nat) (hc : Chg S w w') (hS : ∀ k ∈ S, vv.ownBlock = some k) : Box w' bm T #[.bool leaf, kv, vv] :=
  h.box.of (hc.block bm h.box.lt (fun hm => h.vb (hS bm hm)))
theorem MNode.belowK {T : TypeId} {w w' : World} {B br bm n : Nat} {leaf : Bool} {kv vv : Value} {ks vs : List ByteArray} (h : MNode T w B br bm leaf kv vv ks vs) (S : List Nat) (hc : Chg S w w') (hS : ∀ k ∈ S, kv.ownBlock = some k) (hn : n ≤ br) : Below n w w' :=
  hc.below (by have := h.res.lt; omega) (fun k hk => by have := h.kr.own_block k (hS k hk); have := h.lt; omega)
theorem MNode.belowV {T : TypeId} {w w' : World} {B br bm n : Nat} {leaf : Bool} {kv vv : Value} {ks vs : List ByteArray} (h : MNode T w B br bm leaf kv vv ks vs) (S : List Nat) (hc : Chg S w w') (hS : ∀ k ∈ S, vv.ownBlock = some k) (hn : n ≤ br) : Below n w w' :=
  hc.below (by have := h.res.lt; omega) (fun k hk => by have := h.vr.own_block k (hS k hk); have := h.lt; omega)
theorem MNode.belowK2 {T : TypeId} {w w' : World} {B br bm n : Nat} {leaf : Bool} {kv vv : Value} {ks vs : List ByteArray} (h : MNode T w B br bm leaf kv vv ks vs) (S : List Nat) (hc : Chg S w w') (hS : ∀ k ∈ S, kv.ownBlock = some k) (hn : n ≤ B) (hs : B ≤ w.heap.size) : Below n w w' :=
  hc.below (by omega) (fun k hk => by have := h.kr.own_block k (hS k hk); omega)
theorem MNode.belowV2 {T : TypeId} {w w' : World} {B br bm n : Nat} {leaf : Bool} {kv vv : Value} {ks vs : List ByteArray} (h : MNode T w B br bm leaf kv vv ks vs) (S : List Nat) (hc : Chg S w w') (hS : ∀ k ∈ S, vv.ownBlock = some k) (hn : n ≤ B) (hs : B ≤ w.heap.size) : Below n w w' :=
  hc.below (by omega) (fun k hk => by have := h.vr.own_block k (hS k hk); omega)
/-- One cell of the values' row is set. -/
theorem MNode.setV {T : TypeId} {w : World} {B br bm : Nat} {leaf : Bool} {kv : Value} {g cap : Nat} {ks vs : List ByteArray} (h : MNode T w B br bm leaf kv (.slice (some ⟨g, 0, none⟩) vs.length cap) ks vs) (i : Nat) (_hi : i < vs.length) (y : ByteArray) :
    MNode T (w.setCell ⟨g, i, none⟩ (.string y)) B br bm leaf kv (.slice (some ⟨g, 0, none⟩) vs.length cap) ks (vs.set i y) := by
  have hC : Chg [g] w (w.setCell ⟨g, i, none⟩ (.string y)) := Chg.only (Only.set g i w _)
  have hg : (Value.slice (some ⟨g, 0, none⟩) vs.length cap).ownBlock = some g := rfl
  have hgB := h.vr.own_block g hg
  have h1 := (World.ownsRow.stored h.vr i (.string y)).1
  refine ⟨h.res.of (hC.block br h.res.lt (by simp; have := h.lt; omega)), h.box.of (hC.block bm h.box.lt (by simp; intro e; exact h.vb (by rw [hg, e]))), h.kr.chg hC (fun k h2 h3 => ?_), ?_, h.ne, h.kb, h.vb, h.lt, h.lm⟩
  · simp at h3; subst h3; exact h.ne _ h2 hg
  · unfold Ks
    rw [List.length_set, List.map_set]
    exact h1
end Go.Proofs.Ytbeldjijnjgbfaa

namespace Go.Proofs.Ytbeldjijnjgbfaa
open Go.RowKit Go.ChangeShapes Go.WideShapes Go.ChangeAt

theorem text_pos (b : Nat) (s : ByteArray) (k n : Nat) (h1 : 1 ≤ n) (h7 : n ≤ 7) (w : World) (h : RdPos w b s k) :
    Calls Try.prog 37 #[.pointer (some ⟨b, 0, none⟩), .int .i64 n] w fun e w' => e = .returned (.string (valB s (k + n) (valN s k n))) ∧ RdPos w' b s (k + n + valN s k n) ∧ Only b w w' := by
  have H := Lib.hid h
  clear h
  go_enter Try.func37, Try.ntmps37
  go_wp2_with fail
  refine (number_pos b s k n h1 h7 _ H.out).mono ?_
  rintro e w1 ⟨rfl, hr, hb⟩
  have Hr := Lib.hid hr
  have Hb := Lib.hid hb
  clear hr hb
  go_wp2_with fail
  refine (bytes_pos b s (k + n) (valN s k n) _ Hr.out).mono ?_
  rintro e w2 ⟨rfl, hr, hb⟩
  have Hr2 := Lib.hid hr
  have Hb2 := Lib.hid (Hb.out.trans hb)
  clear hr hb
  go_wp2
  go_ret
  exact ⟨rfl, Hr2.out, Hb2.out⟩
theorem rdpos_of {w w' : World} {b : Nat} {s : ByteArray} {k : Nat} (h : RdPos w b s k) (e : w'.heap[b]? = w.heap[b]?) : RdPos w' b s k := by
  unfold RdPos RdAt at h ⊢; rw [e]; exact h
theorem rdpos_lt {w : World} {b : Nat} {s : ByteArray} {k : Nat} (h : RdPos w b s k) : b < w.heap.size := RdAt.lt h
end Go.Proofs.Ytbeldjijnjgbfaa
