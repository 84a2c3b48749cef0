/-
  Texts put together: PathIter, Keys, KeysS, PathName.
-/
import Derived.Test.YteimpebfenpifaaGreatDoorMg2
import Derived.Test.YteimpebfenpifaaGreatDoorPathShelf
import Derived.RangeFuncBound
import Derived.RangeFuncCalls
import Derived.RangeFuncLeaves
import Derived.Shelf.Abstract
import Derived.Shelf.RegionOpen
import Derived.WalkKit
import Derived.OwnWalkIn
import Derived.TacticsInMore
import Derived.LoopNIn
import Derived.LoopIn
import Derived.Shelf.AbstractIn
import Derived.Lib.Hide
import Derived.Test.YteimpebfenpifaaGreatDoorMg0
import Derived.Deep.RegionLaw
import Derived.Maps.AppendAt
import Derived.Laws.CopyRow
import Derived.Lib.SliceRun
import Derived.Deep.QuietTactic
import Derived.BigQuiet
import Derived.RangeFuncBox
namespace Go.Proofs.YteimpebfenpifaaGreatDoor
open Go Go.RowKit Go.Shelf

attribute [local go_sem] Oper.semAt_some

def textAt (W : World) (b : Nat) : Nat := match W.cell? ⟨b, 0, none⟩ with
  | some (.string u) => u.size
  | _ => 0
theorem textAt_eq {W : World} {b : Nat} {u : ByteArray} (h : W.cell? ⟨b, 0, none⟩ = some (.string u)) : textAt W b = u.size := by unfold textAt; rw [h]

set_option maxRecDepth 100000 in
set_option maxHeartbeats 1000000 in
theorem iter_any (n l sb eb vb : Nat) (hn : 1 ≤ n) (s0 : ByteArray) (hs0 : s0.size ≤ 1100000) (J Jx : List ByteArray → World → Prop)
    (hJs : ∀ pre W, J pre W → W.cell? ⟨eb, 0, none⟩ = some (.string ⟨#[47]⟩) ∧ W.cell? ⟨vb, 0, none⟩ = some (.int .i64 0) ∧ W.frozen? ⟨sb, 0, none⟩ = false)
    (hJt : ∀ pre W (u : ByteArray), J pre W → J pre (W.setCell ⟨sb, 0, none⟩ (.string u)))
    (hY : ∀ pre x W u, J pre W → W.cell? ⟨sb, 0, none⟩ = some (.string u) → pre ++ [x] <+: piecesB s0 → YieldAt Fence.wide (n - 1) Tryz.prog l #[.string x] W fun e W' =>
      (e = .returned (.bool true) ∧ J (pre ++ [x]) W' ∧ W'.cell? ⟨sb, 0, none⟩ = some (.string u)) ∨ (e = .returned (.bool false) ∧ Jx (pre ++ [x]) W'))
    (W : World) (hs : W.cell? ⟨sb, 0, none⟩ = some (.string s0)) (h0 : J [] W) :
    CallsIn Fence.wide n Tryz.prog 85 #[.func (.yield l) #[] #[], .pointer (some ⟨eb, 0, none⟩), .pointer (some ⟨sb, 0, none⟩), .pointer (some ⟨vb, 0, none⟩)] W fun e W' => (∃ v, e = .returned v) ∧
      (J (piecesB s0) W' ∨ ∃ pre, pre <+: piecesB s0 ∧ Jx pre W') := by
  have HY := Lib.hid hY
  have HJT := Lib.hid hJt
  have HJS := Lib.hid hJs
  obtain ⟨c1, c2, f0⟩ := hJs _ _ h0
  have H0 := Lib.hid h0
  clear hY hJt hJs h0
  refine callsIn_of_wp Tryz.func85 rfl trivial ?_ rfl
  simp only [Tryz.ntmps85, List.size_toArray, List.length_cons, List.length_nil, Nat.reduceAdd, Nat.reduceSub, Array.replicate_succ, Array.replicate_zero, List.push_toArray, List.append_toArray, List.nil_append, List.cons_append]
  gi_wp2
  gi_loopw [7] (fun _ wr => ∃ (pre : List ByteArray) (s : ByteArray), s.size ≤ 1100000 ∧ Hid (piecesB s0 = pre ++ piecesB s) ∧ wr.cell? ⟨sb, 0, none⟩ = some (.string s) ∧ Hid (J pre wr)) (fun _ wr => textAt wr sb)
  case atStart => exact ⟨[], s0, hs0, rfl, hs, H0⟩
  case round =>
    obtain ⟨pre, s, hsz, HP, hc, HJ⟩ := hrel
    clear c1 c2 f0 hs H0
    obtain ⟨c1, c2, f0⟩ := HJS.out _ _ HJ.out
    gi_wp2_with fail
    refine ⟨trivial, ?_⟩
    refine (callsIn_wide.2 (Tryz.strings_Index_one s 47 _)).mono ?_
    rintro e w' ⟨rfl, rfl⟩
    rw [show s.data.toList = pb s from rfl]
    have hge := Lib.indexByte_ge (pb s) 47
    rcases (show Lib.indexByte (pb s) 47 < 0 ∨ 0 ≤ Lib.indexByte (pb s) 47 by omega) with hneg | hpos
    · have hm : Lib.indexByte (pb s) 47 = -1 := by omega
      have HL : Hid (piecesB s0 = pre ++ [s]) := by show _ = _; rw [HP.out, piecesB_last hm]
      rw [hm]
      obtain ⟨fn, tmps, assign, body, hy, hR⟩ := HY.out pre s _ s HJ.out hc (by rw [HL.out]; exact List.prefix_refl _)
      clear hneg hge hm
      gi_wp2
      refine hR.mono ?_
      rintro e W3 (⟨rfl, hJ3, hk3⟩ | ⟨rfl, hJx3⟩)
      · gi_wp2
        go_end0
        exact ⟨⟨_, rfl⟩, .inl (by rw [HL.out]; exact hJ3)⟩
      · gi_wp2
        go_end0
        exact ⟨⟨_, rfl⟩, .inr ⟨pre ++ [s], by rw [HL.out]; exact List.prefix_refl _, hJx3⟩⟩
    · obtain ⟨i, hi⟩ : ∃ i : Nat, Lib.indexByte (pb s) 47 = i := ⟨_, (Int.toNat_of_nonneg hpos).symm⟩
      obtain ⟨hlt, hcut⟩ := piecesB_cut hi
      have HL : Hid (piecesB s0 = (pre ++ [s.extract 0 i]) ++ piecesB (s.extract (i + 1) s.size)) := by show _ = _; rw [HP.out, hcut, List.append_assoc]; rfl
      have HZ : Hid ((s.extract (i + 1) s.size).size < s.size) := by show _ < _; rw [ByteArray.size_extract]; omega
      rw [hi]
      obtain ⟨fn, tmps, assign, body, hy, hR⟩ := HY.out pre (s.extract 0 i) _ s HJ.out hc (by rw [HL.out]; exact List.prefix_append _ _)
      have hi5 : i < 1100000 := by omega
      have hw1 : wrap64 (i : Int) = i := IntWalk.wrap64_in _ (by omega)
      have hw2 : wrap64 ((i : Int) + 1) = i + 1 := IntWalk.wrap64_in _ (by omega)
      have hle : (s.extract (i + 1) s.size).size ≤ 1100000 := by have := HZ.out; omega
      clear hge hpos hi hcut
      gi_wp2
      refine hR.mono ?_
      rintro e W3 (⟨rfl, hJ3, hk3⟩ | ⟨rfl, hJx3⟩)
      · have HC := Lib.hid hc
        clear c1 c2 f0 hc hy hR
        obtain ⟨c1, c2, f0⟩ := HJS.out _ _ hJ3
        have HJ3 := Lib.hid hJ3
        clear hJ3
        gi_wp2
        go_roundw
        case rel => exact ⟨_, _, hle, HL, World.cell?_setCell_same' _ _ _ (by rw [hk3]; rfl), HJT.out _ _ _ HJ3.out⟩
        case measure => rw [textAt_eq (World.cell?_setCell_same' _ _ _ (by rw [hk3]; rfl)), textAt_eq HC.out]; exact HZ.out
      · gi_wp2
        refine bodyPost_ret (results_none rfl _ _ _) rfl ?_
        exact ⟨⟨_, rfl⟩, .inr ⟨pre ++ [s.extract 0 i], by rw [HL.out]; exact List.prefix_append _ _, hJx3⟩⟩
end Go.Proofs.YteimpebfenpifaaGreatDoor

namespace Go.Proofs.YteimpebfenpifaaGreatDoor
open Go.RowKit Go.ChangeShapes Go.WideShapes Go.ChangeAt

theorem infoKey : (Tryz.prog.info? 9).map (fun i => (i.zero, i.size, i.bytes)) = some (some (.string ⟨#[]⟩), 1, 16) := by kernel_rfl
theorem zeroKey (w : World) : (zeroValue 9).run Tryz.prog w = .ok (.string ⟨#[]⟩) w := by kernel_rfl
theorem eq_nil_keys (a : Option Addr) (n c : Nat) (b : Bool) (hb : a.isNone = b) (w : World) : (binOp .eql 31 (.slice a n c) (.slice none 0 0)).run Tryz.prog w = .ok (.bool b) w := by
  rw [← hb]; exact Go.Lib.run_eql_slice_nil w _ _ a n c 0 0 Tryz.underlying31

/-- The value v is a slice of the call's own that holds the strings l. -/
def Ks (w : World) (base : Nat) (v : Value) (l : List ByteArray) : Prop := w.ownsRow base 9 1 v l.length (l.map Value.string)
section
variable {w w' : World} {base : Nat} {v : Value} {l : List ByteArray}
theorem Ks.nil (w : World) (base : Nat) : Ks w base (.slice none 0 0) [] := World.ownsRow_nil _ _ _ _
theorem Ks.own_block (h : Ks w base v l) : ∀ k, v.ownBlock = some k → base ≤ k := fun k hk => (World.ownsRow.lt h k hk).1
theorem Ks.lt (h : Ks w base v l) : ∀ k, v.ownBlock = some k → k < w.heap.size := fun k hk => (World.ownsRow.lt h k hk).2
theorem Ks.keep (h : Ks w base v l) (hb : Below w.heap.size w w') : Ks w' base v l := ownsRow_of h fun k _ hlt => hb.block k hlt
theorem Ks.chg {S : List Nat} (h : Ks w base v l) (hc : Chg S w w') (hn : ∀ k, v.ownBlock = some k → k ∉ S) : Ks w' base v l := ownsRow_of h fun k hk hlt => hc.block k hlt (hn k hk)
theorem Ks.alloc (h : Ks w base v l) (o : Obj) : Ks (w.alloc o) base v l := World.ownsRow.alloc h o
theorem Ks.low {b : Nat} (h : Ks w base v l) (hb : b ≤ base) : Ks w b v l := by
  refine ⟨h.1, ?_⟩
  rcases h.2 with h | ⟨g, cap, cur, h1, h2, h3⟩
  · exact .inl h
  · exact .inr ⟨g, cap, cur, h1, Nat.le_trans hb h2, h3⟩
theorem Ks.view (h : Ks w base v l) : ∃ a cap, v = .slice a l.length cap ∧ Sl w Value.string a l := by
  have h' := h
  rcases h.2 with ⟨rfl, h0⟩ | ⟨g, cap, cur, rfl, hg, hh, _⟩
  · have : l = [] := List.eq_nil_of_length_eq_zero h0
    subst this
    exact ⟨none, 0, rfl, Sl.nil⟩
  · refine ⟨some ⟨g, 0, none⟩, cap, rfl, fun _ => ⟨g, 0, rfl, lt_of_block hh, fun i x hx => ?_⟩⟩
    have hi : i < l.length := (List.getElem?_eq_some_iff.1 hx).1
    rw [Nat.zero_add, World.ownsRow.cellAt h' i (by omega), List.getElem?_map, hx]
    rfl
/-- Its shape: nothing, or a block of its own. -/
theorem Ks.form (h : Ks w base v l) : (v = .slice none 0 0 ∧ l = []) ∨ ∃ g cap, v = .slice (some ⟨g, 0, none⟩) l.length cap ∧ base ≤ g ∧ g < w.heap.size ∧ l.length ≤ cap ∧ cap ≤ maxLen := by
  rcases h.2 with ⟨rfl, h0⟩ | ⟨g, cap, cur, rfl, hg, hh, h1, h2, _⟩
  · exact .inl ⟨rfl, List.eq_nil_of_length_eq_zero h0⟩
  · exact .inr ⟨g, cap, rfl, hg, lt_of_block hh, h1, h2⟩
end

theorem key_one (l : List ByteArray) : ∀ u ∈ l.map Value.string, u.oneCell' = true := by
  intro u hu
  obtain ⟨y, _, rfl⟩ := List.mem_map.1 hu
  rfl
/-- 'append(s, x...)' on such a row. -/
theorem run_keys_push (W : World) (ty : TypeId) (base : Nat) (v : Value) (l : List ByteArray) (hb : Ks W base v l) (ad : Addr) (m c : Nat) (cs : List ByteArray) (hm : cs.length = m) (hcell : ∀ j u, cs[j]? = some u → W.cell? (ad.add j) = some (.string u))
    (hbytes : l.length + m ≤ 2000000) (hbase : base ≤ W.heap.size) :
    ∃ v' w', (Builtin.append_ #[31, 31] ty #[v, .slice (some ad) m c]).run Tryz.prog W = .ok v' w' ∧ Ks w' base v' (l ++ cs) ∧ W.grownBy w' v.ownBlock ∧ (v'.ownBlock = v.ownBlock ∨ v'.ownBlock = some W.heap.size) := by
  obtain ⟨i0, hi, hz0, hz1, hz2⟩ := info_parts infoKey
  subst hm
  obtain ⟨v', w', hr, hown, hg, _, hob⟩ := run_append_own_at (P := Tryz.prog) W base 31 ty 9 i0 (.string ⟨#[]⟩) 1 16 Tryz.underlying31 hi hz0 hz1 hz2 rfl (by decide) v l.length (l.map Value.string) hb ad cs.length c (cs.map Value.string) (by simp)
    (by intro j u hu; rw [List.getElem?_map] at hu; obtain ⟨y, hy, rfl⟩ := Option.map_eq_some_iff.1 hu; exact hcell j y hy) (key_one cs) (by unfold maxLen; omega) (by omega) hbase
  refine ⟨v', w', hr, ?_, hg, hob⟩
  unfold Ks
  rw [List.map_append, List.length_append]
  exact hown
theorem wp_keys_push {ops : Array Oper} {rest : List Oper} {o : Oper} {a : Act} {Q : Exit → Act → World → Prop} (W : World) (hgd : o.guard = none) (s x : Operand)
    (ho : o.op = .call { callee := .builtin .append, args := #[s, x], argTypes := #[31, 31] })
    (base : Nat) (v : Value) (l : List ByteArray) (hs : a.eval s = v) (hb : Ks W base v l)
    (ad : Addr) (m c : Nat) (cs : List ByteArray) (hx : a.eval x = .slice (some ad) m c) (hm : cs.length = m) (hcell : ∀ j u, cs[j]? = some u → W.cell? (ad.add j) = some (.string u))
    (hbytes : l.length + m ≤ 2000000) (hbase : base ≤ W.heap.size)
    (h : ∀ v' w', Ks w' base v' (l ++ cs) → W.grownBy w' v.ownBlock → (v'.ownBlock = v.ownBlock ∨ v'.ownBlock = some W.heap.size) → wpList Tryz.prog ops Q rest (a.put o.dst v') w') : wpList Tryz.prog ops Q (o :: rest) a W := by
  obtain ⟨v', w', hr, h1, h2, h3⟩ := run_keys_push W o.type base v l hb ad m c cs hm hcell hbytes hbase
  refine wpList_plain hgd fun K hK => ?_
  unfold Oper.wp execOp
  simp only [ho, resolve, invoke, builtin, Sem.run_bind, Sem.run_pure, Result.andThen_ok, List.map_toArray, List.map_cons, List.map_nil, hs, hx, hr]
  exact hK _ _ (h v' w' h1 h2 h3)

/-- 'append(s[:i], s[j:]...)': the row's own later cells, moved to its front. -/
theorem step_keys_cut {ops : Array Oper} {o : Oper} {a : Act} {W : World} {K : Act → World → Prop} {Q : Exit → Act → World → Prop} {E : Prop} (hgd : o.guard = none) (s x : Operand)
    (ho : o.op = .call { callee := .builtin .append, args := #[s, x], argTypes := #[31, 31] })
    (base g cap : Nat) (l : List ByteArray) (i : Nat) (hb : Ks W base (.slice (some ⟨g, 0, none⟩) l.length cap) l) (hi : i < l.length) (hs : a.eval s = .slice (some ⟨g, 0, none⟩) i cap)
    (ad : Addr) (c : Nat) (hx : a.eval x = .slice (some ad) (l.length - (i + 1)) c) (had : ad = ⟨g, i + 1, none⟩ ∨ l.length = i + 1)
    (h : ∀ w' z, Ks w' base (.slice (some ⟨g, 0, none⟩) l.length cap) (l.eraseIdx i ++ [z]) → Chg [g] W w' → K (a.put o.dst (.slice (some ⟨g, 0, none⟩) (l.length - 1) cap)) w') :
    if Region.wanted o (yielded ops a.tmps) = true then Oper.wp Tryz.prog o a W K Q else E := by
  have hw : Region.wanted o (yielded ops a.tmps) = true := by simp [Region.wanted, hgd]
  rw [if_pos hw]
  obtain ⟨i0, hi0, hz0, hz1, hz2⟩ := info_parts infoKey
  have hb' := hb
  rcases hb.2 with ⟨h', _⟩ | ⟨g', cap', cur, h', hbg, hg, hnc, hcm, hcs, htake⟩
  · simp at h'
  · simp only [Value.slice.injEq, Option.some.injEq, Addr.mk.injEq, and_true, true_and] at h'
    obtain ⟨rfl, rfl⟩ := h'
    have hnews : ∀ j u, ((l.drop (i + 1)).map Value.string)[j]? = some u → W.cell? (ad.add j) = some u := by
      intro j u hu
      have hj : j < l.length - (i + 1) := by
        have := (List.getElem?_eq_some_iff.1 hu).1
        simpa using this
      rcases had with rfl | he
      · rw [add_plain, World.ownsRow.cellAt hb' (i + 1 + j) (by omega)]
        rw [List.getElem?_map, List.getElem?_drop] at hu
        rw [List.getElem?_map]
        exact hu
      · omega
    have hr := run_append_room (P := Tryz.prog) W 31 o.type 9 i0 Tryz.underlying31 hi0 g i cap cur hg ad (l.length - (i + 1)) c ((l.drop (i + 1)).map Value.string) (by rw [hz1]; simp) hnews (key_one _) (by omega) (by rw [hz1, hcs]; simp; omega)
    rw [hz1] at hr
    unfold Oper.wp execOp
    simp only [ho, resolve, invoke, builtin, Sem.run_bind, Sem.run_pure, Result.andThen_ok, List.map_toArray, List.map_cons, List.map_nil, hs, hx, hr]
    have e1 : i + (l.length - (i + 1)) = l.length - 1 := by omega
    rw [e1]
    refine h _ (l.getD (l.length - 1) ⟨#[]⟩) ⟨by simp, .inr ⟨g, cap, _, ?_, hbg, setRow_heap W g cur _ _ _ hg, ?_, hcm, ?_, ?_⟩⟩ ⟨rfl, rfl, rfl, by simp [World.setRow], fun k _ hk => setRow_other W g k _ (fun e => hk (by simp [e]))⟩
    · simp [List.length_eraseIdx, hi]; omega
    · simp [List.length_eraseIdx, hi]; omega
    · simp; omega
    · rw [Nat.mul_one] at htake hcs ⊢
      have htk : cur.toList.take i = (l.take i).map Value.string := by
        rw [List.map_take, ← htake, List.take_take, Nat.min_eq_left (by omega)]
      have hlast : (cur.toList.drop (l.length - 1)).take 1 = [Value.string (l.getD (l.length - 1) ⟨#[]⟩)] := by
        have h1 : (cur.toList.take l.length)[l.length - 1]? = some (Value.string (l.getD (l.length - 1) ⟨#[]⟩)) := by
          rw [htake, List.getElem?_map, List.getD, List.getElem?_eq_getElem (by omega)]; rfl
        rw [List.getElem?_take_of_lt (by omega)] at h1
        have h2 := (List.getElem?_eq_some_iff.1 h1)
        obtain ⟨h3, h4⟩ := h2
        rw [List.drop_eq_getElem_cons h3, List.take_succ_cons, List.take_zero, h4]
      have hlen : (l.eraseIdx i ++ [l.getD (l.length - 1) ⟨#[]⟩]).length = l.length := by simp [List.length_eraseIdx, hi]; omega
      rw [hlen]
      have hlm : (List.map Value.string (List.drop (i + 1) l)).length = l.length - (i + 1) := by simp
      rw [hlm, Nat.mul_one i, show i + (l.length - (i + 1)) = l.length - 1 by omega, htk]
      show List.take l.length (List.map Value.string (List.take i l) ++ List.map Value.string (List.drop (i + 1) l) ++ List.drop (l.length - 1) cur.toList) = _
      rw [List.take_append, List.take_of_length_le (by simp; omega), List.length_append, List.length_map, List.length_map, List.length_take, List.length_drop, Nat.min_eq_left (by omega),
        show l.length - (i + (l.length - (i + 1))) = 1 by omega, hlast, List.map_append, List.eraseIdx_eq_take_drop_succ, List.map_append]
      rfl
/-- 'clear(s[n:])' of one cell. -/
theorem wp_keys_clear {ops : Array Oper} {rest : List Oper} {o : Oper} {a : Act} {Q : Exit → Act → World → Prop} (W : World) (hgd : o.guard = none) (x : Operand)
    (ho : o.op = .call { callee := .builtin .clear, args := #[x], argTypes := #[31] })
    (base g cap : Nat) (m : List ByteArray) (z : ByteArray) (c n n' : Nat) (hx : a.eval x = .slice (some ⟨g, n, none⟩) 1 c) (hmn : m.length = n) (hnn : n' = n + 1) (hm : Ks W base (.slice (some ⟨g, 0, none⟩) n' cap) (m ++ [z]))
    (h : ∀ w', Ks w' base (.slice (some ⟨g, 0, none⟩) n cap) m → Chg [g] W w' → wpList Tryz.prog ops Q rest (a.put o.dst (.tuple #[])) w') : wpList Tryz.prog ops Q (o :: rest) a W := by
  subst hmn hnn
  have hst : ∃ w', (Builtin.clear_ #[31] o.type #[.slice (some ⟨g, m.length, none⟩) 1 c]).run Tryz.prog W = .ok (.tuple #[]) w' ∧ Ks w' base (.slice (some ⟨g, 0, none⟩) m.length cap) m ∧ Chg [g] W w' := by
    rcases hm.2 with ⟨h', _⟩ | ⟨g', cap', cur, h', hb, hg, hnc, hcm, hcs, htake⟩
    · simp at h'
    · simp only [Value.slice.injEq, Option.some.injEq, Addr.mk.injEq, and_true] at h'
      obtain ⟨rfl, _, rfl⟩ := h'
      have hl : (m ++ [z]).length = m.length + 1 := by simp
      rw [hl] at htake hnc
      have hr := run_storeCells_at Tryz.prog g m.length 9 (Builtin.zeroCells (Value.string ⟨#[]⟩).cells 1).toList 0 cur W hg (by simp [Builtin.zeroCells, Value.cells]; omega) (by intro v hv; simp [Builtin.zeroCells, Value.cells] at hv; rw [hv]; rfl)
      refine ⟨_, by simp [Builtin.clear_, run_underlying Tryz.underlying31, hr]; rfl, ⟨by simp, .inr ⟨g, cap, _, rfl, hb, setRow_heap W g cur _ _ _ hg, by omega, hcm, ?_, ?_⟩⟩, ⟨rfl, rfl, rfl, by simp [World.setRow], fun k _ hk => setRow_other W g k _ (fun e => hk (by simp [e]))⟩⟩
      · simp [Builtin.zeroCells, Value.cells]; omega
      · dsimp only
        rw [Nat.mul_one, List.take_append_of_le_length (by simp; omega), List.take_take, Nat.min_self]
        have h9 : (cur.toList.take ((m.length + 1) * 1)).take m.length = ((m ++ [z]).map Value.string).take m.length := by rw [htake]
        rw [List.take_take, Nat.min_eq_left (by omega)] at h9
        rw [h9, List.map_append, List.take_append_of_le_length (by simp), List.take_of_length_le (by simp)]
  obtain ⟨w', hr, hS, hC⟩ := hst
  refine wpList_plain hgd fun K hK => ?_
  unfold Oper.wp execOp
  simp only [ho, resolve, invoke, builtin, Sem.run_bind, Sem.run_pure, Result.andThen_ok, List.map_toArray, List.map_cons, List.map_nil, hx, hr]
  exact hK _ _ (h w' hS hC)
end Go.Proofs.YteimpebfenpifaaGreatDoor

namespace Go.Proofs.YteimpebfenpifaaGreatDoor
open Go.RowKit Go.ChangeShapes Go.WideShapes Go.ChangeAt

theorem toList_inj {s t : ByteArray} (h : s.toList = t.toList) : s = t := by
  rw [ByteArray.toList_eq, ByteArray.toList_eq] at h
  have h2 : s.data = t.data := Array.toList_inj.1 h
  cases s; cases t; simp_all
theorem beq_key (s t : ByteArray) : (s.toList == t.toList) = decide (s = t) := by
  by_cases h : s = t
  · subst h; simp
  · have h2 : ¬ s.toList = t.toList := fun e => h (toList_inj e)
    rw [decide_eq_false h]
    simpa using h2

def hasK (l : List ByteArray) (k : ByteArray) : Bool := l.any fun x => decide (x = k)
theorem hasK_iff {l : List ByteArray} {k : ByteArray} : hasK l k = true ↔ k ∈ l := by
  unfold hasK
  rw [List.any_eq_true]
  exact ⟨fun ⟨x, h1, h2⟩ => by have := of_decide_eq_true h2; subst this; exact h1, fun h => ⟨k, h, decide_eq_true rfl⟩⟩
theorem hasK_not {l : List ByteArray} {k : ByteArray} : hasK l k = false ↔ k ∉ l := by rw [← hasK_iff]; simp
set_option maxHeartbeats 1000000 in
theorem same_keys (a b : Option Addr) (ca cb : Nat) (la lb : List ByteArray) (w : World) (ha : Sl w Value.string a la) (hb : Sl w Value.string b lb) (hlen : la.length ≤ 100000) :
    Calls Tryz.prog 29 #[.slice a la.length ca, .slice b lb.length cb] w fun e w' => e = .returned (.bool (decide (la = lb))) ∧ Below w.heap.size w w' := by
  obtain ⟨R, hR⟩ : ∃ R, R = decide (la = lb) := ⟨_, rfl⟩
  rw [← hR]
  have HR := Lib.hid hR
  clear hR
  by_cases hl : la.length = lb.length
  · have HA := Lib.hid ha
    have HB := Lib.hid hb
    have HLL := Lib.hid hl
    have hne : ((la.length : Int) != (lb.length : Int)) = false := by rw [hl]; simp
    clear ha hb
    go_enter Tryz.func29, Tryz.ntmps29
    go_wp2_with fail
    clear hl hne
    go_loopw [5] (fun i wr => ∃ j : Nat, j ≤ la.length ∧ i = .int .i64 j ∧ Hid (la.take j = lb.take j) ∧ Hid (Below w.heap.size w wr)) (fun i _ => la.length - (intOf i).toNat)
    case atStart => exact ⟨0, Nat.zero_le _, rfl, rfl, Below.refl _ _⟩
    case round =>
      rename_i hkl1
      obtain ⟨j, hj, rfl, HE, HL⟩ := hrel
      by_cases hlt : j < la.length
      · clear hkl1
        have hlt2 : j < lb.length := by have := HLL.out; omega
        obtain ⟨ab, ao, rfl, hbl, hc⟩ := HA.out (by intro e; rw [e] at hlt; simp at hlt)
        obtain ⟨bb, bo, rfl, hbl2, hc2⟩ := HB.out (by intro e; rw [e] at hlt2; simp at hlt2)
        have q0 := (HL.out.cell (p := ⟨ab, ao + j, none⟩) hbl).trans (hc j la[j] (List.getElem?_eq_getElem hlt))
        have q1 := (HL.out.cell (p := ⟨bb, bo + j, none⟩) hbl2).trans (hc2 j lb[j] (List.getElem?_eq_getElem hlt2))
        have h0 : (0 : Int) ≤ (j : Int) := by omega
        have h1 : (j : Int) < (la.length : Int) := by omega
        have h2 : (j : Int) < (lb.length : Int) := by omega
        have HT := Lib.hid (List.take_succ_eq_append_getElem hlt)
        have HT2 := Lib.hid (List.take_succ_eq_append_getElem hlt2)
        have HG : Hid (la = lb → la[j] = lb[j]) := by rintro rfl; rfl
        have HLT := Lib.hid hlt
        generalize la[j] = x at *
        generalize lb[j] = y at *
        clear hc hc2 hbl hbl2 hlt hlt2
        have e1 := beq_key x y
        have HDN : Hid (∀ nq, Below w.heap.size w (wr.drewN nq)) := fun nq => ⟨HL.out.os, HL.out.tape, HL.out.output, HL.out.size, HL.out.block⟩
        by_cases he : x = y
        · rw [decide_eq_true he] at e1
          have HE2 : Hid (la.take (j + 1) = lb.take (j + 1)) := by show _ = _; rw [HT.out, HT2.out, HE.out, he]
          clear he
          go_wp2_with fail
          go_quiet (fail)
          have hlt := HLT.out
          go_wp2
          go_roundw
          case rel => exact ⟨j + 1, by omega, by go_num, HE2, HDN.out _⟩
          case measure => simp [intOf]; omega
        · rw [decide_eq_false he] at e1
          have HE2 : Hid (R = false) := by show _ = _; rw [HR.out, decide_eq_false (fun e => he (HG.out e))]
          clear he
          go_wp2_with fail
          go_quiet (fail)
          go_wp2
          go_ret
          exact ⟨ret_bool HE2.out.symm, HDN.out _⟩
      · have hjl : j = la.length := by omega
        have HE2 : Hid (R = true) := by
          show _ = _
          have h9 := HE.out
          rw [hjl, List.take_of_length_le (Nat.le_refl _), HLL.out, List.take_of_length_le (Nat.le_refl _)] at h9
          rw [HR.out, decide_eq_true h9]
        subst hjl
        go_wp2
        go_ret
        exact ⟨ret_bool HE2.out.symm, HL.out⟩
  · have HE2 : Hid (R = false) := by show _ = _; rw [HR.out, decide_eq_false (fun e => hl (by rw [e]))]
    have hne : ((la.length : Int) != (lb.length : Int)) = true := by simpa using fun h => hl (by exact_mod_cast h)
    clear ha hb
    go_enter Tryz.func29, Tryz.ntmps29
    go_wp2
    go_ret
    exact ⟨ret_bool HE2.out.symm, Below.refl _ _⟩
end Go.Proofs.YteimpebfenpifaaGreatDoor

namespace Go.Proofs.YteimpebfenpifaaGreatDoor
open Go Go.RowKit Go.Shelf
attribute [local go_sem] Oper.semAt_some

theorem dot_ne {s : ByteArray} {l : List UInt8} (h : pb s ≠ l) : (s.toList == l) = false := by
  rw [beq_eq_false_iff_ne, ByteArray.toList_eq]; exact h
theorem dot_eq {s : ByteArray} {l : List UInt8} (h : pb s = l) : s = ⟨l.toArray⟩ := pb_ext (by rw [h, pb_mk])

theorem isname_any (s : ByteArray) (w : World) : Calls Tryz.prog 41 #[.string s] w fun e w' => e = .returned (.bool (decide (okN s))) ∧ w = w' := by
  obtain ⟨R, hR⟩ : ∃ R, R = decide (okN s) := ⟨_, rfl⟩
  rw [← hR]
  by_cases h0 : s.size = 0
  · have e0 : s = ⟨#[]⟩ := by
      apply ByteArray.ext
      exact Array.eq_empty_of_size_eq_zero h0
    subst e0
    have HR : Hid (R = false) := hR.trans (decide_eq_false (fun h => absurd h.1 (by decide)))
    go_enter Tryz.func41, Tryz.ntmps41
    go_wp2
    go_ret
    exact ⟨ret_bool HR.out.symm, rfl⟩
  · obtain ⟨g1, g2⟩ := str_some s (by omega)
    by_cases h1 : 255 < s.size
    · have HR : Hid (R = false) := hR.trans (decide_eq_false (fun h => by have := h.2.1; omega))
      clear hR
      go_enter Tryz.func41, Tryz.ntmps41
      go_wp2
      go_ret
      exact ⟨ret_bool HR.out.symm, rfl⟩
    · by_cases h2 : pb s = [46]
      · have HR : Hid (R = false) := hR.trans (decide_eq_false (fun h => h.2.2.1 h2))
        obtain rfl := dot_eq h2
        clear hR h0 h1 h2
        go_enter Tryz.func41, Tryz.ntmps41
        go_wp2
        go_ret
        exact ⟨ret_bool HR.out.symm, rfl⟩
      · by_cases h3 : pb s = [46, 46]
        · have HR : Hid (R = false) := hR.trans (decide_eq_false (fun h => h.2.2.2.1 h3))
          obtain rfl := dot_eq h3
          clear hR h0 h1 h2 h3
          go_enter Tryz.func41, Tryz.ntmps41
          go_wp2
          go_ret
          exact ⟨ret_bool HR.out.symm, rfl⟩
        · have d1 := dot_ne h2
          have d2 := dot_ne h3
          have hx : (∀ x ∈ pb s, x ≠ 0) ↔ Lib.indexByte (pb s) 0 = -1 := by
            constructor
            · intro h
              have hge := Lib.indexByte_ge (pb s) 0
              rcases (show Lib.indexByte (pb s) 0 = -1 ∨ 0 ≤ Lib.indexByte (pb s) 0 by omega) with e | e
              · exact e
              · obtain ⟨i, hi⟩ : ∃ i : Nat, Lib.indexByte (pb s) 0 = i := ⟨_, (Int.toNat_of_nonneg e).symm⟩
                obtain ⟨k1, _⟩ := Lib.indexByte_some hi
                obtain ⟨k2, k3⟩ := List.getElem?_eq_some_iff.1 k1
                exact absurd k3 (h _ (List.getElem_mem k2))
            · intro h x hx e
              obtain ⟨k, hk, hk2⟩ := List.getElem_of_mem hx
              exact Lib.indexByte_none h k (by rw [List.getElem?_eq_getElem hk, hk2, e])
          have hge := Lib.indexByte_ge (pb s) 0
          have HR : Hid (R = decide (Lib.indexByte (pb s) 0 < 0)) := by
            show R = _
            rw [hR]
            apply decide_eq_decide.2
            unfold okN
            rw [hx]
            constructor
            · intro h; omega
            · intro h; exact ⟨by omega, by omega, h2, h3, by omega⟩
          clear hR hx h2 h3 hge
          go_enter Tryz.func41, Tryz.ntmps41
          go_wp2_with fail
          refine (Tryz.strings_IndexByte s 0 _).mono ?_
          rintro e w1 ⟨rfl, rfl⟩
          rw [show Lib.indexByte s.data.toList (Int.toNat 0).toUInt8 = Lib.indexByte (pb s) 0 from rfl]
          generalize Lib.indexByte (pb s) 0 = m at *
          go_wp2
          go_ret
          exact ⟨ret_bool HR.out.symm, rfl⟩

theorem cut_yes {s : ByteArray} (h : (pb s).head? = some 47) : Lib.hasPrefix s.data.toList [47] = true ∧ (⟨(Lib.trimPrefix s.data.toList [47]).toArray⟩ : ByteArray) = restP s := by
  have e : ∃ r, pb s = 47 :: r := by
    cases hl : pb s with
    | nil => rw [hl] at h; cases h
    | cons c r => rw [hl] at h; injection h with h; subst h; exact ⟨r, rfl⟩
  obtain ⟨r, hr⟩ := e
  have hp : Lib.hasPrefix (pb s) [47] = true := by rw [hr]; simp [Lib.hasPrefix]
  refine ⟨hp, ?_⟩
  apply pb_ext
  rw [pb_mk]
  show Lib.trimPrefix (pb s) [47] = _
  unfold Lib.trimPrefix
  rw [if_pos hp]
  unfold restP
  rw [pb_cut, List.take_of_length_le (by rw [List.length_drop, pb_size]; omega)]
  rfl
theorem cut_no {s : ByteArray} (h : (pb s).head? ≠ some 47) : Lib.hasPrefix s.data.toList [47] = false ∧ (⟨(Lib.trimPrefix s.data.toList [47]).toArray⟩ : ByteArray) = s := by
  have hp : Lib.hasPrefix (pb s) [47] = false := by
    cases hl : pb s with
    | nil => simp [Lib.hasPrefix]
    | cons c r =>
      rw [hl] at h
      simp only [List.head?_cons, ne_eq, Option.some.injEq] at h
      show ((47 : UInt8) == c && ([] : List UInt8).isPrefixOf r) = false
      rw [Bool.and_eq_false_iff]
      exact .inl (by simpa using Ne.symm h)
  refine ⟨hp, ?_⟩
  apply pb_ext
  rw [pb_mk]
  show Lib.trimPrefix (pb s) [47] = _
  unfold Lib.trimPrefix
  rw [hp]
  rfl
end Go.Proofs.YteimpebfenpifaaGreatDoor
