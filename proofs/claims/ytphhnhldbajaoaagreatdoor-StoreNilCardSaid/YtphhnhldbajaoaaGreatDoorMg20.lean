/-
  Texts put together: Keys, KeysC, StJ, StK.
-/
import Derived.Test.YtphhnhldbajaoaaGreatDoorMg0
import Derived.Deep.RegionLaw
import Derived.Maps.AppendAt
import Derived.Laws.CopyRow
import Derived.Lib.SliceRun
import Derived.Test.YtphhnhldbajaoaaGreatDoorMg1
import Derived.Deep.QuietTactic
import Derived.BigQuiet
import Derived.Test.YtphhnhldbajaoaaGreatDoorMg15
import Derived.Test.YtphhnhldbajaoaaGreatDoorMg19
import Derived.Laws.Rows
namespace Go.Proofs.YtphhnhldbajaoaaGreatDoor
open Go.RowKit Go.ChangeShapes Go.WideShapes Go.ChangeAt

theorem infoKey : (Tryz.prog.info? 9).map (fun i => (i.zero, i.size, i.bytes)) = some (some (.string ⟨#[]⟩), 1, 16) := by kernel_rfl
/-- The value v is a slice of the call's own that holds the strings l. -/
def Ks (w : World) (base : Nat) (v : Value) (l : List ByteArray) : Prop := w.ownsRow base 9 1 v l.length (l.map Value.string)
section
variable {w w' : World} {base : Nat} {v : Value} {l : List ByteArray}
theorem Ks.nil (w : World) (base : Nat) : Ks w base (.slice none 0 0) [] := World.ownsRow_nil _ _ _ _
theorem Ks.lt (h : Ks w base v l) : ∀ k, v.ownBlock = some k → k < w.heap.size := fun k hk => (World.ownsRow.lt h k hk).2
theorem Ks.chg {S : List Nat} (h : Ks w base v l) (hc : Chg S w w') (hn : ∀ k, v.ownBlock = some k → k ∉ S) : Ks w' base v l := ownsRow_of h fun k hk hlt => hc.block k hlt (hn k hk)
theorem Ks.alloc (h : Ks w base v l) (o : Obj) : Ks (w.alloc o) base v l := World.ownsRow.alloc h o
theorem Ks.view (h : Ks w base v l) : ∃ a cap, v = .slice a l.length cap ∧ Sl w Value.string a l := by
  have h' := h
  rcases h.2 with ⟨rfl, h0⟩ | ⟨g, cap, cur, rfl, hg, hh, _⟩
  · have : l = [] := List.eq_nil_of_length_eq_zero h0
    subst this
    exact ⟨none, 0, rfl, Sl.nil⟩
  · refine ⟨some ⟨g, 0, none⟩, cap, rfl, fun _ => ⟨g, 0, rfl, lt_of_block hh, fun i x hx => ?_⟩⟩
    have hi : i < l.length := (List.getElem?_eq_some_iff.1 hx).1
    rw [Nat.zero_add, World.ownsRow.cellAt h' i (by omega), List.getElem?_map, hx]
    rfl
/-- Its shape: nothing, or a block of its own. -/
theorem Ks.form (h : Ks w base v l) : (v = .slice none 0 0 ∧ l = []) ∨ ∃ g cap, v = .slice (some ⟨g, 0, none⟩) l.length cap ∧ base ≤ g ∧ g < w.heap.size ∧ l.length ≤ cap ∧ cap ≤ maxLen := by
  rcases h.2 with ⟨rfl, h0⟩ | ⟨g, cap, cur, rfl, hg, hh, h1, h2, _⟩
  · exact .inl ⟨rfl, List.eq_nil_of_length_eq_zero h0⟩
  · exact .inr ⟨g, cap, rfl, hg, lt_of_block hh, h1, h2⟩
end

theorem key_one (l : List ByteArray) : ∀ u ∈ l.map Value.string, u.oneCell' = true := by
  intro u hu
  obtain ⟨y, _, rfl⟩ := List.mem_map.1 hu
  rfl
/-- 'append(s, x...)' on such a row. -/
theorem run_keys_push (W : World) (ty : TypeId) (base : Nat) (v : Value) (l : List ByteArray) (hb : Ks W base v l) (ad : Addr) (m c : Nat) (cs : List ByteArray) (hm : cs.length = m) (hcell : ∀ j u, cs[j]? = some u → W.cell? (ad.add j) = some (.string u))
    (hbytes : l.length + m ≤ 2000000) (hbase : base ≤ W.heap.size) :
    ∃ v' w', (Builtin.append_ #[25, 25] ty #[v, .slice (some ad) m c]).run Tryz.prog W = .ok v' w' ∧ Ks w' base v' (l ++ cs) ∧ W.grownBy w' v.ownBlock ∧ (v'.ownBlock = v.ownBlock ∨ v'.ownBlock = some W.heap.size) := by
  obtain ⟨i0, hi, hz0, hz1, hz2⟩ := info_parts infoKey
  subst hm
  obtain ⟨v', w', hr, hown, hg, _, hob⟩ := run_append_own_at (P := Tryz.prog) W base 25 ty 9 i0 (.string ⟨#[]⟩) 1 16 Tryz.underlying25 hi hz0 hz1 hz2 rfl (by decide) v l.length (l.map Value.string) hb ad cs.length c (cs.map Value.string) (by simp)
    (by intro j u hu; rw [List.getElem?_map] at hu; obtain ⟨y, hy, rfl⟩ := Option.map_eq_some_iff.1 hu; exact hcell j y hy) (key_one cs) (by unfold maxLen; omega) (by omega) hbase
  refine ⟨v', w', hr, ?_, hg, hob⟩
  unfold Ks
  rw [List.map_append, List.length_append]
  exact hown
theorem wp_keys_push {ops : Array Oper} {rest : List Oper} {o : Oper} {a : Act} {Q : Exit → Act → World → Prop} (W : World) (hgd : o.guard = none) (s x : Operand)
    (ho : o.op = .call { callee := .builtin .append, args := #[s, x], argTypes := #[25, 25] })
    (base : Nat) (v : Value) (l : List ByteArray) (hs : a.eval s = v) (hb : Ks W base v l)
    (ad : Addr) (m c : Nat) (cs : List ByteArray) (hx : a.eval x = .slice (some ad) m c) (hm : cs.length = m) (hcell : ∀ j u, cs[j]? = some u → W.cell? (ad.add j) = some (.string u))
    (hbytes : l.length + m ≤ 2000000) (hbase : base ≤ W.heap.size)
    (h : ∀ v' w', Ks w' base v' (l ++ cs) → W.grownBy w' v.ownBlock → (v'.ownBlock = v.ownBlock ∨ v'.ownBlock = some W.heap.size) → wpList Tryz.prog ops Q rest (a.put o.dst v') w') : wpList Tryz.prog ops Q (o :: rest) a W := by
  obtain ⟨v', w', hr, h1, h2, h3⟩ := run_keys_push W o.type base v l hb ad m c cs hm hcell hbytes hbase
  refine wpList_plain hgd fun K hK => ?_
  unfold Oper.wp execOp
  simp only [ho, resolve, invoke, builtin, Sem.run_bind, Sem.run_pure, Result.andThen_ok, List.map_toArray, List.map_cons, List.map_nil, hs, hx, hr]
  exact hK _ _ (h v' w' h1 h2 h3)

/-- 'append(s[:i], s[j:]...)': the row's own later cells, moved to its front. -/
theorem step_keys_cut {ops : Array Oper} {o : Oper} {a : Act} {W : World} {K : Act → World → Prop} {Q : Exit → Act → World → Prop} {E : Prop} (hgd : o.guard = none) (s x : Operand)
    (ho : o.op = .call { callee := .builtin .append, args := #[s, x], argTypes := #[25, 25] })
    (base g cap : Nat) (l : List ByteArray) (i : Nat) (hb : Ks W base (.slice (some ⟨g, 0, none⟩) l.length cap) l) (hi : i < l.length) (hs : a.eval s = .slice (some ⟨g, 0, none⟩) i cap)
    (ad : Addr) (c : Nat) (hx : a.eval x = .slice (some ad) (l.length - (i + 1)) c) (had : ad = ⟨g, i + 1, none⟩ ∨ l.length = i + 1)
    (h : ∀ w' z, Ks w' base (.slice (some ⟨g, 0, none⟩) l.length cap) (l.eraseIdx i ++ [z]) → Chg [g] W w' → K (a.put o.dst (.slice (some ⟨g, 0, none⟩) (l.length - 1) cap)) w') :
    if Region.wanted o (yielded ops a.tmps) = true then Oper.wp Tryz.prog o a W K Q else E := by
  have hw : Region.wanted o (yielded ops a.tmps) = true := by simp [Region.wanted, hgd]
  rw [if_pos hw]
  obtain ⟨i0, hi0, hz0, hz1, hz2⟩ := info_parts infoKey
  have hb' := hb
  rcases hb.2 with ⟨h', _⟩ | ⟨g', cap', cur, h', hbg, hg, hnc, hcm, hcs, htake⟩
  · simp at h'
  · simp only [Value.slice.injEq, Option.some.injEq, Addr.mk.injEq, and_true, true_and] at h'
    obtain ⟨rfl, rfl⟩ := h'
    have hnews : ∀ j u, ((l.drop (i + 1)).map Value.string)[j]? = some u → W.cell? (ad.add j) = some u := by
      intro j u hu
      have hj : j < l.length - (i + 1) := by
        have := (List.getElem?_eq_some_iff.1 hu).1
        simpa using this
      rcases had with rfl | he
      · rw [add_plain, World.ownsRow.cellAt hb' (i + 1 + j) (by omega)]
        rw [List.getElem?_map, List.getElem?_drop] at hu
        rw [List.getElem?_map]
        exact hu
      · omega
    have hr := run_append_room (P := Tryz.prog) W 25 o.type 9 i0 Tryz.underlying25 hi0 g i cap cur hg ad (l.length - (i + 1)) c ((l.drop (i + 1)).map Value.string) (by rw [hz1]; simp) hnews (key_one _) (by omega) (by rw [hz1, hcs]; simp; omega)
    rw [hz1] at hr
    unfold Oper.wp execOp
    simp only [ho, resolve, invoke, builtin, Sem.run_bind, Sem.run_pure, Result.andThen_ok, List.map_toArray, List.map_cons, List.map_nil, hs, hx, hr]
    have e1 : i + (l.length - (i + 1)) = l.length - 1 := by omega
    rw [e1]
    refine h _ (l.getD (l.length - 1) ⟨#[]⟩) ⟨by simp, .inr ⟨g, cap, _, ?_, hbg, setRow_heap W g cur _ _ _ hg, ?_, hcm, ?_, ?_⟩⟩ ⟨rfl, rfl, rfl, by simp [World.setRow], fun k _ hk => setRow_other W g k _ (fun e => hk (by simp [e]))⟩
    · simp [List.length_eraseIdx, hi]; omega
    · simp [List.length_eraseIdx, hi]; omega
    · simp; omega
    · rw [Nat.mul_one] at htake hcs ⊢
      have htk : cur.toList.take i = (l.take i).map Value.string := by
        rw [List.map_take, ← htake, List.take_take, Nat.min_eq_left (by omega)]
      have hlast : (cur.toList.drop (l.length - 1)).take 1 = [Value.string (l.getD (l.length - 1) ⟨#[]⟩)] := by
        have h1 : (cur.toList.take l.length)[l.length - 1]? = some (Value.string (l.getD (l.length - 1) ⟨#[]⟩)) := by
          rw [htake, List.getElem?_map, List.getD, List.getElem?_eq_getElem (by omega)]; rfl
        rw [List.getElem?_take_of_lt (by omega)] at h1
        have h2 := (List.getElem?_eq_some_iff.1 h1)
        obtain ⟨h3, h4⟩ := h2
        rw [List.drop_eq_getElem_cons h3, List.take_succ_cons, List.take_zero, h4]
      have hlen : (l.eraseIdx i ++ [l.getD (l.length - 1) ⟨#[]⟩]).length = l.length := by simp [List.length_eraseIdx, hi]; omega
      rw [hlen]
      have hlm : (List.map Value.string (List.drop (i + 1) l)).length = l.length - (i + 1) := by simp
      rw [hlm, Nat.mul_one i, show i + (l.length - (i + 1)) = l.length - 1 by omega, htk]
      show List.take l.length (List.map Value.string (List.take i l) ++ List.map Value.string (List.drop (i + 1) l) ++ List.drop (l.length - 1) cur.toList) = _
      rw [List.take_append, List.take_of_length_le (by simp; omega), List.length_append, List.length_map, List.length_map, List.length_take, List.length_drop, Nat.min_eq_left (by omega),
        show l.length - (i + (l.length - (i + 1))) = 1 by omega, hlast, List.map_append, List.eraseIdx_eq_take_drop_succ, List.map_append]
      rfl
/-- 'clear(s[n:])' of one cell. -/
theorem wp_keys_clear {ops : Array Oper} {rest : List Oper} {o : Oper} {a : Act} {Q : Exit → Act → World → Prop} (W : World) (hgd : o.guard = none) (x : Operand)
    (ho : o.op = .call { callee := .builtin .clear, args := #[x], argTypes := #[25] })
    (base g cap : Nat) (m : List ByteArray) (z : ByteArray) (c n n' : Nat) (hx : a.eval x = .slice (some ⟨g, n, none⟩) 1 c) (hmn : m.length = n) (hnn : n' = n + 1) (hm : Ks W base (.slice (some ⟨g, 0, none⟩) n' cap) (m ++ [z]))
    (h : ∀ w', Ks w' base (.slice (some ⟨g, 0, none⟩) n cap) m → Chg [g] W w' → wpList Tryz.prog ops Q rest (a.put o.dst (.tuple #[])) w') : wpList Tryz.prog ops Q (o :: rest) a W := by
  subst hmn hnn
  have hst : ∃ w', (Builtin.clear_ #[25] o.type #[.slice (some ⟨g, m.length, none⟩) 1 c]).run Tryz.prog W = .ok (.tuple #[]) w' ∧ Ks w' base (.slice (some ⟨g, 0, none⟩) m.length cap) m ∧ Chg [g] W w' := by
    rcases hm.2 with ⟨h', _⟩ | ⟨g', cap', cur, h', hb, hg, hnc, hcm, hcs, htake⟩
    · simp at h'
    · simp only [Value.slice.injEq, Option.some.injEq, Addr.mk.injEq, and_true] at h'
      obtain ⟨rfl, _, rfl⟩ := h'
      have hl : (m ++ [z]).length = m.length + 1 := by simp
      rw [hl] at htake hnc
      have hr := run_storeCells_at Tryz.prog g m.length 9 (Builtin.zeroCells (Value.string ⟨#[]⟩).cells 1).toList 0 cur W hg (by simp [Builtin.zeroCells, Value.cells]; omega) (by intro v hv; simp [Builtin.zeroCells, Value.cells] at hv; rw [hv]; rfl)
      refine ⟨_, by simp [Builtin.clear_, run_underlying Tryz.underlying25, hr]; rfl, ⟨by simp, .inr ⟨g, cap, _, rfl, hb, setRow_heap W g cur _ _ _ hg, by omega, hcm, ?_, ?_⟩⟩, ⟨rfl, rfl, rfl, by simp [World.setRow], fun k _ hk => setRow_other W g k _ (fun e => hk (by simp [e]))⟩⟩
      · simp [Builtin.zeroCells, Value.cells]; omega
      · dsimp only
        rw [Nat.mul_one, List.take_append_of_le_length (by simp; omega), List.take_take, Nat.min_self]
        have h9 : (cur.toList.take ((m.length + 1) * 1)).take m.length = ((m ++ [z]).map Value.string).take m.length := by rw [htake]
        rw [List.take_take, Nat.min_eq_left (by omega)] at h9
        rw [h9, List.map_append, List.take_append_of_le_length (by simp), List.take_of_length_le (by simp)]
  obtain ⟨w', hr, hS, hC⟩ := hst
  refine wpList_plain hgd fun K hK => ?_
  unfold Oper.wp execOp
  simp only [ho, resolve, invoke, builtin, Sem.run_bind, Sem.run_pure, Result.andThen_ok, List.map_toArray, List.map_cons, List.map_nil, hx, hr]
  exact hK _ _ (h w' hS hC)
end Go.Proofs.YtphhnhldbajaoaaGreatDoor

namespace Go.Proofs.YtphhnhldbajaoaaGreatDoor
open Go.RowKit Go.ChangeShapes Go.WideShapes Go.ChangeAt

theorem toList_inj {s t : ByteArray} (h : s.toList = t.toList) : s = t := by
  rw [ByteArray.toList_eq, ByteArray.toList_eq] at h
  have h2 : s.data = t.data := Array.toList_inj.1 h
  cases s; cases t; simp_all
theorem beq_key (s t : ByteArray) : (s.toList == t.toList) = decide (s = t) := by
  by_cases h : s = t
  · subst h; simp
  · have h2 : ¬ s.toList = t.toList := fun e => h (toList_inj e)
    rw [decide_eq_false h]
    simpa using h2

def hasK (l : List ByteArray) (k : ByteArray) : Bool := l.any fun x => decide (x = k)
theorem hasK_iff {l : List ByteArray} {k : ByteArray} : hasK l k = true ↔ k ∈ l := by
  unfold hasK
  rw [List.any_eq_true]
  exact ⟨fun ⟨x, h1, h2⟩ => by have := of_decide_eq_true h2; subst this; exact h1, fun h => ⟨k, h, decide_eq_true rfl⟩⟩
/-- Where a string stands first; -1: nowhere. -/
def idxI (l : List ByteArray) (k : ByteArray) : Int := if hasK l k = true then ((l.findIdx (fun x => decide (x = k)) : Nat) : Int) else -1
theorem idx_hit {l : List ByteArray} {k : ByteArray} {i : Nat} (hi : i < l.length) (h : l[i] = k) (hn : ∀ x ∈ l.take i, x ≠ k) : idxI l k = (i : Int) := by
  have hm : k ∈ l := by rw [← h]; exact List.getElem_mem _
  unfold idxI
  rw [if_pos (hasK_iff.2 hm)]
  congr 1
  rw [List.findIdx_eq hi]
  refine ⟨by simpa using h, fun j hj => ?_⟩
  have := hn (l[j]) (List.mem_take_iff_getElem.2 ⟨j, by omega, rfl⟩)
  simpa using this
theorem idx_none {l : List ByteArray} {k : ByteArray} (hn : ∀ x ∈ l, x ≠ k) : idxI l k = -1 := by
  unfold idxI
  rw [if_neg (fun hm => hn k (hasK_iff.1 hm) rfl)]

set_option maxHeartbeats 1000000 in
theorem index_keys (a : Option Addr) (cap : Nat) (l : List ByteArray) (k : ByteArray) (w : World) (hs : Sl w Value.string a l) (hlen : l.length ≤ 100000) :
    Calls Tryz.prog 139 #[.slice a l.length cap, .string k] w fun e w' => e = .returned (.int .i64 (idxI l k)) ∧ w = w' := by
  obtain ⟨R, hR⟩ : ∃ R, R = idxI l k := ⟨_, rfl⟩
  rw [← hR]
  have HR := Lib.hid hR
  have HS := Lib.hid hs
  clear hR hs
  go_enter Tryz.func139, Tryz.ntmps139
  go_wp2
  go_loopw [5, 8] (fun _ i wr => ∃ j : Nat, j ≤ l.length ∧ i = .int .i64 j ∧ Hid (∀ x ∈ l.take j, x ≠ k) ∧ Hid (w = wr)) (fun _ i _ => l.length - (intOf i).toNat)
  case atStart => exact ⟨0, Nat.zero_le _, rfl, Lib.hid (fun x hx => by simp at hx), rfl⟩
  case round =>
    rename_i hkl1
    obtain ⟨j, hj, rfl, HN, HL⟩ := hrel
    by_cases hlt : j < l.length
    · clear hkl1
      obtain ⟨b, off, rfl, hbl, hc⟩ := HS.out (by intro e; rw [e] at hlt; simp at hlt)
      have q0 := hc j l[j] (List.getElem?_eq_getElem hlt)
      have eL := HL.out
      subst eL
      have h0 : (0 : Int) ≤ (j : Int) := by omega
      have h1 : (j : Int) < (l.length : Int) := by omega
      have HT := Lib.hid (List.take_succ_eq_append_getElem hlt)
      have HLT := Lib.hid hlt
      generalize hx : l[j] = x at *
      have HX := Lib.hid hx
      clear hc hx hlt
      have e1 := beq_key k x
      by_cases he : k = x
      · have HE := Lib.hid he
        rw [decide_eq_true he] at e1
        clear he
        go_wp2
        go_ret
        refine ⟨ret_int ?_, rfl⟩
        rw [HR.out]
        exact (idx_hit HLT.out (HX.out.trans HE.out.symm) HN.out).symm
      · rw [decide_eq_false he] at e1
        have HN2 : Hid (∀ y ∈ l.take (j + 1), y ≠ k) := by
          rw [HT.out]
          intro y hy
          rcases List.mem_append.1 hy with h2 | h2
          · exact HN.out y h2
          · rw [List.mem_singleton] at h2; rw [h2]; exact fun e => he e.symm
        clear he
        have hlt2 := HLT.out
        go_wp2
        go_roundw
        case rel => exact ⟨j + 1, by omega, by go_num, HN2, Lib.hid trivial⟩
        case measure => simp [intOf]; omega
    · have hjl : j = l.length := by omega
      subst hjl
      rw [List.take_of_length_le (Nat.le_refl _)] at HN
      go_wp2
      go_ret
      refine ⟨ret_int ?_, HL.out⟩
      rw [HR.out, idx_none HN.out]

theorem contains_keys (a : Option Addr) (cap : Nat) (l : List ByteArray) (k : ByteArray) (w : World) (hs : Sl w Value.string a l) (hlen : l.length ≤ 100000) :
    Calls Tryz.prog 148 #[.slice a l.length cap, .string k] w fun e w' => e = .returned (.bool (hasK l k)) ∧ w = w' := by
  have hI := index_keys a cap l k w hs hlen
  have HI := Lib.hid hI
  clear hI hs
  have hv : decide (idxI l k ≥ 0) = hasK l k := by
    unfold idxI
    cases h : hasK l k
    · rw [if_neg (by simp)]; rfl
    · rw [if_pos rfl, decide_eq_true (by omega)]
  have HV := Lib.hid hv
  clear hv
  generalize idxI l k = r at *
  go_enter Tryz.func148, Tryz.ntmps148
  go_wp2_with fail
  refine HI.out.mono ?_
  rintro e w1 ⟨rfl, rfl⟩
  go_wp2
  go_ret
  exact ⟨ret_bool HV.out, rfl⟩

set_option maxRecDepth 100000 in
set_option maxHeartbeats 2000000 in
theorem delete_keys (base g cap : Nat) (l : List ByteArray) (i j : Nat) (w : World) (h : Ks w base (.slice (some ⟨g, 0, none⟩) l.length cap) l) (hi : i < l.length) (hlen : l.length ≤ 100000) (hj : j = i + 1) :
    Calls Tryz.prog 140 #[.slice (some ⟨g, 0, none⟩) l.length cap, .int .i64 (i : Int), .int .i64 (j : Int)] w fun e w' =>
      e = .returned (.slice (some ⟨g, 0, none⟩) (l.length - 1) cap) ∧ Ks w' base (.slice (some ⟨g, 0, none⟩) (l.length - 1) cap) (l.eraseIdx i) ∧ Chg [g] w w' := by
  have hcap : l.length ≤ cap ∧ cap ≤ maxLen := by
    rcases h.form with ⟨h1, _⟩ | ⟨g', cap', h1, _, _, h2, h3⟩
    · simp at h1
    · simp only [Value.slice.injEq, Option.some.injEq, Addr.mk.injEq, and_true, true_and] at h1
      obtain ⟨rfl, rfl⟩ := h1
      exact ⟨h2, h3⟩
  have HK := Lib.hid h
  have HE : Hid ((l.eraseIdx i).length = l.length - 1) := by show _ = _; rw [List.length_eraseIdx, if_pos hi]
  clear h
  obtain ⟨hc1, hc2⟩ := hcap
  have hij : i < j := by omega
  have hjl : j ≤ l.length := by omega
  have hic : i ≤ cap := by omega
  have hjc : j ≤ cap := by omega
  have HJ := Lib.hid hj
  clear hj
  unfold maxLen at hc2
  obtain ⟨A, hA, hA2⟩ : ∃ A : Addr, (if cap = j then some (⟨g, 0, none⟩ : Addr) else some ⟨g, j, none⟩) = some A ∧ Hid (A = ⟨g, i + 1, none⟩ ∨ l.length = i + 1) := by
    by_cases h : cap = j
    · exact ⟨⟨g, 0, none⟩, by simp [h], .inr (by have := HJ.out; omega)⟩
    · exact ⟨⟨g, j, none⟩, by simp [h], .inl (by rw [HJ.out])⟩
  go_enter Tryz.func140, Tryz.ntmps140
  go_wp2_with fail
  go_region_law (refine step_keys_cut rfl _ _ rfl base g cap l i HK.out hi (by simp [Act.eval, Act.put]) A (cap - j) (by simp [Act.eval, Act.put]; have := HJ.out; omega) hA2.out ?_; intro w1 z hk hc; have HK1 := Lib.hid hk; have HC1 : Hid (Chg [g] w w1) := ⟨hc.os, hc.tape, hc.output, hc.size, hc.block⟩; clear hk hc)
  have hq1 : l.length - 1 ≤ l.length := by omega
  have hq2 : l.length - 1 ≤ cap := by omega
  have hq3 : l.length ≤ cap := by omega
  have hq4 : ((l.length - 1 : Nat) : Int) ≤ (l.length : Int) := by omega
  have hq5 : ¬ cap = l.length - 1 := by omega
  have hq6 : l.length - (l.length - 1) = 1 := by omega
  generalize hn : l.length - 1 = n1 at *
  have HN1 := Lib.hid hn
  clear hn
  have HNN : Hid (l.length = n1 + 1) := by have := HN1.out; show _ = _; omega
  go_wp2_with (with_reducible refine wp_keys_clear _ rfl (.tmp 31) rfl base g cap (l.eraseIdx i) z (cap - n1) n1 l.length rfl HE.out HNN.out HK1.out ?_)
  intro w2 hk2 hc2
  have HK2 := Lib.hid hk2
  have HC2 := Lib.hid (HC1.out.trans hc2)
  clear hk2 hc2
  go_wp2
  go_ret
  have e := HN1.out
  rw [e]
  exact ⟨rfl, HK2.out, HC2.out⟩

end Go.Proofs.YtphhnhldbajaoaaGreatDoor

namespace Go.Proofs.YtphhnhldbajaoaaGreatDoor
open Go Go.RowKit Go.ChangeShapes Go.WideShapes Go.ChangeAt

/-- What the second cache has, held against the pointer. -/
def heldT (f : ByteArray × Bool) (p : PtrD) : ByteArray × Bool := if f.2 = true ∧ (f.1.size : Int) = p.len ∧ sha f.1 = p.sum then (f.1, true) else (⟨#[]⟩, false)
section
variable {s : Nat} {x : StoV} {w : World}
set_option maxRecDepth 100000 in
set_option maxHeartbeats 8000000 in
theorem sfind_any (h : StoB w s x) (ref : ByteArray) (pa : Option Addr) (pc : Nat) (p : PtrD) (f : ByteArray × Bool) (hz : f.1.size ≤ 140737488355328) (Q : World → Prop)
    (hF : Calls Tryz.prog 114 #[x.cv, .string ref] (w.alloc (.cells #[.slice pa p.locs.length pc, .int .i64 p.len, .int .i64 p.birth, .string p.sum] 37 (0, 0))) fun e w' => e = .returned (.tuple #[.string f.1, .bool f.2]) ∧ Q w')
    (hC : ∀ W, Q W → W.cell? ⟨w.heap.size, 1, none⟩ = some (.int .i64 p.len) ∧ W.cell? ⟨w.heap.size, 3, none⟩ = some (.string p.sum) ∧ Kt W) (hK : ∀ W W', Q W → Below W.heap.size W W' → Q W') :
    Calls Tryz.prog 85 #[.pointer (some ⟨s, 0, none⟩), .string ref, ptrV pa pc p] w fun e w' => e = .returned (.tuple #[.string (heldT f p).1, .bool (heldT f p).2]) ∧ Q w' := by
  obtain ⟨f1, f2⟩ := f
  obtain ⟨gb, hgb⟩ : ∃ gb, gb = w.heap.size := ⟨_, rfl⟩
  obtain ⟨wa, hwa⟩ : ∃ wa, wa = w.alloc (.cells #[.slice pa p.locs.length pc, .int .i64 p.len, .int .i64 p.birth, .string p.sum] 37 (0, 0)) := ⟨_, rfl⟩
  have hba : Below w.heap.size w wa := by rw [hwa]; exact (Below.refl _ _).alloc (Nat.le_refl _) _
  have c11 : wa.cell? ⟨s, 11, none⟩ = some x.cv := (h.keep hba h.lt).cell 11 _ rfl
  rw [← hwa] at hF
  rw [← hgb] at hC
  have HF := Lib.hid hF
  have HC := Lib.hid hC
  have HK := Lib.hid hK
  have HZ : Hid (f1.size ≤ 140737488355328) := hz
  obtain ⟨R, hR⟩ : ∃ R, R = heldT (f1, f2) p := ⟨_, rfl⟩
  rw [← hR]
  have HR := Lib.hid hR
  have hwa2 := hwa.symm
  have hgb2 := hgb.symm
  unfold ptrV
  clear h hwa hgb hF hC hK hba hR hz
  cases f2
  · have HE : Hid (R = (⟨#[]⟩, false)) := by show _ = _; rw [HR.out]; unfold heldT; rw [if_neg (fun h => by cases h.1)]
    clear HR
    go_enter Tryz.func85, Tryz.ntmps85
    go_wp2_with fail
    refine HF.out.mono ?_
    rintro e w2 ⟨rfl, hq2⟩
    have HQ2 : Hid (Q w2.drew) := HK.out _ _ hq2 (Below.refl _ _).drew
    obtain ⟨e1, e3, hkt⟩ := HC.out _ HQ2.out
    have HKT := Lib.hid hkt
    clear hq2 hkt
    go_wp2_with fail
    refine wp_region_tree (fun W => W.cell? ⟨gb, 1, none⟩ = some (.int .i64 p.len) ∧ W.cell? ⟨gb, 3, none⟩ = some (.string p.sum)) 14 (.quiet 0 (.quiet 1 (.quiet 2 (.quiet 3 (.quiet 4 (.quiet 5 (.quiet 6 (.quiet 7 (.quiet 8 (.quiet 9 (.quiet 10 (.quiet 12 (.quiet 13 (.make 11 .nil)))))))))))))) (by kernel_rfl) (by kernel_rfl) ⟨e1, e3⟩ ?_
    simp only [List.drop_succ_cons, List.drop_zero]
    iterate 13 (apply wpTr_step rfl; (intro W hS K hK; obtain ⟨y0, y1⟩ := hS; go_simp; exact hK _ rfl))
    refine wpTr_make rfl (fun K' hK => ?_)
    go_simp
    refine hK _ _ _ (fun _ h => h) ⟨e1, e3⟩ ?_
    clear hK K' e1 e3
    refine wpTr_nil ?_
    go_wp2
    go_ret2
    rw [HE.out]
    exact ⟨rfl, HQ2.out⟩
  · by_cases hl : (f1.size : Int) = p.len
    · have d1 : ((f1.size : Int) != p.len) = false := by simp [hl]
      by_cases hsum : sha f1 = p.sum
      · have HE : Hid (R = (f1, true)) := by show _ = _; rw [HR.out]; unfold heldT; rw [if_pos ⟨rfl, hl, hsum⟩]
        have HSM := Lib.hid hsum
        clear HR hl hsum
        go_enter Tryz.func85, Tryz.ntmps85
        go_wp2_with fail
        refine HF.out.mono ?_
        rintro e w2 ⟨rfl, hq2⟩
        have HQ2 : Hid (Q w2.drew) := HK.out _ _ hq2 (Below.refl _ _).drew
        obtain ⟨e1, e3, hkt⟩ := HC.out _ HQ2.out
        have HKT := Lib.hid hkt
        clear hq2 hkt
        go_wp2_with fail
        refine wp_region_tree (fun W => W.cell? ⟨gb, 1, none⟩ = some (.int .i64 p.len) ∧ W.cell? ⟨gb, 3, none⟩ = some (.string p.sum)) 14 (.quiet 0 (.quiet 1 (.quiet 2 (.quiet 3 (.quiet 4 (.quiet 5 (.quiet 6 (.quiet 7 (.quiet 8 (.quiet 9 (.quiet 10 (.quiet 12 (.quiet 13 (.make 11 .nil)))))))))))))) (by kernel_rfl) (by kernel_rfl) ⟨e1, e3⟩ ?_
        simp only [List.drop_succ_cons, List.drop_zero]
        iterate 13 (apply wpTr_step rfl; (intro W hS K hK; obtain ⟨y0, y1⟩ := hS; go_simp; exact hK _ rfl))
        refine wpTr_make rfl (fun K' hK => ?_)
        go_simp
        refine (of_any f1 _ HZ.out HKT.out).mono ?_
        rintro e w3 ⟨rfl, hb3⟩
        have HQ3 := Lib.hid (HK.out _ _ HQ2.out hb3)
        obtain ⟨y1, y3, _⟩ := HC.out _ HQ3.out
        refine hK _ _ _ (fun _ h => h) ⟨y1, y3⟩ ?_
        clear hK K' e1 e3 y1 y3 hb3
        refine wpTr_nil ?_
        have d2 : ((sha f1).toList == p.sum.toList) = true := by rw [beq_key]; simpa using HSM.out
        generalize sha f1 = sm at *
        go_wp2
        go_ret2
        rw [HE.out]
        exact ⟨rfl, HQ3.out⟩
      · have HE : Hid (R = (⟨#[]⟩, false)) := by show _ = _; rw [HR.out]; unfold heldT; rw [if_neg (fun h => hsum h.2.2)]
        have HSM := Lib.hid hsum
        clear HR hl hsum
        go_enter Tryz.func85, Tryz.ntmps85
        go_wp2_with fail
        refine HF.out.mono ?_
        rintro e w2 ⟨rfl, hq2⟩
        have HQ2 : Hid (Q w2.drew) := HK.out _ _ hq2 (Below.refl _ _).drew
        obtain ⟨e1, e3, hkt⟩ := HC.out _ HQ2.out
        have HKT := Lib.hid hkt
        clear hq2 hkt
        go_wp2_with fail
        refine wp_region_tree (fun W => W.cell? ⟨gb, 1, none⟩ = some (.int .i64 p.len) ∧ W.cell? ⟨gb, 3, none⟩ = some (.string p.sum)) 14 (.quiet 0 (.quiet 1 (.quiet 2 (.quiet 3 (.quiet 4 (.quiet 5 (.quiet 6 (.quiet 7 (.quiet 8 (.quiet 9 (.quiet 10 (.quiet 12 (.quiet 13 (.make 11 .nil)))))))))))))) (by kernel_rfl) (by kernel_rfl) ⟨e1, e3⟩ ?_
        simp only [List.drop_succ_cons, List.drop_zero]
        iterate 13 (apply wpTr_step rfl; (intro W hS K hK; obtain ⟨y0, y1⟩ := hS; go_simp; exact hK _ rfl))
        refine wpTr_make rfl (fun K' hK => ?_)
        go_simp
        refine (of_any f1 _ HZ.out HKT.out).mono ?_
        rintro e w3 ⟨rfl, hb3⟩
        have HQ3 := Lib.hid (HK.out _ _ HQ2.out hb3)
        obtain ⟨y1, y3, _⟩ := HC.out _ HQ3.out
        refine hK _ _ _ (fun _ h => h) ⟨y1, y3⟩ ?_
        clear hK K' e1 e3 y1 y3 hb3
        refine wpTr_nil ?_
        have d2 : ((sha f1).toList == p.sum.toList) = false := by rw [beq_key]; simpa using HSM.out
        generalize sha f1 = sm at *
        go_wp2
        go_ret2
        rw [HE.out]
        exact ⟨rfl, HQ3.out⟩
    · have d1 : ((f1.size : Int) != p.len) = true := by simp [hl]
      have HE : Hid (R = (⟨#[]⟩, false)) := by show _ = _; rw [HR.out]; unfold heldT; rw [if_neg (fun h => hl h.2.1)]
      clear HR hl
      go_enter Tryz.func85, Tryz.ntmps85
      go_wp2_with fail
      refine HF.out.mono ?_
      rintro e w2 ⟨rfl, hq2⟩
      have HQ2 : Hid (Q w2.drew) := HK.out _ _ hq2 (Below.refl _ _).drew
      obtain ⟨e1, e3, hkt⟩ := HC.out _ HQ2.out
      have HKT := Lib.hid hkt
      clear hq2 hkt
      go_wp2_with fail
      refine wp_region_tree (fun W => W.cell? ⟨gb, 1, none⟩ = some (.int .i64 p.len) ∧ W.cell? ⟨gb, 3, none⟩ = some (.string p.sum)) 14 (.quiet 0 (.quiet 1 (.quiet 2 (.quiet 3 (.quiet 4 (.quiet 5 (.quiet 6 (.quiet 7 (.quiet 8 (.quiet 9 (.quiet 10 (.quiet 12 (.quiet 13 (.make 11 .nil)))))))))))))) (by kernel_rfl) (by kernel_rfl) ⟨e1, e3⟩ ?_
      simp only [List.drop_succ_cons, List.drop_zero]
      iterate 13 (apply wpTr_step rfl; (intro W hS K hK; obtain ⟨y0, y1⟩ := hS; go_simp; exact hK _ rfl))
      refine wpTr_make rfl (fun K' hK => ?_)
      go_simp
      refine hK _ _ _ (fun _ h => h) ⟨e1, e3⟩ ?_
      clear hK K' e1 e3
      refine wpTr_nil ?_
      go_wp2
      go_ret2
      rw [HE.out]
      exact ⟨rfl, HQ2.out⟩
end
end Go.Proofs.YtphhnhldbajaoaaGreatDoor

namespace Go.Proofs.YtphhnhldbajaoaaGreatDoor
open Go Go.RowKit Go.ChangeShapes Go.WideShapes Go.ChangeAt

def tryV (f : FuncId) (s : Nat) : Value := .func (.func f) #[.pointer (some ⟨s, 0, none⟩)] #[]
set_option maxRecDepth 100000 in
set_option maxHeartbeats 2000000 in
theorem stries_any (s : Nat) (w : World) : Calls Tryz.prog 43 #[.pointer (some ⟨s, 0, none⟩)] w fun e w' => e = .returned (.agg #[tryV 84 s, tryV 85 s, tryV 86 s]) ∧ Below w.heap.size w w' := by
  unfold tryV
  obtain ⟨wa, hwa⟩ : ∃ wa, wa = w.alloc (.cells #[Value.nilFunc, Value.nilFunc, Value.nilFunc] 83 (0, 0)) := ⟨_, rfl⟩
  have hb : Below w.heap.size w wa := by rw [hwa]; exact (Below.refl _ _).alloc (Nat.le_refl _) _
  have BX : Box wa w.heap.size 83 #[Value.nilFunc, Value.nilFunc, Value.nilFunc] := by rw [hwa]; exact Box.new _ _ _
  have BX1 := BX.set 0 (.func (.func 84) #[.pointer (some ⟨s, 0, none⟩)] #[])
  have BX2 := BX1.set 1 (.func (.func 85) #[.pointer (some ⟨s, 0, none⟩)] #[])
  have BX3 := BX2.set 2 (.func (.func 86) #[.pointer (some ⟨s, 0, none⟩)] #[])
  have c0 : wa.cell? ⟨w.heap.size, 0, none⟩ = some Value.nilFunc := BX.cell 0 _ rfl
  have f0 := BX.free 0
  have c1 : (wa.setCell ⟨w.heap.size, 0, none⟩ (.func (.func 84) #[.pointer (some ⟨s, 0, none⟩)] #[])).cell? ⟨w.heap.size, 1, none⟩ = some Value.nilFunc := BX1.cell 1 _ rfl
  have f1 := BX1.free 1
  have c2 : ((wa.setCell ⟨w.heap.size, 0, none⟩ (.func (.func 84) #[.pointer (some ⟨s, 0, none⟩)] #[])).setCell ⟨w.heap.size, 1, none⟩ (.func (.func 85) #[.pointer (some ⟨s, 0, none⟩)] #[])).cell? ⟨w.heap.size, 2, none⟩ = some Value.nilFunc := BX2.cell 2 _ rfl
  have f2 := BX2.free 2
  have HB3 := Lib.hid BX3
  have HBF : Hid (Below w.heap.size w (((wa.setCell ⟨w.heap.size, 0, none⟩ (.func (.func 84) #[.pointer (some ⟨s, 0, none⟩)] #[])).setCell ⟨w.heap.size, 1, none⟩ (.func (.func 85) #[.pointer (some ⟨s, 0, none⟩)] #[])).setCell ⟨w.heap.size, 2, none⟩ (.func (.func 86) #[.pointer (some ⟨s, 0, none⟩)] #[]))) := ((((Chg.of hb (Nat.le_refl _) (S := [])).set w.heap.size 0 _ (.inr (Nat.le_refl _))).set w.heap.size 1 _ (.inr (Nat.le_refl _))).set w.heap.size 2 _ (.inr (Nat.le_refl _))).below (Nat.le_refl _) (fun _ h => by cases h)
  have hw2 := hwa.symm
  clear BX BX1 BX2 BX3 hwa
  have hst : ∀ (g : Addr) (W : World) (f : FuncId), (store g (.func (.func f) #[.pointer (some ⟨s, 0, none⟩)] #[])).run Tryz.prog W = stored Tryz.prog W g (.func (.func f) #[.pointer (some ⟨s, 0, none⟩)] #[]) .plain := fun g W f => run_store _ W g _ _ rfl
  go_enter Tryz.func43, Tryz.ntmps43
  go_wp2_with fail
  refine bodyPost_ret (results_cell_row rfl _ _ w.heap.size 83 _ (0, 0) _ rfl HB3.out Tryz.underlying83 rfl (by kernel_rfl)) rfl ⟨rfl, HBF.out⟩
end Go.Proofs.YtphhnhldbajaoaaGreatDoor
