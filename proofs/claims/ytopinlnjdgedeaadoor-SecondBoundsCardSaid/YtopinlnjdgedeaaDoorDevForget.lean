/-
  Contracts of package dev: forget, with slices.IndexFunc and slices.DeleteFunc of writes.
-/
import Derived.Test.YtopinlnjdgedeaaDoorDevOps
import Derived.Laws.CopyRow
namespace Go.Proofs.YtopinlnjdgedeaaDoor
open Go.RowKit Go.ChangeShapes Go.WideShapes Go.ChangeAt

theorem flat_set3 : ∀ (l : List WrD) (i : Nat) (x : WrD), (((l.flatMap WrV).set (i * 3) (.int .i64 x.1.1)).set (i * 3 + 1) (.int .i64 x.1.2)).set (i * 3 + 2) (.string x.2) = (l.set i x).flatMap WrV
  | [], i, x => by simp
  | y :: r, 0, x => by simp [WrV]
  | y :: r, i + 1, x => by
    have h := flat_set3 r i x
    rw [List.set_cons_succ, List.flatMap_cons, List.flatMap_cons, ← h]
    rw [show (i + 1) * 3 = i * 3 + 3 by omega, show i * 3 + 3 + 1 = i * 3 + 1 + 3 by omega, show i * 3 + 3 + 2 = i * 3 + 2 + 3 by omega]
    simp [WrV]
theorem Wrs.set {w : World} {g cap : Nat} {l : List WrD} (h : Wrs w (.slice (some ⟨g, 0, none⟩) l.length cap) l) (i : Nat) (x : WrD) :
    Wrs (((w.setCell ⟨g, i * 3, none⟩ (.int .i64 x.1.1)).setCell ⟨g, i * 3 + 1, none⟩ (.int .i64 x.1.2)).setCell ⟨g, i * 3 + 2, none⟩ (.string x.2)) (.slice (some ⟨g, 0, none⟩) (l.set i x).length cap) (l.set i x) := by
  have h1 := (World.ownsRow.stored h (i * 3) (.int .i64 x.1.1)).1
  have h2 := (World.ownsRow.stored h1 (i * 3 + 1) (.int .i64 x.1.2)).1
  have h3 := (World.ownsRow.stored h2 (i * 3 + 2) (.string x.2)).1
  unfold Wrs
  rw [flat_set3] at h3
  simpa using h3

theorem zeroWr (w : World) : (zeroValue 86).run Tryd.prog w = .ok (.agg #[.int .i64 0, .int .i64 0, .string ⟨#[]⟩]) w := by kernel_rfl
theorem zeroWr_one : ∀ (k : Nat), ∀ v ∈ (Builtin.zeroCells (Value.agg #[.int .i64 0, .int .i64 0, .string ⟨#[]⟩]).cells k).toList, v.oneCell' = true := by
  intro k v hv
  simp only [Builtin.zeroCells, Value.cells, Array.toList_map, List.mem_map] at hv
  obtain ⟨i, _, rfl⟩ := hv
  have : i % 3 = 0 ∨ i % 3 = 1 ∨ i % 3 = 2 := by omega
  rcases this with e | e | e <;> simp [e, Value.oneCell']

/-- 'clear(s[i:])' of a row of writes. -/
theorem wp_clear_wrs {ops : Array Oper} {rest : List Oper} {o : Oper} {a : Act} {Q : Exit → Act → World → Prop} (W : World) (hgd : o.guard = none) (x : Operand)
    (ho : o.op = .call { callee := .builtin .clear, args := #[x], argTypes := #[57] })
    (g cap : Nat) (m : List WrD) (i k c : Nat) (hx : a.eval x = .slice (some ⟨g, i * 3, none⟩) k c) (hm : Wrs W (.slice (some ⟨g, 0, none⟩) m.length cap) m) (hk : 0 < k) (hik : i + k = m.length)
    (h : ∀ w', Wrs w' (.slice (some ⟨g, 0, none⟩) i cap) (m.take i) → Chg [g] W w' → wpList Tryd.prog ops Q rest (a.put o.dst (.tuple #[])) w') : wpList Tryd.prog ops Q (o :: rest) a W := by
  have hst : ∃ w', (Builtin.clear_ #[57] o.type #[.slice (some ⟨g, i * 3, none⟩) k c]).run Tryd.prog W = .ok (.tuple #[]) w' ∧ Wrs w' (.slice (some ⟨g, 0, none⟩) i cap) (m.take i) ∧ Chg [g] W w' := by
    have hl := flat_len WrV 3 wrV_len m
    rcases hm.2 with ⟨h', _⟩ | ⟨g', cap', cur, h', hb, hg, hnc, hcm, hcs, htake⟩
    · simp at h'
    · simp only [Value.slice.injEq, Option.some.injEq, Addr.mk.injEq, and_true, true_and] at h'
      obtain ⟨rfl, rfl⟩ := h'
      obtain ⟨k, rfl⟩ : ∃ j, k = j + 1 := ⟨k - 1, by omega⟩
      have hzl : (Builtin.zeroCells (Value.agg #[.int .i64 0, .int .i64 0, .string ⟨#[]⟩]).cells (k + 1)).toList.length = (k + 1) * 3 := by simp [Builtin.zeroCells, Value.cells]
      have hr := run_storeCells_at Tryd.prog g (i * 3) 86 (Builtin.zeroCells (Value.agg #[.int .i64 0, .int .i64 0, .string ⟨#[]⟩]).cells (k + 1)).toList 0 cur W hg (by rw [hzl]; omega) (zeroWr_one _)
      refine ⟨_, by simp [Builtin.clear_, run_underlying Tryd.underlying57, hr]; rfl, ⟨?_, .inr ⟨g, cap, _, ?_, hb, setRow_heap W g cur _ _ _ hg, by rw [List.length_take]; omega, hcm, ?_, ?_⟩⟩, ⟨rfl, rfl, rfl, by simp, fun k _ hk => setRow_other W g k _ (fun e => hk (by simp [e]))⟩⟩
      · rw [flat_len WrV 3 wrV_len]
      · rw [List.length_take, Nat.min_eq_left (by omega)]
      · simp only [List.size_toArray, List.length_append, List.length_take, List.length_drop, Array.length_toList]
        rw [Array.length_toList] at hzl
        rw [hzl]
        omega
      · rw [List.length_take, Nat.min_eq_left (by omega)]
        dsimp only
        rw [List.take_append_of_le_length (by simp; omega), List.take_take, Nat.min_self]
        have h9 : (cur.toList.take (m.length * 3)).take (i * 3) = (m.flatMap WrV).take (i * 3) := by rw [htake]
        rw [List.take_take, Nat.min_eq_left (by omega)] at h9
        rw [h9]
        have h8 : m.flatMap WrV = (m.take i).flatMap WrV ++ (m.drop i).flatMap WrV := by rw [← List.flatMap_append, List.take_append_drop]
        rw [h8, List.take_append_of_le_length (by rw [flat_len WrV 3 wrV_len, List.length_take]; omega), List.take_of_length_le (by rw [flat_len WrV 3 wrV_len, List.length_take]; omega)]
  obtain ⟨w', hr, hS, hC⟩ := hst
  refine wpList_plain hgd fun K hK => ?_
  unfold Oper.wp execOp
  simp only [ho, resolve, invoke, builtin, Sem.run_bind, Sem.run_pure, Result.andThen_ok, List.map_toArray, List.map_cons, List.map_nil, hx, hr]
  exact hK _ _ (h w' hS hC)

/-- What a closure of writes answers, as long as nothing but blocks of S has changed. -/
def DelAt (G : Nat) (P : WrD → Bool) (S : List Nat) (w : World) : Prop :=
  ∀ w', Chg S w w' → ∀ x : WrD, Calls Tryd.prog 47 #[.agg #[.int .i64 x.1.1, .int .i64 x.1.2, .string x.2], .pointer (some ⟨G, 0, none⟩)] w' fun e w'' => e = .returned (.bool (P x)) ∧ Below w'.heap.size w' w''
theorem DelAt.chg {G : Nat} {P : WrD → Bool} {S : List Nat} {w w1 : World} (h : DelAt G P S w) (hc : Chg S w w1) : DelAt G P S w1 := fun w' hc' x => h w' (hc.trans hc') x

theorem index_wrs (G : Nat) (P : WrD → Bool) (S : List Nat) (v : Value) (l : List WrD) (w : World) (hv : Wrs w v l) (hd : DelAt G P S w) (hlen : l.length ≤ 100000) :
    Calls Tryd.prog 60 #[v, .func (.func 47) #[] #[.pointer (some ⟨G, 0, none⟩)]] w fun e w' =>
      ∃ r : Int, e = .returned (.int .i64 r) ∧ ((r = -1 ∧ ∀ x ∈ l, P x = false) ∨ (∃ i : Nat, r = i ∧ ∃ h : i < l.length, P l[i] = true ∧ ∀ x ∈ l.take i, P x = false)) ∧ Below w.heap.size w w' := by
  obtain ⟨a, cap, rfl, hag⟩ := hv.form
  have HV := Lib.hid hv
  have HD := Lib.hid hd
  have HA := Lib.hid hag
  clear hv hd hag
  go_enter Tryd.func60, Tryd.ntmps60
  go_wp2
  go_loopw [5, 8] (fun _ i wr => ∃ k : Nat, k ≤ l.length ∧ i = .int .i64 k ∧ Hid (∀ x ∈ l.take k, P x = false) ∧ Hid (Below w.heap.size w wr)) (fun _ i _ => l.length - (intOf i).toNat)
  case atStart => exact ⟨0, Nat.zero_le _, rfl, Lib.hid (fun x hx => by simp at hx), Below.refl _ _⟩
  case round =>
    obtain ⟨k, hk, rfl, HN, HL⟩ := hrel
    by_cases hlt : k < l.length
    · obtain ⟨g, rfl⟩ := HA.out (by omega)
      have hW := HV.out.below HL.out (Nat.le_refl _)
      obtain ⟨q0, q1, q2⟩ := hW.get k l[k] (List.getElem?_eq_getElem hlt)
      have HT := Lib.hid (List.take_succ_eq_append_getElem hlt)
      have hkk : (0 : Int) ≤ (k : Int) := by omega
      have hkl : (k : Int) < (l.length : Int) := by omega
      have HLT := Lib.hid hlt
      generalize hx : l[k] = x at *
      have HX := Lib.hid hx
      clear hW hx hlt
      go_wp2_with fail
      refine (HD.out _ (Chg.of HL.out (Nat.le_refl _)) x).mono ?_
      rintro e w1 ⟨rfl, hb1⟩
      have HB := Lib.hid (HL.out.trans (hb1.mono HL.out.size))
      clear hb1 q0 q1 q2
      by_cases hx : P x = true
      · have HP := Lib.hid hx
        rw [hx]
        clear hx
        go_wp2
        go_ret
        exact ⟨k, rfl, .inr ⟨k, rfl, HLT.out, by have h7 : l[k]'HLT.out = x := HX.out; rw [h7]; exact HP.out, HN.out⟩, HB.out⟩
      · have hx' : P x = false := by simpa using hx
        have HN2 : Hid (∀ y ∈ l.take (k + 1), P y = false) := by
          rw [HT.out]
          intro y hy
          rcases List.mem_append.1 hy with h1 | h1
          · exact HN.out y h1
          · rw [List.mem_singleton] at h1; rw [h1]; exact hx'
        rw [hx']
        clear hx hx'
        have hk2 := HLT.out
        go_wp2
        go_roundw
        case rel => exact ⟨k + 1, by omega, by go_num, HN2, HB⟩
        case measure => simp [intOf]; omega
    · have hkl : k = l.length := by omega
      subst hkl
      rw [List.take_of_length_le (Nat.le_refl _)] at HN
      go_wp2
      go_ret
      exact ⟨-1, rfl, .inl ⟨rfl, HN.out⟩, HL.out⟩

def keepL (P : WrD → Bool) (l : List WrD) : List WrD := l.filter fun x => !P x
theorem keepL_all {P : WrD → Bool} {l : List WrD} (h : ∀ x ∈ l, P x = false) : keepL P l = l := by
  unfold keepL
  rw [List.filter_eq_self.2]
  intro x hx
  rw [h x hx]; rfl
theorem keepL_snoc (P : WrD → Bool) (l : List WrD) (x : WrD) : keepL P (l ++ [x]) = if P x then keepL P l else keepL P l ++ [x] := by
  unfold keepL
  rw [List.filter_append]
  cases h : P x <;> simp [h]
theorem keepL_len (P : WrD → Bool) (l : List WrD) : (keepL P l).length ≤ l.length := List.length_filter_le _ _

/-- Within DeleteFunc's second loop. -/
structure DelI (P : WrD → Bool) (g cap : Nat) (l : List WrD) (i j : Nat) (w0 : World) (m : List WrD) (w : World) : Prop where
  ml : m.length = l.length
  front : m.take i = keepL P (l.take j)
  back : m.drop j = l.drop j
  row : Wrs w (.slice (some ⟨g, 0, none⟩) m.length cap) m
  chg : Chg [g] w0 w

set_option maxHeartbeats 1000000 in
theorem delete_wrs (G : Nat) (P : WrD → Bool) (v : Value) (l : List WrD) (w : World) (hv : Wrs w v l) (hd : DelAt G P v.ownBlock.toList w) (hlen : l.length ≤ 100000) :
    Calls Tryd.prog 46 #[v, .func (.func 47) #[] #[.pointer (some ⟨G, 0, none⟩)]] w fun e w' =>
      ∃ v', e = .returned v' ∧ Wrs w' v' (keepL P l) ∧ v'.ownBlock = v.ownBlock ∧ Chg v.ownBlock.toList w w' := by
  have hidx := index_wrs G P _ v l w hv hd hlen
  obtain ⟨a, cap, rfl, hag⟩ := hv.form
  have HV := Lib.hid hv
  have HD := Lib.hid hd
  have HA := Lib.hid hag
  have HI := Lib.hid hidx
  clear hv hd hag hidx
  go_enter Tryd.func46, Tryd.ntmps46
  go_wp2_with fail
  refine HI.out.mono ?_
  rintro e w1 ⟨r, rfl, hr, hb⟩
  have HB := Lib.hid hb
  clear hb HI
  rcases hr with ⟨rfl, hall⟩ | ⟨i, rfl, hi, hPi, hnot⟩
  · have HN := Lib.hid (keepL_all hall)
    clear hall
    go_wp2
    go_ret
    exact ⟨_, rfl, by rw [HN.out]; exact HV.out.below HB.out (Nat.le_refl _), rfl, Chg.of HB.out (Nat.le_refl _)⟩
  · obtain ⟨g, rfl⟩ := HA.out (by omega)
    have hq : ((i : Int) == -1) = false := by rw [beq_eq_false_iff_ne]; omega
    have HS : Hid (DelI P g cap l i (i + 1) w l w1) := by
      refine ⟨rfl, ?_, rfl, HV.out.below HB.out (Nat.le_refl _), Chg.of HB.out (Nat.le_refl _)⟩
      rw [List.take_succ_eq_append_getElem hi, keepL_snoc, if_pos hPi, keepL_all hnot]
    have HDD := Lib.hid (show DelAt G P [g] w from HD.out)
    clear hPi hnot
    go_wp2_with fail
    clear hq
    go_loopw [5, 6] (fun u z wr => ∃ i j : Nat, i < j ∧ j ≤ l.length ∧ u = .int .i64 i ∧ z = .int .i64 j ∧ Hid (∃ m, DelI P g cap l i j w m wr)) (fun _ z _ => l.length - (intOf z).toNat)
    case atStart => exact ⟨i, i + 1, by omega, hi, rfl, rfl, l, HS.out⟩
    case round =>
      clear HS hi
      obtain ⟨i, j, hij, hj, rfl, rfl, HM⟩ := hrel
      obtain ⟨m, HM⟩ := HM.out
      have HM := Lib.hid HM
      by_cases hlt : j < l.length
      · have hml := HM.out.ml
        obtain ⟨q0, q1, q2⟩ := HM.out.row.get j m[j] (List.getElem?_eq_getElem (by omega))
        have hjj : (0 : Int) ≤ (j : Int) := by omega
        have hjl : (j : Int) < (l.length : Int) := by omega
        have hx : m[j] = l[j] := by
          have h1 : (m.drop j)[0]? = (l.drop j)[0]? := by rw [HM.out.back]
          simp only [List.getElem?_drop, Nat.add_zero] at h1
          rw [List.getElem?_eq_getElem (by omega), List.getElem?_eq_getElem hlt] at h1
          exact Option.some.inj h1
        have HT := Lib.hid (List.take_succ_eq_append_getElem hlt)
        rw [← hx] at HT
        generalize m[j] = x at *
        have HML := Lib.hid hml
        have HLT := Lib.hid hlt
        clear hx hml hlt
        go_wp2_with fail
        refine (HDD.out _ (HM.out.chg.trans (Chg.of (S := [g]) ((Below.refl wr.heap.size wr).alloc (Nat.le_refl _) _) (Nat.le_refl _))) x).mono ?_
        rintro e w2 ⟨rfl, hb2⟩
        have hB1 : Below wr.heap.size wr w2 := ((Below.refl wr.heap.size wr).alloc (Nat.le_refl _) _).trans (hb2.mono (by rw [size_alloc]; omega))
        have HM2 : Hid (DelI P g cap l i j w m w2) := ⟨HM.out.ml, HM.out.front, HM.out.back, HM.out.row.below hB1 (Nat.le_refl _), HM.out.chg.trans (Chg.of hB1 (Nat.le_refl _))⟩
        have BX := (Box.new wr 86 #[.int .i64 x.1.1, .int .i64 x.1.2, .string x.2]).keep hb2 (by rw [size_alloc]; omega)
        clear hb2 hB1 q0 q1 q2 HM
        have hlt := HLT.out
        have hml := HML.out
        by_cases hP : P x = true
        · have HF : Hid (keepL P (l.take (j + 1)) = keepL P (l.take j)) := by show _ = _; rw [HT.out, keepL_snoc, if_pos hP]
          rw [hP]
          have HN : Hid (DelI P g cap l i (j + 1) w m w2) := by
            refine ⟨HM2.out.ml, by rw [HF.out]; exact HM2.out.front, ?_, HM2.out.row, HM2.out.chg⟩
            rw [← List.drop_drop, ← List.drop_drop, HM2.out.back]
          clear hP HF BX HM2
          go_wp2
          go_roundw
          case rel => exact ⟨i, j + 1, by omega, by omega, rfl, by go_num, m, HN.out⟩
          case measure => simp [intOf]; omega
        · have hP' : P x = false := by simpa using hP
          have HF : Hid (keepL P (l.take (j + 1)) = keepL P (l.take j) ++ [x]) := by show _ = _; rw [HT.out, keepL_snoc, if_neg hP]
          rw [hP']
          have r0 : w2.cell? ⟨wr.heap.size, 0, none⟩ = some (.int .i64 x.1.1) := BX.cell 0 _ rfl
          have r1 : w2.cell? ⟨wr.heap.size, 1, none⟩ = some (.int .i64 x.1.2) := BX.cell 1 _ rfl
          have r2 : w2.cell? ⟨wr.heap.size, 2, none⟩ = some (.string x.2) := BX.cell 2 _ rfl
          obtain ⟨q0, q1, q2⟩ := HM2.out.row.get i m[i] (List.getElem?_eq_getElem (by omega))
          have f0 := HM2.out.row.free (i * 3)
          have f1 := HM2.out.row.free (i * 3 + 1)
          have f2 := HM2.out.row.free (i * 3 + 2)
          have hii : (0 : Int) ≤ (i : Int) := by omega
          have hil : (i : Int) < (l.length : Int) := by omega
          have HN : Hid (DelI P g cap l (i + 1) (j + 1) w (m.set i x) (((w2.setCell ⟨g, i * 3, none⟩ (.int .i64 x.1.1)).setCell ⟨g, i * 3 + 1, none⟩ (.int .i64 x.1.2)).setCell ⟨g, i * 3 + 2, none⟩ (.string x.2))) := by
            refine ⟨by rw [List.length_set]; exact hml, ?_, ?_, HM2.out.row.set i x, HM2.out.chg.trans (((chg_set w2 g _ _).trans (chg_set _ g _ _)).trans (chg_set _ g _ _))⟩
            · rw [HF.out, ← HM2.out.front, List.take_succ_eq_append_getElem (by rw [List.length_set]; omega), List.getElem_set_self, List.take_set_of_le (Nat.le_refl _)]
            · rw [List.drop_set_of_lt (by omega), ← List.drop_drop, ← List.drop_drop, HM2.out.back]
          clear hP hP' HF BX HM2
          go_wp2
          go_roundw
          case rel => exact ⟨i + 1, j + 1, by omega, by omega, by go_num, by go_num, _, HN.out⟩
          case measure => simp [intOf]; omega
      · have hjl : j = l.length := by omega
        subst hjl
        have hfr := HM.out.front
        rw [List.take_of_length_le (Nat.le_refl _)] at hfr
        have HFR := Lib.hid hfr
        have hml := HM.out.ml
        have HML := Lib.hid hml
        have hcap : l.length ≤ cap := by
          rcases HM.out.row.view with ⟨h1, _⟩ | ⟨_, _, h1, _, h2, _⟩
          · cases h1
          · injection h1 with _ _ h3; omega
        have hii : (0 : Int) ≤ (i : Int) := by omega
        have hic : (i : Int) ≤ (cap : Int) := by omega
        have hic2 : (i : Int) ≤ (l.length : Int) := by omega
        have hne : ¬ cap = i := by omega
        clear hfr hml
        go_wp2_with (with_reducible refine wp_clear_wrs _ rfl (.tmp 38) rfl g cap m i (l.length - i) (cap - i) rfl ?c1 ?c2 ?c3 ?c4)
        case c1 => exact HM.out.row
        case c2 => omega
        case c3 => have := HML.out; omega
        intro w5 hS hC
        rw [HFR.out] at hS
        have hl2 : (keepL P l).length = i := by rw [← HFR.out, List.length_take, HML.out]; omega
        have HS := Lib.hid hS
        have HC := Lib.hid (HM.out.chg.trans hC)
        have HL2 := Lib.hid hl2
        clear hS hC hl2
        go_wp2
        go_ret
        exact ⟨_, rfl, HS.out, rfl, HC.out⟩
end Go.Proofs.YtopinlnjdgedeaaDoor
