/-
  Texts put together: DevFlush, DevCrash.
-/
import Derived.Test.YtopinlnjdgedeaaDoorDevEnd
namespace Go.Proofs.YtopinlnjdgedeaaDoor
open Go.RowKit Go.ChangeShapes Go.WideShapes Go.ChangeAt

theorem flush_nil (w : World) : Calls Tryd.prog 12 #[.pointer none] w fun e w' => e = .returned (.int .i64 1) ∧ w = w' := by
  go_enter Tryd.func12, Tryd.ntmps12
  go_wp2
  go_ret
  exact ⟨rfl, rfl⟩

theorem DevAt.wvNe {w : World} {p : DevP} {d : DevD} (h : DevAt w p d) : ∀ k, p.wv.ownBlock = some k → k ≠ p.h0 ∧ k ≠ p.h1 := fun k hk =>
  ⟨Ne.symm (h.ne.2.2.2.2.2.2.2.2.2.2 k hk).2.1, Ne.symm (h.ne.2.2.2.2.2.2.2.2.2.2 k hk).2.2.2.1⟩

set_option maxRecDepth 100000 in
theorem flush_any (p : DevP) (d : DevD) (w : World) (h : DevAt w p d) (hlen : d.waits.length ≤ 100000) : Calls Tryd.prog 12 #[.pointer (some ⟨p.b, 0, none⟩)] w fun e w' => e = .returned (.int .i64 0) ∧ DevTo p (endD d d.waits) w w' := by
  have c6 : w.cell? ⟨p.b, 6, none⟩ = some p.wv := h.box.cell 6 _ rfl
  have H := Lib.hid h
  have HL := Lib.hid hlen
  clear h hlen
  go_enter Tryd.func12, Tryd.ntmps12
  go_wp2_with fail
  refine (dend_any p d p.wv d.waits _ H.out H.out.wt H.out.wvNe H.out.wok HL.out).mono ?_
  rintro e w1 ⟨rfl, hd⟩
  have HD := Lib.hid hd
  clear hd c6
  go_wp2
  go_ret
  exact ⟨rfl, HD.out⟩

/-- Those whose place in keep is true. -/
def keptL (l : List WrD) (keep : List Bool) : List WrD := ((List.range l.length).filter fun i => keep.getD i false).map fun i => l.getD i ((0, 0), ⟨#[]⟩)
def keptN (l : List WrD) (keep : List Bool) (k : Nat) : List WrD := ((List.range k).filter fun i => keep.getD i false).map fun i => l.getD i ((0, 0), ⟨#[]⟩)
theorem keptN_yes (l : List WrD) (keep : List Bool) (k : Nat) (hk : k < l.length) (h : keep.getD k false = true) : keptN l keep (k + 1) = keptN l keep k ++ [l[k]] := by
  unfold keptN
  rw [List.range_succ, List.filter_append, List.map_append]
  have e : [k].filter (fun i => keep.getD i false) = [k] := by rw [List.filter_cons_of_pos (by exact h), List.filter_nil]
  rw [e, List.map_cons, List.map_nil, List.getD, List.getElem?_eq_getElem hk]
  rfl
theorem keptN_no (l : List WrD) (keep : List Bool) (k : Nat) (h : keep.getD k false = false) : keptN l keep (k + 1) = keptN l keep k := by
  unfold keptN
  rw [List.range_succ, List.filter_append, List.map_append]
  have e : [k].filter (fun i => keep.getD i false) = [] := by rw [List.filter_cons_of_neg (by rw [h]; decide), List.filter_nil]
  rw [e, List.map_nil, List.append_nil]
theorem keptN_len (l : List WrD) (keep : List Bool) (k : Nat) : (keptN l keep k).length ≤ k := by
  unfold keptN
  rw [List.length_map]
  exact Nat.le_trans (List.length_filter_le _ _) (by simp)
theorem keptN_mem (l : List WrD) (keep : List Bool) (k : Nat) (hk : k ≤ l.length) : ∀ x ∈ keptN l keep k, x ∈ l := by
  intro x hx
  simp only [keptN, List.mem_map, List.mem_filter, List.mem_range] at hx
  obtain ⟨i, ⟨hi, _⟩, rfl⟩ := hx
  rw [List.getD, List.getElem?_eq_getElem (by omega)]
  exact List.getElem_mem _

set_option maxRecDepth 100000 in
set_option maxHeartbeats 1000000 in
theorem kept_anyU (v : Value) (l : List WrD) (ka : Option Addr) (kc : Nat) (keep : List Bool) (w : World) (hv : Wrs w v l) (hk : Sl w Value.bool ka keep) (hlen : l.length ≤ 100000) :
    Calls Tryd.prog 34 #[v, .slice ka keep.length kc] w fun e w' => ∃ v', e = .returned v' ∧ Wrs w' v' (keptL l keep) ∧ (∀ k, v'.ownBlock = some k → w.heap.size ≤ k) ∧ Below w.heap.size w w' := by
  obtain ⟨a, cap, rfl, hag⟩ := hv.form
  have HV := Lib.hid hv
  have HK := Lib.hid hk
  have HA := Lib.hid hag
  clear hv hk hag
  go_enter Tryd.func34, Tryd.ntmps34
  go_wp2_with fail
  go_loopw [5, 10] (fun v' i wr => ∃ k : Nat, k ≤ l.length ∧ i = .int .i64 k ∧ Hid (Wrs wr v' (keptN l keep k) ∧ (∀ k, v'.ownBlock = some k → w.heap.size ≤ k) ∧ Below w.heap.size w wr)) (fun _ i _ => l.length - (intOf i).toNat)
  case atStart => exact ⟨0, Nat.zero_le _, rfl, World.ownsRow_nil _ _ _ _, (fun k hk => by cases hk), Below.refl _ _⟩
  case round =>
    obtain ⟨k, hk, rfl, HR⟩ := hrel
    by_cases hlt : k < l.length
    · obtain ⟨g, rfl⟩ := HA.out (by omega)
      have hW : Wrs wr (.slice (some ⟨g, 0, none⟩) l.length cap) l := HV.out.below HR.out.2.2 (Nat.le_refl _)
      obtain ⟨q0, q1, q2⟩ := hW.get k l[k] (List.getElem?_eq_getElem hlt)
      have hkk : (0 : Int) ≤ (k : Int) := by omega
      have hkl2 : (k : Int) < (l.length : Int) := by omega
      have HX1 : Hid (keep.getD k false = true → keptN l keep (k + 1) = keptN l keep k ++ [l[k]]) := keptN_yes l keep k hlt
      have HX0 : Hid (keep.getD k false = false → keptN l keep (k + 1) = keptN l keep k) := keptN_no l keep k
      generalize hxx : l[k] = x at *
      clear hxx hW
      have hl := keptN_len l keep k
      obtain ⟨av, capv, rfl, hav⟩ := HR.out.1.form
      have hbx := (Below.refl w.heap.size wr).alloc HR.out.2.2.size (.cells #[.int .i64 x.1.1, .int .i64 x.1.2, .string x.2] 86 (0, 0))
      have HBA := Lib.hid (HR.out.2.2.trans hbx)
      clear hbx hav
      by_cases hin : k < keep.length
      · obtain ⟨kb, ko, rfl, hkb, hcell⟩ := HK.out (by intro e; rw [e] at hin; simp at hin)
        have hc0 := hcell k keep[k] (List.getElem?_eq_getElem hin)
        have hcA : ∀ o : Obj, (wr.alloc o).cell? ⟨kb, ko + k, none⟩ = some (.bool keep[k]) := fun o => by
          have h1 := ((HR.out.2.2.trans ((Below.refl _ _).alloc HR.out.2.2.size o)).cell (p := ⟨kb, ko + k, none⟩) hkb)
          rw [h1]; exact hc0
        have hin2 : (k : Int) < (keep.length : Int) := by omega
        have hgd : keep.getD k false = keep[k] := by rw [List.getD, List.getElem?_eq_getElem hin]; rfl
        rw [hgd] at HX1 HX0
        clear hcell hc0 hgd hkb
        cases hb : keep[k]
        · rw [hb] at HX0 hcA
          have HX := Lib.hid (HX0.out rfl)
          clear HX0 HX1 hb
          go_wp2
          go_roundw
          case rel => exact ⟨k + 1, by omega, by go_num, by rw [HX.out]; exact ⟨HR.out.1.below ((Below.refl _ _).alloc (Nat.le_refl _) _) (Nat.le_refl _), HR.out.2.1, HBA.out⟩⟩
          case measure => simp [intOf]; omega
        · rw [hb] at HX1 hcA
          have HX := Lib.hid (HX1.out rfl)
          clear HX0 HX1 hb
          have hsz := HR.out.2.2.size
          go_wp2_with (at_builtin; refine wp_wr_push _ rfl (.tmp 25) (.tmp 27) rfl (.slice av (keptN l keep k).length capv) (keptN l keep k) rfl (HR.out.1.below (((Below.refl wr.heap.size wr).alloc (Nat.le_refl _) _).alloc (by rw [size_alloc]; omega) _) (Nat.le_refl _)) ⟨wr.heap.size + 1, 0, none⟩ 1 x rfl (by intro j u hj; rw [add_plain, Nat.zero_add]; have h9 := boxed0 (wr.alloc (.cells #[.int .i64 x.1.1, .int .i64 x.1.2, .string x.2] 86 (0, 0))) #[.int .i64 x.1.1, .int .i64 x.1.2, .string x.2] 86 (0, 0) j u (by rw [List.getElem?_toArray]; exact hj); rw [size_alloc] at h9; exact h9) (by omega) ?_; intro g5 cap5 w5 hr hc hg)
          rw [← HX.out] at hr
          rw [size_alloc, size_alloc] at hg
          have hB2 : Below w.heap.size w w5 := by
            refine (HBA.out.trans ((Below.refl _ _).alloc HBA.out.size _)).trans (hc.below (by rw [size_alloc, size_alloc]; omega) (fun j hj => ?_))
            exact HR.out.2.1 j (by simpa using hj)
          have hlen2 : (keptN l keep k).length + 1 = (keptN l keep (k + 1)).length := by rw [HX.out, List.length_append]; rfl
          have hnew : ∀ j, (Value.slice (some ⟨g5, 0, none⟩) ((keptN l keep k).length + 1) cap5).ownBlock = some j → w.heap.size ≤ j := fun j hj => by
            simp only [Value.ownBlock, Option.some.injEq] at hj
            subst hj
            rcases hg with e | e
            · exact HR.out.2.1 g5 e
            · omega
          have HF := Lib.hid (And.intro hr (And.intro hnew hB2))
          clear hr hc hg hB2 hlen2 hnew hcA
          go_wp2
          go_roundw
          case rel => exact ⟨k + 1, by omega, by go_num, HF.out⟩
          case measure => simp [intOf]; omega
      · have hgd : keep.getD k false = false := by rw [List.getD, List.getElem?_eq_none (by omega)]; rfl
        have HX := Lib.hid (HX0.out hgd)
        have hin2 : (keep.length : Int) ≤ (k : Int) := by omega
        clear HX0 HX1 hgd hin
        go_wp2
        go_roundw
        case rel => exact ⟨k + 1, by omega, by go_num, by rw [HX.out]; exact ⟨HR.out.1.below ((Below.refl _ _).alloc (Nat.le_refl _) _) (Nat.le_refl _), HR.out.2.1, HBA.out⟩⟩
        case measure => simp [intOf]; omega
    · have hkl3 : k = l.length := by omega
      subst hkl3
      go_wp2
      go_ret
      exact ⟨_, rfl, HR.out⟩
theorem kept_any (v : Value) (l : List WrD) (ka : Option Addr) (kc : Nat) (keep : List Bool) (w : World) (hv : Wrs w v l) (hk : Sl w Value.bool ka keep) (hlen : l.length ≤ 100000) (_hkl : keep.length ≤ 100000) :
    Calls Tryd.prog 34 #[v, .slice ka keep.length kc] w fun e w' => ∃ v', e = .returned v' ∧ Wrs w' v' (keptL l keep) ∧ (∀ k, v'.ownBlock = some k → w.heap.size ≤ k) ∧ Below w.heap.size w w' := kept_anyU v l ka kc keep w hv hk hlen
end Go.Proofs.YtopinlnjdgedeaaDoor

namespace Go.Proofs.YtopinlnjdgedeaaDoor
open Go.RowKit Go.ChangeShapes Go.WideShapes Go.ChangeAt

theorem crash_nil (ka : Option Addr) (kn kc : Nat) (w : World) : Calls Tryd.prog 16 #[.pointer none, .slice ka kn kc] w fun e w' => e = .returned (.int .i64 1) ∧ w = w' := by
  go_enter Tryd.func16, Tryd.ntmps16
  go_wp2
  go_ret
  exact ⟨rfl, rfl⟩

def crashD (d : DevD) (keep : List Bool) : DevD := endD d (keptL d.waits keep)
set_option maxRecDepth 100000 in
theorem crash_anyU (p : DevP) (d : DevD) (ka : Option Addr) (kc : Nat) (keep : List Bool) (w : World) (h : DevAt w p d) (hk : Sl w Value.bool ka keep) (hlen : d.waits.length ≤ 100000) :
    Calls Tryd.prog 16 #[.pointer (some ⟨p.b, 0, none⟩), .slice ka keep.length kc] w fun e w' => e = .returned (.int .i64 0) ∧ DevTo p (crashD d keep) w w' := by
  have c6 : w.cell? ⟨p.b, 6, none⟩ = some p.wv := h.box.cell 6 _ rfl
  have H := Lib.hid h
  have HL := Lib.hid hlen
  have HK := Lib.hid hk
  clear h hlen hk
  go_enter Tryd.func16, Tryd.ntmps16
  go_wp2_with fail
  refine (kept_anyU p.wv d.waits ka kc keep _ H.out.wt HK.out HL.out).mono ?_
  rintro e w1 ⟨v', rfl, hw, hn, hb⟩
  have H1 := Lib.hid (H.out.chg (Chg.of (S := []) hb (Nat.le_refl _)) (fun _ _ hm => by cases hm))
  have HW := Lib.hid hw
  have HB := Lib.hid (Chg.of (S := []) hb (Nat.le_refl _))
  have HN : Hid (∀ k, v'.ownBlock = some k → k ≠ p.h0 ∧ k ≠ p.h1) := fun k hk => by
    have := hn k hk
    have := H.out.h0.lt
    have := H.out.h1.lt
    exact ⟨by omega, by omega⟩
  have HLL : Hid ((keptL d.waits keep).length ≤ 100000) := Nat.le_trans (keptN_len d.waits keep d.waits.length) HL.out
  clear hw hn hb c6
  go_wp2_with fail
  refine (dend_any p d v' (keptL d.waits keep) _ H1.out HW.out HN.out (fun x hx => H.out.wok x (keptN_mem d.waits keep d.waits.length (Nat.le_refl _) x hx)) HLL.out).mono ?_
  rintro e w2 ⟨rfl, hd⟩
  have HD := Lib.hid (DevTo.ofChg HB.out hd)
  clear hd
  go_wp2
  go_ret
  exact ⟨rfl, HD.out⟩
theorem crash_any (p : DevP) (d : DevD) (ka : Option Addr) (kc : Nat) (keep : List Bool) (w : World) (h : DevAt w p d) (hk : Sl w Value.bool ka keep) (hlen : d.waits.length ≤ 100000) (_hkl : keep.length ≤ 100000) :
    Calls Tryd.prog 16 #[.pointer (some ⟨p.b, 0, none⟩), .slice ka keep.length kc] w fun e w' => e = .returned (.int .i64 0) ∧ DevTo p (crashD d keep) w w' := crash_anyU p d ka kc keep w h hk hlen
end Go.Proofs.YtopinlnjdgedeaaDoor
