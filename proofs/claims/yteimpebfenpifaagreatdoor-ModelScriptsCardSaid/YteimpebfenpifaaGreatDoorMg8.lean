/-
  Texts put together: Res4, PathOps, PathRef, PathRSplit.
-/
import Derived.WalkKit
import Derived.Laws.ResultCell
import Derived.Deep.RegionLaw
import Derived.Test.YteimpebfenpifaaGreatDoorPathSplit
import Derived.Test.YteimpebfenpifaaGreatDoorMg7
namespace Go.Proofs.YteimpebfenpifaaGreatDoor
open Go Go.RowKit Go.WideShapes

theorem results_four {fn : Func} {t u v x : Tmp} (h : fn.results = #[.tmp t, .tmp u, .tmp v, .tmp x]) (tmps : Array Value) (P : Program) (w : World) :
    (results fn tmps).run P w = .ok (.tuple #[tmps.getD t undef, tmps.getD u undef, tmps.getD v undef, tmps.getD x undef]) w := by
  simp [results, h]
theorem results_box_tmp {P : Program} {fn : Func} {p u : Tmp} {ty : TypeId} (h : fn.results = #[.cell p ty, .tmp u]) (tmps : Array Value) (w : World) (g : Nat) (t : TypeId) (cs : Array Value) (fr : Nat × Nat) (d : TypeDesc)
    (hp : tmps.getD p undef = .pointer (some ⟨g, 0, none⟩)) (hg : w.heap[g]? = some (.cells cs t fr))
    (hu : P.underlying ty = some d) (hd : (match d with | .struct _ | .array _ _ => true | _ => false) = true) (hi : (P.info? ty).map (·.size) = some cs.size) :
    (results fn tmps).run P w = .ok (.tuple #[.agg cs, tmps.getD u undef]) w := by
  rw [results_cell_tmp h, hp]
  simp [asAddr, run_loadVar_row w g t ty cs fr d hg hu hd hi]

end Go.Proofs.YteimpebfenpifaaGreatDoor

namespace Go.Proofs.YteimpebfenpifaaGreatDoor
open Go Go.RowKit Go.Shelf

theorem split_any (s : ByteArray) (hs : s.size ≤ 1100000) (w : World) : Calls Tryz.prog 24 #[.string s] w fun e w' => ∃ v, e = .returned (.tuple #[v, .int .i64 (splitD s).2]) ∧ Ks w' w.heap.size v (splitD s).1 ∧ Below w.heap.size w w' :=
  callsIn_wide.1 (split_in s hs w)

/-- The names, joined. -/
def joinD (l : List ByteArray) : ByteArray := (⟨#[47]⟩ : ByteArray) ++ ⟨(Lib.join (l.map (·.data.toList)) [47]).toArray⟩
theorem pb_joinD (l : List ByteArray) : pb (joinD l) = 47 :: ([47] : List UInt8).intercalate (l.map pb) := by
  unfold joinD
  rw [pb_append, pb_mk]
  rfl

theorem join_any (a : Option Addr) (c : Nat) (l : List ByteArray) (w : World) (h : Sl w Value.string a l) (hc : l.length ≤ c) (hz : (joinD l).size ≤ 1000000) :
    Calls Tryz.prog 25 #[.slice a l.length c] w fun e w' => e = .returned (.string (joinD l)) ∧ Below w.heap.size w w' := by
  have hj : (⟨(Lib.join (l.map (·.data.toList)) [47]).toArray⟩ : ByteArray).size ≤ 1000000 := by
    unfold joinD at hz
    rw [ByteArray.size_append] at hz
    omega
  have hjl : (Lib.join (l.map (·.data.toList)) [47]).length ≤ 1000000 := by simpa [ByteArray.size] using hj
  have hq : ¬ 9223372036854775807 < 1 + (⟨(Lib.join (l.map (·.data.toList)) [47]).toArray⟩ : ByteArray).size := by omega
  have HC : Calls Tryz.prog 42 #[.slice a l.length c, .string ⟨#[47]⟩] w fun e w' => e = .returned (.string ⟨(Lib.join (l.map (·.data.toList)) [47]).toArray⟩) ∧ Below w.heap.size w w' := by
    by_cases h0 : l = []
    · subst h0
      exact (Tryz.strings_Join_none a c ⟨#[47]⟩ w).mono fun e w' ⟨h1, h2⟩ => ⟨h1, h2 ▸ Below.refl _ _⟩
    · obtain ⟨b, off, rfl, hb, hcell⟩ := h h0
      exact Tryz.strings_Join b off c l ⟨#[47]⟩ w (fun j x hx => hcell j x hx) hb (by
        have : l.length ≤ (Lib.join (l.map (·.data.toList)) [47]).length + 1 := by
          have := join_len (l.map (·.data.toList))
          rw [List.length_map] at this
          exact this
        omega) hc (by show (Lib.join (l.map (·.data.toList)) [47]).length ≤ _; omega)
  have HJ : Hid (joinD l = (⟨#[47]⟩ : ByteArray) ++ ⟨(Lib.join (l.map (·.data.toList)) [47]).toArray⟩) := rfl
  have HCC := Lib.hid HC
  generalize joinD l = R at *
  generalize (⟨(Lib.join (l.map (·.data.toList)) [47]).toArray⟩ : ByteArray) = T at *
  clear h hc hz hj hjl HC
  go_enter Tryz.func25, Tryz.ntmps25
  go_wp2_with fail
  refine HCC.out.mono ?_
  rintro e w1 ⟨rfl, hb⟩
  have HB := Lib.hid hb
  clear hb
  go_wp2
  go_ret
  exact ⟨by rw [HJ.out]; rfl, HB.out⟩
end Go.Proofs.YteimpebfenpifaaGreatDoor

namespace Go.Proofs.YteimpebfenpifaaGreatDoor
open Go Go.RowKit Go.Shelf

/-- A name of the reference's: no byte '/', too. -/
def okR (s : ByteArray) : Prop := okN s ∧ ∀ x ∈ pb s, x ≠ 47
instance (s : ByteArray) : Decidable (okR s) := inferInstanceAs (Decidable (_ ∧ _))

theorem bad_at {s : ByteArray} {k : Nat} (hk : k < s.size) (h : s[k] = 47 ∨ s[k] = 0) : ¬ okR s := by
  have hm : s[k] ∈ pb s := by
    have : (pb s)[k]'(by rw [pb_size]; exact hk) = s[k] := rfl
    rw [← this]
    exact List.getElem_mem _
  rintro ⟨h1, h2⟩
  rcases h with h | h
  · exact h2 _ hm h
  · exact h1.2.2.2.2 _ hm h

set_option maxHeartbeats 1000000 in
theorem rname_any (s : ByteArray) (hs : s.size ≤ 100000) (w : World) : Calls Tryz.prog 37 #[.string s] w fun e w' => e = .returned (.bool (decide (okR s))) ∧ w = w' := by
  obtain ⟨R, hR⟩ : ∃ R, R = decide (okR s) := ⟨_, rfl⟩
  rw [← hR]
  have HR := Lib.hid hR
  clear hR
  go_enter Tryz.func37, Tryz.ntmps37
  go_wp2
  go_loop [3] (fun i => ∃ k : Nat, k ≤ s.size ∧ i = .int .i64 k ∧ Hid (∀ j (hj : j < k) (hj2 : j < s.size), s[j] ≠ 47 ∧ s[j] ≠ 0)) (fun i => s.size - (intOf i).toNat)
  case atStart => exact ⟨0, Nat.zero_le _, rfl, fun j hj => absurd hj (Nat.not_lt_zero _)⟩
  case round =>
    obtain ⟨k, hk, rfl, HB⟩ := hrel
    by_cases hlt : k < s.size
    · by_cases h1 : s[k] = 47
      · have HF : Hid (R = false) := HR.out.trans (decide_eq_false (bad_at hlt (.inl h1)))
        have q1 : ((s[k].toNat : Int) == 47) = true := by rw [h1]; rfl
        clear h1
        go_wp2
        go_ret
        exact ⟨ret_bool HF.out.symm, rfl⟩
      · have q1 : ((s[k].toNat : Int) == 47) = false := by
          rw [beq_eq_false_iff_ne]; intro e
          exact h1 (UInt8.toNat_inj.1 (show s[k].toNat = 47 by omega))
        by_cases h2 : s[k] = 0
        · have HF : Hid (R = false) := HR.out.trans (decide_eq_false (bad_at hlt (.inr h2)))
          have q2 : ((s[k].toNat : Int) == 0) = true := by rw [h2]; rfl
          clear h1 h2
          go_wp2
          go_ret
          exact ⟨ret_bool HF.out.symm, rfl⟩
        · have q2 : ((s[k].toNat : Int) == 0) = false := by
            rw [beq_eq_false_iff_ne]; intro e
            exact h2 (UInt8.toNat_inj.1 (show s[k].toNat = 0 by omega))
          have HB2 : Hid (∀ j (hj : j < k + 1) (hj2 : j < s.size), s[j] ≠ 47 ∧ s[j] ≠ 0) := fun j hj hj2 => by
            by_cases e : j = k
            · subst e; exact ⟨h1, h2⟩
            · exact HB.out j (by omega) hj2
          clear h1 h2
          go_wp2
          go_round
          case rel => exact ⟨k + 1, by omega, by go_num, HB2⟩
          case measure => simp [intOf]; omega
    · have hall : ∀ x ∈ pb s, x ≠ 47 ∧ x ≠ 0 := by
        intro x hx
        obtain ⟨j, hj, rfl⟩ := List.getElem_of_mem hx
        rw [pb_size] at hj
        exact HB.out j (by omega) hj
      have hok : okR s ↔ (0 < s.size ∧ s.size ≤ 255 ∧ pb s ≠ [46] ∧ pb s ≠ [46, 46]) :=
        ⟨fun h => ⟨h.1.1, h.1.2.1, h.1.2.2.1, h.1.2.2.2.1⟩, fun h => ⟨⟨h.1, h.2.1, h.2.2.1, h.2.2.2, fun x hx => (hall x hx).2⟩, fun x hx => (hall x hx).1⟩⟩
      have HOK := Lib.hid hok
      clear hall hok
      by_cases h0 : s.size = 0
      · have e0 : s = ⟨#[]⟩ := by
          apply ByteArray.ext
          exact Array.eq_empty_of_size_eq_zero h0
        have HF : Hid (R = false) := HR.out.trans (decide_eq_false (fun h => by have := (HOK.out.1 h).1; omega))
        subst e0
        go_wp2
        go_ret
        exact ⟨ret_bool HF.out.symm, rfl⟩
      · obtain ⟨g1, g2⟩ := str_some s (by omega)
        by_cases h1 : 255 < s.size
        · have HF : Hid (R = false) := HR.out.trans (decide_eq_false (fun h => by have := (HOK.out.1 h).2.1; omega))
          go_wp2
          go_ret
          exact ⟨ret_bool HF.out.symm, rfl⟩
        · by_cases h2 : pb s = [46]
          · have HF : Hid (R = false) := HR.out.trans (decide_eq_false (fun h => (HOK.out.1 h).2.2.1 h2))
            have d1 : (s.toList == [46]) = true := by rw [ByteArray.toList_eq]; exact beq_iff_eq.2 h2
            clear h2
            go_wp2
            go_ret
            exact ⟨ret_bool HF.out.symm, rfl⟩
          · have d1 := dot_ne h2
            by_cases h3 : pb s = [46, 46]
            · have HF : Hid (R = false) := HR.out.trans (decide_eq_false (fun h => (HOK.out.1 h).2.2.2 h3))
              have d2 : (s.toList == [46, 46]) = true := by rw [ByteArray.toList_eq]; exact beq_iff_eq.2 h3
              clear h2 h3
              go_wp2
              go_ret
              exact ⟨ret_bool HF.out.symm, rfl⟩
            · have d2 := dot_ne h3
              have HF : Hid (R = true) := HR.out.trans (decide_eq_true (HOK.out.2 ⟨by omega, by omega, h2, h3⟩))
              clear h2 h3
              go_wp2
              go_ret
              exact ⟨ret_bool HF.out.symm, rfl⟩
end Go.Proofs.YteimpebfenpifaaGreatDoor

namespace Go.Proofs.YteimpebfenpifaaGreatDoor
open Go Go.RowKit Go.Shelf

theorem pb_at (s : ByteArray) (i : Nat) (h : i < s.size) : (pb s)[i]'(by rw [pb_size]; exact h) = s[i] := rfl
theorem seg_clean {s : ByteArray} {a i : Nat} (hi : i ≤ s.size) (h : ∀ j (_ : a ≤ j ∧ j < i) (hj2 : j < s.size), s[j] ≠ 47) : ∀ x ∈ pb (s.extract a i), x ≠ 47 := by
  intro x hx
  rw [pb_cut] at hx
  obtain ⟨k, hk, rfl⟩ := List.getElem_of_mem hx
  rw [List.length_take, List.length_drop, pb_size] at hk
  rw [List.getElem_take, List.getElem_drop, pb_at s (a + k) (by omega)]
  exact h (a + k) ⟨by omega, by omega⟩ (by omega)
theorem seg_slash {s : ByteArray} {a i : Nat} (ha : a ≤ i) (hi : i < s.size) (h47 : s[i] = 47) (h : ∀ j (_ : a ≤ j ∧ j < i) (hj2 : j < s.size), s[j] ≠ 47) :
    piecesB (s.extract a s.size) = s.extract a i :: piecesB (s.extract (i + 1) s.size) := by
  have hc := seg_clean (Nat.le_of_lt hi) h
  have e : pb (s.extract a s.size) = pb (s.extract a i) ++ 47 :: pb (s.extract (i + 1) s.size) := by
    rw [pb_cut, pb_cut, pb_cut]
    rw [List.take_of_length_le (l := List.drop a (pb s)) (by rw [List.length_drop, pb_size]; omega), List.take_of_length_le (l := List.drop (i + 1) (pb s)) (by rw [List.length_drop, pb_size]; omega)]
    have h3 : (pb s).drop i = 47 :: (pb s).drop (i + 1) := by
      rw [List.drop_eq_getElem_cons (by rw [pb_size]; exact hi), pb_at s i hi, h47]
    rw [← h3]
    have h4 : (pb s).drop i = ((pb s).drop a).drop (i - a) := by rw [List.drop_drop]; congr 1; omega
    rw [h4, List.take_append_drop]
  unfold piecesB
  rw [e, pieces_cut _ _ hc, List.map_cons, mkB_pb]
theorem seg_end {s : ByteArray} {a : Nat} (h : ∀ j (_ : a ≤ j ∧ j < s.size) (hj2 : j < s.size), s[j] ≠ 47) : piecesB (s.extract a s.size) = [s.extract a s.size] := by
  have hc := seg_clean (Nat.le_refl _) h
  unfold piecesB
  rw [pieces_none _ hc]
  show [mkB _] = _
  rw [mkB_pb]
theorem okR_seg {s : ByteArray} {a i : Nat} (hi : i ≤ s.size) (h : ∀ j (_ : a ≤ j ∧ j < i) (hj2 : j < s.size), s[j] ≠ 47) : okR (s.extract a i) ↔ okN (s.extract a i) :=
  ⟨fun k => k.1, fun k => ⟨k, seg_clean hi h⟩⟩

theorem one_string (W : World) (x : ByteArray) (t : TypeId) : ∀ j u, [x][j]? = some u → (W.alloc (.cells #[Value.string x] t)).cell? ((⟨W.heap.size, 0, none⟩ : Addr).add j) = some (.string u) := by
  intro j u hu
  match j, hu with
  | 0, hu =>
    simp at hu
    subst hu
    exact boxed0 W #[.string x] t _ 0 _ rfl

/-- What stands between two rounds of the reference's loop. -/
def SpR (s : ByteArray) (pre : List ByteArray) (a i : Nat) : Prop :=
  (∀ x ∈ pre, okN x) ∧ pre.length ≤ i ∧
  ((a ≤ i ∧ 1 ≤ a ∧ i ≤ s.size ∧ piecesB (restP s) = pre ++ piecesB (s.extract a s.size) ∧ ∀ j (hj : a ≤ j ∧ j < i) (hj2 : j < s.size), s[j] ≠ 47) ∨ (i = s.size + 1 ∧ piecesB (restP s) = pre))

set_option maxRecDepth 100000 in
set_option maxHeartbeats 2000000 in
theorem rsplit_any (s : ByteArray) (hs : s.size ≤ 100000) (w : World) : Calls Tryz.prog 22 #[.string s] w fun e w' => ∃ v, e = .returned (.tuple #[v, .int .i64 (splitD s).2]) ∧ Ks w' w.heap.size v (splitD s).1 ∧ Below w.heap.size w w' := by
  by_cases hp : (pb s).head? = some 47
  · have hpos : 0 < s.size := by
      rcases Nat.eq_zero_or_pos s.size with e | e
      · rw [← pb_size] at e
        rw [List.eq_nil_of_length_eq_zero e] at hp
        cases hp
      · exact e
    have h0 : s[0] = 47 := by
      rw [List.head?_eq_getElem?, List.getElem?_eq_getElem (by rw [pb_size]; exact hpos)] at hp
      injection hp
    by_cases hz : (restP s).size = 0
    · have HE := Lib.hid (split_root hp hz)
      have e1 : s = ⟨#[47]⟩ := by
        have hs1 : s.size = 1 := by unfold restP at hz; rw [ByteArray.size_extract] at hz; omega
        apply pb_ext
        have hl : (pb s).length = 1 := by rw [pb_size]; exact hs1
        match hq : pb s, hl with
        | [c], _ =>
          rw [hq] at hp
          injection hp with hp
          subst hp
          rfl
      obtain ⟨R, hR⟩ : ∃ R, R = splitD s := ⟨_, rfl⟩
      rw [← hR] at HE ⊢
      clear hp hz h0 hR hpos
      subst e1
      go_enter Tryz.func22, Tryz.ntmps22
      go_wp2
      go_ret2
      exact ⟨_, by rw [HE.out]; rfl, by rw [HE.out]; exact Ks.nil _ _, Below.refl _ _⟩
    · have hz1 : 1 < s.size := by unfold restP at hz; rw [ByteArray.size_extract] at hz; omega
      have HP := Lib.hid hp
      have HZ := Lib.hid hz
      have d1 : (s.toList == [47]) = false := dot_ne (fun e => by have := congrArg List.length e; rw [pb_size] at this; simp at this; omega)
      obtain ⟨g1, g2⟩ := str_some s hpos
      have q0 : ((s[0].toNat : Int) != 47) = false := by rw [h0]; rfl
      obtain ⟨R, hR⟩ : ∃ R, R = splitD s := ⟨_, rfl⟩
      rw [← hR]
      have HR := Lib.hid hR
      clear hp hz hR h0
      go_enter Tryz.func22, Tryz.ntmps22
      go_wp2
      go_loopw [4, 5, 6] (fun v at' i wr => ∃ (pre : List ByteArray) (a k : Nat), k ≤ s.size + 1 ∧ a ≤ s.size + 1 ∧ at' = .int .i64 a ∧ i = .int .i64 k ∧ Hid (SpR s pre a k) ∧ Hid (Ks wr w.heap.size v pre) ∧ Hid (Below w.heap.size w wr)) (fun _ _ i _ => s.size + 1 - (intOf i).toNat)
      case atStart => exact ⟨[], 1, 1, by omega, by omega, rfl, rfl, ⟨fun x hx => (by cases hx), Nat.zero_le _, .inl ⟨Nat.le_refl _, Nat.le_refl _, by omega, rfl, fun j hj => by omega⟩⟩, Ks.nil _ _, Below.refl _ _⟩
      case round =>
        obtain ⟨pre, a, k, hk, ha, rfl, rfl, HS, HK, HB⟩ := hrel
        obtain ⟨xa, xc, rfl, _⟩ := HK.out.view
        obtain ⟨hok, hpl, h1 | h1⟩ := HS.out
        · obtain ⟨hak, h1a, hks, hps, hcl⟩ := h1
          by_cases hlt : k < s.size
          · by_cases h47 : s[k] = 47
            · have q1 : ((s[k].toNat : Int) == 47) = true := by rw [h47]; rfl
              have hq2 : ((k : Int) == (s.size : Int)) = false := by rw [beq_eq_false_iff_ne]; omega
              by_cases hx : okR (s.extract a k)
              · have hd : decide (okR (s.extract a k)) = true := decide_eq_true hx
                have HNEW : Hid (SpR s (pre ++ [s.extract a k]) (k + 1) (k + 1)) := by
                  refine ⟨fun y hy => ?_, by rw [List.length_append]; simp; exact hpl, ?_⟩
                  · rcases List.mem_append.1 hy with hy | hy
                    · exact hok y hy
                    · rw [List.mem_singleton.1 hy]; exact hx.1
                  · exact .inl ⟨Nat.le_refl _, by omega, by omega, by rw [hps, seg_slash hak hlt h47 hcl, List.append_assoc]; rfl, fun j hj => by omega⟩
                have hnum : ¬ 140737488355328 < pre.length + 1 := by omega
                clear hx hps hcl hok
                go_wp2_with fail
                refine (rname_any (s.extract a k) (by rw [ByteArray.size_extract]; omega) _).mono ?_
                rintro e w1 ⟨rfl, rfl⟩
                rw [hd]
                go_wp2_with (at_builtin; refine wp_keys_push _ rfl _ _ rfl w.heap.size _ pre rfl (HK.out.alloc _) ⟨wr.heap.size, 0, none⟩ 1 1 [s.extract a k] rfl rfl (one_string _ _ _) (by omega) (by rw [size_alloc]; have := HB.out.size; omega) ?_; intro v' w2 hk2 hg2 _)
                have HB2 : Hid (Below w.heap.size w w2) := (HB.out.alloc HB.out.size (.cells #[.string (s.extract a k)] 9)).grown hg2 (by rw [size_alloc]; have := HB.out.size; omega) (fun j hj => (HK.out.own_block j hj))
                have HK2 := Lib.hid hk2
                clear hk2 hg2
                go_roundw
                case rel => exact ⟨_, k + 1, k + 1, by omega, by omega, by go_num, by go_num, HNEW, HK2, HB2⟩
                case measure => simp [intOf]; omega
              · have hd : decide (okR (s.extract a k)) = false := decide_eq_false hx
                have hn : ¬ okN (s.extract a k) := fun e => hx ((okR_seg (by omega) hcl).2 e)
                have HF : Hid (R = ([], 12)) := HR.out.trans (split_bad HP.out HZ.out ⟨s.extract a k, by rw [hps, seg_slash hak hlt h47 hcl]; simp, hn⟩)
                clear hx hps hcl hok hn
                go_wp2_with fail
                refine (rname_any (s.extract a k) (by rw [ByteArray.size_extract]; omega) _).mono ?_
                rintro e w1 ⟨rfl, rfl⟩
                rw [hd]
                go_wp2
                go_ret2
                exact ⟨_, by rw [HF.out]; rfl, by rw [HF.out]; exact Ks.nil _ _, HB.out⟩
            · have q1 : ((s[k].toNat : Int) == 47) = false := by
                rw [beq_eq_false_iff_ne]; intro e
                exact h47 (UInt8.toNat_inj.1 (show s[k].toNat = 47 by omega))
              have hq2 : ((k : Int) == (s.size : Int)) = false := by rw [beq_eq_false_iff_ne]; omega
              have HNEW : Hid (SpR s pre a (k + 1)) := ⟨hok, by omega, .inl ⟨by omega, h1a, by omega, hps, fun j hj hj2 => by
                by_cases e : j = k
                · subst e; exact h47
                · exact hcl j ⟨hj.1, by omega⟩ hj2⟩⟩
              clear h47 hps hcl hok
              go_wp2
              go_roundw
              case rel => exact ⟨pre, a, k + 1, by omega, by omega, by go_num, by go_num, HNEW, HK, HB⟩
              case measure => simp [intOf]; omega
          · obtain rfl : k = s.size := by omega
            have hcl2 : ∀ j (hj : a ≤ j ∧ j < s.size) (hj2 : j < s.size), s[j] ≠ 47 := fun j hj hj2 => hcl j ⟨hj.1, by omega⟩ hj2
            by_cases hx : okR (s.extract a s.size)
            · have hd : decide (okR (s.extract a s.size)) = true := decide_eq_true hx
              have HNEW : Hid (SpR s (pre ++ [s.extract a s.size]) (s.size + 1) (s.size + 1)) := by
                refine ⟨fun y hy => ?_, by rw [List.length_append]; simp; exact hpl, ?_⟩
                · rcases List.mem_append.1 hy with hy | hy
                  · exact hok y hy
                  · rw [List.mem_singleton.1 hy]; exact hx.1
                · exact .inr ⟨by omega, by rw [hps, seg_end hcl2]⟩
              have hnum : ¬ 140737488355328 < pre.length + 1 := by omega
              clear hx hps hcl hok
              go_wp2_with fail
              refine (rname_any (s.extract a s.size) (by rw [ByteArray.size_extract]; omega) _).mono ?_
              rintro e w1 ⟨rfl, rfl⟩
              rw [hd]
              go_wp2_with (at_builtin; refine wp_keys_push _ rfl _ _ rfl w.heap.size _ pre rfl (HK.out.alloc _) ⟨wr.heap.size, 0, none⟩ 1 1 [s.extract a s.size] rfl rfl (one_string _ _ _) (by omega) (by rw [size_alloc]; have := HB.out.size; omega) ?_; intro v' w2 hk2 hg2 _)
              have HB2 : Hid (Below w.heap.size w w2) := (HB.out.alloc HB.out.size (.cells #[.string (s.extract a s.size)] 9)).grown hg2 (by rw [size_alloc]; have := HB.out.size; omega) (fun j hj => (HK.out.own_block j hj))
              have HK2 := Lib.hid hk2
              clear hk2 hg2
              go_roundw
              case rel => exact ⟨_, s.size + 1, s.size + 1, by omega, by omega, by go_num, by go_num, HNEW, HK2, HB2⟩
              case measure => simp [intOf]
            · have hd : decide (okR (s.extract a s.size)) = false := decide_eq_false hx
              have hn : ¬ okN (s.extract a s.size) := fun e => hx ((okR_seg (by omega) hcl).2 e)
              have HF : Hid (R = ([], 12)) := HR.out.trans (split_bad HP.out HZ.out ⟨s.extract a s.size, by rw [hps, seg_end hcl2]; simp, hn⟩)
              clear hx hps hcl hok hn
              go_wp2_with fail
              refine (rname_any (s.extract a s.size) (by rw [ByteArray.size_extract]; omega) _).mono ?_
              rintro e w1 ⟨rfl, rfl⟩
              rw [hd]
              go_wp2
              go_ret2
              exact ⟨_, by rw [HF.out]; rfl, by rw [HF.out]; exact Ks.nil _ _, HB.out⟩
        · obtain ⟨hk1, hps⟩ := h1
          have HF : Hid (R = (pre, 0)) := by
            show _ = _
            rw [HR.out, split_ok HP.out HZ.out (by rw [hps]; exact hok), hps]
          subst hk1
          clear hok hpl hps HS
          go_wp2
          go_ret2
          exact ⟨_, by rw [HF.out]; rfl, by rw [HF.out]; exact HK.out, HB.out⟩
  · have HE := Lib.hid (split_none hp)
    obtain ⟨R, hR⟩ : ∃ R, R = splitD s := ⟨_, rfl⟩
    rw [← hR] at HE ⊢
    by_cases h0 : s.size = 0
    · have e0 : s = ⟨#[]⟩ := by
        apply ByteArray.ext
        exact Array.eq_empty_of_size_eq_zero h0
      clear hR hp
      subst e0
      go_enter Tryz.func22, Tryz.ntmps22
      go_wp2
      go_ret2
      exact ⟨_, by rw [HE.out]; rfl, by rw [HE.out]; exact Ks.nil _ _, Below.refl _ _⟩
    · have hpos : 0 < s.size := by omega
      obtain ⟨g1, g2⟩ := str_some s hpos
      have h1 : s[0] ≠ 47 := by
        intro e
        apply hp
        rw [List.head?_eq_getElem?, List.getElem?_eq_getElem (by rw [pb_size]; exact hpos), pb_at s 0 hpos, e]
      have q0 : ((s[0].toNat : Int) != 47) = true := by
        rw [bne_iff_ne]; intro e
        exact h1 (UInt8.toNat_inj.1 (show s[0].toNat = 47 by omega))
      have d1 : (s.toList == [47]) = false := dot_ne (fun e => hp (by rw [e]; rfl))
      clear hR hp h1 h0
      go_enter Tryz.func22, Tryz.ntmps22
      go_wp2
      go_ret2
      exact ⟨_, by rw [HE.out]; rfl, by rw [HE.out]; exact Ks.nil _ _, Below.refl _ _⟩
end Go.Proofs.YteimpebfenpifaaGreatDoor
