/-
  Texts put together: OpenMo, MoRun.
-/
import Derived.Test.YteimpebfenpifaaGreatDoorMg0
import Derived.Test.YteimpebfenpifaaGreatDoorMoLive
import Derived.LaidSub
import Derived.Lay
import Derived.LaidMore
namespace Go.Proofs.YteimpebfenpifaaGreatDoor
open Go.ChangeShapes Go.WideShapes Go.ChangeAt Go.RowKit

theorem cellsint_open_mop : Tryz.prog.cellsOf 3 = 1 := by kernel_rfl
theorem cellsstring_open_mop : Tryz.prog.cellsOf 9 = 1 := by kernel_rfl
theorem cells_open_mop : Tryz.prog.cellsOf 36 = 6 := by kernel_rfl
section
variable {H : Type} {enc : TypeId × Value → H} {w : World}
set_option maxRecDepth 100000 in
theorem open_mop {base : Nat} {v : Value} {d : DataW H} {ps : List MemPlace} (hw : Value.okWide Tryz.prog w .any base 36 v) (h : DataW.Trod enc Tryz.prog w 0 (fun _ => true) true 36 v d ps) :
    ∃ x0 : Int, ∃ x1 : ByteArray, ∃ x2 : ByteArray, ∃ x3 : Int, ∃ x4 : Int, ∃ x5 : ByteArray, v = .agg #[.int .i64 x0, .string x1, .string x2, .int .i64 x3, .int .i64 x4, .string x5] ∧ x1.size ≤ maxLen ∧ x2.size ≤ maxLen ∧ x5.size ≤ maxLen ∧ (Lit.int .i64 x0).wf = true ∧ (Lit.int .i64 x3).wf = true ∧ (Lit.int .i64 x4).wf = true := by
  obtain ⟨cs, rfl, _⟩ := okWide_struct Tryz.underlying36 hw
  obtain ⟨fuel, hf⟩ := h
  obtain ⟨xs, n, _, _, hl, hlen, hfield⟩ := DataW.trod_struct Tryz.underlying36 hf
  rw [cells_open_mop] at hl
  have g0 : DataW.trod enc Tryz.prog w 0 _ _ n 3 (((Value.agg cs).cells.toList.drop 0).take (Tryz.prog.cellsOf 3)) = xs[0]? := hfield 0 _ rfl
  rw [cellsint_open_mop] at g0
  have g1 : DataW.trod enc Tryz.prog w 0 _ _ n 9 (((Value.agg cs).cells.toList.drop 1).take (Tryz.prog.cellsOf 9)) = xs[1]? := hfield 1 _ rfl
  rw [cellsstring_open_mop] at g1
  have g2 : DataW.trod enc Tryz.prog w 0 _ _ n 9 (((Value.agg cs).cells.toList.drop 2).take (Tryz.prog.cellsOf 9)) = xs[2]? := hfield 2 _ rfl
  rw [cellsstring_open_mop] at g2
  have g3 : DataW.trod enc Tryz.prog w 0 _ _ n 3 (((Value.agg cs).cells.toList.drop 3).take (Tryz.prog.cellsOf 3)) = xs[3]? := hfield 3 _ rfl
  rw [cellsint_open_mop] at g3
  have g4 : DataW.trod enc Tryz.prog w 0 _ _ n 3 (((Value.agg cs).cells.toList.drop 4).take (Tryz.prog.cellsOf 3)) = xs[4]? := hfield 4 _ rfl
  rw [cellsint_open_mop] at g4
  have g5 : DataW.trod enc Tryz.prog w 0 _ _ n 9 (((Value.agg cs).cells.toList.drop 5).take (Tryz.prog.cellsOf 9)) = xs[5]? := hfield 5 _ rfl
  rw [cellsstring_open_mop] at g5
  obtain ⟨cl⟩ := cs
  have hlenN : xs.length = 6 := hlen
  match cl, hl, xs, hlenN with
  | [v0, v1, v2, v3, v4, v5], _, [y0, y1, y2, y3, y4, y5], _ =>
    obtain ⟨t0, e0, _, q0⟩ := DataW.trod_int Tryz.underlying3 g0
    obtain ⟨t1, e1, _, q1⟩ := DataW.trod_string Tryz.underlying9 g1
    obtain ⟨t2, e2, _, q2⟩ := DataW.trod_string Tryz.underlying9 g2
    obtain ⟨t3, e3, _, q3⟩ := DataW.trod_int Tryz.underlying3 g3
    obtain ⟨t4, e4, _, q4⟩ := DataW.trod_int Tryz.underlying3 g4
    obtain ⟨t5, e5, _, q5⟩ := DataW.trod_string Tryz.underlying9 g5
    simp [Value.cells] at e0 e1 e2 e3 e4 e5
    exact ⟨t0, t1, t2, t3, t4, t5, by rw [e0, e1, e2, e3, e4, e5], q1, q2, q5, q0, q3, q4⟩

/-- The i-th op's cells. -/
def MopK (cs : List Value) (o : OpD) : Prop := cs = (opA o).toList
instance : Inhabited OpD := ⟨⟨0, ⟨#[]⟩, ⟨#[]⟩, 0, 0, ⟨#[]⟩⟩⟩
set_option maxRecDepth 100000 in
theorem open_mopk {held : Bool} {fuel : Nat} {cs : List Value} {x : DataW H × List MemPlace} (h : DataW.trod enc Tryz.prog w 0 (fun _ => true) held fuel 36 cs = some x) : ∃ y, MopK cs y := by
  obtain ⟨xs, n, _, _, hl, hlen, hfield⟩ := DataW.trod_struct Tryz.underlying36 h
  rw [cells_open_mop] at hl
  have g0 : DataW.trod enc Tryz.prog w 0 _ _ n 3 ((cs.drop 0).take (Tryz.prog.cellsOf 3)) = xs[0]? := hfield 0 _ rfl
  rw [cellsint_open_mop] at g0
  have g1 : DataW.trod enc Tryz.prog w 0 _ _ n 9 ((cs.drop 1).take (Tryz.prog.cellsOf 9)) = xs[1]? := hfield 1 _ rfl
  rw [cellsstring_open_mop] at g1
  have g2 : DataW.trod enc Tryz.prog w 0 _ _ n 9 ((cs.drop 2).take (Tryz.prog.cellsOf 9)) = xs[2]? := hfield 2 _ rfl
  rw [cellsstring_open_mop] at g2
  have g3 : DataW.trod enc Tryz.prog w 0 _ _ n 3 ((cs.drop 3).take (Tryz.prog.cellsOf 3)) = xs[3]? := hfield 3 _ rfl
  rw [cellsint_open_mop] at g3
  have g4 : DataW.trod enc Tryz.prog w 0 _ _ n 3 ((cs.drop 4).take (Tryz.prog.cellsOf 3)) = xs[4]? := hfield 4 _ rfl
  rw [cellsint_open_mop] at g4
  have g5 : DataW.trod enc Tryz.prog w 0 _ _ n 9 ((cs.drop 5).take (Tryz.prog.cellsOf 9)) = xs[5]? := hfield 5 _ rfl
  rw [cellsstring_open_mop] at g5
  have hlenN : xs.length = 6 := hlen
  match cs, hl, xs, hlenN with
  | [v0, v1, v2, v3, v4, v5], _, [y0, y1, y2, y3, y4, y5], _ =>
    obtain ⟨t0, e0, _, q0⟩ := DataW.trod_int Tryz.underlying3 g0
    obtain ⟨t1, e1, _, q1⟩ := DataW.trod_string Tryz.underlying9 g1
    obtain ⟨t2, e2, _, q2⟩ := DataW.trod_string Tryz.underlying9 g2
    obtain ⟨t3, e3, _, q3⟩ := DataW.trod_int Tryz.underlying3 g3
    obtain ⟨t4, e4, _, q4⟩ := DataW.trod_int Tryz.underlying3 g4
    obtain ⟨t5, e5, _, q5⟩ := DataW.trod_string Tryz.underlying9 g5
    simp at e0 e1 e2 e3 e4 e5
    exact ⟨⟨t0, t1, t2, t3, t4, t5⟩, by simp [MopK, e0, e1, e2, e3, e4, e5]⟩
set_option maxRecDepth 100000 in
theorem open_mops {base : Nat} {v : Value} {d : DataW H} {ps : List MemPlace} (hw : Value.okWide Tryz.prog w .any base 22 v) (h : DataW.Trod enc Tryz.prog w 0 (fun _ => true) true 22 v d ps) :
    ∃ a cap, ∃ l : List OpD, v = .slice a l.length cap ∧ SlE w 6 MopK a l ∧ l.length ≤ maxLen := by
  obtain ⟨a0, len, cap, rfl⟩ := okWide_slice Tryz.underlying22 hw
  obtain ⟨fuel, hf⟩ := h
  obtain ⟨a, cap', l, e, hs, hm⟩ := open_slE (n := 6) MopK Tryz.underlying22 cells_open_mop (by decide) (fun _ _ _ h => open_mopk h) hf
  simp [Value.cells] at e
  obtain ⟨rfl, rfl, rfl⟩ := e
  exact ⟨_, _, l, rfl, hs, hm⟩
end
/-- The cells of the i-th op, in any world behind. -/
theorem SlE.mop {w w' : World} {a : Option Addr} {l : List OpD} (h : SlE w 6 MopK a l) (hb : Below w.heap.size w w') (i : Nat) (hi : i < l.length) : ∃ b off, a = some ⟨b, off, none⟩ ∧ b < w.heap.size ∧
    w'.cell? ⟨b, off + i * 6, none⟩ = some (.int .i64 l[i].do_) ∧ w'.cell? ⟨b, off + i * 6 + 1, none⟩ = some (.string l[i].path) ∧ w'.cell? ⟨b, off + i * 6 + 2, none⟩ = some (.string l[i].dst) ∧
    w'.cell? ⟨b, off + i * 6 + 3, none⟩ = some (.int .i64 l[i].off) ∧ w'.cell? ⟨b, off + i * 6 + 4, none⟩ = some (.int .i64 l[i].len) ∧ w'.cell? ⟨b, off + i * 6 + 5, none⟩ = some (.string l[i].data) := by
  obtain ⟨b, off, e, hl, hc⟩ := h (by intro h; rw [h] at hi; simp at hi)
  obtain ⟨cs, _, hk, hcell⟩ := hc i l[i] (List.getElem?_eq_getElem hi)
  unfold MopK at hk
  subst hk
  exact ⟨b, off, e, hl, (hb.cell (p := ⟨b, off + i * 6, none⟩) hl).trans (hcell 0 _ rfl), (hb.cell (p := ⟨b, off + i * 6 + 1, none⟩) hl).trans (hcell 1 _ rfl), (hb.cell (p := ⟨b, off + i * 6 + 2, none⟩) hl).trans (hcell 2 _ rfl),
    (hb.cell (p := ⟨b, off + i * 6 + 3, none⟩) hl).trans (hcell 3 _ rfl), (hb.cell (p := ⟨b, off + i * 6 + 4, none⟩) hl).trans (hcell 4 _ rfl), (hb.cell (p := ⟨b, off + i * 6 + 5, none⟩) hl).trans (hcell 5 _ rfl)⟩

/-! ### the table of powers, by the row's own condition -/
theorem cellsU64 : Tryz.prog.cellsOf 141 = 1 := by kernel_rfl
theorem cellsTab : Tryz.prog.cellsOf 159 = 20 := by kernel_rfl
def tabL : List (String × DataW Unit) := [("internal/strconv.uint64pow10", Lib.tabData .u64 Lib.pow10Tab)]
theorem it_of_laid {W : World} {l : List (String × DataW Unit)} (hf : l.filter (fun x => x.1 == "internal/strconv.uint64pow10") = tabL) (hp : (tabL.all fun x => x.2.handleName?.isNone) = true) (h : laidMetH Tryz.prog l W) : It W := by
  have h2 := h.filter (fun x => x.1 == "internal/strconv.uint64pow10")
  rw [hf, MakeChecks.laidMetH_plain _ _ _ hp] at h2
  exact Lib.tabIs_of_head (g := 3) (by kernel_rfl) (by kernel_rfl) Tryz.underlying159 Tryz.underlying141 cellsU64 cellsTab h2
theorem tabL_plain : (tabL.all fun x => x.2.handleName?.isNone) = true := by kernel_rfl
end Go.Proofs.YteimpebfenpifaaGreatDoor

namespace Go.Proofs.YteimpebfenpifaaGreatDoor
open Go Go.RowKit Go.ChangeShapes Go.WideShapes Go.ChangeAt

def runG (G : GD) (l : List OpD) : GD := l.foldl (fun G o => (doG G o).2) G
theorem runG_take {G : GD} {l : List OpD} {j : Nat} (h : j < l.length) : runG G (l.take (j + 1)) = (doG (runG G (l.take j)) l[j]).2 := by
  unfold runG
  rw [List.take_succ_eq_append_getElem h, List.foldl_append]
  rfl
def okO (o : OpD) : Prop := o.path.size ≤ 600 ∧ o.dst.size ≤ 600 ∧ o.data.size ≤ 2000
instance (o : OpD) : Decidable (okO o) := by unfold okO; infer_instance
def smallB (l : List OpD) (m : Int) : Bool := decide ((∀ o ∈ l, okO o) ∧ (l.length : Int) ≤ m)
set_option maxRecDepth 100000 in
set_option maxHeartbeats 4000000 in
theorem small_any (w : World) (a : Option Addr) (c : Nat) (l : List OpD) (m : Int) (hs : SlE w 6 MopK a l) (hm : l.length ≤ maxLen) :
    Calls Tryz.prog 10 #[.slice a l.length c, .int .i64 m] w fun e w' => e = .returned (.bool (smallB l m)) ∧ w' = w := by
  obtain ⟨R, hR⟩ : ∃ R, R = smallB l m := ⟨_, rfl⟩
  rw [← hR]
  have HR := Lib.hid hR
  have HS := Lib.hid hs
  have HM := Lib.hid hm
  clear hR hs hm
  go_enter Tryz.func10, Tryz.ntmps10
  go_wp2
  go_loop [5] (fun i => ∃ k : Nat, k ≤ l.length ∧ i = .int .i64 k ∧ Hid (∀ o ∈ l.take k, okO o)) (fun i => l.length - (intOf i).toNat)
  case atStart => exact ⟨0, Nat.zero_le _, rfl, fun x hx => by cases hx⟩
  case round =>
    obtain ⟨k, hk, rfl, HT⟩ := hrel
    by_cases hlt : k < l.length
    · obtain ⟨b, off, rfl, _, q0, q1, q2, q3, q4, q5⟩ := HS.out.mop (Below.refl _ _) k hlt
      have HN : Hid (okO l[k] → ∀ o ∈ l.take (k + 1), okO o) := by
        intro h o ho
        rw [List.take_succ_eq_append_getElem hlt] at ho
        rcases List.mem_append.1 ho with ho | ho
        · exact HT.out o ho
        · rw [List.mem_singleton.1 ho]; exact h
      have HF : Hid (¬ okO l[k] → R = false) := by
        intro h
        rw [HR.out]
        exact decide_eq_false (fun e => h (e.1 _ (List.getElem_mem hlt)))
      generalize l[k] = o at *
      have hkk : k + 1 ≤ 9223372036854775807 := by
        have h9 := HM.out
        unfold maxLen at h9
        omega
      clear q0 q3 q4
      by_cases h1 : o.path.size ≤ 600
      · have d1 : ((600 : Int) < (o.path.size : Int)) = False := eq_false (by omega)
        by_cases h2 : o.dst.size ≤ 600
        · have d2 : ((600 : Int) < (o.dst.size : Int)) = False := eq_false (by omega)
          by_cases h3 : o.data.size ≤ 2000
          · have d3 : ((2000 : Int) < (o.data.size : Int)) = False := eq_false (by omega)
            have HN := Lib.hid (HN.out ⟨h1, h2, h3⟩)
            clear h1 h2 h3
            go_wp2
            go_round
            case rel => exact ⟨k + 1, by omega, by go_num, HN⟩
            case measure => simp [intOf]; omega
          · have d3 : ((2000 : Int) < (o.data.size : Int)) = True := eq_true (by omega)
            have HQ := Lib.hid (HF.out (fun e => h3 e.2.2))
            clear h1 h2 h3
            go_wp2
            go_ret
            exact ⟨ret_bool HQ.out.symm, rfl⟩
        · have d2 : ((600 : Int) < (o.dst.size : Int)) = True := eq_true (by omega)
          have HQ := Lib.hid (HF.out (fun e => h2 e.2.1))
          clear h1 h2
          go_wp2
          go_ret
          exact ⟨ret_bool HQ.out.symm, rfl⟩
      · have d1 : ((600 : Int) < (o.path.size : Int)) = True := eq_true (by omega)
        have HQ := Lib.hid (HF.out (fun e => h1 e.1))
        clear h1
        go_wp2
        go_ret
        exact ⟨ret_bool HQ.out.symm, rfl⟩
    · have hke : k = l.length := by omega
      have HQ : Hid (decide ((l.length : Int) ≤ m) = R) := by
        have h1 := HT.out
        rw [hke, List.take_length] at h1
        show _ = _
        rw [HR.out]
        unfold smallB
        by_cases h2 : (l.length : Int) ≤ m
        · rw [decide_eq_true h2, decide_eq_true ⟨h1, h2⟩]
        · rw [decide_eq_false h2, decide_eq_false (fun e => h2 e.2)]
      subst hke
      clear HT
      go_wp2
      go_ret
      exact ⟨ret_bool HQ.out, rfl⟩

/-! ### sizes -/
theorem ins_len (x : ByteArray) : ∀ l : List ByteArray, (insB x l).length = l.length + 1
  | [] => rfl
  | y :: r => by
    unfold insB
    split
    · rfl
    · rw [List.length_cons, ins_len x r, List.length_cons]
theorem sort_len : ∀ l : List ByteArray, (sortB l).length = l.length
  | [] => rfl
  | x :: r => by unfold sortB; rw [ins_len, sort_len r, List.length_cons]
theorem kids_len (G : GD) (l : PathD) : (kidsG G l).length ≤ G.E.length := List.length_filterMap_le _ _
theorem ite_of {P : AnsD × GD → Prop} {c : Prop} [Decidable c] {a b : AnsD × GD} (h1 : P a) (h2 : P b) : P (if c then a else b) := by
  by_cases h : c
  · rw [if_pos h]; exact h1
  · rw [if_neg h]; exact h2
theorem doG_ind {P : AnsD × GD → Prop} {G : GD} {o : OpD} (h1 : ∀ e, P (noA e, G)) (h2 : ∀ G', P (noA 0, G')) (h3 : ∀ n d G', P (⟨0, n, d, []⟩, G')) (h4 : ∀ n d s, P (⟨0, n, d, [s]⟩, G)) (h5 : ∀ l, P (⟨0, 0, noB, sortB (kidsG G l)⟩, G)) : P (doG G o) := by
  unfold doG makeG fileG
  repeat' (first | exact h1 _ | exact h2 _ | exact h3 _ _ _ | exact h4 _ _ _ | exact h5 _ | apply ite_of)
theorem names_len (G : GD) (o : OpD) : (doG G o).1.names.length ≤ G.E.length + 1 :=
  doG_ind (P := fun q => q.1.names.length ≤ G.E.length + 1) (fun _ => Nat.zero_le _) (fun _ => Nat.zero_le _) (fun _ _ _ => Nat.zero_le _) (fun _ _ _ => by simp) (fun l => by
    show (sortB _).length ≤ _
    rw [sort_len]
    have := kids_len G l
    omega)
theorem TK.bE {b : Nat} {G : GD} {k : Nat} {K : Nat → Prop} {w : World} (h : TK b G k K w) : G.E.length ≤ k := by
  obtain ⟨x, _, _, h3, _⟩ := h
  exact h3.bE
/-- What is refused changes nothing, and tells its number alone. -/
theorem refused_same (G : GD) (o : OpD) (h : (doG G o).1.code ≠ 0) : doG G o = (noA (doG G o).1.code, G) := by
  exact doG_ind (P := fun q => q.1.code ≠ 0 → q = (noA q.1.code, G)) (fun _ _ => rfl) (fun _ h => absurd rfl h) (fun _ _ _ h => absurd rfl h) (fun _ _ _ h => absurd rfl h) (fun _ h => absurd rfl h) h
/-- Asked, its answer forgotten. -/
theorem lv_ask {w0 : World} {b : Nat} {G : GD} {k : Nat} {K : Nat → Prop} {w : World} (h : LvS w0 b G k K w) (h0 : It w0) (hk : k ≤ 1000000) (o : OpD) (ho : okO o) :
    Calls Tryz.prog 17 #[.pointer (some ⟨b, 0, none⟩), opV o] w fun e w' => (∃ v, e = .returned v) ∧ LvS w0 b (doG G o).2 (k + 1) K w' := by
  refine (tk_do h.tk hk o (by have := ho.1; omega) (by have := ho.2.1; omega) (by have := ho.2.2; omega) h.it).mono ?_
  rintro e w' ⟨va, vc, rfl, hks, hkp, htk⟩
  exact ⟨⟨_, rfl⟩, htk.mono (fun j hj => .inl hj), h.bl.trans (hkp.below h.bl.size h.low), h.it.kp h0 hkp h.low, h.low⟩
end Go.Proofs.YteimpebfenpifaaGreatDoor
