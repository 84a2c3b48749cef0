/-
  Texts put together: MoLive, OpenMo, MoRun, MoTwo.
-/
import Derived.Test.YteimpebfenpifaaGreatDoorMg29
import Derived.Test.YteimpebfenpifaaGreatDoorMg0
import Derived.LaidSub
import Derived.Lay
import Derived.LaidMore
namespace Go.Proofs.YteimpebfenpifaaGreatDoor
open Go Go.RowKit Go.ChangeShapes Go.WideShapes Go.ChangeAt

theorem slm_one (w : World) (k : ByteArray) : Sl (w.alloc (.cells #[.string k] 9 (0, 0))) Value.string (some ⟨w.heap.size, 0, none⟩) [k] :=
  Sl.of fun i x hx => by
    rcases i with _ | i
    · injection hx with hx; subst hx; exact (Box.new w 9 #[.string k]).cell 0 _ rfl
    · simp at hx
theorem slm_two (w : World) (k l : ByteArray) : Sl (w.alloc (.cells #[.string k, .string l] 9 (0, 0))) Value.string (some ⟨w.heap.size, 0, none⟩) [k, l] :=
  Sl.of fun i x hx => by
    rcases i with _ | _ | i
    · injection hx with hx; subst hx; exact (Box.new w 9 #[.string k, .string l]).cell 0 _ rfl
    · injection hx with hx; subst hx; exact (Box.new w 9 #[.string k, .string l]).cell 1 _ rfl
    · simp at hx
/-- A tree, beside what stays. -/
structure LvS (w0 : World) (b : Nat) (G : GD) (k : Nat) (K : Nat → Prop) (w : World) : Prop where
  tk : TK b G k K w
  bl : Below w0.heap.size w0 w
  it : It w
  low : ∀ j, j < w0.heap.size → K j
theorem It.kp {K : Nat → Prop} {w0 w w' : World} (h : It w) (h0 : It w0) (hk : Kp K w w') (hl : ∀ j, j < w0.heap.size → K j) : It w' := hk.it h (hl _ h0.lt)
theorem lv_new (w : World) (hI : It w) : Calls Tryz.prog 12 #[] w fun e w' => ∃ b, e = .returned (.pointer (some ⟨b, 0, none⟩)) ∧ LvS w b newG 0 (fun j => j < w.heap.size) w' :=
  (tk_new w).mono fun _ _ ⟨b, h1, h2, h3⟩ => ⟨b, h1, h2, h3, hI.keep h3, fun _ h => h⟩
/-- An answer, kept in a block of its own. -/
structure AnsAt (K : Nat → Prop) (w : World) (a : Nat) (q : AnsD) (va : Option Addr) (vc : Nat) : Prop where
  box : Box w a 33 #[.int .i64 q.code, .int .i64 q.n, .string q.data, .slice va q.names.length vc]
  ka : K a
  ks : ∃ B, Ks w B (.slice va q.names.length vc) q.names
  kn : ∀ j, (Value.slice va q.names.length vc).ownBlock = some j → K j
theorem AnsAt.go {K K' : Nat → Prop} {w w' : World} {a : Nat} {q : AnsD} {va : Option Addr} {vc : Nat} (h : AnsAt K w a q va vc) (hk : Kp K w w') (hm : ∀ j, K j → K' j) : AnsAt K' w' a q va vc := by
  obtain ⟨B, hB⟩ := h.ks
  exact ⟨hk.box h.box h.ka, hm _ h.ka, ⟨B, hk.ks hB h.kn⟩, fun j hj => hm _ (h.kn j hj)⟩
theorem AnsAt.keep {K : Nat → Prop} {w w' : World} {a : Nat} {q : AnsD} {va : Option Addr} {vc : Nat} (h : AnsAt K w a q va vc) (hb : Below w.heap.size w w') : AnsAt K w' a q va vc := h.go (Kp.of hb) (fun _ h => h)
theorem AnsAt.sl {K : Nat → Prop} {w : World} {a : Nat} {q : AnsD} {va : Option Addr} {vc : Nat} (h : AnsAt K w a q va vc) : Sl w Value.string va q.names := by
  obtain ⟨B, hB⟩ := h.ks
  obtain ⟨_, _, e, hs, _⟩ := hB.shape
  injection e with e1 e2 e3
  rw [e1]; exact hs
theorem lv_do {w0 : World} {b : Nat} {G : GD} {k : Nat} {K : Nat → Prop} {w : World} (h : LvS w0 b G k K w) (h0 : It w0) (hk : k ≤ 1000000) (o : OpD) (hp : o.path.size ≤ 100000) (hp2 : o.dst.size ≤ 100000) (hp3 : o.data.size ≤ 1000000) {q : AnsD} {G' : GD} (hq : doG G o = (q, G')) :
    Calls Tryz.prog 17 #[.pointer (some ⟨b, 0, none⟩), opV o] w fun e w' => ∃ va vc, e = .returned (ansV q.code q.n q.data (.slice va q.names.length vc)) ∧
      ∃ K' : Nat → Prop, (∀ j, K j → K' j) ∧ LvS w0 b G' (k + 1) K' (w'.alloc (.cells #[.int .i64 q.code, .int .i64 q.n, .string q.data, .slice va q.names.length vc] 33 (0, 0))) ∧
        AnsAt K' (w'.alloc (.cells #[.int .i64 q.code, .int .i64 q.n, .string q.data, .slice va q.names.length vc] 33 (0, 0))) w'.heap.size q va vc ∧
        Kp K w (w'.alloc (.cells #[.int .i64 q.code, .int .i64 q.n, .string q.data, .slice va q.names.length vc] 33 (0, 0))) := by
  have hd := tk_do h.tk hk o hp hp2 hp3 h.it
  rw [hq] at hd
  refine hd.mono ?_
  rintro e w' ⟨va, vc, rfl, hks, hkp, htk⟩
  have ha := (Below.refl w'.heap.size w').alloc (Nat.le_refl _) (.cells #[.int .i64 q.code, .int .i64 q.n, .string q.data, .slice va q.names.length vc] 33 (0, 0))
  have hkp2 := hkp.trans (Kp.of (K := K) ha)
  refine ⟨va, vc, rfl, _, fun j hj => .inl (.inl hj), ⟨htk.alloc _, h.bl.trans (hkp2.below h.bl.size h.low), h.it.kp h0 hkp2 h.low, fun j hj => .inl (.inl (h.low j hj))⟩, ⟨Box.new w' _ _, .inr rfl, ⟨_, hks.alloc _⟩, fun j hj => .inl (.inr hj)⟩, hkp2⟩

set_option maxRecDepth 100000 in
set_option maxHeartbeats 8000000 in
theorem live_any (w : World) (hI : It w) : Calls Tryz.prog 11 #[] w fun e w' => e = .returned (.bool true) ∧ Below w.heap.size w w' := by
  have HI := Lib.hid hI
  clear hI
  go_enter Tryz.func11, Tryz.ntmps11
  go_wp2_with fail
  refine (lv_new w HI.out).mono ?_
  rintro e v0 ⟨b, rfl, hs⟩
  have HS0 := Lib.hid hs
  clear hs
  generalize (fun j : Nat => j < w.heap.size) = K0 at *
  have HD := Lib.hid (lv_do HS0.out HI.out (by omega) lo1 (by decide) (by decide) (by decide) lc1)
  unfold opV opA lo1 noB at HD
  clear HS0
  go_wp2_with fail
  refine HD.out.mono ?_
  clear HD
  rintro e u1 ⟨va1, vc1, rfl, K1, hm, hs, ha, hk⟩
  have HS1 := Lib.hid hs
  have HA1 := Lib.hid ha
  clear hm hs ha hk
  simp only [ansV]
  --CUT1
  have HD := Lib.hid (lv_do HS1.out HI.out (by omega) lo2 (by decide) (by decide) (by decide) lc2)
  unfold opV opA lo2 noB at HD
  clear HS1
  go_wp2_with fail
  refine HD.out.mono ?_
  clear HD
  rintro e u2 ⟨va2, vc2, rfl, K2, hm, hs, ha, hk⟩
  have HS2 := Lib.hid hs
  have HA2 := Lib.hid ha
  have HA1 := Lib.hid (HA1.out.go hk hm)
  clear hm hs ha hk
  simp only [ansV]
  --CUT2
  have HD := Lib.hid (lv_do HS2.out HI.out (by omega) lo3 (by decide) (by decide) (by decide) lc3)
  unfold opV opA lo3 noB at HD
  clear HS2
  go_wp2_with fail
  refine HD.out.mono ?_
  clear HD
  rintro e u3 ⟨va3, vc3, rfl, K3, hm, hs, ha, hk⟩
  have HS3 := Lib.hid hs
  have HA3 := Lib.hid ha
  have HA1 := Lib.hid (HA1.out.go hk hm)
  have HA2 := Lib.hid (HA2.out.go hk hm)
  clear hm hs ha hk
  simp only [ansV]
  --CUT3
  have HD := Lib.hid (lv_do HS3.out HI.out (by omega) lo4 (by decide) (by decide) (by decide) lc4)
  unfold opV opA lo4 noB at HD
  clear HS3
  go_wp2_with fail
  refine HD.out.mono ?_
  clear HD
  rintro e u4 ⟨va4, vc4, rfl, K4, hm, hs, ha, hk⟩
  have HS4 := Lib.hid hs
  have HA4 := Lib.hid ha
  have HA1 := Lib.hid (HA1.out.go hk hm)
  have HA2 := Lib.hid (HA2.out.go hk hm)
  have HA3 := Lib.hid (HA3.out.go hk hm)
  clear hm hs ha hk
  simp only [ansV]
  --CUT4
  have HD := Lib.hid (lv_do HS4.out HI.out (by omega) lo5 (by decide) (by decide) (by decide) lc5)
  unfold opV opA lo5 noB at HD
  clear HS4
  go_wp2_with fail
  refine HD.out.mono ?_
  clear HD
  rintro e u5 ⟨va5, vc5, rfl, K5, hm, hs, ha, hk⟩
  have HS5 := Lib.hid hs
  have HA5 := Lib.hid ha
  have HA1 := Lib.hid (HA1.out.go hk hm)
  have HA2 := Lib.hid (HA2.out.go hk hm)
  have HA3 := Lib.hid (HA3.out.go hk hm)
  have HA4 := Lib.hid (HA4.out.go hk hm)
  clear hm hs ha hk
  simp only [ansV]
  --CUT5
  have HD := Lib.hid (lv_do HS5.out HI.out (by omega) lo6 (by decide) (by decide) (by decide) lc6)
  unfold opV opA lo6 noB at HD
  clear HS5
  go_wp2_with fail
  refine HD.out.mono ?_
  clear HD
  rintro e u6 ⟨va6, vc6, rfl, K6, hm, hs, ha, hk⟩
  have HS6 := Lib.hid hs
  have HA6 := Lib.hid ha
  have HA1 := Lib.hid (HA1.out.go hk hm)
  have HA2 := Lib.hid (HA2.out.go hk hm)
  have HA3 := Lib.hid (HA3.out.go hk hm)
  have HA4 := Lib.hid (HA4.out.go hk hm)
  have HA5 := Lib.hid (HA5.out.go hk hm)
  clear hm hs ha hk
  simp only [ansV]
  --CUT6
  have HD := Lib.hid (lv_do HS6.out HI.out (by omega) lo7 (by decide) (by decide) (by decide) lc7)
  unfold opV opA lo7 noB at HD
  clear HS6
  go_wp2_with fail
  refine HD.out.mono ?_
  clear HD
  rintro e u7 ⟨va7, vc7, rfl, K7, hm, hs, ha, hk⟩
  have HS7 := Lib.hid hs
  have HA7 := Lib.hid ha
  have HA1 := Lib.hid (HA1.out.go hk hm)
  have HA2 := Lib.hid (HA2.out.go hk hm)
  have HA3 := Lib.hid (HA3.out.go hk hm)
  have HA4 := Lib.hid (HA4.out.go hk hm)
  have HA5 := Lib.hid (HA5.out.go hk hm)
  have HA6 := Lib.hid (HA6.out.go hk hm)
  clear hm hs ha hk
  simp only [ansV]
  --CUT7
  have HD := Lib.hid (lv_do HS7.out HI.out (by omega) lo8 (by decide) (by decide) (by decide) lc8)
  unfold opV opA lo8 noB at HD
  clear HS7
  go_wp2_with fail
  refine HD.out.mono ?_
  clear HD
  rintro e u8 ⟨va8, vc8, rfl, K8, hm, hs, ha, hk⟩
  have HS8 := Lib.hid hs
  have HA8 := Lib.hid ha
  have HA1 := Lib.hid (HA1.out.go hk hm)
  have HA2 := Lib.hid (HA2.out.go hk hm)
  have HA3 := Lib.hid (HA3.out.go hk hm)
  have HA4 := Lib.hid (HA4.out.go hk hm)
  have HA5 := Lib.hid (HA5.out.go hk hm)
  have HA6 := Lib.hid (HA6.out.go hk hm)
  have HA7 := Lib.hid (HA7.out.go hk hm)
  clear hm hs ha hk
  simp only [ansV]
  obtain ⟨v8, hv8⟩ : ∃ x, x = World.alloc u8 (.cells #[.int .i64 (noA 1).code, .int .i64 (noA 1).n, .string (noA 1).data, .slice va8 (noA 1).names.length vc8] 33 (0, 0)) := ⟨_, rfl⟩
  rw [← hv8] at HS8 HA1 HA2 HA3 HA4 HA5 HA6 HA7 HA8
  go_wp2_with fail
  rw [← hv8]
  clear hv8
  refine (tk_count HS8.out.tk (by omega)).mono ?_
  rintro e v9 ⟨rfl, hb⟩
  rw [lc9]
  have HA1 := Lib.hid (HA1.out.keep hb)
  have HA2 := Lib.hid (HA2.out.keep hb)
  have HA3 := Lib.hid (HA3.out.keep hb)
  have HA4 := Lib.hid (HA4.out.keep hb)
  have HA5 := Lib.hid (HA5.out.keep hb)
  have HA6 := Lib.hid (HA6.out.keep hb)
  have HA7 := Lib.hid (HA7.out.keep hb)
  have HA8 := Lib.hid (HA8.out.keep hb)
  have HB := Lib.hid (HS8.out.bl.trans (hb.mono HS8.out.bl.size))
  clear hb HS8
  generalize u1.heap.size = a1 at *
  generalize u2.heap.size = a2 at *
  generalize u3.heap.size = a3 at *
  generalize u4.heap.size = a4 at *
  generalize u5.heap.size = a5 at *
  generalize u6.heap.size = a6 at *
  generalize u7.heap.size = a7 at *
  generalize u8.heap.size = a8 at *
  have c1 : v9.cell? ⟨a1, 0, none⟩ = some (.int .i64 0) := HA1.out.box.cell 0 _ rfl
  have c2 : v9.cell? ⟨a2, 0, none⟩ = some (.int .i64 0) := HA2.out.box.cell 0 _ rfl
  have c3 : v9.cell? ⟨a3, 1, none⟩ = some (.int .i64 2) := HA3.out.box.cell 1 _ rfl
  have c4 : v9.cell? ⟨a4, 2, none⟩ = some (.string ⟨#[0, 0, 120, 121]⟩) := HA4.out.box.cell 2 _ rfl
  have c5 : v9.cell? ⟨a4, 1, none⟩ = some (.int .i64 4) := HA4.out.box.cell 1 _ rfl
  have c6 : v9.cell? ⟨a5, 0, none⟩ = some (.int .i64 11) := HA5.out.box.cell 0 _ rfl
  have d0 : v9.cell? ⟨a6, 0, none⟩ = some (.int .i64 0) := HA6.out.box.cell 0 _ rfl
  have d1 : v9.cell? ⟨a6, 1, none⟩ = some (.int .i64 4) := HA6.out.box.cell 1 _ rfl
  have d2 : v9.cell? ⟨a6, 2, none⟩ = some (.string ⟨#[102, 105, 108, 101]⟩) := HA6.out.box.cell 2 _ rfl
  have d3 : v9.cell? ⟨a6, 3, none⟩ = some (.slice va6 1 vc6) := HA6.out.box.cell 3 _ rfl
  have HBD : Hid (Below v9.heap.size v9 (v9.alloc (.cells #[.string ⟨#[50]⟩] 9 (0, 0)))) := (Below.refl _ _).alloc (Nat.le_refl _) _
  have hss := (same_ans ⟨0, 4, ⟨#[102, 105, 108, 101]⟩, [⟨#[50]⟩]⟩ ⟨0, 4, ⟨#[102, 105, 108, 101]⟩, [⟨#[50]⟩]⟩ va6 (some ⟨v9.heap.size, 0, none⟩) vc6 1 _ (HA6.out.sl.keepB HBD.out) (slm_one v9 ⟨#[50]⟩) (by decide))
  rw [decide_eq_true (rfl : (⟨0, 4, ⟨#[102, 105, 108, 101]⟩, [⟨#[50]⟩]⟩ : AnsD) = _)] at hss
  have HSS := Lib.hid hss
  clear hss
  go_wp2_with fail
  refine HSS.out.mono ?_
  rintro e v10 ⟨rfl, hb2⟩
  have hb := HBD.out.trans (hb2.mono HBD.out.size)
  clear HSS HBD c1 c2 c3 c4 c5 c6 d0 d1 d2 d3 hb2 HA1 HA2 HA3 HA4 HA5 HA6
  have HA7 := Lib.hid (HA7.out.keep hb)
  have HA8 := Lib.hid (HA8.out.keep hb)
  have HB := Lib.hid (HB.out.trans (hb.mono HB.out.size))
  clear hb
  have HBD : Hid (Below v10.heap.size v10 (v10.alloc (.cells #[.string ⟨#[97]⟩, .string ⟨#[98]⟩] 9 (0, 0)))) := (Below.refl _ _).alloc (Nat.le_refl _) _
  have hss := (same_ans ⟨0, 0, noB, [⟨#[97]⟩, ⟨#[98]⟩]⟩ ⟨0, 0, noB, [⟨#[97]⟩, ⟨#[98]⟩]⟩ va7 (some ⟨v10.heap.size, 0, none⟩) vc7 2 _ (HA7.out.sl.keepB HBD.out) (slm_two v10 ⟨#[97]⟩ ⟨#[98]⟩) (by decide))
  rw [decide_eq_true (rfl : (⟨0, 0, noB, [⟨#[97]⟩, ⟨#[98]⟩]⟩ : AnsD) = _)] at hss
  have HSS := Lib.hid hss
  clear hss
  have d0 : v10.cell? ⟨a7, 0, none⟩ = some (.int .i64 0) := HA7.out.box.cell 0 _ rfl
  have d1 : v10.cell? ⟨a7, 1, none⟩ = some (.int .i64 0) := HA7.out.box.cell 1 _ rfl
  have d2 : v10.cell? ⟨a7, 2, none⟩ = some (.string ⟨#[]⟩) := HA7.out.box.cell 2 _ rfl
  have d3 : v10.cell? ⟨a7, 3, none⟩ = some (.slice va7 2 vc7) := HA7.out.box.cell 3 _ rfl
  go_wp2_with fail
  refine HSS.out.mono ?_
  rintro e v11 ⟨rfl, hb2⟩
  have hb := HBD.out.trans (hb2.mono HBD.out.size)
  clear HSS HBD d0 d1 d2 d3 hb2 HA7
  have HA8 := Lib.hid (HA8.out.keep hb)
  have HB := Lib.hid (HB.out.trans (hb.mono HB.out.size))
  clear hb
  have d0 : v11.cell? ⟨a8, 0, none⟩ = some (.int .i64 1) := HA8.out.box.cell 0 _ rfl
  go_wp2
  go_ret
  exact ⟨rfl, HB.out⟩
end Go.Proofs.YteimpebfenpifaaGreatDoor

namespace Go.Proofs.YteimpebfenpifaaGreatDoor
open Go.ChangeShapes Go.WideShapes Go.ChangeAt Go.RowKit

theorem cellsint_open_mop : Tryz.prog.cellsOf 3 = 1 := by kernel_rfl
theorem cellsstring_open_mop : Tryz.prog.cellsOf 9 = 1 := by kernel_rfl
theorem cells_open_mop : Tryz.prog.cellsOf 36 = 6 := by kernel_rfl
section
variable {H : Type} {enc : TypeId × Value → H} {w : World}
set_option maxRecDepth 100000 in
theorem open_mop {base : Nat} {v : Value} {d : DataW H} {ps : List MemPlace} (hw : Value.okWide Tryz.prog w .any base 36 v) (h : DataW.Trod enc Tryz.prog w 0 (fun _ => true) true 36 v d ps) :
    ∃ x0 : Int, ∃ x1 : ByteArray, ∃ x2 : ByteArray, ∃ x3 : Int, ∃ x4 : Int, ∃ x5 : ByteArray, v = .agg #[.int .i64 x0, .string x1, .string x2, .int .i64 x3, .int .i64 x4, .string x5] ∧ x1.size ≤ maxLen ∧ x2.size ≤ maxLen ∧ x5.size ≤ maxLen ∧ (Lit.int .i64 x0).wf = true ∧ (Lit.int .i64 x3).wf = true ∧ (Lit.int .i64 x4).wf = true := by
  obtain ⟨cs, rfl, _⟩ := okWide_struct Tryz.underlying36 hw
  obtain ⟨fuel, hf⟩ := h
  obtain ⟨xs, n, _, _, hl, hlen, hfield⟩ := DataW.trod_struct Tryz.underlying36 hf
  rw [cells_open_mop] at hl
  have g0 : DataW.trod enc Tryz.prog w 0 _ _ n 3 (((Value.agg cs).cells.toList.drop 0).take (Tryz.prog.cellsOf 3)) = xs[0]? := hfield 0 _ rfl
  rw [cellsint_open_mop] at g0
  have g1 : DataW.trod enc Tryz.prog w 0 _ _ n 9 (((Value.agg cs).cells.toList.drop 1).take (Tryz.prog.cellsOf 9)) = xs[1]? := hfield 1 _ rfl
  rw [cellsstring_open_mop] at g1
  have g2 : DataW.trod enc Tryz.prog w 0 _ _ n 9 (((Value.agg cs).cells.toList.drop 2).take (Tryz.prog.cellsOf 9)) = xs[2]? := hfield 2 _ rfl
  rw [cellsstring_open_mop] at g2
  have g3 : DataW.trod enc Tryz.prog w 0 _ _ n 3 (((Value.agg cs).cells.toList.drop 3).take (Tryz.prog.cellsOf 3)) = xs[3]? := hfield 3 _ rfl
  rw [cellsint_open_mop] at g3
  have g4 : DataW.trod enc Tryz.prog w 0 _ _ n 3 (((Value.agg cs).cells.toList.drop 4).take (Tryz.prog.cellsOf 3)) = xs[4]? := hfield 4 _ rfl
  rw [cellsint_open_mop] at g4
  have g5 : DataW.trod enc Tryz.prog w 0 _ _ n 9 (((Value.agg cs).cells.toList.drop 5).take (Tryz.prog.cellsOf 9)) = xs[5]? := hfield 5 _ rfl
  rw [cellsstring_open_mop] at g5
  obtain ⟨cl⟩ := cs
  have hlenN : xs.length = 6 := hlen
  match cl, hl, xs, hlenN with
  | [v0, v1, v2, v3, v4, v5], _, [y0, y1, y2, y3, y4, y5], _ =>
    obtain ⟨t0, e0, _, q0⟩ := DataW.trod_int Tryz.underlying3 g0
    obtain ⟨t1, e1, _, q1⟩ := DataW.trod_string Tryz.underlying9 g1
    obtain ⟨t2, e2, _, q2⟩ := DataW.trod_string Tryz.underlying9 g2
    obtain ⟨t3, e3, _, q3⟩ := DataW.trod_int Tryz.underlying3 g3
    obtain ⟨t4, e4, _, q4⟩ := DataW.trod_int Tryz.underlying3 g4
    obtain ⟨t5, e5, _, q5⟩ := DataW.trod_string Tryz.underlying9 g5
    simp [Value.cells] at e0 e1 e2 e3 e4 e5
    exact ⟨t0, t1, t2, t3, t4, t5, by rw [e0, e1, e2, e3, e4, e5], q1, q2, q5, q0, q3, q4⟩

/-- The i-th op's cells. -/
def MopK (cs : List Value) (o : OpD) : Prop := cs = (opA o).toList
instance : Inhabited OpD := ⟨⟨0, ⟨#[]⟩, ⟨#[]⟩, 0, 0, ⟨#[]⟩⟩⟩
set_option maxRecDepth 100000 in
theorem open_mopk {held : Bool} {fuel : Nat} {cs : List Value} {x : DataW H × List MemPlace} (h : DataW.trod enc Tryz.prog w 0 (fun _ => true) held fuel 36 cs = some x) : ∃ y, MopK cs y := by
  obtain ⟨xs, n, _, _, hl, hlen, hfield⟩ := DataW.trod_struct Tryz.underlying36 h
  rw [cells_open_mop] at hl
  have g0 : DataW.trod enc Tryz.prog w 0 _ _ n 3 ((cs.drop 0).take (Tryz.prog.cellsOf 3)) = xs[0]? := hfield 0 _ rfl
  rw [cellsint_open_mop] at g0
  have g1 : DataW.trod enc Tryz.prog w 0 _ _ n 9 ((cs.drop 1).take (Tryz.prog.cellsOf 9)) = xs[1]? := hfield 1 _ rfl
  rw [cellsstring_open_mop] at g1
  have g2 : DataW.trod enc Tryz.prog w 0 _ _ n 9 ((cs.drop 2).take (Tryz.prog.cellsOf 9)) = xs[2]? := hfield 2 _ rfl
  rw [cellsstring_open_mop] at g2
  have g3 : DataW.trod enc Tryz.prog w 0 _ _ n 3 ((cs.drop 3).take (Tryz.prog.cellsOf 3)) = xs[3]? := hfield 3 _ rfl
  rw [cellsint_open_mop] at g3
  have g4 : DataW.trod enc Tryz.prog w 0 _ _ n 3 ((cs.drop 4).take (Tryz.prog.cellsOf 3)) = xs[4]? := hfield 4 _ rfl
  rw [cellsint_open_mop] at g4
  have g5 : DataW.trod enc Tryz.prog w 0 _ _ n 9 ((cs.drop 5).take (Tryz.prog.cellsOf 9)) = xs[5]? := hfield 5 _ rfl
  rw [cellsstring_open_mop] at g5
  have hlenN : xs.length = 6 := hlen
  match cs, hl, xs, hlenN with
  | [v0, v1, v2, v3, v4, v5], _, [y0, y1, y2, y3, y4, y5], _ =>
    obtain ⟨t0, e0, _, q0⟩ := DataW.trod_int Tryz.underlying3 g0
    obtain ⟨t1, e1, _, q1⟩ := DataW.trod_string Tryz.underlying9 g1
    obtain ⟨t2, e2, _, q2⟩ := DataW.trod_string Tryz.underlying9 g2
    obtain ⟨t3, e3, _, q3⟩ := DataW.trod_int Tryz.underlying3 g3
    obtain ⟨t4, e4, _, q4⟩ := DataW.trod_int Tryz.underlying3 g4
    obtain ⟨t5, e5, _, q5⟩ := DataW.trod_string Tryz.underlying9 g5
    simp at e0 e1 e2 e3 e4 e5
    exact ⟨⟨t0, t1, t2, t3, t4, t5⟩, by simp [MopK, e0, e1, e2, e3, e4, e5]⟩
set_option maxRecDepth 100000 in
theorem open_mops {base : Nat} {v : Value} {d : DataW H} {ps : List MemPlace} (hw : Value.okWide Tryz.prog w .any base 22 v) (h : DataW.Trod enc Tryz.prog w 0 (fun _ => true) true 22 v d ps) :
    ∃ a cap, ∃ l : List OpD, v = .slice a l.length cap ∧ SlE w 6 MopK a l ∧ l.length ≤ maxLen := by
  obtain ⟨a0, len, cap, rfl⟩ := okWide_slice Tryz.underlying22 hw
  obtain ⟨fuel, hf⟩ := h
  obtain ⟨a, cap', l, e, hs, hm⟩ := open_slE (n := 6) MopK Tryz.underlying22 cells_open_mop (by decide) (fun _ _ _ h => open_mopk h) hf
  simp [Value.cells] at e
  obtain ⟨rfl, rfl, rfl⟩ := e
  exact ⟨_, _, l, rfl, hs, hm⟩
end
/-- The cells of the i-th op, in any world behind. -/
theorem SlE.mop {w w' : World} {a : Option Addr} {l : List OpD} (h : SlE w 6 MopK a l) (hb : Below w.heap.size w w') (i : Nat) (hi : i < l.length) : ∃ b off, a = some ⟨b, off, none⟩ ∧ b < w.heap.size ∧
    w'.cell? ⟨b, off + i * 6, none⟩ = some (.int .i64 l[i].do_) ∧ w'.cell? ⟨b, off + i * 6 + 1, none⟩ = some (.string l[i].path) ∧ w'.cell? ⟨b, off + i * 6 + 2, none⟩ = some (.string l[i].dst) ∧
    w'.cell? ⟨b, off + i * 6 + 3, none⟩ = some (.int .i64 l[i].off) ∧ w'.cell? ⟨b, off + i * 6 + 4, none⟩ = some (.int .i64 l[i].len) ∧ w'.cell? ⟨b, off + i * 6 + 5, none⟩ = some (.string l[i].data) := by
  obtain ⟨b, off, e, hl, hc⟩ := h (by intro h; rw [h] at hi; simp at hi)
  obtain ⟨cs, _, hk, hcell⟩ := hc i l[i] (List.getElem?_eq_getElem hi)
  unfold MopK at hk
  subst hk
  exact ⟨b, off, e, hl, (hb.cell (p := ⟨b, off + i * 6, none⟩) hl).trans (hcell 0 _ rfl), (hb.cell (p := ⟨b, off + i * 6 + 1, none⟩) hl).trans (hcell 1 _ rfl), (hb.cell (p := ⟨b, off + i * 6 + 2, none⟩) hl).trans (hcell 2 _ rfl),
    (hb.cell (p := ⟨b, off + i * 6 + 3, none⟩) hl).trans (hcell 3 _ rfl), (hb.cell (p := ⟨b, off + i * 6 + 4, none⟩) hl).trans (hcell 4 _ rfl), (hb.cell (p := ⟨b, off + i * 6 + 5, none⟩) hl).trans (hcell 5 _ rfl)⟩

/-! ### the table of powers, by the row's own condition -/
theorem cellsU64 : Tryz.prog.cellsOf 141 = 1 := by kernel_rfl
theorem cellsTab : Tryz.prog.cellsOf 159 = 20 := by kernel_rfl
def tabL : List (String × DataW Unit) := [("internal/strconv.uint64pow10", Lib.tabData .u64 Lib.pow10Tab)]
theorem it_of_laid {W : World} {l : List (String × DataW Unit)} (hf : l.filter (fun x => x.1 == "internal/strconv.uint64pow10") = tabL) (hp : (tabL.all fun x => x.2.handleName?.isNone) = true) (h : laidMetH Tryz.prog l W) : It W := by
  have h2 := h.filter (fun x => x.1 == "internal/strconv.uint64pow10")
  rw [hf, MakeChecks.laidMetH_plain _ _ _ hp] at h2
  exact Lib.tabIs_of_head (g := 3) (by kernel_rfl) (by kernel_rfl) Tryz.underlying159 Tryz.underlying141 cellsU64 cellsTab h2
theorem tabL_plain : (tabL.all fun x => x.2.handleName?.isNone) = true := by kernel_rfl
end Go.Proofs.YteimpebfenpifaaGreatDoor

namespace Go.Proofs.YteimpebfenpifaaGreatDoor
open Go Go.RowKit Go.ChangeShapes Go.WideShapes Go.ChangeAt

def runG (G : GD) (l : List OpD) : GD := l.foldl (fun G o => (doG G o).2) G
theorem runG_take {G : GD} {l : List OpD} {j : Nat} (h : j < l.length) : runG G (l.take (j + 1)) = (doG (runG G (l.take j)) l[j]).2 := by
  unfold runG
  rw [List.take_succ_eq_append_getElem h, List.foldl_append]
  rfl
def okO (o : OpD) : Prop := o.path.size ≤ 600 ∧ o.dst.size ≤ 600 ∧ o.data.size ≤ 2000
instance (o : OpD) : Decidable (okO o) := by unfold okO; infer_instance
def smallB (l : List OpD) (m : Int) : Bool := decide ((∀ o ∈ l, okO o) ∧ (l.length : Int) ≤ m)
set_option maxRecDepth 100000 in
set_option maxHeartbeats 4000000 in
theorem small_any (w : World) (a : Option Addr) (c : Nat) (l : List OpD) (m : Int) (hs : SlE w 6 MopK a l) (hm : l.length ≤ maxLen) :
    Calls Tryz.prog 10 #[.slice a l.length c, .int .i64 m] w fun e w' => e = .returned (.bool (smallB l m)) ∧ w' = w := by
  obtain ⟨R, hR⟩ : ∃ R, R = smallB l m := ⟨_, rfl⟩
  rw [← hR]
  have HR := Lib.hid hR
  have HS := Lib.hid hs
  have HM := Lib.hid hm
  clear hR hs hm
  go_enter Tryz.func10, Tryz.ntmps10
  go_wp2
  go_loop [5] (fun i => ∃ k : Nat, k ≤ l.length ∧ i = .int .i64 k ∧ Hid (∀ o ∈ l.take k, okO o)) (fun i => l.length - (intOf i).toNat)
  case atStart => exact ⟨0, Nat.zero_le _, rfl, fun x hx => by cases hx⟩
  case round =>
    obtain ⟨k, hk, rfl, HT⟩ := hrel
    by_cases hlt : k < l.length
    · obtain ⟨b, off, rfl, _, q0, q1, q2, q3, q4, q5⟩ := HS.out.mop (Below.refl _ _) k hlt
      have HN : Hid (okO l[k] → ∀ o ∈ l.take (k + 1), okO o) := by
        intro h o ho
        rw [List.take_succ_eq_append_getElem hlt] at ho
        rcases List.mem_append.1 ho with ho | ho
        · exact HT.out o ho
        · rw [List.mem_singleton.1 ho]; exact h
      have HF : Hid (¬ okO l[k] → R = false) := by
        intro h
        rw [HR.out]
        exact decide_eq_false (fun e => h (e.1 _ (List.getElem_mem hlt)))
      generalize l[k] = o at *
      have hkk : k + 1 ≤ 9223372036854775807 := by
        have h9 := HM.out
        unfold maxLen at h9
        omega
      clear q0 q3 q4
      by_cases h1 : o.path.size ≤ 600
      · have d1 : ((600 : Int) < (o.path.size : Int)) = False := eq_false (by omega)
        by_cases h2 : o.dst.size ≤ 600
        · have d2 : ((600 : Int) < (o.dst.size : Int)) = False := eq_false (by omega)
          by_cases h3 : o.data.size ≤ 2000
          · have d3 : ((2000 : Int) < (o.data.size : Int)) = False := eq_false (by omega)
            have HN := Lib.hid (HN.out ⟨h1, h2, h3⟩)
            clear h1 h2 h3
            go_wp2
            go_round
            case rel => exact ⟨k + 1, by omega, by go_num, HN⟩
            case measure => simp [intOf]; omega
          · have d3 : ((2000 : Int) < (o.data.size : Int)) = True := eq_true (by omega)
            have HQ := Lib.hid (HF.out (fun e => h3 e.2.2))
            clear h1 h2 h3
            go_wp2
            go_ret
            exact ⟨ret_bool HQ.out.symm, rfl⟩
        · have d2 : ((600 : Int) < (o.dst.size : Int)) = True := eq_true (by omega)
          have HQ := Lib.hid (HF.out (fun e => h2 e.2.1))
          clear h1 h2
          go_wp2
          go_ret
          exact ⟨ret_bool HQ.out.symm, rfl⟩
      · have d1 : ((600 : Int) < (o.path.size : Int)) = True := eq_true (by omega)
        have HQ := Lib.hid (HF.out (fun e => h1 e.1))
        clear h1
        go_wp2
        go_ret
        exact ⟨ret_bool HQ.out.symm, rfl⟩
    · have hke : k = l.length := by omega
      have HQ : Hid (decide ((l.length : Int) ≤ m) = R) := by
        have h1 := HT.out
        rw [hke, List.take_length] at h1
        show _ = _
        rw [HR.out]
        unfold smallB
        by_cases h2 : (l.length : Int) ≤ m
        · rw [decide_eq_true h2, decide_eq_true ⟨h1, h2⟩]
        · rw [decide_eq_false h2, decide_eq_false (fun e => h2 e.2)]
      subst hke
      clear HT
      go_wp2
      go_ret
      exact ⟨ret_bool HQ.out, rfl⟩

/-! ### sizes -/
theorem ins_len (x : ByteArray) : ∀ l : List ByteArray, (insB x l).length = l.length + 1
  | [] => rfl
  | y :: r => by
    unfold insB
    split
    · rfl
    · rw [List.length_cons, ins_len x r, List.length_cons]
theorem sort_len : ∀ l : List ByteArray, (sortB l).length = l.length
  | [] => rfl
  | x :: r => by unfold sortB; rw [ins_len, sort_len r, List.length_cons]
theorem kids_len (G : GD) (l : PathD) : (kidsG G l).length ≤ G.E.length := List.length_filterMap_le _ _
theorem ite_of {P : AnsD × GD → Prop} {c : Prop} [Decidable c] {a b : AnsD × GD} (h1 : P a) (h2 : P b) : P (if c then a else b) := by
  by_cases h : c
  · rw [if_pos h]; exact h1
  · rw [if_neg h]; exact h2
theorem doG_ind {P : AnsD × GD → Prop} {G : GD} {o : OpD} (h1 : ∀ e, P (noA e, G)) (h2 : ∀ G', P (noA 0, G')) (h3 : ∀ n d G', P (⟨0, n, d, []⟩, G')) (h4 : ∀ n d s, P (⟨0, n, d, [s]⟩, G)) (h5 : ∀ l, P (⟨0, 0, noB, sortB (kidsG G l)⟩, G)) : P (doG G o) := by
  unfold doG makeG fileG
  repeat' (first | exact h1 _ | exact h2 _ | exact h3 _ _ _ | exact h4 _ _ _ | exact h5 _ | apply ite_of)
theorem names_len (G : GD) (o : OpD) : (doG G o).1.names.length ≤ G.E.length + 1 :=
  doG_ind (P := fun q => q.1.names.length ≤ G.E.length + 1) (fun _ => Nat.zero_le _) (fun _ => Nat.zero_le _) (fun _ _ _ => Nat.zero_le _) (fun _ _ _ => by simp) (fun l => by
    show (sortB _).length ≤ _
    rw [sort_len]
    have := kids_len G l
    omega)
theorem TK.bE {b : Nat} {G : GD} {k : Nat} {K : Nat → Prop} {w : World} (h : TK b G k K w) : G.E.length ≤ k := by
  obtain ⟨x, _, _, h3, _⟩ := h
  exact h3.bE
/-- What is refused changes nothing, and tells its number alone. -/
theorem refused_same (G : GD) (o : OpD) (h : (doG G o).1.code ≠ 0) : doG G o = (noA (doG G o).1.code, G) := by
  exact doG_ind (P := fun q => q.1.code ≠ 0 → q = (noA q.1.code, G)) (fun _ _ => rfl) (fun _ h => absurd rfl h) (fun _ _ _ h => absurd rfl h) (fun _ _ _ h => absurd rfl h) (fun _ h => absurd rfl h) h
/-- Asked, its answer forgotten. -/
theorem lv_ask {w0 : World} {b : Nat} {G : GD} {k : Nat} {K : Nat → Prop} {w : World} (h : LvS w0 b G k K w) (h0 : It w0) (hk : k ≤ 1000000) (o : OpD) (ho : okO o) :
    Calls Tryz.prog 17 #[.pointer (some ⟨b, 0, none⟩), opV o] w fun e w' => (∃ v, e = .returned v) ∧ LvS w0 b (doG G o).2 (k + 1) K w' := by
  refine (tk_do h.tk hk o (by have := ho.1; omega) (by have := ho.2.1; omega) (by have := ho.2.2; omega) h.it).mono ?_
  rintro e w' ⟨va, vc, rfl, hks, hkp, htk⟩
  exact ⟨⟨_, rfl⟩, htk.mono (fun j hj => .inl hj), h.bl.trans (hkp.below h.bl.size h.low), h.it.kp h0 hkp h.low, h.low⟩
end Go.Proofs.YteimpebfenpifaaGreatDoor

namespace Go.Proofs.YteimpebfenpifaaGreatDoor
open Go Go.RowKit Go.ChangeShapes Go.WideShapes Go.ChangeAt

structure LvT (w0 : World) (b : Nat) (G : GD) (k : Nat) (b2 : Nat) (G2 : GD) (k2 : Nat) (K : Nat → Prop) (w : World) : Prop where
  t2 : T2 b G k b2 G2 k2 K w
  bl : Below w0.heap.size w0 w
  it : It w
  low : ∀ j, j < w0.heap.size → K j
section
variable {w0 : World} {b : Nat} {G : GD} {k : Nat} {b2 : Nat} {G2 : GD} {k2 : Nat} {K : Nat → Prop} {w : World}
theorem LvT.swap (h : LvT w0 b G k b2 G2 k2 K w) : LvT w0 b2 G2 k2 b G k K w := ⟨h.t2.swap, h.bl, h.it, h.low⟩
theorem LvT.keep {w' : World} (h : LvT w0 b G k b2 G2 k2 K w) (hb : Below w.heap.size w w') : LvT w0 b G k b2 G2 k2 K w' := ⟨h.t2.keep hb, h.bl.trans (hb.mono h.bl.size), h.it.keep hb, h.low⟩
theorem LvT.drew (h : LvT w0 b G k b2 G2 k2 K w) : LvT w0 b G k b2 G2 k2 K w.drew := h.keep ⟨rfl, rfl, rfl, Nat.le_refl _, fun _ _ => rfl⟩
theorem LvT.alloc (h : LvT w0 b G k b2 G2 k2 K w) (o : Obj) : LvT w0 b G k b2 G2 k2 (fun j => K j ∨ j = w.heap.size) (w.alloc o) :=
  ⟨h.t2.more ((Below.refl _ _).alloc (Nat.le_refl _) _) (fun j => j = w.heap.size) (fun j hj => by rw [size_alloc]; omega), h.bl.trans (((Below.refl _ _).alloc (Nat.le_refl _) o).mono h.bl.size), h.it.keep ((Below.refl _ _).alloc (Nat.le_refl _) o), fun j hj => .inl (h.low j hj)⟩
theorem lt_copy (h : LvS w0 b G k K w) (hk : k ≤ 1000000) : Calls Tryz.prog 14 #[.pointer (some ⟨b, 0, none⟩)] w fun e w' => ∃ b2, e = .returned (.pointer (some ⟨b2, 0, none⟩)) ∧ LvT w0 b G k b2 G k K w' ∧ Below w.heap.size w w' := by
  refine (tk_copy h.tk hk).mono ?_
  rintro e w' ⟨b2, rfl, ht, hb⟩
  exact ⟨b2, rfl, ⟨ht, h.bl.trans (hb.mono h.bl.size), h.it.keep hb, h.low⟩, hb⟩
theorem lt_count (h : LvT w0 b G k b2 G2 k2 K w) (hk : k ≤ 1000000) : Calls Tryz.prog 19 #[.pointer (some ⟨b, 0, none⟩)] w fun e w' => e = .returned (.tuple #[.int .i64 (countG G).1, .int .i64 (countG G).2.1, .int .i64 (countG G).2.2]) ∧ LvT w0 b G k b2 G2 k2 K w' ∧ Below w.heap.size w w' := by
  refine (tk_count h.t2.one hk).mono ?_
  rintro e w' ⟨rfl, hb⟩
  exact ⟨rfl, h.keep hb, hb⟩
theorem lt_do (h : LvT w0 b G k b2 G2 k2 K w) (h0 : It w0) (hk : k ≤ 1000000) (o : OpD) (ho : okO o) {q : AnsD} {G' : GD} (hq : doG G o = (q, G')) :
    Calls Tryz.prog 17 #[.pointer (some ⟨b, 0, none⟩), opV o] w fun e w' => ∃ va vc, e = .returned (ansV q.code q.n q.data (.slice va q.names.length vc)) ∧
      ∃ K' : Nat → Prop, (∀ j, K j → K' j) ∧ LvT w0 b G' (k + 1) b2 G2 k2 K' w' ∧ Ks w' w.heap.size (.slice va q.names.length vc) q.names ∧ (∀ j, (Value.slice va q.names.length vc).ownBlock = some j → K' j) ∧ Kp K w w' := by
  have hd := t2_do h.t2 hk o (by have := ho.1; omega) (by have := ho.2.1; omega) (by have := ho.2.2; omega) h.it
  rw [hq] at hd
  refine hd.mono ?_
  rintro e w' ⟨va, vc, rfl, hks, hkp, htk⟩
  exact ⟨va, vc, rfl, _, fun j hj => .inl hj, ⟨htk, h.bl.trans (hkp.below h.bl.size h.low), h.it.kp h0 hkp h.low, fun j hj => .inl (h.low j hj)⟩, hks, fun j hj => .inr hj, hkp⟩
theorem LvT.bE (h : LvT w0 b G k b2 G2 k2 K w) : G.E.length ≤ k := h.t2.one.bE
end
theorem Ks.sl2 {w : World} {B : Nat} {va : Option Addr} {n vc : Nat} {l : List ByteArray} (h : Ks w B (.slice va n vc) l) : Sl w Value.string va l := by
  obtain ⟨_, _, e, hs, _⟩ := h.shape
  injection e with e1 e2 e3
  rw [e1]; exact hs
end Go.Proofs.YteimpebfenpifaaGreatDoor
