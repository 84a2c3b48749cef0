/-
  live, the closed part of each statement of package model.
-/
import Derived.Test.YteimpebfenpifaaGreatDoorMg38
namespace Go.Proofs.YteimpebfenpifaaGreatDoor
open Go Go.RowKit Go.ChangeShapes Go.WideShapes Go.ChangeAt

theorem slm_one (w : World) (k : ByteArray) : Sl (w.alloc (.cells #[.string k] 9 (0, 0))) Value.string (some ⟨w.heap.size, 0, none⟩) [k] :=
  Sl.of fun i x hx => by
    rcases i with _ | i
    · injection hx with hx; subst hx; exact (Box.new w 9 #[.string k]).cell 0 _ rfl
    · simp at hx
theorem slm_two (w : World) (k l : ByteArray) : Sl (w.alloc (.cells #[.string k, .string l] 9 (0, 0))) Value.string (some ⟨w.heap.size, 0, none⟩) [k, l] :=
  Sl.of fun i x hx => by
    rcases i with _ | _ | i
    · injection hx with hx; subst hx; exact (Box.new w 9 #[.string k, .string l]).cell 0 _ rfl
    · injection hx with hx; subst hx; exact (Box.new w 9 #[.string k, .string l]).cell 1 _ rfl
    · simp at hx
/-- A tree, beside what stays. -/
structure LvS (w0 : World) (b : Nat) (G : GD) (k : Nat) (K : Nat → Prop) (w : World) : Prop where
  tk : TK b G k K w
  bl : Below w0.heap.size w0 w
  it : It w
  low : ∀ j, j < w0.heap.size → K j
theorem It.kp {K : Nat → Prop} {w0 w w' : World} (h : It w) (h0 : It w0) (hk : Kp K w w') (hl : ∀ j, j < w0.heap.size → K j) : It w' := hk.it h (hl _ h0.lt)
theorem lv_new (w : World) (hI : It w) : Calls Tryz.prog 12 #[] w fun e w' => ∃ b, e = .returned (.pointer (some ⟨b, 0, none⟩)) ∧ LvS w b newG 0 (fun j => j < w.heap.size) w' :=
  (tk_new w).mono fun _ _ ⟨b, h1, h2, h3⟩ => ⟨b, h1, h2, h3, hI.keep h3, fun _ h => h⟩
/-- An answer, kept in a block of its own. -/
structure AnsAt (K : Nat → Prop) (w : World) (a : Nat) (q : AnsD) (va : Option Addr) (vc : Nat) : Prop where
  box : Box w a 33 #[.int .i64 q.code, .int .i64 q.n, .string q.data, .slice va q.names.length vc]
  ka : K a
  ks : ∃ B, Ks w B (.slice va q.names.length vc) q.names
  kn : ∀ j, (Value.slice va q.names.length vc).ownBlock = some j → K j
theorem AnsAt.go {K K' : Nat → Prop} {w w' : World} {a : Nat} {q : AnsD} {va : Option Addr} {vc : Nat} (h : AnsAt K w a q va vc) (hk : Kp K w w') (hm : ∀ j, K j → K' j) : AnsAt K' w' a q va vc := by
  obtain ⟨B, hB⟩ := h.ks
  exact ⟨hk.box h.box h.ka, hm _ h.ka, ⟨B, hk.ks hB h.kn⟩, fun j hj => hm _ (h.kn j hj)⟩
theorem AnsAt.keep {K : Nat → Prop} {w w' : World} {a : Nat} {q : AnsD} {va : Option Addr} {vc : Nat} (h : AnsAt K w a q va vc) (hb : Below w.heap.size w w') : AnsAt K w' a q va vc := h.go (Kp.of hb) (fun _ h => h)
theorem AnsAt.sl {K : Nat → Prop} {w : World} {a : Nat} {q : AnsD} {va : Option Addr} {vc : Nat} (h : AnsAt K w a q va vc) : Sl w Value.string va q.names := by
  obtain ⟨B, hB⟩ := h.ks
  obtain ⟨_, _, e, hs, _⟩ := hB.shape
  injection e with e1 e2 e3
  rw [e1]; exact hs
theorem lv_do {w0 : World} {b : Nat} {G : GD} {k : Nat} {K : Nat → Prop} {w : World} (h : LvS w0 b G k K w) (h0 : It w0) (hk : k ≤ 1000000) (o : OpD) (hp : o.path.size ≤ 100000) (hp2 : o.dst.size ≤ 100000) (hp3 : o.data.size ≤ 1000000) {q : AnsD} {G' : GD} (hq : doG G o = (q, G')) :
    Calls Tryz.prog 17 #[.pointer (some ⟨b, 0, none⟩), opV o] w fun e w' => ∃ va vc, e = .returned (ansV q.code q.n q.data (.slice va q.names.length vc)) ∧
      ∃ K' : Nat → Prop, (∀ j, K j → K' j) ∧ LvS w0 b G' (k + 1) K' (w'.alloc (.cells #[.int .i64 q.code, .int .i64 q.n, .string q.data, .slice va q.names.length vc] 33 (0, 0))) ∧
        AnsAt K' (w'.alloc (.cells #[.int .i64 q.code, .int .i64 q.n, .string q.data, .slice va q.names.length vc] 33 (0, 0))) w'.heap.size q va vc ∧
        Kp K w (w'.alloc (.cells #[.int .i64 q.code, .int .i64 q.n, .string q.data, .slice va q.names.length vc] 33 (0, 0))) := by
  have hd := tk_do h.tk hk o hp hp2 hp3 h.it
  rw [hq] at hd
  refine hd.mono ?_
  rintro e w' ⟨va, vc, rfl, hks, hkp, htk⟩
  have ha := (Below.refl w'.heap.size w').alloc (Nat.le_refl _) (.cells #[.int .i64 q.code, .int .i64 q.n, .string q.data, .slice va q.names.length vc] 33 (0, 0))
  have hkp2 := hkp.trans (Kp.of (K := K) ha)
  refine ⟨va, vc, rfl, _, fun j hj => .inl (.inl hj), ⟨htk.alloc _, h.bl.trans (hkp2.below h.bl.size h.low), h.it.kp h0 hkp2 h.low, fun j hj => .inl (.inl (h.low j hj))⟩, ⟨Box.new w' _ _, .inr rfl, ⟨_, hks.alloc _⟩, fun j hj => .inl (.inr hj)⟩, hkp2⟩

set_option maxRecDepth 100000 in
set_option maxHeartbeats 8000000 in
theorem live_any (w : World) (hI : It w) : Calls Tryz.prog 11 #[] w fun e w' => e = .returned (.bool true) ∧ Below w.heap.size w w' := by
  have HI := Lib.hid hI
  clear hI
  go_enter Tryz.func11, Tryz.ntmps11
  go_wp2_with fail
  refine (lv_new w HI.out).mono ?_
  rintro e v0 ⟨b, rfl, hs⟩
  have HS0 := Lib.hid hs
  clear hs
  generalize (fun j : Nat => j < w.heap.size) = K0 at *
  have HD := Lib.hid (lv_do HS0.out HI.out (by omega) lo1 (by decide) (by decide) (by decide) lc1)
  unfold opV opA lo1 noB at HD
  clear HS0
  go_wp2_with fail
  refine HD.out.mono ?_
  clear HD
  rintro e u1 ⟨va1, vc1, rfl, K1, hm, hs, ha, hk⟩
  have HS1 := Lib.hid hs
  have HA1 := Lib.hid ha
  clear hm hs ha hk
  simp only [ansV]
  --CUT1
  have HD := Lib.hid (lv_do HS1.out HI.out (by omega) lo2 (by decide) (by decide) (by decide) lc2)
  unfold opV opA lo2 noB at HD
  clear HS1
  go_wp2_with fail
  refine HD.out.mono ?_
  clear HD
  rintro e u2 ⟨va2, vc2, rfl, K2, hm, hs, ha, hk⟩
  have HS2 := Lib.hid hs
  have HA2 := Lib.hid ha
  have HA1 := Lib.hid (HA1.out.go hk hm)
  clear hm hs ha hk
  simp only [ansV]
  --CUT2
  have HD := Lib.hid (lv_do HS2.out HI.out (by omega) lo3 (by decide) (by decide) (by decide) lc3)
  unfold opV opA lo3 noB at HD
  clear HS2
  go_wp2_with fail
  refine HD.out.mono ?_
  clear HD
  rintro e u3 ⟨va3, vc3, rfl, K3, hm, hs, ha, hk⟩
  have HS3 := Lib.hid hs
  have HA3 := Lib.hid ha
  have HA1 := Lib.hid (HA1.out.go hk hm)
  have HA2 := Lib.hid (HA2.out.go hk hm)
  clear hm hs ha hk
  simp only [ansV]
  --CUT3
  have HD := Lib.hid (lv_do HS3.out HI.out (by omega) lo4 (by decide) (by decide) (by decide) lc4)
  unfold opV opA lo4 noB at HD
  clear HS3
  go_wp2_with fail
  refine HD.out.mono ?_
  clear HD
  rintro e u4 ⟨va4, vc4, rfl, K4, hm, hs, ha, hk⟩
  have HS4 := Lib.hid hs
  have HA4 := Lib.hid ha
  have HA1 := Lib.hid (HA1.out.go hk hm)
  have HA2 := Lib.hid (HA2.out.go hk hm)
  have HA3 := Lib.hid (HA3.out.go hk hm)
  clear hm hs ha hk
  simp only [ansV]
  --CUT4
  have HD := Lib.hid (lv_do HS4.out HI.out (by omega) lo5 (by decide) (by decide) (by decide) lc5)
  unfold opV opA lo5 noB at HD
  clear HS4
  go_wp2_with fail
  refine HD.out.mono ?_
  clear HD
  rintro e u5 ⟨va5, vc5, rfl, K5, hm, hs, ha, hk⟩
  have HS5 := Lib.hid hs
  have HA5 := Lib.hid ha
  have HA1 := Lib.hid (HA1.out.go hk hm)
  have HA2 := Lib.hid (HA2.out.go hk hm)
  have HA3 := Lib.hid (HA3.out.go hk hm)
  have HA4 := Lib.hid (HA4.out.go hk hm)
  clear hm hs ha hk
  simp only [ansV]
  --CUT5
  have HD := Lib.hid (lv_do HS5.out HI.out (by omega) lo6 (by decide) (by decide) (by decide) lc6)
  unfold opV opA lo6 noB at HD
  clear HS5
  go_wp2_with fail
  refine HD.out.mono ?_
  clear HD
  rintro e u6 ⟨va6, vc6, rfl, K6, hm, hs, ha, hk⟩
  have HS6 := Lib.hid hs
  have HA6 := Lib.hid ha
  have HA1 := Lib.hid (HA1.out.go hk hm)
  have HA2 := Lib.hid (HA2.out.go hk hm)
  have HA3 := Lib.hid (HA3.out.go hk hm)
  have HA4 := Lib.hid (HA4.out.go hk hm)
  have HA5 := Lib.hid (HA5.out.go hk hm)
  clear hm hs ha hk
  simp only [ansV]
  --CUT6
  have HD := Lib.hid (lv_do HS6.out HI.out (by omega) lo7 (by decide) (by decide) (by decide) lc7)
  unfold opV opA lo7 noB at HD
  clear HS6
  go_wp2_with fail
  refine HD.out.mono ?_
  clear HD
  rintro e u7 ⟨va7, vc7, rfl, K7, hm, hs, ha, hk⟩
  have HS7 := Lib.hid hs
  have HA7 := Lib.hid ha
  have HA1 := Lib.hid (HA1.out.go hk hm)
  have HA2 := Lib.hid (HA2.out.go hk hm)
  have HA3 := Lib.hid (HA3.out.go hk hm)
  have HA4 := Lib.hid (HA4.out.go hk hm)
  have HA5 := Lib.hid (HA5.out.go hk hm)
  have HA6 := Lib.hid (HA6.out.go hk hm)
  clear hm hs ha hk
  simp only [ansV]
  --CUT7
  have HD := Lib.hid (lv_do HS7.out HI.out (by omega) lo8 (by decide) (by decide) (by decide) lc8)
  unfold opV opA lo8 noB at HD
  clear HS7
  go_wp2_with fail
  refine HD.out.mono ?_
  clear HD
  rintro e u8 ⟨va8, vc8, rfl, K8, hm, hs, ha, hk⟩
  have HS8 := Lib.hid hs
  have HA8 := Lib.hid ha
  have HA1 := Lib.hid (HA1.out.go hk hm)
  have HA2 := Lib.hid (HA2.out.go hk hm)
  have HA3 := Lib.hid (HA3.out.go hk hm)
  have HA4 := Lib.hid (HA4.out.go hk hm)
  have HA5 := Lib.hid (HA5.out.go hk hm)
  have HA6 := Lib.hid (HA6.out.go hk hm)
  have HA7 := Lib.hid (HA7.out.go hk hm)
  clear hm hs ha hk
  simp only [ansV]
  obtain ⟨v8, hv8⟩ : ∃ x, x = World.alloc u8 (.cells #[.int .i64 (noA 1).code, .int .i64 (noA 1).n, .string (noA 1).data, .slice va8 (noA 1).names.length vc8] 33 (0, 0)) := ⟨_, rfl⟩
  rw [← hv8] at HS8 HA1 HA2 HA3 HA4 HA5 HA6 HA7 HA8
  go_wp2_with fail
  rw [← hv8]
  clear hv8
  refine (tk_count HS8.out.tk (by omega)).mono ?_
  rintro e v9 ⟨rfl, hb⟩
  rw [lc9]
  have HA1 := Lib.hid (HA1.out.keep hb)
  have HA2 := Lib.hid (HA2.out.keep hb)
  have HA3 := Lib.hid (HA3.out.keep hb)
  have HA4 := Lib.hid (HA4.out.keep hb)
  have HA5 := Lib.hid (HA5.out.keep hb)
  have HA6 := Lib.hid (HA6.out.keep hb)
  have HA7 := Lib.hid (HA7.out.keep hb)
  have HA8 := Lib.hid (HA8.out.keep hb)
  have HB := Lib.hid (HS8.out.bl.trans (hb.mono HS8.out.bl.size))
  clear hb HS8
  generalize u1.heap.size = a1 at *
  generalize u2.heap.size = a2 at *
  generalize u3.heap.size = a3 at *
  generalize u4.heap.size = a4 at *
  generalize u5.heap.size = a5 at *
  generalize u6.heap.size = a6 at *
  generalize u7.heap.size = a7 at *
  generalize u8.heap.size = a8 at *
  have c1 : v9.cell? ⟨a1, 0, none⟩ = some (.int .i64 0) := HA1.out.box.cell 0 _ rfl
  have c2 : v9.cell? ⟨a2, 0, none⟩ = some (.int .i64 0) := HA2.out.box.cell 0 _ rfl
  have c3 : v9.cell? ⟨a3, 1, none⟩ = some (.int .i64 2) := HA3.out.box.cell 1 _ rfl
  have c4 : v9.cell? ⟨a4, 2, none⟩ = some (.string ⟨#[0, 0, 120, 121]⟩) := HA4.out.box.cell 2 _ rfl
  have c5 : v9.cell? ⟨a4, 1, none⟩ = some (.int .i64 4) := HA4.out.box.cell 1 _ rfl
  have c6 : v9.cell? ⟨a5, 0, none⟩ = some (.int .i64 11) := HA5.out.box.cell 0 _ rfl
  have d0 : v9.cell? ⟨a6, 0, none⟩ = some (.int .i64 0) := HA6.out.box.cell 0 _ rfl
  have d1 : v9.cell? ⟨a6, 1, none⟩ = some (.int .i64 4) := HA6.out.box.cell 1 _ rfl
  have d2 : v9.cell? ⟨a6, 2, none⟩ = some (.string ⟨#[102, 105, 108, 101]⟩) := HA6.out.box.cell 2 _ rfl
  have d3 : v9.cell? ⟨a6, 3, none⟩ = some (.slice va6 1 vc6) := HA6.out.box.cell 3 _ rfl
  have HBD : Hid (Below v9.heap.size v9 (v9.alloc (.cells #[.string ⟨#[50]⟩] 9 (0, 0)))) := (Below.refl _ _).alloc (Nat.le_refl _) _
  have hss := (same_ans ⟨0, 4, ⟨#[102, 105, 108, 101]⟩, [⟨#[50]⟩]⟩ ⟨0, 4, ⟨#[102, 105, 108, 101]⟩, [⟨#[50]⟩]⟩ va6 (some ⟨v9.heap.size, 0, none⟩) vc6 1 _ (HA6.out.sl.keepB HBD.out) (slm_one v9 ⟨#[50]⟩) (by decide))
  rw [decide_eq_true (rfl : (⟨0, 4, ⟨#[102, 105, 108, 101]⟩, [⟨#[50]⟩]⟩ : AnsD) = _)] at hss
  have HSS := Lib.hid hss
  clear hss
  go_wp2_with fail
  refine HSS.out.mono ?_
  rintro e v10 ⟨rfl, hb2⟩
  have hb := HBD.out.trans (hb2.mono HBD.out.size)
  clear HSS HBD c1 c2 c3 c4 c5 c6 d0 d1 d2 d3 hb2 HA1 HA2 HA3 HA4 HA5 HA6
  have HA7 := Lib.hid (HA7.out.keep hb)
  have HA8 := Lib.hid (HA8.out.keep hb)
  have HB := Lib.hid (HB.out.trans (hb.mono HB.out.size))
  clear hb
  have HBD : Hid (Below v10.heap.size v10 (v10.alloc (.cells #[.string ⟨#[97]⟩, .string ⟨#[98]⟩] 9 (0, 0)))) := (Below.refl _ _).alloc (Nat.le_refl _) _
  have hss := (same_ans ⟨0, 0, noB, [⟨#[97]⟩, ⟨#[98]⟩]⟩ ⟨0, 0, noB, [⟨#[97]⟩, ⟨#[98]⟩]⟩ va7 (some ⟨v10.heap.size, 0, none⟩) vc7 2 _ (HA7.out.sl.keepB HBD.out) (slm_two v10 ⟨#[97]⟩ ⟨#[98]⟩) (by decide))
  rw [decide_eq_true (rfl : (⟨0, 0, noB, [⟨#[97]⟩, ⟨#[98]⟩]⟩ : AnsD) = _)] at hss
  have HSS := Lib.hid hss
  clear hss
  have d0 : v10.cell? ⟨a7, 0, none⟩ = some (.int .i64 0) := HA7.out.box.cell 0 _ rfl
  have d1 : v10.cell? ⟨a7, 1, none⟩ = some (.int .i64 0) := HA7.out.box.cell 1 _ rfl
  have d2 : v10.cell? ⟨a7, 2, none⟩ = some (.string ⟨#[]⟩) := HA7.out.box.cell 2 _ rfl
  have d3 : v10.cell? ⟨a7, 3, none⟩ = some (.slice va7 2 vc7) := HA7.out.box.cell 3 _ rfl
  go_wp2_with fail
  refine HSS.out.mono ?_
  rintro e v11 ⟨rfl, hb2⟩
  have hb := HBD.out.trans (hb2.mono HBD.out.size)
  clear HSS HBD d0 d1 d2 d3 hb2 HA7
  have HA8 := Lib.hid (HA8.out.keep hb)
  have HB := Lib.hid (HB.out.trans (hb.mono HB.out.size))
  clear hb
  have d0 : v11.cell? ⟨a8, 0, none⟩ = some (.int .i64 1) := HA8.out.box.cell 0 _ rfl
  go_wp2
  go_ret
  exact ⟨rfl, HB.out⟩
end Go.Proofs.YteimpebfenpifaaGreatDoor
