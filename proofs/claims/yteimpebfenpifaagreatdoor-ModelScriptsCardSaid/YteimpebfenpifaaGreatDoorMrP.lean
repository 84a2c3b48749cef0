/-
  The reference's tree of files: Do.
-/
import Derived.Test.YteimpebfenpifaaGreatDoorMg38
import Derived.Test.YteimpebfenpifaaGreatDoorMrO
import Derived.Test.YteimpebfenpifaaGreatDoorMrL
import Derived.Test.YteimpebfenpifaaGreatDoorMg30
namespace Go.Proofs.YteimpebfenpifaaGreatDoor
open Go Go.RowKit Go.ChangeShapes Go.WideShapes Go.ChangeAt

theorem ite_p {α : Type} {P : α → Prop} {c : Prop} [Decidable c] {a b : α} (h1 : P a) (h2 : P b) : P (if c then a else b) := by
  by_cases h : c
  · rw [if_pos h]; exact h1
  · rw [if_neg h]; exact h2
/-- What is made, or taken, tells a code alone. -/
theorem code_only (G : GD) (o : OpD) (h : o.do_ = 0 ∨ o.do_ = 1 ∨ o.do_ = 2 ∨ o.do_ = 3 ∨ o.do_ = 4 ∨ o.do_ = 5) : (doG G o).1 = noA (doG G o).1.code := by
  have hP : ∀ (e : Int) (G' : GD), (noA e, G').1 = noA (noA e, G').1.code := fun _ _ => rfl
  unfold doG makeG fileG
  rcases h with h | h | h | h | h | h <;> rw [h] <;> dsimp only <;> simp only [if_true, if_false, reduceIte, Int.reduceEq] <;> (repeat' (first | exact hP _ _ | apply ite_p (P := fun q : AnsD × GD => q.1 = noA q.1.code)))
theorem code_eq {G : GD} {o : OpD} (h : (doG G o).1 = noA (doG G o).1.code) : doG G o = (⟨(doG G o).1.code, 0, noB, []⟩, (doG G o).2) := by
  have h2 : doG G o = ((doG G o).1, (doG G o).2) := rfl
  rw [h2, h]
  rfl
theorem code_mk (G : GD) (o : OpD) (h : o.do_ = 0 ∨ o.do_ = 1 ∨ o.do_ = 2) : doG G o = (⟨(doG G o).1.code, 0, noB, []⟩, (doG G o).2) :=
  code_eq (code_only G o (by rcases h with h | h | h <;> simp [h]))
theorem code_tk (G : GD) (o : OpD) (h : o.do_ = 3 ∨ o.do_ = 4 ∨ o.do_ = 5) : doG G o = (⟨(doG G o).1.code, 0, noB, []⟩, (doG G o).2) :=
  code_eq (code_only G o (by rcases h with h | h | h <;> simp [h]))
set_option maxRecDepth 100000 in
set_option maxHeartbeats 8000000 in
theorem rdo_any (p : RmP) (G : GD) (w : World) (h : RmAt w p G) (hw : WfG G) (hk : G.E.length ≤ 50000) (hT : G.T.length ≤ 50000) (hj : ∀ x ∈ G.E, (joinD x.1).size ≤ 90000) (o : OpD) (hp : o.path.size ≤ 40000) (hd : o.dst.size ≤ 40000) (hdt : o.data.size ≤ 100000) :
    Calls Tryz.prog 18 #[.pointer (some ⟨p.b, 0, none⟩), opV o] w fun e w' => RRes w p (doG G o) e w' := by
  have HA := Lib.hid h
  have HO := Lib.hid (AnJ.new h o)
  have HW := Lib.hid hw
  have HK := Lib.hid hk
  have HTL := Lib.hid hT
  have HJZ := Lib.hid hj
  have HP := Lib.hid hp
  have HD := Lib.hid hd
  have HDT := Lib.hid hdt
  have c0 := HO.out.j.x.cell 0 _ rfl
  have c1 := HO.out.j.x.cell 1 _ rfl
  have c2 := HO.out.j.x.cell 2 _ rfl
  have c3 := HO.out.j.x.cell 3 _ rfl
  have c4 := HO.out.j.x.cell 4 _ rfl
  have c5 := HO.out.j.x.cell 5 _ rfl
  clear h hw hk hT hj hp hd hdt
  obtain ⟨ob, hob⟩ : ∃ ob, ob = w.heap.size := ⟨_, rfl⟩
  obtain ⟨ab, hab⟩ : ∃ ab, ab = w.heap.size + 1 := ⟨_, rfl⟩
  rw [← hab, ← hob] at HO
  unfold opV opA
  by_cases h3 : o.do_ = 0
  · have HH := Lib.hid h3
    have g0 : (o.do_ == 0) = true := by rw [h3]; rfl
    have g1 : (o.do_ == 1) = false := by rw [h3]; rfl
    have g2 : (o.do_ == 2) = false := by rw [h3]; rfl
    have g3 : (o.do_ == 3) = false := by rw [h3]; rfl
    have g4 : (o.do_ == 4) = false := by rw [h3]; rfl
    have g5 : (o.do_ == 5) = false := by rw [h3]; rfl
    have g6 : (o.do_ == 6) = false := by rw [h3]; rfl
    have g7 : (o.do_ == 7) = false := by rw [h3]; rfl
    have g8 : (o.do_ == 8) = false := by rw [h3]; rfl
    have g9 : (o.do_ == 9) = false := by rw [h3]; rfl
    have g10 : (o.do_ == 10) = false := by rw [h3]; rfl
    clear h3
    go_enter Tryz.func18, Tryz.ntmps18
    go_wp2_with fail
    rw [← hab, ← hob]
    clear hob hab c0 c1 c2 c3 c4 c5
    generalize World.alloc (World.alloc w _) _ = w1 at *
    refine (rmake_any p G _ HO.out.j.r HW.out HK.out HTL.out o (by have := HP.out; omega) (by have := HD.out; omega) (.inl HH.out)).mono ?_
    rintro e w2 ⟨rfl, hto⟩
    have HTO := Lib.hid hto
    have HA2 : Hid (Box w2 ab 33 _) := hto.box HO.out.a HO.out.far
    clear hto
    obtain ⟨⟨s1, s2⟩, s3, s4, s5⟩ := HA2.out.st4
    go_wp2
    refine bodyPost_ret (results_cell_row rfl _ _ ab 33 _ (0, 0) _ rfl (HA2.out.pt4 _ _ _ _) Tryz.underlying33 rfl sizeAns) rfl ?_
    have hq := code_mk G o (.inl HH.out)
    exact HO.out.fin0 (q := ⟨(doG G o).1.code, 0, noB, []⟩) (G' := (doG G o).2) hq rfl HTO.out
  have hn0 := h3
  clear h3
  by_cases h3 : o.do_ = 1
  · have HH := Lib.hid h3
    have g0 : (o.do_ == 0) = false := by rw [h3]; rfl
    have g1 : (o.do_ == 1) = true := by rw [h3]; rfl
    have g2 : (o.do_ == 2) = false := by rw [h3]; rfl
    have g3 : (o.do_ == 3) = false := by rw [h3]; rfl
    have g4 : (o.do_ == 4) = false := by rw [h3]; rfl
    have g5 : (o.do_ == 5) = false := by rw [h3]; rfl
    have g6 : (o.do_ == 6) = false := by rw [h3]; rfl
    have g7 : (o.do_ == 7) = false := by rw [h3]; rfl
    have g8 : (o.do_ == 8) = false := by rw [h3]; rfl
    have g9 : (o.do_ == 9) = false := by rw [h3]; rfl
    have g10 : (o.do_ == 10) = false := by rw [h3]; rfl
    clear h3
    go_enter Tryz.func18, Tryz.ntmps18
    go_wp2_with fail
    rw [← hab, ← hob]
    clear hob hab c0 c1 c2 c3 c4 c5
    generalize World.alloc (World.alloc w _) _ = w1 at *
    refine (rmake_any p G _ HO.out.j.r HW.out HK.out HTL.out o (by have := HP.out; omega) (by have := HD.out; omega) (.inr (.inl HH.out))).mono ?_
    rintro e w2 ⟨rfl, hto⟩
    have HTO := Lib.hid hto
    have HA2 : Hid (Box w2 ab 33 _) := hto.box HO.out.a HO.out.far
    clear hto
    obtain ⟨⟨s1, s2⟩, s3, s4, s5⟩ := HA2.out.st4
    go_wp2
    refine bodyPost_ret (results_cell_row rfl _ _ ab 33 _ (0, 0) _ rfl (HA2.out.pt4 _ _ _ _) Tryz.underlying33 rfl sizeAns) rfl ?_
    have hq := code_mk G o (.inr (.inl HH.out))
    exact HO.out.fin0 (q := ⟨(doG G o).1.code, 0, noB, []⟩) (G' := (doG G o).2) hq rfl HTO.out
  have hn1 := h3
  clear h3
  by_cases h3 : o.do_ = 2
  · have HH := Lib.hid h3
    have g0 : (o.do_ == 0) = false := by rw [h3]; rfl
    have g1 : (o.do_ == 1) = false := by rw [h3]; rfl
    have g2 : (o.do_ == 2) = true := by rw [h3]; rfl
    have g3 : (o.do_ == 3) = false := by rw [h3]; rfl
    have g4 : (o.do_ == 4) = false := by rw [h3]; rfl
    have g5 : (o.do_ == 5) = false := by rw [h3]; rfl
    have g6 : (o.do_ == 6) = false := by rw [h3]; rfl
    have g7 : (o.do_ == 7) = false := by rw [h3]; rfl
    have g8 : (o.do_ == 8) = false := by rw [h3]; rfl
    have g9 : (o.do_ == 9) = false := by rw [h3]; rfl
    have g10 : (o.do_ == 10) = false := by rw [h3]; rfl
    clear h3
    go_enter Tryz.func18, Tryz.ntmps18
    go_wp2_with fail
    rw [← hab, ← hob]
    clear hob hab c0 c1 c2 c3 c4 c5
    generalize World.alloc (World.alloc w _) _ = w1 at *
    refine (rmake_any p G _ HO.out.j.r HW.out HK.out HTL.out o (by have := HP.out; omega) (by have := HD.out; omega) (.inr (.inr HH.out))).mono ?_
    rintro e w2 ⟨rfl, hto⟩
    have HTO := Lib.hid hto
    have HA2 : Hid (Box w2 ab 33 _) := hto.box HO.out.a HO.out.far
    clear hto
    obtain ⟨⟨s1, s2⟩, s3, s4, s5⟩ := HA2.out.st4
    go_wp2
    refine bodyPost_ret (results_cell_row rfl _ _ ab 33 _ (0, 0) _ rfl (HA2.out.pt4 _ _ _ _) Tryz.underlying33 rfl sizeAns) rfl ?_
    have hq := code_mk G o (.inr (.inr HH.out))
    exact HO.out.fin0 (q := ⟨(doG G o).1.code, 0, noB, []⟩) (G' := (doG G o).2) hq rfl HTO.out
  have hn2 := h3
  clear h3
  by_cases h3 : o.do_ = 3
  · have HH := Lib.hid h3
    have g0 : (o.do_ == 0) = false := by rw [h3]; rfl
    have g1 : (o.do_ == 1) = false := by rw [h3]; rfl
    have g2 : (o.do_ == 2) = false := by rw [h3]; rfl
    have g3 : (o.do_ == 3) = true := by rw [h3]; rfl
    have g4 : (o.do_ == 4) = false := by rw [h3]; rfl
    have g5 : (o.do_ == 5) = false := by rw [h3]; rfl
    have g6 : (o.do_ == 6) = false := by rw [h3]; rfl
    have g7 : (o.do_ == 7) = false := by rw [h3]; rfl
    have g8 : (o.do_ == 8) = false := by rw [h3]; rfl
    have g9 : (o.do_ == 9) = false := by rw [h3]; rfl
    have g10 : (o.do_ == 10) = false := by rw [h3]; rfl
    clear h3
    go_enter Tryz.func18, Tryz.ntmps18
    go_wp2_with fail
    rw [← hab, ← hob]
    clear hob hab c0 c1 c2 c3 c4 c5
    generalize World.alloc (World.alloc w _) _ = w1 at *
    refine (rtake_any p G w1 HO.out.j.r HW.out HK.out HTL.out HJZ.out o HP.out HD.out (.inl HH.out)).mono ?_
    rintro e w2 ⟨rfl, hto⟩
    have HTO := Lib.hid hto
    have HA2 : Hid (Box w2 ab 33 _) := hto.box HO.out.a HO.out.far
    clear hto
    obtain ⟨⟨s1, s2⟩, s3, s4, s5⟩ := HA2.out.st4
    go_wp2
    refine bodyPost_ret (results_cell_row rfl _ _ ab 33 _ (0, 0) _ rfl (HA2.out.pt4 _ _ _ _) Tryz.underlying33 rfl sizeAns) rfl ?_
    have hq := code_tk G o (.inl HH.out)
    exact HO.out.fin0 (q := ⟨(doG G o).1.code, 0, noB, []⟩) (G' := (doG G o).2) hq rfl HTO.out
  have hn3 := h3
  clear h3
  by_cases h3 : o.do_ = 4
  · have HH := Lib.hid h3
    have g0 : (o.do_ == 0) = false := by rw [h3]; rfl
    have g1 : (o.do_ == 1) = false := by rw [h3]; rfl
    have g2 : (o.do_ == 2) = false := by rw [h3]; rfl
    have g3 : (o.do_ == 3) = false := by rw [h3]; rfl
    have g4 : (o.do_ == 4) = true := by rw [h3]; rfl
    have g5 : (o.do_ == 5) = false := by rw [h3]; rfl
    have g6 : (o.do_ == 6) = false := by rw [h3]; rfl
    have g7 : (o.do_ == 7) = false := by rw [h3]; rfl
    have g8 : (o.do_ == 8) = false := by rw [h3]; rfl
    have g9 : (o.do_ == 9) = false := by rw [h3]; rfl
    have g10 : (o.do_ == 10) = false := by rw [h3]; rfl
    clear h3
    go_enter Tryz.func18, Tryz.ntmps18
    go_wp2_with fail
    rw [← hab, ← hob]
    clear hob hab c0 c1 c2 c3 c4 c5
    generalize World.alloc (World.alloc w _) _ = w1 at *
    refine (rtake_any p G w1 HO.out.j.r HW.out HK.out HTL.out HJZ.out o HP.out HD.out (.inr (.inl HH.out))).mono ?_
    rintro e w2 ⟨rfl, hto⟩
    have HTO := Lib.hid hto
    have HA2 : Hid (Box w2 ab 33 _) := hto.box HO.out.a HO.out.far
    clear hto
    obtain ⟨⟨s1, s2⟩, s3, s4, s5⟩ := HA2.out.st4
    go_wp2
    refine bodyPost_ret (results_cell_row rfl _ _ ab 33 _ (0, 0) _ rfl (HA2.out.pt4 _ _ _ _) Tryz.underlying33 rfl sizeAns) rfl ?_
    have hq := code_tk G o (.inr (.inl HH.out))
    exact HO.out.fin0 (q := ⟨(doG G o).1.code, 0, noB, []⟩) (G' := (doG G o).2) hq rfl HTO.out
  have hn4 := h3
  clear h3
  by_cases h3 : o.do_ = 5
  · have HH := Lib.hid h3
    have g0 : (o.do_ == 0) = false := by rw [h3]; rfl
    have g1 : (o.do_ == 1) = false := by rw [h3]; rfl
    have g2 : (o.do_ == 2) = false := by rw [h3]; rfl
    have g3 : (o.do_ == 3) = false := by rw [h3]; rfl
    have g4 : (o.do_ == 4) = false := by rw [h3]; rfl
    have g5 : (o.do_ == 5) = true := by rw [h3]; rfl
    have g6 : (o.do_ == 6) = false := by rw [h3]; rfl
    have g7 : (o.do_ == 7) = false := by rw [h3]; rfl
    have g8 : (o.do_ == 8) = false := by rw [h3]; rfl
    have g9 : (o.do_ == 9) = false := by rw [h3]; rfl
    have g10 : (o.do_ == 10) = false := by rw [h3]; rfl
    clear h3
    go_enter Tryz.func18, Tryz.ntmps18
    go_wp2_with fail
    rw [← hab, ← hob]
    clear hob hab c0 c1 c2 c3 c4 c5
    generalize World.alloc (World.alloc w _) _ = w1 at *
    refine (rtake_any p G w1 HO.out.j.r HW.out HK.out HTL.out HJZ.out o HP.out HD.out (.inr (.inr HH.out))).mono ?_
    rintro e w2 ⟨rfl, hto⟩
    have HTO := Lib.hid hto
    have HA2 : Hid (Box w2 ab 33 _) := hto.box HO.out.a HO.out.far
    clear hto
    obtain ⟨⟨s1, s2⟩, s3, s4, s5⟩ := HA2.out.st4
    go_wp2
    refine bodyPost_ret (results_cell_row rfl _ _ ab 33 _ (0, 0) _ rfl (HA2.out.pt4 _ _ _ _) Tryz.underlying33 rfl sizeAns) rfl ?_
    have hq := code_tk G o (.inr (.inr HH.out))
    exact HO.out.fin0 (q := ⟨(doG G o).1.code, 0, noB, []⟩) (G' := (doG G o).2) hq rfl HTO.out
  have hn5 := h3
  clear h3
  by_cases h3 : o.do_ = 6
  · have HH := Lib.hid h3
    have g0 : (o.do_ == 0) = false := by rw [h3]; rfl
    have g1 : (o.do_ == 1) = false := by rw [h3]; rfl
    have g2 : (o.do_ == 2) = false := by rw [h3]; rfl
    have g3 : (o.do_ == 3) = false := by rw [h3]; rfl
    have g4 : (o.do_ == 4) = false := by rw [h3]; rfl
    have g5 : (o.do_ == 5) = false := by rw [h3]; rfl
    have g6 : (o.do_ == 6) = true := by rw [h3]; rfl
    have g7 : (o.do_ == 7) = false := by rw [h3]; rfl
    have g8 : (o.do_ == 8) = false := by rw [h3]; rfl
    have g9 : (o.do_ == 9) = false := by rw [h3]; rfl
    have g10 : (o.do_ == 10) = false := by rw [h3]; rfl
    clear h3
    go_enter Tryz.func18, Tryz.ntmps18
    go_wp2_with fail
    rw [← hab, ← hob]
    clear hob hab c0 c1 c2 c3 c4 c5
    generalize World.alloc (World.alloc w _) _ = w1 at *
    refine (rbytes_any p G w1 HO.out.j.r HW.out HK.out HTL.out o HP.out HDT.out (.inl HH.out)).mono ?_
    rintro e w2 ⟨va, vc, rfl, hto, hks⟩
    have HTO := Lib.hid hto
    have HKS := Lib.hid hks
    have HA2 : Hid (Box w2 ab 33 _) := hto.box HO.out.a HO.out.far
    clear hto hks
    obtain ⟨⟨s1, s2⟩, s3, s4, s5⟩ := HA2.out.st4
    unfold ansV
    go_wp2
    refine bodyPost_ret (results_cell_row rfl _ _ ab 33 _ (0, 0) _ rfl (HA2.out.pt4 _ _ _ _) Tryz.underlying33 rfl sizeAns) rfl ?_
    exact HO.out.fin (q := (doG G o).1) (G' := (doG G o).2) rfl HTO.out HKS.out
  have hn6 := h3
  clear h3
  by_cases h3 : o.do_ = 7
  · have HH := Lib.hid h3
    have g0 : (o.do_ == 0) = false := by rw [h3]; rfl
    have g1 : (o.do_ == 1) = false := by rw [h3]; rfl
    have g2 : (o.do_ == 2) = false := by rw [h3]; rfl
    have g3 : (o.do_ == 3) = false := by rw [h3]; rfl
    have g4 : (o.do_ == 4) = false := by rw [h3]; rfl
    have g5 : (o.do_ == 5) = false := by rw [h3]; rfl
    have g6 : (o.do_ == 6) = false := by rw [h3]; rfl
    have g7 : (o.do_ == 7) = true := by rw [h3]; rfl
    have g8 : (o.do_ == 8) = false := by rw [h3]; rfl
    have g9 : (o.do_ == 9) = false := by rw [h3]; rfl
    have g10 : (o.do_ == 10) = false := by rw [h3]; rfl
    clear h3
    go_enter Tryz.func18, Tryz.ntmps18
    go_wp2_with fail
    rw [← hab, ← hob]
    clear hob hab c0 c1 c2 c3 c4 c5
    generalize World.alloc (World.alloc w _) _ = w1 at *
    refine (rbytes_any p G w1 HO.out.j.r HW.out HK.out HTL.out o HP.out HDT.out (.inr (.inl HH.out))).mono ?_
    rintro e w2 ⟨va, vc, rfl, hto, hks⟩
    have HTO := Lib.hid hto
    have HKS := Lib.hid hks
    have HA2 : Hid (Box w2 ab 33 _) := hto.box HO.out.a HO.out.far
    clear hto hks
    obtain ⟨⟨s1, s2⟩, s3, s4, s5⟩ := HA2.out.st4
    unfold ansV
    go_wp2
    refine bodyPost_ret (results_cell_row rfl _ _ ab 33 _ (0, 0) _ rfl (HA2.out.pt4 _ _ _ _) Tryz.underlying33 rfl sizeAns) rfl ?_
    exact HO.out.fin (q := (doG G o).1) (G' := (doG G o).2) rfl HTO.out HKS.out
  have hn7 := h3
  clear h3
  by_cases h3 : o.do_ = 8
  · have HH := Lib.hid h3
    have g0 : (o.do_ == 0) = false := by rw [h3]; rfl
    have g1 : (o.do_ == 1) = false := by rw [h3]; rfl
    have g2 : (o.do_ == 2) = false := by rw [h3]; rfl
    have g3 : (o.do_ == 3) = false := by rw [h3]; rfl
    have g4 : (o.do_ == 4) = false := by rw [h3]; rfl
    have g5 : (o.do_ == 5) = false := by rw [h3]; rfl
    have g6 : (o.do_ == 6) = false := by rw [h3]; rfl
    have g7 : (o.do_ == 7) = false := by rw [h3]; rfl
    have g8 : (o.do_ == 8) = true := by rw [h3]; rfl
    have g9 : (o.do_ == 9) = false := by rw [h3]; rfl
    have g10 : (o.do_ == 10) = false := by rw [h3]; rfl
    clear h3
    go_enter Tryz.func18, Tryz.ntmps18
    go_wp2_with fail
    rw [← hab, ← hob]
    clear hob hab c0 c1 c2 c3 c4 c5
    generalize World.alloc (World.alloc w _) _ = w1 at *
    refine (rbytes_any p G w1 HO.out.j.r HW.out HK.out HTL.out o HP.out HDT.out (.inr (.inr HH.out))).mono ?_
    rintro e w2 ⟨va, vc, rfl, hto, hks⟩
    have HTO := Lib.hid hto
    have HKS := Lib.hid hks
    have HA2 : Hid (Box w2 ab 33 _) := hto.box HO.out.a HO.out.far
    clear hto hks
    obtain ⟨⟨s1, s2⟩, s3, s4, s5⟩ := HA2.out.st4
    unfold ansV
    go_wp2
    refine bodyPost_ret (results_cell_row rfl _ _ ab 33 _ (0, 0) _ rfl (HA2.out.pt4 _ _ _ _) Tryz.underlying33 rfl sizeAns) rfl ?_
    exact HO.out.fin (q := (doG G o).1) (G' := (doG G o).2) rfl HTO.out HKS.out
  have hn8 := h3
  clear h3
  by_cases h3 : o.do_ = 9
  · have HH := Lib.hid h3
    have g0 : (o.do_ == 0) = false := by rw [h3]; rfl
    have g1 : (o.do_ == 1) = false := by rw [h3]; rfl
    have g2 : (o.do_ == 2) = false := by rw [h3]; rfl
    have g3 : (o.do_ == 3) = false := by rw [h3]; rfl
    have g4 : (o.do_ == 4) = false := by rw [h3]; rfl
    have g5 : (o.do_ == 5) = false := by rw [h3]; rfl
    have g6 : (o.do_ == 6) = false := by rw [h3]; rfl
    have g7 : (o.do_ == 7) = false := by rw [h3]; rfl
    have g8 : (o.do_ == 8) = false := by rw [h3]; rfl
    have g9 : (o.do_ == 9) = true := by rw [h3]; rfl
    have g10 : (o.do_ == 10) = false := by rw [h3]; rfl
    clear h3
    go_enter Tryz.func18, Tryz.ntmps18
    go_wp2_with fail
    rw [← hab, ← hob]
    clear hob hab c0 c1 c2 c3 c4 c5
    generalize World.alloc (World.alloc w _) _ = w1 at *
    refine (rtell_any p G w1 HO.out.j.r HW.out HK.out HTL.out HJZ.out o HP.out (.inl HH.out)).mono ?_
    rintro e w2 ⟨va, vc, rfl, hto, hks⟩
    have HTO := Lib.hid hto
    have HKS := Lib.hid hks
    have HA2 : Hid (Box w2 ab 33 _) := hto.box HO.out.a HO.out.far
    clear hto hks
    obtain ⟨⟨s1, s2⟩, s3, s4, s5⟩ := HA2.out.st4
    unfold ansV
    go_wp2
    refine bodyPost_ret (results_cell_row rfl _ _ ab 33 _ (0, 0) _ rfl (HA2.out.pt4 _ _ _ _) Tryz.underlying33 rfl sizeAns) rfl ?_
    exact HO.out.fin (q := (doG G o).1) (G' := (doG G o).2) rfl HTO.out HKS.out
  have hn9 := h3
  clear h3
  by_cases h3 : o.do_ = 10
  · have HH := Lib.hid h3
    have g0 : (o.do_ == 0) = false := by rw [h3]; rfl
    have g1 : (o.do_ == 1) = false := by rw [h3]; rfl
    have g2 : (o.do_ == 2) = false := by rw [h3]; rfl
    have g3 : (o.do_ == 3) = false := by rw [h3]; rfl
    have g4 : (o.do_ == 4) = false := by rw [h3]; rfl
    have g5 : (o.do_ == 5) = false := by rw [h3]; rfl
    have g6 : (o.do_ == 6) = false := by rw [h3]; rfl
    have g7 : (o.do_ == 7) = false := by rw [h3]; rfl
    have g8 : (o.do_ == 8) = false := by rw [h3]; rfl
    have g9 : (o.do_ == 9) = false := by rw [h3]; rfl
    have g10 : (o.do_ == 10) = true := by rw [h3]; rfl
    clear h3
    go_enter Tryz.func18, Tryz.ntmps18
    go_wp2_with fail
    rw [← hab, ← hob]
    clear hob hab c0 c1 c2 c3 c4 c5
    generalize World.alloc (World.alloc w _) _ = w1 at *
    refine (rtell_any p G w1 HO.out.j.r HW.out HK.out HTL.out HJZ.out o HP.out (.inr HH.out)).mono ?_
    rintro e w2 ⟨va, vc, rfl, hto, hks⟩
    have HTO := Lib.hid hto
    have HKS := Lib.hid hks
    have HA2 : Hid (Box w2 ab 33 _) := hto.box HO.out.a HO.out.far
    clear hto hks
    obtain ⟨⟨s1, s2⟩, s3, s4, s5⟩ := HA2.out.st4
    unfold ansV
    go_wp2
    refine bodyPost_ret (results_cell_row rfl _ _ ab 33 _ (0, 0) _ rfl (HA2.out.pt4 _ _ _ _) Tryz.underlying33 rfl sizeAns) rfl ?_
    exact HO.out.fin (q := (doG G o).1) (G' := (doG G o).2) rfl HTO.out HKS.out
  have hn10 := h3
  clear h3
  have g0 : (o.do_ == 0) = false := by simpa using hn0
  have g1 : (o.do_ == 1) = false := by simpa using hn1
  have g2 : (o.do_ == 2) = false := by simpa using hn2
  have g3 : (o.do_ == 3) = false := by simpa using hn3
  have g4 : (o.do_ == 4) = false := by simpa using hn4
  have g5 : (o.do_ == 5) = false := by simpa using hn5
  have g6 : (o.do_ == 6) = false := by simpa using hn6
  have g7 : (o.do_ == 7) = false := by simpa using hn7
  have g8 : (o.do_ == 8) = false := by simpa using hn8
  have g9 : (o.do_ == 9) = false := by simpa using hn9
  have g10 : (o.do_ == 10) = false := by simpa using hn10
  have HQ : Hid (doG G o = (noA 1, G)) := by
    show _ = _
    unfold doG
    rw [if_neg hn0, if_neg hn1, if_neg hn2, if_neg hn3, if_neg hn4, if_neg hn5, if_neg hn6, if_neg hn7, if_neg hn8, if_neg hn9, if_neg hn10]
  clear hn0 hn1 hn2 hn3 hn4 hn5 hn6 hn7 hn8 hn9 hn10
  go_enter Tryz.func18, Tryz.ntmps18
  subst hab
  subst hob
  have hbx := Box.new (w.alloc (.cells #[.int .i64 o.do_, .string o.path, .string o.dst, .int .i64 o.off, .int .i64 o.len, .string o.data] 36 (0, 0))) 33 #[.int .i64 1, .int .i64 0, .string ⟨#[]⟩, .slice none 0 0]
  rw [size_alloc] at hbx
  have HBX := Lib.hid hbx
  have HTO := Lib.hid (RmTo.same HA.out (((Below.refl w.heap.size w).alloc (Nat.le_refl _) (.cells #[.int .i64 o.do_, .string o.path, .string o.dst, .int .i64 o.off, .int .i64 o.len, .string o.data] 36 (0, 0))).alloc (by rw [size_alloc]; omega) (.cells #[.int .i64 1, .int .i64 0, .string ⟨#[]⟩, .slice none 0 0] 33 (0, 0))))
  clear hbx HO c0 c1 c2 c3 c4 c5
  go_wp2
  refine bodyPost_ret (results_cell_row rfl _ _ (w.heap.size + 1) 33 _ (0, 0) _ rfl HBX.out Tryz.underlying33 rfl sizeAns) rfl ?_
  rw [HQ.out]
  exact ⟨none, 0, rfl, HTO.out, Ks.nil _ _⟩
end Go.Proofs.YteimpebfenpifaaGreatDoor
