/-
  The reference's tree of files: take (Unlink, Rmdir, Rename).
-/
import Derived.Test.YteimpebfenpifaaGreatDoorMrJ
import Derived.Test.YteimpebfenpifaaGreatDoorMg40
import Derived.Test.YteimpebfenpifaaGreatDoorMrG
import Derived.Test.YteimpebfenpifaaGreatDoorMg37
namespace Go.Proofs.YteimpebfenpifaaGreatDoor
open Go Go.RowKit Go.ChangeShapes Go.WideShapes Go.ChangeAt

set_option maxRecDepth 100000 in
set_option maxHeartbeats 8000000 in
theorem rtake_any (p : RmP) (G : GD) (w : World) (h : RmAt w p G) (hw : WfG G) (hk : G.E.length ≤ 50000) (hT : G.T.length ≤ 50000) (hj : ∀ x ∈ G.E, (joinD x.1).size ≤ 90000) (o : OpD) (hp : o.path.size ≤ 40000) (hd : o.dst.size ≤ 40000) (ho : o.do_ = 3 ∨ o.do_ = 4 ∨ o.do_ = 5) :
    Calls Tryz.prog 33 #[.pointer (some ⟨p.b, 0, none⟩), opV o] w fun e w' => e = .returned (.int .i64 (doG G o).1.code) ∧ RmTo p (doG G o).2 w w' := by
  obtain ⟨R, hR⟩ : ∃ R, R = doG G o := ⟨_, rfl⟩
  rw [← hR]
  have HR := Lib.hid hR
  have HO := Lib.hid (OpJ.new h o)
  have HW := Lib.hid hw
  have HK := Lib.hid hk
  have HTL := Lib.hid hT
  have HJZ := Lib.hid hj
  have HP := Lib.hid hp
  have HD := Lib.hid hd
  have c0 := (OpJ.new h o).x.cell 0 _ rfl
  have c1 := (OpJ.new h o).x.cell 1 _ rfl
  clear hR h hw hk hT hj hp hd
  unfold opV opA
  go_enter Tryz.func33, Tryz.ntmps33
  rcases ho with h3 | h3 | h3
  · have HQ : Hid (R = fileG G o.path fun _ => (noA 0, dropG G o.path)) := by
      show _ = _
      rw [HR.out]
      unfold doG
      rw [if_neg (by omega), if_neg (by omega), if_neg (by omega), if_pos h3]
    rw [file_eq] at HQ
    have g0 : (o.do_ != 3) = false := by rw [h3]; rfl
    have g1 : (o.do_ == 5) = false := by rw [h3]; rfl
    have g2 : (o.do_ == 3) = true := by rw [h3]; rfl
    have g3 : (o.do_ == 4) = false := by rw [h3]; rfl
    clear h3 HR
    go_wp2_with fail
    generalize World.alloc w _ = w1 at *
    obtain ⟨ob, hob⟩ : ∃ ob, ob = w.heap.size := ⟨_, rfl⟩
    rw [← hob] at HO ⊢
    clear hob c0 c1
    refine (rleads_any p G w1 HO.out.r HW.out (by have := HK.out; omega) o.path (by have := HP.out; omega)).mono ?_
    rintro e w2 ⟨rfl, hb⟩
    have HO2 := Lib.hid (HO.out.keep hb)
    have HAT : Hid ((leadG G o.path).2 = 0 → (splitD o.path).2 = 0 ∧ atE G (splitD o.path).1 = some (leadG G o.path).1) := leadG_at
    clear hb HO
    obtain ⟨LD, hLD⟩ : ∃ x, x = leadG G o.path := ⟨_, rfl⟩
    rw [← hLD] at HQ HAT ⊢
    clear hLD
    obtain ⟨n, er⟩ := LD
    dsimp only at *
    by_cases h1 : er = 0
    case neg =>
      have HQ2 : Hid (R = (noA er, G)) := HQ.out.trans (if_pos h1)
      have f1 : (er != 0) = true := by simpa using h1
      clear h1
      go_wp2
      go_ret
      exact ⟨by rw [HQ2.out]; rfl, by rw [HQ2.out]; exact HO2.out.same⟩
    subst h1
    have HQ := Lib.hid (HQ.out.trans (if_neg (fun e => e rfl)))
    have HSP := Lib.hid (HAT.out rfl).1
    have hnl := at_lt HW.out (HAT.out rfl).2
    have c0 : w2.cell? ⟨ob, 0, none⟩ = some (.int .i64 o.do_) := HO2.out.x.cell 0 _ rfl
    have c1 : w2.cell? ⟨ob, 1, none⟩ = some (.string o.path) := HO2.out.x.cell 1 _ rfl
    have c2 : w2.cell? ⟨ob, 2, none⟩ = some (.string o.dst) := HO2.out.x.cell 2 _ rfl
    have t0 : w2.cell? ⟨p.b, 1, none⟩ = some p.tv := HO2.out.r.box.cell 1 _ rfl
    obtain ⟨ta, tc, htv⟩ := HO2.out.r.t.shape
    rw [htv] at t0
    have HTG : Hid (Tgs w2 (.slice ta G.T.length tc) G.T) := by have := HO2.out.r.t; rw [htv] at this; exact this
    obtain ⟨g, rfl, -, m0, -, -, -⟩ := HTG.out.at hnl
    have m1 : w2.cell? ⟨g, n * 2, none⟩ = some (.bool (dirG G n)) := by rw [dir_at hnl]; exact m0
    have n0 : (0 : Int) ≤ (n : Int) := by omega
    have n1 : (n : Int) < (G.T.length : Int) := by omega
    clear m0 hnl htv HTG
    by_cases hd : dirG G n = true
    · have HQ3 : Hid (R = (noA 10, G)) := HQ.out.trans (if_pos hd)
      rw [hd] at m1
      clear hd
      go_wp2
      go_ret
      exact ⟨by rw [HQ3.out]; rfl, by rw [HQ3.out]; exact HO2.out.same⟩
    have HQ3 := Lib.hid (HQ.out.trans (if_neg hd))
    have hd : dirG G n = false := by simpa using hd
    rw [hd] at m1
    clear hd HQ
    go_wp2_with fail
    refine (rdrop_any p G w2 HO2.out.r HW.out HK.out o.path HSP.out).mono ?_
    rintro e w4 ⟨rfl, hto⟩
    have HT5 := Lib.hid (HO2.out.out hto)
    clear hto
    go_wp2
    go_ret
    exact ⟨by rw [HQ3.out]; rfl, by rw [HQ3.out]; exact HT5.out⟩
  · have HQ : Hid (R = if o.path = rootB then (noA 1, G) else if (leadG G o.path).2 ≠ 0 then (noA (leadG G o.path).2, G) else if dirG G (leadG G o.path).1 = false then (noA 11, G) else if kidsG G (splitD o.path).1 ≠ [] then (noA 14, G) else (noA 0, dropG G o.path)) := by
      show _ = _
      rw [HR.out]
      unfold doG
      rw [if_neg (by omega), if_neg (by omega), if_neg (by omega), if_neg (by omega), if_pos h3]
    have g0 : (o.do_ != 3) = true := by rw [h3]; rfl
    have g1 : (o.do_ == 5) = false := by rw [h3]; rfl
    have g2 : (o.do_ == 3) = false := by rw [h3]; rfl
    have g3 : (o.do_ == 4) = true := by rw [h3]; rfl
    clear h3 HR
    by_cases hrt : o.path = rootB
    · have hr2 : (o.path.toList == [47]) = true := by rw [hrt, root_list]; rfl
      have HQ2 : Hid (R = (noA 1, G)) := HQ.out.trans (if_pos hrt)
      have HSM : Hid (RmTo p G w _) := HO.out.same
      clear hrt HQ
      go_wp2
      go_ret
      exact ⟨by rw [HQ2.out]; rfl, by rw [HQ2.out]; exact HSM.out⟩
    have HRT := Lib.hid hrt
    have hr2 : (o.path.toList == [47]) = false := by
      have h1 : o.path.toList ≠ [47] := fun e => hrt (toList_inj (e.trans root_list.symm))
      simpa using h1
    have HQ := Lib.hid (HQ.out.trans (if_neg hrt))
    clear hrt
    go_wp2_with fail
    generalize World.alloc w _ = w1 at *
    obtain ⟨ob, hob⟩ : ∃ ob, ob = w.heap.size := ⟨_, rfl⟩
    rw [← hob] at HO ⊢
    clear hob c0 c1
    refine (rleads_any p G w1 HO.out.r HW.out (by have := HK.out; omega) o.path (by have := HP.out; omega)).mono ?_
    rintro e w2 ⟨rfl, hb⟩
    have HO2 := Lib.hid (HO.out.keep hb)
    have HAT : Hid ((leadG G o.path).2 = 0 → (splitD o.path).2 = 0 ∧ atE G (splitD o.path).1 = some (leadG G o.path).1) := leadG_at
    clear hb HO
    obtain ⟨LD, hLD⟩ : ∃ x, x = leadG G o.path := ⟨_, rfl⟩
    rw [← hLD] at HQ HAT ⊢
    clear hLD
    obtain ⟨n, er⟩ := LD
    dsimp only at *
    by_cases h1 : er = 0
    case neg =>
      have HQ2 : Hid (R = (noA er, G)) := HQ.out.trans (if_pos h1)
      have f1 : (er != 0) = true := by simpa using h1
      clear h1
      go_wp2
      go_ret
      exact ⟨by rw [HQ2.out]; rfl, by rw [HQ2.out]; exact HO2.out.same⟩
    subst h1
    have HQ := Lib.hid (HQ.out.trans (if_neg (fun e => e rfl)))
    have HSP := Lib.hid (HAT.out rfl).1
    have hnl := at_lt HW.out (HAT.out rfl).2
    have c0 : w2.cell? ⟨ob, 0, none⟩ = some (.int .i64 o.do_) := HO2.out.x.cell 0 _ rfl
    have c1 : w2.cell? ⟨ob, 1, none⟩ = some (.string o.path) := HO2.out.x.cell 1 _ rfl
    have c2 : w2.cell? ⟨ob, 2, none⟩ = some (.string o.dst) := HO2.out.x.cell 2 _ rfl
    have t0 : w2.cell? ⟨p.b, 1, none⟩ = some p.tv := HO2.out.r.box.cell 1 _ rfl
    obtain ⟨ta, tc, htv⟩ := HO2.out.r.t.shape
    rw [htv] at t0
    have HTG : Hid (Tgs w2 (.slice ta G.T.length tc) G.T) := by have := HO2.out.r.t; rw [htv] at this; exact this
    obtain ⟨g, rfl, -, m0, -, -, -⟩ := HTG.out.at hnl
    have m1 : w2.cell? ⟨g, n * 2, none⟩ = some (.bool (dirG G n)) := by rw [dir_at hnl]; exact m0
    have n0 : (0 : Int) ≤ (n : Int) := by omega
    have n1 : (n : Int) < (G.T.length : Int) := by omega
    clear m0 hnl htv HTG
    by_cases hd : dirG G n = false
    · have HQ3 : Hid (R = (noA 11, G)) := HQ.out.trans (if_pos hd)
      rw [hd] at m1
      clear hd
      go_wp2
      go_ret
      exact ⟨by rw [HQ3.out]; rfl, by rw [HQ3.out]; exact HO2.out.same⟩
    have HQ3 := Lib.hid (HQ.out.trans (if_neg hd))
    have hd : dirG G n = true := by simpa using hd
    rw [hd] at m1
    have HNS := Lib.hid (rnames_any p G w2 HO2.out.r HW.out HK.out (fun x hx => by have := HJZ.out x hx; omega) o.path (splitD o.path).1 (by rw [← HSP.out]))
    clear hd HQ
    go_wp2_with fail
    refine HNS.out.mono ?_
    rintro e w3 ⟨v, rfl, hks, hb⟩
    obtain ⟨ka, kc, rfl, _, _⟩ := hks.shape
    rw [sort_len]
    have HO3 := Lib.hid (HO2.out.keep hb)
    have HLN : Hid ((kidsG G (splitD o.path).1).length = 0 ↔ kidsG G (splitD o.path).1 = []) := List.length_eq_zero_iff
    clear hks hb HNS c0 c1 c2 t0 m1 HO2
    have c1 : w3.cell? ⟨ob, 1, none⟩ = some (.string o.path) := HO3.out.x.cell 1 _ rfl
    generalize kidsG G (splitD o.path).1 = KD at *
    by_cases hz : KD.length = 0
    · have HQ4 := Lib.hid (HQ3.out.trans (if_neg (fun e => e (HLN.out.1 hz))))
      have d1 : ((0 : Int) < (KD.length : Int)) = False := eq_false (by omega)
      have d2 : (0 < KD.length) = False := eq_false (by omega)
      clear hz
      go_wp2_with fail
      refine (rdrop_any p G w3 HO3.out.r HW.out HK.out o.path HSP.out).mono ?_
      rintro e w4 ⟨rfl, hto⟩
      have HT5 := Lib.hid (HO3.out.out hto)
      clear hto
      go_wp2
      go_ret
      exact ⟨by rw [HQ4.out]; rfl, by rw [HQ4.out]; exact HT5.out⟩
    · have HQ4 : Hid (R = (noA 14, G)) := HQ3.out.trans (if_pos (fun e => hz (HLN.out.2 e)))
      have d1 : ((0 : Int) < (KD.length : Int)) = True := eq_true (by omega)
      have d2 : (0 < KD.length) = True := eq_true (by omega)
      clear hz
      go_wp2
      go_ret
      exact ⟨by rw [HQ4.out]; rfl, by rw [HQ4.out]; exact HO3.out.same⟩
  · have HQ : Hid (R = if o.path = rootB then (noA 1, G) else if (leadG G o.path).2 ≠ 0 then (noA (leadG G o.path).2, G) else if witD o.path o.dst = true then (noA 1, G) else if freeG G o.dst ≠ 0 then (noA (freeG G o.dst), G) else (noA 0, moveG G o.path o.dst)) := by
      show _ = _
      rw [HR.out]
      unfold doG
      rw [if_neg (by omega), if_neg (by omega), if_neg (by omega), if_neg (by omega), if_neg (by omega), if_pos h3]
    have g0 : (o.do_ != 3) = true := by rw [h3]; rfl
    have g1 : (o.do_ == 5) = true := by rw [h3]; rfl
    have g2 : (o.do_ == 3) = false := by rw [h3]; rfl
    have g3 : (o.do_ == 4) = false := by rw [h3]; rfl
    clear h3 HR
    by_cases hrt : o.path = rootB
    · have hr2 : (o.path.toList == [47]) = true := by rw [hrt, root_list]; rfl
      have HQ2 : Hid (R = (noA 1, G)) := HQ.out.trans (if_pos hrt)
      have HSM : Hid (RmTo p G w _) := HO.out.same
      clear hrt HQ
      go_wp2
      go_ret
      exact ⟨by rw [HQ2.out]; rfl, by rw [HQ2.out]; exact HSM.out⟩
    have HRT := Lib.hid hrt
    have hr2 : (o.path.toList == [47]) = false := by
      have h1 : o.path.toList ≠ [47] := fun e => hrt (toList_inj (e.trans root_list.symm))
      simpa using h1
    have HQ := Lib.hid (HQ.out.trans (if_neg hrt))
    clear hrt
    go_wp2_with fail
    generalize World.alloc w _ = w1 at *
    obtain ⟨ob, hob⟩ : ∃ ob, ob = w.heap.size := ⟨_, rfl⟩
    rw [← hob] at HO ⊢
    clear hob c0 c1
    refine (rleads_any p G w1 HO.out.r HW.out (by have := HK.out; omega) o.path (by have := HP.out; omega)).mono ?_
    rintro e w2 ⟨rfl, hb⟩
    have HO2 := Lib.hid (HO.out.keep hb)
    have HAT : Hid ((leadG G o.path).2 = 0 → (splitD o.path).2 = 0 ∧ atE G (splitD o.path).1 = some (leadG G o.path).1) := leadG_at
    clear hb HO
    obtain ⟨LD, hLD⟩ : ∃ x, x = leadG G o.path := ⟨_, rfl⟩
    rw [← hLD] at HQ HAT ⊢
    clear hLD
    obtain ⟨n, er⟩ := LD
    dsimp only at *
    by_cases h1 : er = 0
    case neg =>
      have HQ2 : Hid (R = (noA er, G)) := HQ.out.trans (if_pos h1)
      have f1 : (er != 0) = true := by simpa using h1
      clear h1
      go_wp2
      go_ret
      exact ⟨by rw [HQ2.out]; rfl, by rw [HQ2.out]; exact HO2.out.same⟩
    subst h1
    have HQ := Lib.hid (HQ.out.trans (if_neg (fun e => e rfl)))
    have HSP := Lib.hid (HAT.out rfl).1
    have hnl := at_lt HW.out (HAT.out rfl).2
    have c0 : w2.cell? ⟨ob, 0, none⟩ = some (.int .i64 o.do_) := HO2.out.x.cell 0 _ rfl
    have c1 : w2.cell? ⟨ob, 1, none⟩ = some (.string o.path) := HO2.out.x.cell 1 _ rfl
    have c2 : w2.cell? ⟨ob, 2, none⟩ = some (.string o.dst) := HO2.out.x.cell 2 _ rfl
    have t0 : w2.cell? ⟨p.b, 1, none⟩ = some p.tv := HO2.out.r.box.cell 1 _ rfl
    obtain ⟨ta, tc, htv⟩ := HO2.out.r.t.shape
    rw [htv] at t0
    have HTG : Hid (Tgs w2 (.slice ta G.T.length tc) G.T) := by have := HO2.out.r.t; rw [htv] at this; exact this
    obtain ⟨g, rfl, -, m0, -, -, -⟩ := HTG.out.at hnl
    have m1 : w2.cell? ⟨g, n * 2, none⟩ = some (.bool (dirG G n)) := by rw [dir_at hnl]; exact m0
    have n0 : (0 : Int) ≤ (n : Int) := by omega
    have n1 : (n : Int) < (G.T.length : Int) := by omega
    clear m0 hnl htv HTG
    have HWI := Lib.hid (rwithin_any o.path o.dst (by have := HP.out; omega) (by have := HD.out; omega) w2)
    go_wp2_with fail
    refine HWI.out.mono ?_
    rintro e w3 ⟨rfl, hb⟩
    have HO3 := Lib.hid (HO2.out.keep hb)
    clear hb HWI c0 c1 c2 t0 m1 HO2
    by_cases hwt : witD o.path o.dst = true
    · have HQ3 : Hid (R = (noA 1, G)) := HQ.out.trans (if_pos hwt)
      rw [hwt]
      clear hwt
      go_wp2
      go_ret
      exact ⟨by rw [HQ3.out]; rfl, by rw [HQ3.out]; exact HO3.out.same⟩
    have HQ3 := Lib.hid (HQ.out.trans (if_neg hwt))
    have hwt : witD o.path o.dst = false := by simpa using hwt
    rw [hwt]
    have c2 : w3.cell? ⟨ob, 2, none⟩ = some (.string o.dst) := HO3.out.x.cell 2 _ rfl
    clear hwt HQ
    go_wp2_with fail
    refine (rfree_any p G w3 HO3.out.r HW.out (by have := HK.out; omega) o.dst (by have := HD.out; omega)).mono ?_
    rintro e w4 ⟨rfl, hb⟩
    have HO4 := Lib.hid (HO3.out.keep hb)
    have HFO : Hid (freeG G o.dst = 0 → (splitD o.dst).2 = 0 ∧ (splitD o.dst).1 ≠ [] ∧ atE G (splitD o.dst).1 = none) := free_of
    clear hb HO3 c2
    generalize freeG G o.dst = fr at *
    by_cases hf : fr = 0
    case neg =>
      have HQ4 : Hid (R = (noA fr, G)) := HQ3.out.trans (if_pos hf)
      have f1 : (fr == 0) = false := by simpa using hf
      clear hf
      go_wp2
      go_ret
      exact ⟨by rw [HQ4.out]; rfl, by rw [HQ4.out]; exact HO4.out.same⟩
    subst hf
    have HQ4 := Lib.hid (HQ3.out.trans (if_neg (fun e => e rfl)))
    have c1 : w4.cell? ⟨ob, 1, none⟩ = some (.string o.path) := HO4.out.x.cell 1 _ rfl
    have c2 : w4.cell? ⟨ob, 2, none⟩ = some (.string o.dst) := HO4.out.x.cell 2 _ rfl
    have HRN := Lib.hid (rrename_any p G w4 HO4.out.r HW.out (by have := HK.out; omega) (fun x hx => HJZ.out x hx) o.path o.dst HSP.out (root_split HRT.out HSP.out) (HFO.out rfl).1 (HFO.out rfl).2.1 (by have := HP.out; omega) HD.out)
    go_wp2_with fail
    refine HRN.out.mono ?_
    rintro e w5 ⟨rfl, hto⟩
    have HT5 := Lib.hid (HO4.out.out hto)
    clear hto HRN c1 c2
    go_wp2
    go_ret
    exact ⟨by rw [HQ4.out]; rfl, by rw [HQ4.out]; exact HT5.out⟩
end Go.Proofs.YteimpebfenpifaaGreatDoor
