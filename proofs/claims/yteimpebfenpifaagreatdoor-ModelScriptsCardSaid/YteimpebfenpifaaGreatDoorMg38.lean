/-
  Texts put together: MrN, MoWr, MoZr.
-/
import Derived.Test.YteimpebfenpifaaGreatDoorMg37
import Derived.Test.YteimpebfenpifaaGreatDoorMg25
import Derived.Test.YteimpebfenpifaaGreatDoorMg30
import Derived.Test.YteimpebfenpifaaGreatDoorMg10
import Derived.Test.YteimpebfenpifaaGreatDoorMg0
import Derived.Test.YteimpebfenpifaaGreatDoorMg2
import Derived.Test.YteimpebfenpifaaGreatDoorRepZ
import Derived.OwnWalk
namespace Go.Proofs.YteimpebfenpifaaGreatDoor
open Go Go.RowKit Go.ChangeShapes Go.WideShapes Go.ChangeAt

set_option maxRecDepth 100000 in
set_option maxHeartbeats 8000000 in
theorem rtell_any (p : RmP) (G : GD) (w : World) (h : RmAt w p G) (hw : WfG G) (hk : G.E.length ≤ 50000) (hT : G.T.length ≤ 50000) (hj : ∀ x ∈ G.E, (joinD x.1).size ≤ 90000) (o : OpD) (hp : o.path.size ≤ 40000) (ho : o.do_ = 9 ∨ o.do_ = 10) :
    Calls Tryz.prog 35 #[.pointer (some ⟨p.b, 0, none⟩), opV o] w fun e w' => RRes w p (doG G o) e w' := by
  obtain ⟨R, hR⟩ : ∃ R, R = doG G o := ⟨_, rfl⟩
  rw [← hR]
  have HR := Lib.hid hR
  have HO := Lib.hid (AnJ.new h o)
  have HW := Lib.hid hw
  have HK := Lib.hid hk
  have HTL := Lib.hid hT
  have HP := Lib.hid hp
  have HJZ := Lib.hid hj
  clear hR h hw hk hT hj hp
  unfold opV opA
  go_enter Tryz.func35, Tryz.ntmps35
  rcases ho with h3 | h3
  · have HQ : Hid (R = if (leadG G o.path).2 ≠ 0 then (noA (leadG G o.path).2, G) else if dirG G (leadG G o.path).1 = true then (⟨0, ((kidsG G (splitD o.path).1).length : Nat), ⟨#[100, 105, 114]⟩, []⟩, G) else (⟨0, ((textG G (leadG G o.path).1).size : Nat), ⟨#[102, 105, 108, 101]⟩, [digitsB (linksG G (leadG G o.path).1)]⟩, G)) := by
      show _ = _
      rw [HR.out]
      unfold doG
      rw [if_neg (by omega), if_neg (by omega), if_neg (by omega), if_neg (by omega), if_neg (by omega), if_neg (by omega), if_neg (by omega), if_neg (by omega), if_neg (by omega), if_pos h3]
    have g0 : (o.do_ == 10) = false := by rw [h3]; rfl
    clear h3 HR
    have c1 := HO.out.j.x.cell 1 _ rfl
    obtain ⟨ob, hob⟩ : ∃ ob, ob = w.heap.size := ⟨_, rfl⟩
    obtain ⟨ab, hab⟩ : ∃ ab, ab = w.heap.size + 1 := ⟨_, rfl⟩
    rw [← hab, ← hob] at HO
    go_wp2_with fail
    rw [← hab, ← hob]
    clear hob hab c1
    generalize World.alloc (World.alloc w _) _ = w1 at *
    refine (rleads_any p G w1 HO.out.j.r HW.out (by have := HK.out; omega) o.path (by have := HP.out; omega)).mono ?_
    rintro e w2 ⟨rfl, hb⟩
    have HO2 := Lib.hid (HO.out.keep hb)
    have HAT : Hid ((leadG G o.path).2 = 0 → (splitD o.path).2 = 0 ∧ atE G (splitD o.path).1 = some (leadG G o.path).1) := leadG_at
    clear hb HO
    obtain ⟨LD, hLD⟩ : ∃ x, x = leadG G o.path := ⟨_, rfl⟩
    rw [← hLD] at HQ HAT ⊢
    clear hLD
    obtain ⟨n, er⟩ := LD
    dsimp only at *
    by_cases h1 : er = 0
    case neg =>
      have HQ2 : Hid (R = (noA er, G)) := HQ.out.trans (if_pos h1)
      have f1 : (er != 0) = true := by simpa using h1
      clear h1
      obtain ⟨⟨s1, s2⟩, s3, s4, s5⟩ := HO2.out.a.st4
      go_wp2
      refine bodyPost_ret (results_cell_row rfl _ _ ab 33 _ (0, 0) _ rfl (HO2.out.a.pt4 _ _ _ _) Tryz.underlying33 rfl sizeAns) rfl ?_
      exact HO2.out.fin0 HQ2.out rfl HO2.out.same
    subst h1
    have HQ := Lib.hid (HQ.out.trans (if_neg (fun e => e rfl)))
    have HSP := Lib.hid (HAT.out rfl).1
    have hnl := at_lt HW.out (HAT.out rfl).2
    have HNS := Lib.hid (rnames_any p G w2 HO2.out.j.r HW.out HK.out (fun x hx => by have := HJZ.out x hx; omega) o.path (splitD o.path).1 (by rw [← HSP.out]))
    have c1 : w2.cell? ⟨ob, 1, none⟩ = some (.string o.path) := HO2.out.j.x.cell 1 _ rfl
    go_wp2_with fail
    refine HNS.out.mono ?_
    rintro e w3 ⟨v, rfl, hks, hb⟩
    obtain ⟨ka, kc, rfl, _, _⟩ := hks.shape
    have HO3 := Lib.hid (HO2.out.keep hb)
    have HTO : Hid (RmTo p G w2 w3) := RmTo.same HO2.out.j.r hb
    have HKS := Lib.hid hks
    have HSL : Hid ((sortB (kidsG G (splitD o.path).1)).length = (kidsG G (splitD o.path).1).length) := sort_len _
    clear hks hb HNS c1
    have c0 : w3.cell? ⟨ob, 0, none⟩ = some (.int .i64 o.do_) := HO3.out.j.x.cell 0 _ rfl
    have t0 : w3.cell? ⟨p.b, 1, none⟩ = some p.tv := HO3.out.j.r.box.cell 1 _ rfl
    obtain ⟨ta, tc, htv⟩ := HO3.out.j.r.t.shape
    rw [htv] at t0
    have HTG : Hid (Tgs w3 (.slice ta G.T.length tc) G.T) := by have := HO3.out.j.r.t; rw [htv] at this; exact this
    obtain ⟨g, rfl, hgl, m0, mt0, -, mf⟩ := HTG.out.at hnl
    have HGL : Hid (g < w3.heap.size) := hgl
    have m1 : w3.cell? ⟨g, n * 2, none⟩ = some (.bool (dirG G n)) := by rw [dir_at hnl]; exact m0
    have m2 : w3.cell? ⟨g, n * 2 + 1, none⟩ = some (.string (textG G n)) := by rw [text_at hnl]; exact mt0
    have n0 : (0 : Int) ≤ (n : Int) := by omega
    have n1 : (n : Int) < (G.T.length : Int) := by omega
    clear m0 mt0 mf hgl hnl htv HTG
    generalize sortB (kidsG G (splitD o.path).1) = NS at *
    generalize (kidsG G (splitD o.path).1).length = nk at *
    by_cases hd : dirG G n = true
    · have HQ3 : Hid (R = (⟨0, (nk : Nat), ⟨#[100, 105, 114]⟩, []⟩, G)) := HQ.out.trans (if_pos hd)
      rw [hd] at m1
      rw [HSL.out]
      clear hd
      obtain ⟨⟨s1, s2⟩, s3, s4, s5⟩ := HO3.out.a.st4
      go_wp2
      refine bodyPost_ret (results_cell_row rfl _ _ ab 33 _ (0, 0) _ rfl (HO3.out.a.pt4 _ _ _ _) Tryz.underlying33 rfl sizeAns) rfl ?_
      exact HO3.out.fin0 (q := ⟨0, (nk : Nat), ⟨#[100, 105, 114]⟩, []⟩) HQ3.out rfl HO3.out.same
    have HQ3 := Lib.hid (HQ.out.trans (if_neg hd))
    have hd : dirG G n = false := by simpa using hd
    rw [hd] at m1
    clear hd
    go_wp2_with fail
    have HO4 := Lib.hid HO3.out.drew
    have t4 : w3.drew.cell? ⟨p.b, 1, none⟩ = some (.slice (some ⟨g, 0, none⟩) G.T.length tc) := t0
    have m4 : w3.drew.cell? ⟨g, n * 2 + 1, none⟩ = some (.string (textG G n)) := m2
    refine wp_region_tree (fun W => W.cell? ⟨p.b, 1, none⟩ = some (.slice (some ⟨g, 0, none⟩) G.T.length tc) ∧ W.cell? ⟨g, n * 2 + 1, none⟩ = some (.string (textG G n))) 14 (.quiet 0 (.quiet 1 (.quiet 2 (.quiet 3 (.quiet 4 (.quiet 5 (.quiet 6 (.quiet 7 (.quiet 8 (.quiet 9 (.quiet 10 (.make 11 (.make 12 (.make 13 .nil)))))))))))))) (by kernel_rfl) (by kernel_rfl) ⟨t4, m4⟩ ?_
    simp only [List.drop_succ_cons, List.drop_zero]
    iterate 11 (apply wpTr_step rfl; (intro W hS K hK; obtain ⟨u0, u1⟩ := hS; go_simp; exact hK _ rfl))
    have HLK := Lib.hid (rlinks_any p G w3.drew HO4.out.j.r (by have := HK.out; omega) n)
    have HLE : Hid (linksG G n ≤ 50000) := by
      have h1 := cnt_le G.E n G.E.length
      rw [List.take_length] at h1
      exact Nat.le_trans h1 HK.out
    generalize linksG G n = lk at *
    have HGL : Hid (g < w3.drew.heap.size) := HGL.out
    clear HO3 c0 m1 m2 t0
    generalize w3.drew = w4 at *
    refine wpTr_make rfl (fun K' hK => ?_)
    go_simp
    refine HLK.out.mono ?_
    rintro e w5 ⟨rfl, hw5⟩
    rw [hw5]
    clear hw5
    refine hK _ _ _ (fun _ h => h) ⟨t4, m4⟩ ?_
    clear hK K'
    refine wpTr_make rfl (fun K' hK => ?_)
    go_simp
    refine (rdigits_any lk (by have := HLE.out; omega) w4).mono ?_
    rintro e w5 ⟨rfl, hb⟩
    have HO5 := Lib.hid (HO4.out.keep hb)
    have t5 : w5.cell? ⟨p.b, 1, none⟩ = some (.slice (some ⟨g, 0, none⟩) G.T.length tc) := (hb.cell (p := ⟨p.b, 1, none⟩) HO4.out.j.r.box.lt).trans t4
    have m5 : w5.cell? ⟨g, n * 2 + 1, none⟩ = some (.string (textG G n)) := (hb.cell (p := ⟨g, n * 2 + 1, none⟩) HGL.out).trans m4
    refine hK _ _ _ (fun _ h => h) ⟨t5, m5⟩ ?_
    have HGL5 : Hid (g < w5.heap.size) := Nat.lt_of_lt_of_le HGL.out hb.size
    clear hK K' t4 m4
    refine wpTr_make rfl (fun K' hK => ?_)
    go_simp
    have hz := (Below.refl w5.heap.size w5).alloc (Nat.le_refl _) (.cells #[.string (digitsB lk)] 9 (0, 0))
    have HO6 := Lib.hid (HO5.out.keep hz)
    have HK6 : Hid (Ks (w5.alloc (.cells #[.string (digitsB lk)] 9 (0, 0))) w5.heap.size (.slice (some ⟨w5.heap.size, 0, none⟩) 1 1) [digitsB lk]) := Ks.onePut (Nat.le_refl _) (Box.new w5 _ _)
    have HT6 : Hid (RmTo p G w5 (w5.alloc (.cells #[.string (digitsB lk)] 9 (0, 0)))) := RmTo.same HO5.out.j.r hz
    refine hK _ _ _ (fun _ h => h) ⟨(hz.cell (p := ⟨p.b, 1, none⟩) HO5.out.j.r.box.lt).trans t5, (hz.cell (p := ⟨g, n * 2 + 1, none⟩) HGL5.out).trans m5⟩ ?_
    clear hK K' t5 m5 hz
    refine wpTr_nil ?_
    generalize World.alloc w5 _ = w6 at *
    obtain ⟨⟨s1, s2⟩, s3, s4, s5⟩ := HO6.out.a.st4
    go_wp2
    refine bodyPost_ret (results_cell_row rfl _ _ ab 33 _ (0, 0) _ rfl (HO6.out.a.pt4 _ _ _ _) Tryz.underlying33 rfl sizeAns) rfl ?_
    exact HO5.out.fin (q := ⟨0, ((textG G n).size : Nat), ⟨#[102, 105, 108, 101]⟩, [digitsB lk]⟩) HQ3.out HT6.out HK6.out
  · have HQ : Hid (R = if (leadG G o.path).2 ≠ 0 then (noA (leadG G o.path).2, G) else if dirG G (leadG G o.path).1 = false then (noA 11, G) else (⟨0, 0, noB, sortB (kidsG G (splitD o.path).1)⟩, G)) := by
      show _ = _
      rw [HR.out]
      unfold doG
      rw [if_neg (by omega), if_neg (by omega), if_neg (by omega), if_neg (by omega), if_neg (by omega), if_neg (by omega), if_neg (by omega), if_neg (by omega), if_neg (by omega), if_neg (by omega), if_pos h3]
    have g0 : (o.do_ == 10) = true := by rw [h3]; rfl
    clear h3 HR
    have c1 := HO.out.j.x.cell 1 _ rfl
    obtain ⟨ob, hob⟩ : ∃ ob, ob = w.heap.size := ⟨_, rfl⟩
    obtain ⟨ab, hab⟩ : ∃ ab, ab = w.heap.size + 1 := ⟨_, rfl⟩
    rw [← hab, ← hob] at HO
    go_wp2_with fail
    rw [← hab, ← hob]
    clear hob hab c1
    generalize World.alloc (World.alloc w _) _ = w1 at *
    refine (rleads_any p G w1 HO.out.j.r HW.out (by have := HK.out; omega) o.path (by have := HP.out; omega)).mono ?_
    rintro e w2 ⟨rfl, hb⟩
    have HO2 := Lib.hid (HO.out.keep hb)
    have HAT : Hid ((leadG G o.path).2 = 0 → (splitD o.path).2 = 0 ∧ atE G (splitD o.path).1 = some (leadG G o.path).1) := leadG_at
    clear hb HO
    obtain ⟨LD, hLD⟩ : ∃ x, x = leadG G o.path := ⟨_, rfl⟩
    rw [← hLD] at HQ HAT ⊢
    clear hLD
    obtain ⟨n, er⟩ := LD
    dsimp only at *
    by_cases h1 : er = 0
    case neg =>
      have HQ2 : Hid (R = (noA er, G)) := HQ.out.trans (if_pos h1)
      have f1 : (er != 0) = true := by simpa using h1
      clear h1
      obtain ⟨⟨s1, s2⟩, s3, s4, s5⟩ := HO2.out.a.st4
      go_wp2
      refine bodyPost_ret (results_cell_row rfl _ _ ab 33 _ (0, 0) _ rfl (HO2.out.a.pt4 _ _ _ _) Tryz.underlying33 rfl sizeAns) rfl ?_
      exact HO2.out.fin0 HQ2.out rfl HO2.out.same
    subst h1
    have HQ := Lib.hid (HQ.out.trans (if_neg (fun e => e rfl)))
    have HSP := Lib.hid (HAT.out rfl).1
    have hnl := at_lt HW.out (HAT.out rfl).2
    have HNS := Lib.hid (rnames_any p G w2 HO2.out.j.r HW.out HK.out (fun x hx => by have := HJZ.out x hx; omega) o.path (splitD o.path).1 (by rw [← HSP.out]))
    have c1 : w2.cell? ⟨ob, 1, none⟩ = some (.string o.path) := HO2.out.j.x.cell 1 _ rfl
    go_wp2_with fail
    refine HNS.out.mono ?_
    rintro e w3 ⟨v, rfl, hks, hb⟩
    obtain ⟨ka, kc, rfl, _, _⟩ := hks.shape
    have HO3 := Lib.hid (HO2.out.keep hb)
    have HTO : Hid (RmTo p G w2 w3) := RmTo.same HO2.out.j.r hb
    have HKS := Lib.hid hks
    have HSL : Hid ((sortB (kidsG G (splitD o.path).1)).length = (kidsG G (splitD o.path).1).length) := sort_len _
    clear hks hb HNS c1
    have c0 : w3.cell? ⟨ob, 0, none⟩ = some (.int .i64 o.do_) := HO3.out.j.x.cell 0 _ rfl
    have t0 : w3.cell? ⟨p.b, 1, none⟩ = some p.tv := HO3.out.j.r.box.cell 1 _ rfl
    obtain ⟨ta, tc, htv⟩ := HO3.out.j.r.t.shape
    rw [htv] at t0
    have HTG : Hid (Tgs w3 (.slice ta G.T.length tc) G.T) := by have := HO3.out.j.r.t; rw [htv] at this; exact this
    obtain ⟨g, rfl, hgl, m0, mt0, -, mf⟩ := HTG.out.at hnl
    have HGL : Hid (g < w3.heap.size) := hgl
    have m1 : w3.cell? ⟨g, n * 2, none⟩ = some (.bool (dirG G n)) := by rw [dir_at hnl]; exact m0
    have m2 : w3.cell? ⟨g, n * 2 + 1, none⟩ = some (.string (textG G n)) := by rw [text_at hnl]; exact mt0
    have n0 : (0 : Int) ≤ (n : Int) := by omega
    have n1 : (n : Int) < (G.T.length : Int) := by omega
    clear m0 mt0 mf hgl hnl htv HTG
    generalize sortB (kidsG G (splitD o.path).1) = NS at *
    generalize (kidsG G (splitD o.path).1).length = nk at *
    by_cases hd : dirG G n = false
    · have HQ3 : Hid (R = (noA 11, G)) := HQ.out.trans (if_pos hd)
      rw [hd] at m1
      clear hd
      obtain ⟨⟨s1, s2⟩, s3, s4, s5⟩ := HO3.out.a.st4
      go_wp2
      refine bodyPost_ret (results_cell_row rfl _ _ ab 33 _ (0, 0) _ rfl (HO3.out.a.pt4 _ _ _ _) Tryz.underlying33 rfl sizeAns) rfl ?_
      exact HO3.out.fin0 HQ3.out rfl HO3.out.same
    have HQ3 := Lib.hid (HQ.out.trans (if_neg hd))
    have hd : dirG G n = true := by simpa using hd
    rw [hd] at m1
    clear hd
    obtain ⟨⟨s1, s2⟩, s3, s4, s5⟩ := HO3.out.a.st4
    go_wp2
    refine bodyPost_ret (results_cell_row rfl _ _ ab 33 _ (0, 0) _ rfl (HO3.out.a.pt4 _ _ _ _) Tryz.underlying33 rfl sizeAns) rfl ?_
    exact HO2.out.fin (q := ⟨0, 0, noB, NS⟩) HQ3.out HTO.out HKS.out
end Go.Proofs.YteimpebfenpifaaGreatDoor

namespace Go.Proofs.YteimpebfenpifaaGreatDoor
open Go Go.RowKit

theorem dir_text (G : GD) (n : Nat) (s : ByteArray) (m : Nat) : dirG (textSet G n s) m = dirG G m := by
  show (match (G.T.set n { (G.T[n]?.getD ⟨false, noB⟩) with text := s })[m]? with | none => false | some t => t.dir) = _
  unfold dirG
  rw [List.getElem?_set]
  by_cases h : n = m
  · subst h
    rw [if_pos rfl]
    by_cases hl : n < G.T.length
    · rw [if_pos hl, List.getElem?_eq_getElem hl]; rfl
    · rw [if_neg hl, List.getElem?_eq_none (by omega)]
  · rw [if_neg h]; rfl
theorem at_text (G : GD) (n : Nat) (s : ByteArray) (l : PathD) : atE (textSet G n s) l = atE G l := rfl
theorem step_text (G : GD) (n : Nat) (s : ByteArray) : ∀ (r pre : PathD), stepG (textSet G n s) pre r = stepG G pre r
  | [], _ => rfl
  | x :: r, pre => by
    unfold stepG
    rw [dir_text, at_text, at_text, step_text G n s r]
theorem lead_text (G : GD) (n : Nat) (s p : ByteArray) : leadG (textSet G n s) p = leadG G p := by
  unfold leadG
  rw [step_text]
theorem text_self {G : GD} {n : Nat} (h : n < G.T.length) (s : ByteArray) : textG (textSet G n s) n = s := by
  show (match (G.T.set n { (G.T[n]?.getD ⟨false, noB⟩) with text := s })[n]? with | none => noB | some t => t.text) = _
  rw [List.getElem?_set, if_pos rfl, if_pos h]
theorem cut_all {t : ByteArray} {k : Nat} (h : t.size ≤ k) : cutB t 0 k = t := by
  apply pb_ext
  unfold cutB
  rw [pb_mk, List.drop_zero, List.take_of_length_le (by rw [pb_size]; exact h)]
theorem writ_none {t d : ByteArray} {off : Nat} (h : d.size = 0) : writB t off d = t := if_pos h
theorem pb_writ {t d : ByteArray} {off : Nat} (h : d.size ≠ 0) : pb (writB t off d) = (pb t ++ List.replicate (off - t.size) 0).take off ++ pb d ++ (pb t).drop (off + d.size) := by
  unfold writB
  rw [if_neg h, pb_mk]
theorem head_len (t : ByteArray) (off : Nat) : ((pb t ++ List.replicate (off - t.size) 0).take off).length = off := by
  rw [List.length_take, List.length_append, List.length_replicate, pb_size]
  omega
theorem writ_size {t d : ByteArray} {off : Nat} (h : d.size ≠ 0) : (writB t off d).size = max t.size (off + d.size) := by
  rw [← pb_size, pb_writ h, List.length_append, List.length_append, head_len, pb_size, List.length_drop, pb_size]
  omega
theorem writ_got {t d : ByteArray} {off : Nat} (h : d.size ≠ 0) : cutB (writB t off d) off d.size = d := by
  apply pb_ext
  show pb ⟨(((pb (writB t off d)).drop off).take d.size).toArray⟩ = _
  rw [pb_mk, pb_writ h, List.append_assoc, List.drop_append_of_le_length (by have := head_len t off; omega), List.drop_of_length_le (by have := head_len t off; omega), List.nil_append, List.take_append_of_le_length (by have := pb_size d; omega), List.take_of_length_le (by have := pb_size d; omega)]
/-- What stood ahead of it. -/
theorem writ_head {t d : ByteArray} {off n : Nat} (h : d.size ≠ 0) (hn : n = max t.size (off + d.size)) : (pb (writB t off d)).take off = (pb t ++ List.replicate (n - t.size) 0).take off := by
  rw [pb_writ h, List.append_assoc, List.take_append_of_le_length (by have := head_len t off; omega), List.take_of_length_le (by have := head_len t off; omega)]
  rw [List.take_append, List.take_append, pb_size, List.take_replicate, List.take_replicate]
  congr 2
  omega
/-- What stands behind it. -/
theorem writ_tail {t d : ByteArray} {off n : Nat} (h : d.size ≠ 0) (hn : n = max t.size (off + d.size)) : (pb (writB t off d)).drop (off + d.size) = (pb t ++ List.replicate (n - t.size) 0).drop (off + d.size) := by
  have hlen : ((pb t ++ List.replicate (off - t.size) 0).take off ++ pb d).length = off + d.size := by rw [List.length_append, head_len, pb_size]
  rw [pb_writ h, List.drop_append_of_le_length (by omega), List.drop_of_length_le (by omega), List.nil_append, List.drop_append, pb_size, List.drop_replicate]
  by_cases hc : off + d.size ≤ t.size
  · have : n - t.size - (off + d.size - t.size) = 0 := by omega
    rw [this]; simp
  · have : n - t.size - (off + d.size - t.size) = 0 := by omega
    rw [this]; simp
/-! ### the four answers -/
def wrR (name : ByteArray) : OpD := ⟨6, name, noB, 0, 20000, noB⟩
def wrW (name : ByteArray) (off : Nat) (d : ByteArray) : OpD := ⟨7, name, noB, off, 0, d⟩
def wrG (name : ByteArray) (off : Nat) (d : ByteArray) : OpD := ⟨6, name, noB, off, (d.size : Nat), noB⟩
theorem read_eq (G : GD) (name : ByteArray) (off len : Nat) : doG G ⟨6, name, noB, off, len, noB⟩ = fileG G name fun n => (⟨0, ((cutB (textG G n) off len).size : Nat), cutB (textG G n) off len, []⟩, G) := by
  show fileG G name (fun n => if (off : Int) < 0 ∨ (len : Int) < 0 then (noA 1, G) else (⟨0, ((cutB (textG G n) (off : Int).toNat (len : Int).toNat).size : Nat), cutB (textG G n) (off : Int).toNat (len : Int).toNat, []⟩, G)) = _
  congr 1
theorem write_eq (G : GD) (name : ByteArray) (off : Nat) (d : ByteArray) (h : off + d.size ≤ 16384) : doG G (wrW name off d) = fileG G name fun n => (⟨0, (d.size : Nat), noB, []⟩, textSet G n (writB (textG G n) off d)) := by
  show fileG G name (fun n => if (off : Int) < 0 then (noA 1, G) else if (16384 : Int) < (off : Int) + (d.size : Int) then (noA 13, G) else (⟨0, (d.size : Nat), noB, []⟩, textSet G n (writB (textG G n) (off : Int).toNat d))) = _
  congr 1
  funext n
  rw [if_neg (by omega), if_neg (by omega)]
  rfl
theorem file_yes {G : GD} {p : ByteArray} {k : Nat → AnsD × GD} (h1 : (leadG G p).2 = 0) (h2 : dirG G (leadG G p).1 = false) : fileG G p k = k (leadG G p).1 := by
  unfold fileG
  rw [if_neg (fun e => e h1), if_neg (by rw [h2]; decide)]
theorem file_no {G : GD} {p : ByteArray} (h : ¬ ((leadG G p).2 = 0 ∧ dirG G (leadG G p).1 = false)) : ∃ e, e ≠ 0 ∧ ∀ k : Nat → AnsD × GD, fileG G p k = (noA e, G) := by
  by_cases h1 : (leadG G p).2 = 0
  · have h2 : dirG G (leadG G p).1 = true := by
      cases hd : dirG G (leadG G p).1 with
      | true => rfl
      | false => exact absurd ⟨h1, hd⟩ h
    exact ⟨10, by decide, fun k => by unfold fileG; rw [if_neg (fun e => e h1), if_pos h2]⟩
  · exact ⟨_, h1, fun k => by unfold fileG; rw [if_pos h1]⟩
theorem lead_lt {G : GD} (hw : WfG G) {p : ByteArray} (h1 : (leadG G p).2 = 0) (h2 : dirG G (leadG G p).1 = false) : (leadG G p).1 < G.T.length := by
  have ha := (leadG_at h1).2
  by_cases h0 : (splitD p).1 = []
  · rw [h0] at ha
    have h3 : (0 : Nat) = (leadG G p).1 := Option.some.inj ha
    rw [← h3, hw.root] at h2
    cases h2
  · rw [atE_ne h0] at ha
    exact hw.num _ (findL_mem ha)
theorem written {G : GD} (hw : WfG G) (name : ByteArray) (off : Nat) (d : ByteArray) (h : off + d.size ≤ 16384) :
    (∃ e, e ≠ 0 ∧ doG G (wrR name) = (noA e, G) ∧ doG G (wrW name off d) = (noA e, G) ∧ doG G (wrG name off d) = (noA e, G)) ∨
    ∃ t : ByteArray, ∃ G' : GD, t.size ≤ 16384 ∧ doG G (wrR name) = (⟨0, (t.size : Nat), t, []⟩, G) ∧ doG G (wrW name off d) = (⟨0, (d.size : Nat), noB, []⟩, G') ∧
      doG G' (wrR name) = (⟨0, ((writB t off d).size : Nat), writB t off d, []⟩, G') ∧ doG G' (wrG name off d) = (⟨0, ((cutB (writB t off d) off d.size).size : Nat), cutB (writB t off d) off d.size, []⟩, G') := by
  by_cases hf : (leadG G name).2 = 0 ∧ dirG G (leadG G name).1 = false
  · obtain ⟨h1, h2⟩ := hf
    have hlt := lead_lt hw h1 h2
    have hsm := hw.small (leadG G name).1
    have hs2 : (writB (textG G (leadG G name).1) off d).size ≤ 20000 := by
      by_cases hd : d.size = 0
      · rw [writ_none hd]; omega
      · rw [writ_size hd]; omega
    refine .inr ⟨textG G (leadG G name).1, textSet G (leadG G name).1 (writB (textG G (leadG G name).1) off d), hsm, ?_, ?_, ?_, ?_⟩
    · have := read_eq G name 0 20000
      rw [file_yes h1 h2, cut_all (by omega)] at this
      exact this
    · rw [write_eq G name off d h, file_yes h1 h2]
    · have := read_eq (textSet G (leadG G name).1 (writB (textG G (leadG G name).1) off d)) name 0 20000
      rw [file_yes (by rw [lead_text]; exact h1) (by rw [lead_text, dir_text]; exact h2), lead_text, text_self hlt, cut_all hs2] at this
      exact this
    · have := read_eq (textSet G (leadG G name).1 (writB (textG G (leadG G name).1) off d)) name off d.size
      rw [file_yes (by rw [lead_text]; exact h1) (by rw [lead_text, dir_text]; exact h2), lead_text, text_self hlt] at this
      exact this
  · obtain ⟨e, he, hk⟩ := file_no hf
    refine .inl ⟨e, he, ?_, ?_, ?_⟩
    · exact (read_eq G name 0 20000).trans (hk _)
    · exact (write_eq G name off d h).trans (hk _)
    · exact (read_eq G name off d.size).trans (hk _)
end Go.Proofs.YteimpebfenpifaaGreatDoor

namespace Go.Proofs.YteimpebfenpifaaGreatDoor
open Go Go.RowKit Go.ChangeShapes Go.WideShapes Go.ChangeAt

theorem pb_zeros (n : Nat) : pb (zerosB n) = List.replicate n 0 := pb_mk _
theorem zeros_size (n : Nat) : (zerosB n).size = n := by rw [← pb_size, pb_zeros, List.length_replicate]
theorem made_rep (n : Nat) : (madeCells #[Value.int .u8 0] n).toList = (List.replicate n (0 : UInt8)).map byV := by
  rw [List.map_replicate]
  apply List.ext_getElem?
  intro i
  by_cases hi : i < n
  · rw [List.getElem?_replicate, if_pos hi]
    simp [madeCells, hi, Nat.mod_one, byV]
  · rw [List.getElem?_eq_none (by simp [madeCells]; omega), List.getElem?_eq_none (by simp; omega)]
set_option maxRecDepth 100000 in
set_option maxHeartbeats 2000000 in
theorem zeros_any (n : Nat) (hn : n ≤ 1000000) (w : World) : Calls Tryz.prog 21 #[.int .i64 (n : Int)] w fun e w' => e = .returned (.string (zerosB n)) ∧ Below w.heap.size w w' := by
  have HN := Lib.hid hn
  clear hn
  go_enter Tryz.func21, Tryz.ntmps21
  obtain ⟨i0, hi, hz0, hz1, hz2⟩ := info_parts infoU8
  go_wp2_with (refine wpList_make_full _ rfl _ _ 76 rfl w.heap.size 5 i0 (.int .u8 0) 1 Tryz.underlying76 hi hz0 hz1 _ _ _ _ n rfl rfl rfl rfl ?_ ?_ (Nat.le_refl _) ?_)
  case refine_1 => rw [hz2]; have := HN.out; omega
  case refine_2 => have := HN.out; unfold maxLen; omega
  intro w1 h1 h2
  rw [made_rep] at h1
  have hB : Buf w1 w.heap.size (.slice (some ⟨w.heap.size, 0, none⟩) n n) (List.replicate n 0) := by
    unfold Buf; rw [List.length_replicate]; exact h1
  have HT := Lib.hid hB.text
  have HB : Hid (Below w.heap.size w w1) := (Below.refl _ w).grown h2 (Nat.le_refl _) (fun k hk => by cases hk)
  clear h1 h2 hB hz0 hz1 hz2 hi
  have ht := HT.out
  go_wp2
  go_ret
  exact ⟨rfl, HB.out⟩
end Go.Proofs.YteimpebfenpifaaGreatDoor
