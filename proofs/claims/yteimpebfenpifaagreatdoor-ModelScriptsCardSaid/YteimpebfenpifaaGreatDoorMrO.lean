/-
  The reference's tree of files: bytes (Read, Write, Truncate).
-/
import Derived.Test.YteimpebfenpifaaGreatDoorMg37
import Derived.Test.YteimpebfenpifaaGreatDoorMg38
namespace Go.Proofs.YteimpebfenpifaaGreatDoor
open Go Go.RowKit Go.ChangeShapes Go.WideShapes Go.ChangeAt

theorem text_id {G : GD} {n : Nat} (h : n < G.T.length) : textSet G n (textG G n) = G := by
  have h1 : G.T.set n { (G.T[n]?.getD ⟨false, noB⟩) with text := textG G n } = G.T := by
    apply List.ext_getElem?
    intro i
    rw [List.getElem?_set]
    by_cases e : n = i
    · subst e
      rw [if_pos rfl, if_pos h, text_at h, List.getElem?_eq_getElem h]
      rfl
    · rw [if_neg e]
  show (⟨G.E, G.T.set n _⟩ : GD) = G
  rw [h1]
theorem RmAt.setT {w : World} {p : RmP} {G : GD} {g m cap n : Nat} (h : RmAt w p G) (htv : p.tv = .slice (some ⟨g, 0, none⟩) m cap) (hn : n < G.T.length) (s : ByteArray) : RmTo p (textSet G n s) w (w.setCell ⟨g, n * 2 + 1, none⟩ (.string s)) := by
  have hs := rm_chg w g (n * 2 + 1) (.string s)
  have hob : p.tv.ownBlock = some g := by rw [htv]; rfl
  have hne := h.nt g hob
  refine ⟨p, rfl, ⟨h.box.of (hs.block p.b h.box.lt (by simpa using hne)), h.e.of fun j hj hl => hs.block j hl (by rw [List.mem_singleton]; intro e; rw [e] at hj; exact (h.ne g hj).2 hob), ?_, h.ne, h.nt⟩, hs.mono (fun j hj => by rw [List.mem_singleton] at hj; rw [hj]; exact fp_mem.2 (.inr (.inr hob))), fun _ hk => .inl hk⟩
  have ht := h.t
  rw [htv] at ht ⊢
  exact ht.set n hn s
theorem cut_empty {s : ByteArray} {off len : Nat} (h : s.size ≤ off) : cutB s off len = ⟨#[]⟩ := by
  apply pb_ext
  unfold cutB
  rw [pb_mk, List.drop_of_length_le (by rw [pb_size]; exact h)]
  simp [pb]
theorem cut_two {s : ByteArray} {off len m : Nat} (hm : m = min len (s.size - off)) : (s.extract off s.size).extract 0 m = cutB s off len := by
  apply pb_ext
  have hr : pb (cutB s off len) = ((pb s).drop off).take len := pb_mk _
  rw [hr, pb_cut, pb_cut, List.drop_zero, Nat.sub_zero, List.take_take]
  have h1 : ((pb s).drop off).length = s.size - off := by rw [List.length_drop, pb_size]
  rw [hm]
  by_cases hc : len ≤ s.size - off
  · rw [show min (min len (s.size - off)) (s.size - off) = len from by omega]
  · rw [show min (min len (s.size - off)) (s.size - off) = s.size - off from by omega, List.take_of_length_le (by omega), List.take_of_length_le (by omega)]
theorem sized_is (s : ByteArray) (n : Nat) : (s ++ zerosB n).extract 0 n = sizedB s n := by
  apply pb_ext
  have hr : pb (sizedB s n) = (pb s ++ List.replicate (n - s.size) 0).take n := pb_mk _
  rw [hr, pb_cut, pb_append, pb_zeros, List.drop_zero, Nat.sub_zero, List.take_append, List.take_append, pb_size, List.take_replicate, List.take_replicate]
  congr 2
  omega
theorem writ_is {s d : ByteArray} {off z : Nat} (hd : d.size ≠ 0) (hz : z = off + d.size - s.size) : ((s ++ zerosB z).extract 0 off ++ d) ++ (s ++ zerosB z).extract (off + d.size) (s ++ zerosB z).size = writB s off d := by
  apply pb_ext
  rw [pb_writ hd, pb_append, pb_append, pb_cut, pb_cut, pb_append, pb_zeros, List.drop_zero, Nat.sub_zero, ByteArray.size_append, zeros_size]
  congr 1
  · congr 1
    rw [List.take_append, List.take_append, pb_size, List.take_replicate, List.take_replicate]
    congr 2
    omega
  · rw [List.drop_append, pb_size, List.drop_replicate, List.take_of_length_le (by rw [List.length_append, List.length_drop, List.length_replicate, pb_size]; omega)]
    have h1 : z - (off + d.size - s.size) = 0 := by omega
    rw [h1, List.replicate_zero, List.append_nil]
set_option maxRecDepth 100000 in
set_option maxHeartbeats 8000000 in
theorem rbytes_any (p : RmP) (G : GD) (w : World) (h : RmAt w p G) (hw : WfG G) (hk : G.E.length ≤ 50000) (hT : G.T.length ≤ 50000) (o : OpD) (hp : o.path.size ≤ 40000) (hd : o.data.size ≤ 100000) (ho : o.do_ = 6 ∨ o.do_ = 7 ∨ o.do_ = 8) :
    Calls Tryz.prog 34 #[.pointer (some ⟨p.b, 0, none⟩), opV o] w fun e w' => RRes w p (doG G o) e w' := by
  obtain ⟨R, hR⟩ : ∃ R, R = doG G o := ⟨_, rfl⟩
  rw [← hR]
  have HR := Lib.hid hR
  have HO := Lib.hid (AnJ.new h o)
  have HW := Lib.hid hw
  have HK := Lib.hid hk
  have HTL := Lib.hid hT
  have HP := Lib.hid hp
  have HD := Lib.hid hd
  clear hR h hw hk hT hp hd
  unfold opV opA
  go_enter Tryz.func34, Tryz.ntmps34
  rcases ho with h3 | h3 | h3
  · have HQ : Hid (R = fileG G o.path fun n => if o.off < 0 ∨ o.len < 0 then (noA 1, G) else (⟨0, ((cutB (textG G n) o.off.toNat o.len.toNat).size : Nat), cutB (textG G n) o.off.toNat o.len.toNat, []⟩, G)) := by
      show _ = _
      rw [HR.out]
      unfold doG
      rw [if_neg (by omega), if_neg (by omega), if_neg (by omega), if_neg (by omega), if_neg (by omega), if_neg (by omega), if_pos h3]
    rw [file_eq] at HQ
    have g0 : (o.do_ != 8) = true := by rw [h3]; rfl
    have g1 : (o.do_ != 7) = true := by rw [h3]; rfl
    have g2 : (o.do_ == 6) = true := by rw [h3]; rfl
    have g3 : (o.do_ == 7) = false := by rw [h3]; rfl
    have g4 : (o.do_ == 8) = false := by rw [h3]; rfl
    clear h3 HR
    have c1 := HO.out.j.x.cell 1 _ rfl
    obtain ⟨ob, hob⟩ : ∃ ob, ob = w.heap.size := ⟨_, rfl⟩
    obtain ⟨ab, hab⟩ : ∃ ab, ab = w.heap.size + 1 := ⟨_, rfl⟩
    rw [← hab, ← hob] at HO
    go_wp2_with fail
    rw [← hab, ← hob]
    clear hob hab c1
    generalize World.alloc (World.alloc w _) _ = w1 at *
    refine (rleads_any p G w1 HO.out.j.r HW.out (by have := HK.out; omega) o.path (by have := HP.out; omega)).mono ?_
    rintro e w2 ⟨rfl, hb⟩
    have HO2 := Lib.hid (HO.out.keep hb)
    have HAT : Hid ((leadG G o.path).2 = 0 → (splitD o.path).2 = 0 ∧ atE G (splitD o.path).1 = some (leadG G o.path).1) := leadG_at
    clear hb HO
    obtain ⟨LD, hLD⟩ : ∃ x, x = leadG G o.path := ⟨_, rfl⟩
    rw [← hLD] at HQ HAT ⊢
    clear hLD
    obtain ⟨n, er⟩ := LD
    dsimp only at *
    by_cases h1 : er = 0
    case neg =>
      have HQ2 : Hid (R = (noA er, G)) := HQ.out.trans (if_pos h1)
      have f1 : (er != 0) = true := by simpa using h1
      clear h1
      obtain ⟨⟨s1, s2⟩, s3, s4, s5⟩ := HO2.out.a.st4
      go_wp2
      refine bodyPost_ret (results_cell_row rfl _ _ ab 33 _ (0, 0) _ rfl (HO2.out.a.pt4 _ _ _ _) Tryz.underlying33 rfl sizeAns) rfl ?_
      exact HO2.out.fin0 HQ2.out rfl HO2.out.same
    subst h1
    have HQ := Lib.hid (HQ.out.trans (if_neg (fun e => e rfl)))
    have HSP := Lib.hid (HAT.out rfl).1
    have hnl := at_lt HW.out (HAT.out rfl).2
    have t0 : w2.cell? ⟨p.b, 1, none⟩ = some p.tv := HO2.out.j.r.box.cell 1 _ rfl
    obtain ⟨ta, tc, htv⟩ := HO2.out.j.r.t.shape
    rw [htv] at t0
    have HTG : Hid (Tgs w2 (.slice ta G.T.length tc) G.T) := by have := HO2.out.j.r.t; rw [htv] at this; exact this
    obtain ⟨g, rfl, hgl, m0, mt0, -, mf⟩ := HTG.out.at hnl
    have HGL : Hid (g < w2.heap.size) := hgl
    have m1 : w2.cell? ⟨g, n * 2, none⟩ = some (.bool (dirG G n)) := by rw [dir_at hnl]; exact m0
    have m2 : w2.cell? ⟨g, n * 2 + 1, none⟩ = some (.string (textG G n)) := by rw [text_at hnl]; exact mt0
    have n0 : (0 : Int) ≤ (n : Int) := by omega
    have n1 : (n : Int) < (G.T.length : Int) := by omega
    clear m0 mt0
    by_cases hd : dirG G n = true
    · have HQ3 : Hid (R = (noA 10, G)) := HQ.out.trans (if_pos hd)
      rw [hd] at m1
      clear hd
      obtain ⟨⟨s1, s2⟩, s3, s4, s5⟩ := HO2.out.a.st4
      go_wp2
      refine bodyPost_ret (results_cell_row rfl _ _ ab 33 _ (0, 0) _ rfl (HO2.out.a.pt4 _ _ _ _) Tryz.underlying33 rfl sizeAns) rfl ?_
      exact HO2.out.fin0 HQ3.out rfl HO2.out.same
    have HQ := Lib.hid (HQ.out.trans (if_neg hd))
    have hd : dirG G n = false := by simpa using hd
    rw [hd] at m1
    have c0 : w2.cell? ⟨ob, 0, none⟩ = some (.int .i64 o.do_) := HO2.out.j.x.cell 0 _ rfl
    have c3 : w2.cell? ⟨ob, 3, none⟩ = some (.int .i64 o.off) := HO2.out.j.x.cell 3 _ rfl
    have c4 : w2.cell? ⟨ob, 4, none⟩ = some (.int .i64 o.len) := HO2.out.j.x.cell 4 _ rfl
    have c5 : w2.cell? ⟨ob, 5, none⟩ = some (.string o.data) := HO2.out.j.x.cell 5 _ rfl
    have HSM : Hid ((textG G n).size ≤ 16384) := HW.out.small n
    have HNL : Hid (n < G.T.length) := hnl
    have HTV : Hid (p.tv = .slice (some ⟨g, 0, none⟩) G.T.length tc) := htv
    have HTI : Hid (textSet G n (textG G n) = G) := text_id hnl
    clear hd hnl htv hgl HTG
    generalize textG G n = TX at *
    by_cases ho : o.off < 0
    · have HQ3 : Hid (R = (noA 1, G)) := HQ.out.trans (if_pos (.inl ho))
      have n3 : (o.off < 0) = True := eq_true ho
      clear ho
      obtain ⟨⟨s1, s2⟩, s3, s4, s5⟩ := HO2.out.a.st4
      go_wp2
      refine bodyPost_ret (results_cell_row rfl _ _ ab 33 _ (0, 0) _ rfl (HO2.out.a.pt4 _ _ _ _) Tryz.underlying33 rfl sizeAns) rfl ?_
      exact HO2.out.fin0 HQ3.out rfl HO2.out.same
    by_cases hl : o.len < 0
    · have HQ3 : Hid (R = (noA 1, G)) := HQ.out.trans (if_pos (.inr hl))
      have n3 : (o.off < 0) = False := eq_false ho
      have n4 : (o.len < 0) = True := eq_true hl
      clear ho hl
      obtain ⟨⟨s1, s2⟩, s3, s4, s5⟩ := HO2.out.a.st4
      go_wp2
      refine bodyPost_ret (results_cell_row rfl _ _ ab 33 _ (0, 0) _ rfl (HO2.out.a.pt4 _ _ _ _) Tryz.underlying33 rfl sizeAns) rfl ?_
      exact HO2.out.fin0 HQ3.out rfl HO2.out.same
    have HQ := Lib.hid (HQ.out.trans (if_neg (fun e => e.elim ho hl)))
    obtain ⟨of, hof⟩ : ∃ of : Nat, o.off = (of : Int) := ⟨o.off.toNat, by omega⟩
    obtain ⟨ln, hln⟩ : ∃ ln : Nat, o.len = (ln : Int) := ⟨o.len.toNat, by omega⟩
    rw [hof, hln, Int.toNat_natCast, Int.toNat_natCast] at HQ
    rw [hof] at c3
    rw [hln] at c4
    have n3 : ((of : Int) < 0) = False := eq_false (by omega)
    have n4 : ((ln : Int) < 0) = False := eq_false (by omega)
    clear ho hl hof hln
    by_cases hb : TX.size ≤ of
    · have hce := cut_empty (len := ln) hb
      rw [hce] at HQ
      have d1 : ((TX.size : Int) ≤ (of : Int)) = True := eq_true (by omega)
      have d2 : (TX.size ≤ of) = True := eq_true hb
      clear hce hb
      obtain ⟨⟨s1, s2⟩, s3, s4, s5⟩ := HO2.out.a.st4
      go_wp2
      refine bodyPost_ret (results_cell_row rfl _ _ ab 33 _ (0, 0) _ rfl (HO2.out.a.pt4 _ _ _ _) Tryz.underlying33 rfl sizeAns) rfl ?_
      exact HO2.out.fin0 (q := ⟨0, 0, ⟨#[]⟩, []⟩) HQ.out rfl HO2.out.same
    have d1 : ((TX.size : Int) ≤ (of : Int)) = False := eq_false (by omega)
    have d2 : (TX.size ≤ of) = False := eq_false hb
    have e1 : (of : Int) ≤ (TX.size : Int) := by omega
    have e2 : of ≤ TX.size := by omega
    have e0 : (0 : Int) ≤ (of : Int) := by omega
    have hes : (TX.extract of TX.size).size = TX.size - of := by rw [ByteArray.size_extract]; omega
    obtain ⟨m, hm⟩ : ∃ m, m = min ln (TX.size - of) := ⟨_, rfl⟩
    have hct := cut_two hm
    have hmn : min (ln : Int) ((TX.extract of TX.size).size : Int) = (m : Int) := by rw [hes, hm]; omega
    have hms : m ≤ (TX.extract of TX.size).size := by rw [hes, hm]; omega
    rw [← hct] at HQ
    have hys : ((TX.extract of TX.size).extract 0 m).size = m := by rw [ByteArray.size_extract]; omega
    rw [hys] at HQ
    clear hys
    have HMS := Lib.hid hms
    clear hb hct hm hes
    generalize hY : TX.extract of TX.size = Y at *
    have k1 : (m : Int) ≤ (Y.size : Int) := by omega
    have k2 : (0 : Int) ≤ (m : Int) := by omega
    obtain ⟨⟨s1, s2⟩, s3, s4, s5⟩ := HO2.out.a.st4
    go_wp2
    refine bodyPost_ret (results_cell_row rfl _ _ ab 33 _ (0, 0) _ rfl (HO2.out.a.pt4 _ _ _ _) Tryz.underlying33 rfl sizeAns) rfl ?_
    exact HO2.out.fin0 (q := ⟨0, (m : Nat), Y.extract 0 m, []⟩) HQ.out rfl HO2.out.same
  · have HQ : Hid (R = fileG G o.path fun n => if o.off < 0 then (noA 1, G) else if 16384 < o.off + (o.data.size : Int) then (noA 13, G) else (⟨0, (o.data.size : Nat), noB, []⟩, textSet G n (writB (textG G n) o.off.toNat o.data))) := by
      show _ = _
      rw [HR.out]
      unfold doG
      rw [if_neg (by omega), if_neg (by omega), if_neg (by omega), if_neg (by omega), if_neg (by omega), if_neg (by omega), if_neg (by omega), if_pos h3]
    rw [file_eq] at HQ
    have g0 : (o.do_ != 8) = true := by rw [h3]; rfl
    have g1 : (o.do_ != 7) = false := by rw [h3]; rfl
    have g2 : (o.do_ == 6) = false := by rw [h3]; rfl
    have g3 : (o.do_ == 7) = true := by rw [h3]; rfl
    have g4 : (o.do_ == 8) = false := by rw [h3]; rfl
    clear h3 HR
    have c1 := HO.out.j.x.cell 1 _ rfl
    obtain ⟨ob, hob⟩ : ∃ ob, ob = w.heap.size := ⟨_, rfl⟩
    obtain ⟨ab, hab⟩ : ∃ ab, ab = w.heap.size + 1 := ⟨_, rfl⟩
    rw [← hab, ← hob] at HO
    go_wp2_with fail
    rw [← hab, ← hob]
    clear hob hab c1
    generalize World.alloc (World.alloc w _) _ = w1 at *
    refine (rleads_any p G w1 HO.out.j.r HW.out (by have := HK.out; omega) o.path (by have := HP.out; omega)).mono ?_
    rintro e w2 ⟨rfl, hb⟩
    have HO2 := Lib.hid (HO.out.keep hb)
    have HAT : Hid ((leadG G o.path).2 = 0 → (splitD o.path).2 = 0 ∧ atE G (splitD o.path).1 = some (leadG G o.path).1) := leadG_at
    clear hb HO
    obtain ⟨LD, hLD⟩ : ∃ x, x = leadG G o.path := ⟨_, rfl⟩
    rw [← hLD] at HQ HAT ⊢
    clear hLD
    obtain ⟨n, er⟩ := LD
    dsimp only at *
    by_cases h1 : er = 0
    case neg =>
      have HQ2 : Hid (R = (noA er, G)) := HQ.out.trans (if_pos h1)
      have f1 : (er != 0) = true := by simpa using h1
      clear h1
      obtain ⟨⟨s1, s2⟩, s3, s4, s5⟩ := HO2.out.a.st4
      go_wp2
      refine bodyPost_ret (results_cell_row rfl _ _ ab 33 _ (0, 0) _ rfl (HO2.out.a.pt4 _ _ _ _) Tryz.underlying33 rfl sizeAns) rfl ?_
      exact HO2.out.fin0 HQ2.out rfl HO2.out.same
    subst h1
    have HQ := Lib.hid (HQ.out.trans (if_neg (fun e => e rfl)))
    have HSP := Lib.hid (HAT.out rfl).1
    have hnl := at_lt HW.out (HAT.out rfl).2
    have t0 : w2.cell? ⟨p.b, 1, none⟩ = some p.tv := HO2.out.j.r.box.cell 1 _ rfl
    obtain ⟨ta, tc, htv⟩ := HO2.out.j.r.t.shape
    rw [htv] at t0
    have HTG : Hid (Tgs w2 (.slice ta G.T.length tc) G.T) := by have := HO2.out.j.r.t; rw [htv] at this; exact this
    obtain ⟨g, rfl, hgl, m0, mt0, -, mf⟩ := HTG.out.at hnl
    have HGL : Hid (g < w2.heap.size) := hgl
    have m1 : w2.cell? ⟨g, n * 2, none⟩ = some (.bool (dirG G n)) := by rw [dir_at hnl]; exact m0
    have m2 : w2.cell? ⟨g, n * 2 + 1, none⟩ = some (.string (textG G n)) := by rw [text_at hnl]; exact mt0
    have n0 : (0 : Int) ≤ (n : Int) := by omega
    have n1 : (n : Int) < (G.T.length : Int) := by omega
    clear m0 mt0
    by_cases hd : dirG G n = true
    · have HQ3 : Hid (R = (noA 10, G)) := HQ.out.trans (if_pos hd)
      rw [hd] at m1
      clear hd
      obtain ⟨⟨s1, s2⟩, s3, s4, s5⟩ := HO2.out.a.st4
      go_wp2
      refine bodyPost_ret (results_cell_row rfl _ _ ab 33 _ (0, 0) _ rfl (HO2.out.a.pt4 _ _ _ _) Tryz.underlying33 rfl sizeAns) rfl ?_
      exact HO2.out.fin0 HQ3.out rfl HO2.out.same
    have HQ := Lib.hid (HQ.out.trans (if_neg hd))
    have hd : dirG G n = false := by simpa using hd
    rw [hd] at m1
    have c0 : w2.cell? ⟨ob, 0, none⟩ = some (.int .i64 o.do_) := HO2.out.j.x.cell 0 _ rfl
    have c3 : w2.cell? ⟨ob, 3, none⟩ = some (.int .i64 o.off) := HO2.out.j.x.cell 3 _ rfl
    have c4 : w2.cell? ⟨ob, 4, none⟩ = some (.int .i64 o.len) := HO2.out.j.x.cell 4 _ rfl
    have c5 : w2.cell? ⟨ob, 5, none⟩ = some (.string o.data) := HO2.out.j.x.cell 5 _ rfl
    have HSM : Hid ((textG G n).size ≤ 16384) := HW.out.small n
    have HNL : Hid (n < G.T.length) := hnl
    have HTV : Hid (p.tv = .slice (some ⟨g, 0, none⟩) G.T.length tc) := htv
    have HTI : Hid (textSet G n (textG G n) = G) := text_id hnl
    clear hd hnl htv hgl HTG
    generalize hTX : textG G n = TX at *
    by_cases hl : o.off < 0
    · have HQ3 : Hid (R = (noA 1, G)) := HQ.out.trans (if_pos hl)
      have n4 : (o.off < 0) = True := eq_true hl
      clear hl
      obtain ⟨⟨s1, s2⟩, s3, s4, s5⟩ := HO2.out.a.st4
      go_wp2
      refine bodyPost_ret (results_cell_row rfl _ _ ab 33 _ (0, 0) _ rfl (HO2.out.a.pt4 _ _ _ _) Tryz.underlying33 rfl sizeAns) rfl ?_
      exact HO2.out.fin0 HQ3.out rfl HO2.out.same
    have HQ := Lib.hid (HQ.out.trans (if_neg hl))
    obtain ⟨of, hof⟩ : ∃ of : Nat, o.off = (of : Int) := ⟨o.off.toNat, by omega⟩
    rw [hof, Int.toNat_natCast] at HQ
    rw [hof] at c3 hl
    have n4 : ((of : Int) < 0) = False := eq_false hl
    have HOF := Lib.hid hof
    clear hl hof
    by_cases hb : (16384 : Int) < (of : Int) + (o.data.size : Int)
    · have HQ3 : Hid (R = (noA 13, G)) := HQ.out.trans (if_pos hb)
      by_cases hb1 : 16384 < of
      · have n5 : ((16384 : Int) < (of : Int)) = True := eq_true (by omega)
        have n6 : (16384 < of) = True := eq_true hb1
        clear hb hb1
        obtain ⟨⟨s1, s2⟩, s3, s4, s5⟩ := HO2.out.a.st4
        go_wp2
        refine bodyPost_ret (results_cell_row rfl _ _ ab 33 _ (0, 0) _ rfl (HO2.out.a.pt4 _ _ _ _) Tryz.underlying33 rfl sizeAns) rfl ?_
        exact HO2.out.fin0 HQ3.out rfl HO2.out.same
      · have n5 : ((16384 : Int) < (of : Int)) = False := eq_false (by omega)
        have n6 : (16384 < of) = False := eq_false hb1
        have b1 : of ≤ 16384 := by omega
        have b2 : o.data.size ≤ 100000 := HD.out
        have n7 : ((16384 : Int) < (of : Int) + (o.data.size : Int)) = True := eq_true hb
        have n8 : (16384 < of + o.data.size) = True := eq_true (by omega)
        clear hb hb1
        obtain ⟨⟨s1, s2⟩, s3, s4, s5⟩ := HO2.out.a.st4
        go_wp2
        refine bodyPost_ret (results_cell_row rfl _ _ ab 33 _ (0, 0) _ rfl (HO2.out.a.pt4 _ _ _ _) Tryz.underlying33 rfl sizeAns) rfl ?_
        exact HO2.out.fin0 HQ3.out rfl HO2.out.same
    have HQ := Lib.hid (HQ.out.trans (if_neg hb))
    have n5 : ((16384 : Int) < (of : Int)) = False := eq_false (by omega)
    have n6 : (16384 < of) = False := eq_false (by omega)
    have b1 : of ≤ 16384 := by omega
    have b2 : o.data.size ≤ 16384 := by omega
    have n7 : ((16384 : Int) < (of : Int) + (o.data.size : Int)) = False := eq_false hb
    have n8 : (16384 < of + o.data.size) = False := eq_false (by omega)
    clear hb
    by_cases hz : o.data.size = 0
    · have ft : (o.data.toList == []) = true := by
        have h9 : o.data = ⟨#[]⟩ := ByteArray.ext (Array.eq_empty_of_size_eq_zero hz)
        rw [h9]; simp [ByteArray.toList_eq]
      have ft2 : (o.data.toList != []) = false := by rw [bne, ft]; rfl
      rw [writ_none hz, HTI.out] at HQ
      clear hz
      obtain ⟨⟨s1, s2⟩, s3, s4, s5⟩ := HO2.out.a.st4
      go_wp2
      refine bodyPost_ret (results_cell_row rfl _ _ ab 33 _ (0, 0) _ rfl (HO2.out.a.pt4 _ _ _ _) Tryz.underlying33 rfl sizeAns) rfl ?_
      exact HO2.out.fin0 (q := ⟨0, (o.data.size : Nat), noB, []⟩) HQ.out rfl HO2.out.same
    have ft : (o.data.toList == []) = false := by
      have h9 : o.data.toList ≠ [] := fun e => hz (by
        have h8 : o.data = ⟨#[]⟩ := toList_inj (e.trans (by simp [ByteArray.toList_eq]))
        rw [h8]; rfl)
      simpa using h9
    have ft2 : (o.data.toList != []) = true := by rw [bne, ft]; rfl
    obtain ⟨z, hzz⟩ : ∃ z, z = of + o.data.size - TX.size := ⟨_, rfl⟩
    have hwi := writ_is (s := TX) hz hzz
    rw [← hwi] at HQ
    have hmx : max ((of : Int) + (o.data.size : Int) - (TX.size : Int)) 0 = (z : Int) := by omega
    have HZ : Hid (z ≤ 40000) := by show _ ≤ _; omega
    have hos : (TX ++ zerosB z).size = TX.size + z := by rw [ByteArray.size_append, zeros_size]
    have x1 : (of : Int) + (o.data.size : Int) ≤ ((TX ++ zerosB z).size : Int) := by omega
    have x2 : of + o.data.size ≤ (TX ++ zerosB z).size := by omega
    have x0 : (of : Int) ≤ ((TX ++ zerosB z).size : Int) := by omega
    have x3 : of ≤ (TX ++ zerosB z).size := by omega
    have xz : (TX ++ zerosB z).size ≤ 60000 := by have h1 := HSM.out; have h2 := HZ.out; omega
    have hcz : (TX.size : Int) + ((zerosB z).size : Int) ≤ 100000 := by rw [zeros_size]; have := HSM.out; have := HZ.out; omega
    have hcz2 : (9223372036854775807 < TX.size + (zerosB z).size) = False := eq_false (by rw [zeros_size]; have := HSM.out; have := HZ.out; omega)
    have b3 : TX.size ≤ 16384 := HSM.out
    have HZS := Lib.hid (zeros_any z (by have := HZ.out; omega) w2)
    have hz0 : 0 < o.data.size := by omega
    clear hwi hz hzz hos
    go_wp2_with fail
    refine HZS.out.mono ?_
    rintro e w3 ⟨rfl, hb⟩
    have HO3 := Lib.hid (HO2.out.keep hb)
    clear hb HZS c0 c3 c4 c5 t0 m1 m2 mf HO2
    have c3 : w3.cell? ⟨ob, 3, none⟩ = some (.int .i64 of) := HO3.out.j.x.cell 3 _ (by rw [← HOF.out]; rfl)
    have c5 : w3.cell? ⟨ob, 5, none⟩ = some (.string o.data) := HO3.out.j.x.cell 5 _ rfl
    have t0 : w3.cell? ⟨p.b, 1, none⟩ = some (.slice (some ⟨g, 0, none⟩) G.T.length tc) := by rw [← HTV.out]; exact HO3.out.j.r.box.cell 1 _ rfl
    have htg := HO3.out.j.r.t
    rw [HTV.out] at htg
    obtain ⟨g', hg', -, -, m2, -, mf⟩ := htg.at HNL.out
    injection hg' with hg'
    injection hg' with hg'
    subst hg'
    clear htg
    go_wp2_with fail
    have HST := Lib.hid (HO3.out.drew.j.r.setT HTV.out HNL.out (((TX ++ zerosB z).extract 0 of ++ o.data) ++ (TX ++ zerosB z).extract (of + o.data.size) (TX ++ zerosB z).size))
    generalize TX ++ zerosB z = X at *
    obtain ⟨j, hj⟩ : ∃ j, j = of + o.data.size := ⟨_, rfl⟩
    rw [← hj] at HST HQ
    have hwr : IntKind.i64.wrap ((of : Int) + (o.data.size : Int)) = (j : Int) := by rw [IntKind.wrap_i64, hj]; omega
    have j1 : (j : Int) ≤ (X.size : Int) := by omega
    have j2 : j ≤ X.size := by omega
    have j3 : (0 : Int) ≤ (j : Int) := by omega
    have j0 : (0 : Int) ≤ (of : Int) := by omega
    have p0 : (9223372036854775807 < of + o.data.size) = False := eq_false (by omega)
    have p3 : (9223372036854775807 < of + o.data.size + (X.size - j)) = False := eq_false (by omega)
    have p1 : (9223372036854775807 < min of X.size + o.data.size) = False := eq_false (by omega)
    have p2 : (9223372036854775807 < min of X.size + o.data.size + (X.size - j)) = False := eq_false (by omega)
    have HO4 := Lib.hid HO3.out.drew
    have t4 : w3.drew.cell? ⟨p.b, 1, none⟩ = some (.slice (some ⟨g, 0, none⟩) G.T.length tc) := t0
    have k3 : w3.drew.cell? ⟨ob, 3, none⟩ = some (.int .i64 of) := c3
    have k5 : w3.drew.cell? ⟨ob, 5, none⟩ = some (.string o.data) := c5
    have m5 : w3.drew.cell? ⟨g, n * 2 + 1, none⟩ = some (.string G.T[n].text) := m2
    have mf5 : w3.drew.frozen? ⟨g, n * 2 + 1, none⟩ = false := mf
    clear hj c3 c5 t0 m2 mf HO3 hmx hcz hcz2 b1 b2 b3 x1 x2 xz
    refine wp_region_tree (fun W => W.cell? ⟨p.b, 1, none⟩ = some (.slice (some ⟨g, 0, none⟩) G.T.length tc) ∧ W.cell? ⟨ob, 3, none⟩ = some (.int .i64 of) ∧ W.cell? ⟨ob, 5, none⟩ = some (.string o.data)) 21 (.quiet 0 (.quiet 1 (.quiet 2 (.quiet 3 (.quiet 4 (.quiet 5 (.quiet 6 (.quiet 7 (.quiet 8 (.quiet 9 (.quiet 10 (.quiet 11 (.quiet 12 (.quiet 13 (.quiet 14 (.quiet 15 (.quiet 16 (.quiet 17 (.quiet 18 (.quiet 19 (.quiet 20 .nil))))))))))))))))))))) (by kernel_rfl) (by kernel_rfl) ⟨t4, k3, k5⟩ ?_
    simp only [List.drop_succ_cons, List.drop_zero]
    generalize w3.drew = w5 at *
    iterate 21 (apply wpTr_step rfl; (intro W hS K hK; obtain ⟨u0, u1, u2⟩ := hS; go_simp; exact hK _ rfl))
    refine wpTr_nil ?_
    have HA6 : Hid (Box (w5.setCell ⟨g, n * 2 + 1, none⟩ (.string ((X.extract 0 of ++ o.data) ++ X.extract j X.size))) ab 33 _) := HO4.out.a.of ((rm_chg w5 g (n * 2 + 1) _).block ab HO4.out.a.lt (fun hm => by
      rw [List.mem_singleton] at hm
      refine HO4.out.far (fp_mem.2 (.inr (.inr ?_)))
      rw [HTV.out, hm]
      rfl))
    have HX6 : Hid (Box (w5.setCell ⟨g, n * 2 + 1, none⟩ (.string ((X.extract 0 of ++ o.data) ++ X.extract j X.size))) ob 36 _) := HO4.out.j.x.of ((rm_chg w5 g (n * 2 + 1) _).block ob HO4.out.j.x.lt (fun hm => by
      rw [List.mem_singleton] at hm
      have h1 := HO4.out.j.f g (fp_mem.2 (.inr (.inr (by rw [HTV.out]; rfl))))
      have h2 := HO4.out.j.l
      omega))
    have k6 : (w5.setCell ⟨g, n * 2 + 1, none⟩ (.string ((X.extract 0 of ++ o.data) ++ X.extract j X.size))).cell? ⟨ob, 5, none⟩ = some (.string o.data) := HX6.out.cell 5 _ rfl
    obtain ⟨⟨s1, s2⟩, s3, s4, s5⟩ := HA6.out.st4
    go_wp2
    refine bodyPost_ret (results_cell_row rfl _ _ ab 33 _ (0, 0) _ rfl (HA6.out.pt4 _ _ _ _) Tryz.underlying33 rfl sizeAns) rfl ?_
    exact HO4.out.fin0 (q := ⟨0, (o.data.size : Nat), noB, []⟩) HQ.out rfl HST.out
  · have HQ : Hid (R = fileG G o.path fun n => if o.len < 0 then (noA 1, G) else if 16384 < o.len then (noA 13, G) else (noA 0, textSet G n (sizedB (textG G n) o.len.toNat))) := by
      show _ = _
      rw [HR.out]
      unfold doG
      rw [if_neg (by omega), if_neg (by omega), if_neg (by omega), if_neg (by omega), if_neg (by omega), if_neg (by omega), if_neg (by omega), if_neg (by omega), if_pos h3]
    rw [file_eq] at HQ
    have g0 : (o.do_ != 8) = false := by rw [h3]; rfl
    have g1 : (o.do_ != 7) = true := by rw [h3]; rfl
    have g2 : (o.do_ == 6) = false := by rw [h3]; rfl
    have g3 : (o.do_ == 7) = false := by rw [h3]; rfl
    have g4 : (o.do_ == 8) = true := by rw [h3]; rfl
    clear h3 HR
    have c1 := HO.out.j.x.cell 1 _ rfl
    obtain ⟨ob, hob⟩ : ∃ ob, ob = w.heap.size := ⟨_, rfl⟩
    obtain ⟨ab, hab⟩ : ∃ ab, ab = w.heap.size + 1 := ⟨_, rfl⟩
    rw [← hab, ← hob] at HO
    go_wp2_with fail
    rw [← hab, ← hob]
    clear hob hab c1
    generalize World.alloc (World.alloc w _) _ = w1 at *
    refine (rleads_any p G w1 HO.out.j.r HW.out (by have := HK.out; omega) o.path (by have := HP.out; omega)).mono ?_
    rintro e w2 ⟨rfl, hb⟩
    have HO2 := Lib.hid (HO.out.keep hb)
    have HAT : Hid ((leadG G o.path).2 = 0 → (splitD o.path).2 = 0 ∧ atE G (splitD o.path).1 = some (leadG G o.path).1) := leadG_at
    clear hb HO
    obtain ⟨LD, hLD⟩ : ∃ x, x = leadG G o.path := ⟨_, rfl⟩
    rw [← hLD] at HQ HAT ⊢
    clear hLD
    obtain ⟨n, er⟩ := LD
    dsimp only at *
    by_cases h1 : er = 0
    case neg =>
      have HQ2 : Hid (R = (noA er, G)) := HQ.out.trans (if_pos h1)
      have f1 : (er != 0) = true := by simpa using h1
      clear h1
      obtain ⟨⟨s1, s2⟩, s3, s4, s5⟩ := HO2.out.a.st4
      go_wp2
      refine bodyPost_ret (results_cell_row rfl _ _ ab 33 _ (0, 0) _ rfl (HO2.out.a.pt4 _ _ _ _) Tryz.underlying33 rfl sizeAns) rfl ?_
      exact HO2.out.fin0 HQ2.out rfl HO2.out.same
    subst h1
    have HQ := Lib.hid (HQ.out.trans (if_neg (fun e => e rfl)))
    have HSP := Lib.hid (HAT.out rfl).1
    have hnl := at_lt HW.out (HAT.out rfl).2
    have t0 : w2.cell? ⟨p.b, 1, none⟩ = some p.tv := HO2.out.j.r.box.cell 1 _ rfl
    obtain ⟨ta, tc, htv⟩ := HO2.out.j.r.t.shape
    rw [htv] at t0
    have HTG : Hid (Tgs w2 (.slice ta G.T.length tc) G.T) := by have := HO2.out.j.r.t; rw [htv] at this; exact this
    obtain ⟨g, rfl, hgl, m0, mt0, -, mf⟩ := HTG.out.at hnl
    have HGL : Hid (g < w2.heap.size) := hgl
    have m1 : w2.cell? ⟨g, n * 2, none⟩ = some (.bool (dirG G n)) := by rw [dir_at hnl]; exact m0
    have m2 : w2.cell? ⟨g, n * 2 + 1, none⟩ = some (.string (textG G n)) := by rw [text_at hnl]; exact mt0
    have n0 : (0 : Int) ≤ (n : Int) := by omega
    have n1 : (n : Int) < (G.T.length : Int) := by omega
    clear m0 mt0
    by_cases hd : dirG G n = true
    · have HQ3 : Hid (R = (noA 10, G)) := HQ.out.trans (if_pos hd)
      rw [hd] at m1
      clear hd
      obtain ⟨⟨s1, s2⟩, s3, s4, s5⟩ := HO2.out.a.st4
      go_wp2
      refine bodyPost_ret (results_cell_row rfl _ _ ab 33 _ (0, 0) _ rfl (HO2.out.a.pt4 _ _ _ _) Tryz.underlying33 rfl sizeAns) rfl ?_
      exact HO2.out.fin0 HQ3.out rfl HO2.out.same
    have HQ := Lib.hid (HQ.out.trans (if_neg hd))
    have hd : dirG G n = false := by simpa using hd
    rw [hd] at m1
    have c0 : w2.cell? ⟨ob, 0, none⟩ = some (.int .i64 o.do_) := HO2.out.j.x.cell 0 _ rfl
    have c3 : w2.cell? ⟨ob, 3, none⟩ = some (.int .i64 o.off) := HO2.out.j.x.cell 3 _ rfl
    have c4 : w2.cell? ⟨ob, 4, none⟩ = some (.int .i64 o.len) := HO2.out.j.x.cell 4 _ rfl
    have c5 : w2.cell? ⟨ob, 5, none⟩ = some (.string o.data) := HO2.out.j.x.cell 5 _ rfl
    have HSM : Hid ((textG G n).size ≤ 16384) := HW.out.small n
    have HNL : Hid (n < G.T.length) := hnl
    have HTV : Hid (p.tv = .slice (some ⟨g, 0, none⟩) G.T.length tc) := htv
    have HTI : Hid (textSet G n (textG G n) = G) := text_id hnl
    clear hd hnl htv hgl HTG
    generalize hTX : textG G n = TX at *
    by_cases hl : o.len < 0
    · have HQ3 : Hid (R = (noA 1, G)) := HQ.out.trans (if_pos hl)
      have n4 : (o.len < 0) = True := eq_true hl
      clear hl
      obtain ⟨⟨s1, s2⟩, s3, s4, s5⟩ := HO2.out.a.st4
      go_wp2
      refine bodyPost_ret (results_cell_row rfl _ _ ab 33 _ (0, 0) _ rfl (HO2.out.a.pt4 _ _ _ _) Tryz.underlying33 rfl sizeAns) rfl ?_
      exact HO2.out.fin0 HQ3.out rfl HO2.out.same
    have HQ := Lib.hid (HQ.out.trans (if_neg hl))
    by_cases hb : 16384 < o.len
    · have HQ3 : Hid (R = (noA 13, G)) := HQ.out.trans (if_pos hb)
      have n4 : (o.len < 0) = False := eq_false hl
      have n5 : (16384 < o.len) = True := eq_true hb
      clear hl hb
      obtain ⟨⟨s1, s2⟩, s3, s4, s5⟩ := HO2.out.a.st4
      go_wp2
      refine bodyPost_ret (results_cell_row rfl _ _ ab 33 _ (0, 0) _ rfl (HO2.out.a.pt4 _ _ _ _) Tryz.underlying33 rfl sizeAns) rfl ?_
      exact HO2.out.fin0 HQ3.out rfl HO2.out.same
    have HQ := Lib.hid (HQ.out.trans (if_neg hb))
    obtain ⟨ln, hln⟩ : ∃ ln : Nat, o.len = (ln : Int) := ⟨o.len.toNat, by omega⟩
    rw [hln, Int.toNat_natCast] at HQ
    rw [hln] at c4 hl hb
    have n4 : ((ln : Int) < 0) = False := eq_false (by omega)
    have n5 : (16384 < (ln : Int)) = False := eq_false hb
    have n6 : (16384 < ln) = False := eq_false (by omega)
    have HLN : Hid (ln ≤ 16384) := by show _ ≤ _; omega
    have hsz := sized_is TX ln
    rw [← hsz] at HQ
    have hos : (TX ++ zerosB ln).size = TX.size + ln := by rw [ByteArray.size_append, zeros_size]
    clear hsz hl hb hln
    go_wp2_with fail
    have HO4 := Lib.hid HO2.out.drew
    have t4 : w2.drew.cell? ⟨p.b, 1, none⟩ = some (.slice (some ⟨g, 0, none⟩) G.T.length tc) := t0
    have k4 : w2.drew.cell? ⟨ob, 4, none⟩ = some (.int .i64 ln) := c4
    have HMG : Hid (w2.drew.cell? ⟨g, n * 2 + 1, none⟩ = some (.string TX) ∧ w2.drew.frozen? ⟨g, n * 2 + 1, none⟩ = false ∧ g < w2.drew.heap.size) := ⟨m2, mf, HGL.out⟩
    clear t0 c0 c3 c4 c5 m1 m2 mf HO2
    refine wp_region_tree (fun W => W.cell? ⟨p.b, 1, none⟩ = some (.slice (some ⟨g, 0, none⟩) G.T.length tc) ∧ W.cell? ⟨ob, 4, none⟩ = some (.int .i64 ln)) 13 (.quiet 0 (.quiet 1 (.quiet 2 (.quiet 3 (.quiet 4 (.quiet 5 (.quiet 6 (.quiet 7 (.quiet 10 (.quiet 11 (.make 8 (.quiet 9 (.quiet 12 .nil))))))))))))) (by kernel_rfl) (by kernel_rfl) ⟨t4, k4⟩ ?_
    simp only [List.drop_succ_cons, List.drop_zero]
    generalize w2.drew = w3 at *
    iterate 10 (apply wpTr_step rfl; (intro W hS K hK; obtain ⟨u0, u1⟩ := hS; go_simp; exact hK _ rfl))
    refine wpTr_make rfl (fun K' hK => ?_)
    go_simp
    refine (zeros_any ln (by have := HLN.out; omega) w3).mono ?_
    rintro e w5 ⟨rfl, hb⟩
    have HO5 := Lib.hid (HO4.out.keep hb)
    have t5 : w5.cell? ⟨p.b, 1, none⟩ = some (.slice (some ⟨g, 0, none⟩) G.T.length tc) := (hb.cell (p := ⟨p.b, 1, none⟩) HO4.out.j.r.box.lt).trans t4
    have k5 : w5.cell? ⟨ob, 4, none⟩ = some (.int .i64 ln) := (hb.cell (p := ⟨ob, 4, none⟩) HO4.out.j.x.lt).trans k4
    have m5 : w5.cell? ⟨g, n * 2 + 1, none⟩ = some (.string TX) := (hb.cell (p := ⟨g, n * 2 + 1, none⟩) HMG.out.2.2).trans HMG.out.1
    have mf5 : w5.frozen? ⟨g, n * 2 + 1, none⟩ = false := by
      have ht := HO5.out.j.r.t
      rw [HTV.out] at ht
      exact World.ownsRow.frozenAt ht _
    refine hK _ _ _ (fun _ h => h) ⟨t5, k5⟩ ?_
    clear hK K' t4 k4 hb HMG
    have hcz : (TX.size : Int) + ((zerosB ln).size : Int) ≤ 100000 := by rw [zeros_size]; have := HSM.out; have := HLN.out; omega
    have hcz2 : (9223372036854775807 < TX.size + (zerosB ln).size) = False := eq_false (by rw [zeros_size]; have := HSM.out; have := HLN.out; omega)
    iterate 1 (apply wpTr_step rfl; (intro W hS K hK; obtain ⟨u0, u1⟩ := hS; go_simp; exact hK _ rfl))
    have HST := Lib.hid (HO5.out.j.r.setT HTV.out HNL.out ((TX ++ zerosB ln).extract 0 ln))
    generalize TX ++ zerosB ln = X at *
    have x1 : (ln : Int) ≤ (X.size : Int) := by omega
    have x2 : ln ≤ X.size := by omega
    clear hos
    iterate 1 (apply wpTr_step rfl; (intro W hS K hK; obtain ⟨u0, u1⟩ := hS; go_simp; exact hK _ rfl))
    refine wpTr_nil ?_
    have HA6 : Hid (Box (w5.setCell ⟨g, n * 2 + 1, none⟩ (.string (X.extract 0 ln))) ab 33 _) := HO5.out.a.of ((rm_chg w5 g (n * 2 + 1) _).block ab HO5.out.a.lt (fun hm => by
      rw [List.mem_singleton] at hm
      refine HO5.out.far (fp_mem.2 (.inr (.inr ?_)))
      rw [HTV.out, hm]
      rfl))
    obtain ⟨⟨s1, s2⟩, s3, s4, s5⟩ := HA6.out.st4
    go_wp2
    refine bodyPost_ret (results_cell_row rfl _ _ ab 33 _ (0, 0) _ rfl (HA6.out.pt4 _ _ _ _) Tryz.underlying33 rfl sizeAns) rfl ?_
    exact HO5.out.fin0 HQ.out rfl HST.out
end Go.Proofs.YteimpebfenpifaaGreatDoor
