/-
  Package model: free, spot.
-/
import Derived.Test.YteimpebfenpifaaGreatDoorMoD
namespace Go.Proofs.YteimpebfenpifaaGreatDoor
open Go.RowKit Go.ChangeShapes Go.WideShapes Go.ChangeAt

/-- What free answers. -/
def FreeR (x : TrD) (w : World) (q : Int × ByteArray × Int) (e : Ending) (w' : World) : Prop :=
  Below w.heap.size w w' ∧ ((q.2.2 ≠ 0 ∧ e = .returned (.tuple #[spotV none noB, .int .i64 q.2.2])) ∨
    (q.2.2 = 0 ∧ ∃ r me, findL x.rows q.1 = some r ∧ r.em = some me ∧ e = .returned (.tuple #[spotV (some me) q.2.1, .int .i64 0])))
theorem FreeR.no {x : TrD} {w w' : World} {R : Int × ByteArray × Int} {e : Int} (h : R = (0, noB, e)) (h0 : e ≠ 0) (hb : Below w.heap.size w w') : FreeR x w R (.returned (.tuple #[.agg #[.map none, .string ⟨#[]⟩], .int .i64 e])) w' := by
  subst h
  exact ⟨hb, .inl ⟨h0, rfl⟩⟩
theorem parD_len (p : ByteArray) (h : (parD p).e = 0) : (parD p).p.size ≤ p.size := by
  by_cases hs : (splitD p).2 = 0
  · by_cases hr : (splitD p).1 = []
    · rw [parD_root hs hr] at h; cases h
    · rw [parD_ok hs hr]
      have := join_front (splitD p).1
      rw [join_split hs] at this
      exact this
  · rw [parD_err hs] at h; exact absurd h hs
theorem parD_name (p : ByteArray) (h : (parD p).e = 0) : nameD (parD p).n := by
  by_cases hs : (splitD p).2 = 0
  · by_cases hr : (splitD p).1 = []
    · rw [parD_root hs hr] at h; cases h
    · rw [parD_ok hs hr]
      refine names_ok hs _ ?_
      dsimp only
      rcases List.eq_nil_or_concat (splitD p).1 with e | ⟨l, c, e⟩
      · exact absurd e hr
      · rw [e]; simp
  · rw [parD_err hs] at h; exact absurd h hs
theorem Rel.dirT {M : MoD} {G : GD} {k : Nat} (h : Rel M G k) {p : ByteArray} (h0 : (dirM M p).2 = 0) : ∃ t, findL M.l (dirM M p).1 = some t ∧ t.dir = true := by
  unfold dirM at h0 ⊢
  by_cases hz : (leadM M p).2 = 0
  · obtain ⟨t, ht⟩ := h.leadT hz
    have hdo : dirOf M (leadM M p).1 = t.dir := by unfold dirOf; rw [ht]
    by_cases hd : dirOf M (leadM M p).1 = false
    · rw [if_pos ⟨hz, hd⟩] at h0; cases h0
    · rw [if_neg (fun q => hd q.2)]
      exact ⟨t, ht, by rw [← hdo]; simpa using hd⟩
  · rw [if_neg (fun q => hz q.1)] at h0; exact absurd h0 hz
section
variable {x : TrD} {G : GD} {k : Nat} {w : World} (h : TrAt w x) (hr : Rel x.M G k) (hk : k ≤ 1000000)
include h hr hk
set_option maxRecDepth 100000 in
set_option maxHeartbeats 4000000 in
theorem free_any (p : ByteArray) (hp : p.size ≤ 100000) : Calls Tryz.prog 70 #[.pointer (some ⟨x.b, 0, none⟩), .string p] w (FreeR x w (freeM x.M p)) := by
  obtain ⟨R, hR⟩ : ∃ R, R = freeM x.M p := ⟨_, rfl⟩
  rw [← hR]
  have HP := Lib.hid hp
  have HT := Lib.hid h
  have HX := Lib.hid hr
  have HK := Lib.hid hk
  obtain ⟨g, hg⟩ : ∃ g, g = w.heap.size := ⟨_, rfl⟩
  have HG := Lib.hid hg
  by_cases h0 : p = rootB
  · have HR : Hid (R = (0, noB, 9)) := by unfold freeM at hR; rw [if_pos h0] at hR; exact hR
    have hq : (p.toList == [47]) = true := by rw [h0]; decide +kernel
    have hb := Box.new w 106 #[.map none, .string ⟨#[]⟩]
    have HB := Lib.hid hb
    clear h0 hR hb h hr hk hp hg
    go_enter Tryz.func70, Tryz.ntmps70
    go_wp2
    refine bodyPost_ret (results_cellT rfl _ _ w.heap.size 106 _ (0, 0) _ rfl HB.out Tryz.underlying106 rfl sizeSpot) rfl ?_
    exact FreeR.no HR.out (by decide) ((Below.refl _ _).alloc (Nat.le_refl _) _)
  · have hq : (p.toList == [47]) = false := by
      rw [beq_eq_false_iff_ne, ByteArray.toList_eq]
      intro e
      exact h0 (pb_ext (by rw [show pb p = [47] from e]; rfl))
    have hR1 : R = if (parD p).e ≠ 0 then (0, noB, (parD p).e) else if (dirM x.M (parD p).p).2 ≠ 0 then (0, noB, (dirM x.M (parD p).p).2) else
        if (findL (entsOf x.M (dirM x.M (parD p).p).1) (parD p).n).isSome = true then (0, noB, 9) else ((dirM x.M (parD p).p).1, (parD p).n, 0) := by
      unfold freeM at hR; rw [if_neg h0] at hR; exact hR
    have hpl := parD_len p
    have hpn := parD_name p
    have HPA := Lib.hid (fun W => parent_any p hp W)
    generalize parD p = D at *
    obtain ⟨dp, dn, de⟩ := D
    dsimp only at hR1 hpl hpn
    have HPL := Lib.hid (fun q => Nat.le_trans (hpl q) hp)
    have HPN := Lib.hid hpn
    have HR1 := Lib.hid hR1
    have HW0 := Lib.hid ((Below.refl w.heap.size w).alloc (Nat.le_refl _) (.cells #[.map none, .string ⟨#[]⟩] 106 (0, 0)))
    have HB0 := Lib.hid (Box.new w 106 #[.map none, .string ⟨#[]⟩])
    have HS0 : Hid (g < (w.alloc (.cells #[.map none, .string ⟨#[]⟩] 106 (0, 0))).heap.size) := by show _ < _; rw [size_alloc]; omega
    have HT0 := Lib.hid (h.keep HW0.out)
    clear h0 hR hR1 hpl hpn h hr hk hp
    go_enter Tryz.func70, Tryz.ntmps70
    go_wp2_with fail
    rw [← hg] at HB0 HW0 ⊢
    clear hg
    generalize World.alloc w _ = w0 at *
    refine (HPA.out _).mono ?_
    rintro e1 w1 ⟨rfl, hb⟩
    unfold parV
    have HB1 := Lib.hid (HB0.out.keep hb HS0.out)
    have HW1 := Lib.hid (HW0.out.trans (hb.mono (Nat.le_of_lt HS0.out)))
    have HT1 := Lib.hid (HT0.out.keep hb)
    have HS1 : Hid (g < w1.heap.size) := Nat.lt_of_lt_of_le HS0.out hb.size
    clear hb HB0 HW0 HT0 HS0 HPA
    by_cases he : de = 0
    · subst he
      have hR1 := HR1.out
      rw [if_neg (fun e => e rfl)] at hR1
      have HR2 := Lib.hid hR1
      clear hR1 HR1
      have HN := Lib.hid (HPN.out rfl)
      have HPZ := Lib.hid (HPL.out rfl)
      clear HPN HPL
      have HDT := Lib.hid (fun q => HX.out.dirT (p := dp) q)
      have HDA := Lib.hid (directory_any HT1.out HX.out HK.out dp HPZ.out)
      generalize dirM x.M dp = D at *
      obtain ⟨d, e⟩ := D
      go_wp2_with fail
      refine HDA.out.mono ?_
      rintro e1 w2 ⟨rfl, hb⟩
      have HB2 := Lib.hid (HB1.out.keep hb HS1.out)
      have HW2 := Lib.hid (HW1.out.trans (hb.mono (Nat.le_of_lt HS1.out)))
      have HT2 := Lib.hid (HT1.out.keep hb)
      have HS2 : Hid (g < w2.heap.size) := Nat.lt_of_lt_of_le HS1.out hb.size
      clear hb HB1 HW1 HT1 HS1 HDA
      have hR1 := HR2.out
      obtain ⟨s1, s2, s3⟩ := HB2.out.st2
      by_cases hz : e = 0
      · subst hz
        rw [if_neg (fun e => e rfl)] at hR1
        obtain ⟨t, ht, htd⟩ := HDT.out rfl
        obtain ⟨r, hrr, hrt⟩ := TrD.row ht
        have heo : entsOf x.M d = t.ents := by unfold entsOf; rw [ht]
        rw [heo] at hR1
        have hnb := HX.out.numB ht
        have hkk := HK.out
        have HRR := Lib.hid hrr
        have HRA := Lib.hid (HT2.out.at_ hrr)
        obtain ⟨me, hme, hma⟩ := HRA.out.dirBox (by rw [hrt, htd])
        have HME := Lib.hid hme
        rw [hrt] at hma
        have t0 : w2.cell? ⟨x.b, 0, none⟩ = some (.map (some x.m)) := HT2.out.box.cell 0 _ rfl
        have d1 : w2.cell? ⟨r.p, 1, none⟩ = some (.map (some me)) := by rw [← hme]; exact HRA.out.1.cell 1 _ rfl
        have lk1 := HT2.out.look hrr hnb.1 (by omega)
        have lk2 := EmAt.look hma (name_len HN.out)
        clear ht hrr hrt heo hnb hkk hme hma htd
        cases hf : findL t.ents dn with
        | some j =>
          rw [hf] at hR1 lk2
          have HR : Hid (R = (0, noB, 9)) := hR1
          clear hR1 hf HR2
          go_wp2
          refine bodyPost_ret (results_cellT rfl _ _ g 106 _ (0, 0) _ rfl (HB2.out.pt2 _ _) Tryz.underlying106 rfl sizeSpot) rfl ?_
          exact FreeR.no HR.out (by decide) (by rw [← HG.out]; exact HW2.out.trans ((only_pt2 w2 g (.map none) (.string ⟨#[]⟩)).below' (Nat.le_refl _) (Nat.le_of_lt HS2.out)))
        | none =>
          rw [hf] at hR1 lk2
          have HR : Hid (R = (d, dn, 0)) := hR1
          clear hR1 hf HR2
          go_wp2
          refine bodyPost_ret (results_cellT rfl _ _ g 106 _ (0, 0) _ rfl (HB2.out.pt2 _ _) Tryz.underlying106 rfl sizeSpot) rfl ?_
          refine ⟨(by rw [← HG.out]; exact HW2.out.trans ((only_pt2 w2 g (.map (some me)) (.string dn)).below' (Nat.le_refl _) (Nat.le_of_lt HS2.out))), .inr ?_⟩
          rw [HR.out]
          exact ⟨rfl, r, me, HRR.out, HME.out, rfl⟩
      · rw [if_pos hz] at hR1
        have HR := Lib.hid hR1
        have hz2 : (e != 0) = true := by simpa using hz
        have HZ := Lib.hid hz
        clear hz hR1 HR2
        go_wp2
        refine bodyPost_ret (results_cellT rfl _ _ g 106 _ (0, 0) _ rfl (HB2.out.pt2 _ _) Tryz.underlying106 rfl sizeSpot) rfl ?_
        exact FreeR.no HR.out HZ.out (by rw [← HG.out]; exact HW2.out.trans ((only_pt2 w2 g (.map none) (.string ⟨#[]⟩)).below' (Nat.le_refl _) (Nat.le_of_lt HS2.out)))
    · have HR : Hid (R = (0, noB, de)) := by have h9 := HR1.out; rw [if_pos he] at h9; exact h9
      have hz2 : (de != 0) = true := by simpa using he
      have HZ := Lib.hid he
      obtain ⟨s1, s2, s3⟩ := HB1.out.st2
      clear he
      go_wp2
      refine bodyPost_ret (results_cellT rfl _ _ g 106 _ (0, 0) _ rfl (HB1.out.pt2 _ _) Tryz.underlying106 rfl sizeSpot) rfl ?_
      exact FreeR.no HR.out HZ.out (by rw [← HG.out]; exact HW1.out.trans ((only_pt2 w1 g (.map none) (.string ⟨#[]⟩)).below' (Nat.le_refl _) (Nat.le_of_lt HS1.out)))
end
end Go.Proofs.YteimpebfenpifaaGreatDoor
