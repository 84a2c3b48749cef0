/-
  Package model: read.
-/
import Derived.Test.YteimpebfenpifaaGreatDoorMoQ
namespace Go.Proofs.YteimpebfenpifaaGreatDoor
open Go Go.RowKit Go.ChangeShapes Go.WideShapes Go.ChangeAt

theorem cutB_pb (s : ByteArray) (f m : Nat) : pb (cutB s f m) = ((pb s).drop f).take m := pb_mk _
theorem cut_q (s : ByteArray) (f m : Nat) : (s.extract (min (f : Int) (s.size : Int)).toNat s.size).extract 0 (min (m : Int) ((s.size - (min (f : Int) (s.size : Int)).toNat : Nat) : Int)).toNat = cutB s f m := by
  have h1 : (min (f : Int) (s.size : Int)).toNat = min f s.size := by omega
  rw [h1]
  have h2 : (min (m : Int) ((s.size - min f s.size : Nat) : Int)).toNat = min m (s.size - min f s.size) := by omega
  rw [h2]
  refine pb_ext ?_
  rw [pb_cut, pb_cut]
  rw [cutB_pb, List.drop_zero, Nat.sub_zero]
  have e : (pb s).length = s.size := pb_size s
  rw [List.take_of_length_le (l := List.drop (min f s.size) (pb s)) (by rw [List.length_drop, e]; exact Nat.le_refl _)]
  by_cases h : f ≤ s.size
  · rw [Nat.min_eq_left h]
    by_cases h3 : m ≤ s.size - f
    · rw [Nat.min_eq_left h3]
    · rw [Nat.min_eq_right (by omega), List.take_of_length_le (by rw [List.length_drop, e]; omega), List.take_of_length_le (by rw [List.length_drop, e]; omega)]
  · rw [Nat.min_eq_right (by omega), List.drop_of_length_le (by omega), List.drop_of_length_le (by omega), List.take_nil, List.take_nil]
theorem cut_n (s : ByteArray) (f m : Nat) : min (min (m : Int) ((s.size - (min (f : Int) (s.size : Int)).toNat : Nat) : Int)).toNat (s.size - (min (f : Int) (s.size : Int)).toNat) = (cutB s f m).size := by
  rw [← cut_q, ByteArray.size_extract, ByteArray.size_extract]
  omega

section
variable {x : TrD} {G : GD} {k : Nat} {w : World} (h : TrAt w x) (hr : Rel x.M G k) (hk : k ≤ 1000000)
include h hr hk
set_option maxRecDepth 100000 in
set_option maxHeartbeats 4000000 in
theorem read_any (o : OpD) (ho : o.do_ = 6) (hp : o.path.size ≤ 100000) : Calls Tryz.prog 50 #[.pointer (some ⟨x.b, 0, none⟩), opV o] w (OpRes x k w (doG G o)) := by
  obtain ⟨R, hR⟩ : ∃ R, R = doG G o := ⟨_, rfl⟩
  rw [← hR]
  have HR : Hid (R = fileG G o.path fun n => if o.off < 0 ∨ o.len < 0 then (noA 1, G) else (⟨0, ((cutB (textG G n) o.off.toNat o.len.toNat).size : Nat), cutB (textG G n) o.off.toNat o.len.toNat, []⟩, G)) := by
    show R = _
    rw [hR]
    unfold doG
    simp only [ho]
    rfl
  have HT0 := Lib.hid h
  have HX := Lib.hid hr
  have HK := Lib.hid hk
  have HP := Lib.hid hp
  have HBL : Hid (∀ j ∈ x.blocks, j < w.heap.size) := h.lt
  have HF1 : Hid (Fr w w.heap.size (w.heap.size + 1) o ((w.alloc (.cells #[.int .i64 o.do_, .string o.path, .string o.dst, .int .i64 o.off, .int .i64 o.len, .string o.data] 36 (0, 0))).alloc (.cells #[.int .i64 0, .int .i64 0, .string ⟨#[]⟩, .slice none 0 0] 33 (0, 0)))) := Fr.new w o
  have HT1 := Lib.hid (h.keep HF1.out.toW)
  have c1 : ((w.alloc (.cells #[.int .i64 o.do_, .string o.path, .string o.dst, .int .i64 o.off, .int .i64 o.len, .string o.data] 36 (0, 0))).alloc (.cells #[.int .i64 0, .int .i64 0, .string ⟨#[]⟩, .slice none 0 0] 33 (0, 0))).cell? ⟨w.heap.size, 1, none⟩ = some (.string o.path) := HF1.out.bo.cell 1 _ rfl
  obtain ⟨g, hg⟩ : ∃ g, g = w.heap.size := ⟨_, rfl⟩
  obtain ⟨a, ha⟩ : ∃ a, a = w.heap.size + 1 := ⟨_, rfl⟩
  rw [← ha, ← hg] at HF1
  have HGW := Lib.hid hg
  clear h hr hk hp ho hR
  have HFA := Lib.hid (fun W (q : TrAt W x) => file_any q HX.out HK.out o.path HP.out)
  unfold opV
  go_enter Tryz.func50, Tryz.ntmps50
  go_wp2_with fail
  rw [← ha, ← hg]
  clear ha hg c1
  generalize World.alloc (World.alloc w _) _ = w1 at *
  refine (HFA.out _ HT1.out).mono ?_
  rintro e1 w2 ⟨rfl, hb⟩
  have HF2 := Lib.hid (HF1.out.keep hb)
  have HT2 := Lib.hid (HT1.out.keep hb)
  clear hb HF1 HT1 HFA
  rcases file_cases HX.out o.path with ⟨n, e, hfe, hne, hK⟩ | ⟨n, t, hfe, hsp, hat, hft, hfd, hK⟩
  · rw [hfe]
    have HQ : Hid (R = (noA e, G)) := HR.out.trans (hK _)
    have hz : (e != 0) = true := by simpa using hne
    clear hfe hne hK HR
    go_wp2_with fail
    refine (refused_any e _).mono ?_
    rintro e1 w3 ⟨rfl, hb⟩
    have HF3 := Lib.hid (HF2.out.keep hb)
    have HT3 := Lib.hid (HT2.out.keep hb)
    clear hb
    obtain ⟨⟨s1, s2⟩, s3, s4, s5⟩ := HF3.out.ba.st4
    unfold ansV nilS
    go_wp2
    refine bodyPost_ret (results_cell_row rfl _ _ a 33 _ (0, 0) _ rfl (HF3.out.ba.pt4 _ _ _ _) Tryz.underlying33 rfl sizeAns) rfl ?_
    exact OpRes.refuse HT0.out HX.out HQ.out HF3.out _ _ _ _
  · rw [hfe]
    have HQ := Lib.hid (HR.out.trans (hK _))
    obtain ⟨rn, hrn, hrt⟩ := TrD.row hft
    have HRN := Lib.hid hrn
    have hnb := HX.out.numB hft
    have hkk := HK.out
    have HNB : Hid (0 ≤ (n : Int) ∧ (n : Int) ≤ 4611686018427387904) := ⟨hnb.1, by omega⟩
    have htx : textG G n = rn.t.text := by
      unfold textG
      rw [HX.out.th n t hft, hrt]
    have htz := HX.out.wf.small n
    rw [htx] at htz
    have t0 : w2.cell? ⟨x.b, 0, none⟩ = some (.map (some x.m)) := HT2.out.box.cell 0 _ rfl
    have d2 : w2.cell? ⟨rn.p, 2, none⟩ = some (.string rn.t.text) := (HT2.out.at_ hrn).1.cell 2 _ rfl
    have lk1 := HT2.out.look hrn hnb.1 (by omega)
    rw [htx] at HQ
    generalize rn.t.text = T at *
    clear hfe hrn hrt hnb hkk hat hft hfd hsp hK HR
    have c3 : w2.cell? ⟨g, 3, none⟩ = some (.int .i64 o.off) := HF2.out.bo.cell 3 _ rfl
    have c4 : w2.cell? ⟨g, 4, none⟩ = some (.int .i64 o.len) := HF2.out.bo.cell 4 _ rfl
    by_cases hoff : o.off < 0
    · have HQ2 : Hid (R = (noA 1, G)) := by show R = _; rw [HQ.out, if_pos (.inl hoff)]
      clear HQ htx htz
      go_wp2_with fail
      refine (refused_any 1 _).mono ?_
      rintro e1 w3 ⟨rfl, hb⟩
      have HF3 := Lib.hid (HF2.out.keep hb)
      have HT3 := Lib.hid (HT2.out.keep hb)
      clear hb
      obtain ⟨⟨s1, s2⟩, s3, s4, s5⟩ := HF3.out.ba.st4
      unfold ansV nilS
      go_wp2
      refine bodyPost_ret (results_cell_row rfl _ _ a 33 _ (0, 0) _ rfl (HF3.out.ba.pt4 _ _ _ _) Tryz.underlying33 rfl sizeAns) rfl ?_
      exact OpRes.refuse HT0.out HX.out HQ2.out HF3.out _ _ _ _
    by_cases hlen : o.len < 0
    · have HQ2 : Hid (R = (noA 1, G)) := by show R = _; rw [HQ.out, if_pos (.inr hlen)]
      clear HQ htx htz
      go_wp2_with fail
      refine (refused_any 1 _).mono ?_
      rintro e1 w3 ⟨rfl, hb⟩
      have HF3 := Lib.hid (HF2.out.keep hb)
      have HT3 := Lib.hid (HT2.out.keep hb)
      clear hb
      obtain ⟨⟨s1, s2⟩, s3, s4, s5⟩ := HF3.out.ba.st4
      unfold ansV nilS
      go_wp2
      refine bodyPost_ret (results_cell_row rfl _ _ a 33 _ (0, 0) _ rfl (HF3.out.ba.pt4 _ _ _ _) Tryz.underlying33 rfl sizeAns) rfl ?_
      exact OpRes.refuse HT0.out HX.out HQ2.out HF3.out _ _ _ _
    have HQ1 := Lib.hid (HQ.out.trans (if_neg (fun e => e.elim hoff hlen)))
    obtain ⟨f, hf⟩ : ∃ f : Nat, o.off = (f : Int) := ⟨o.off.toNat, by omega⟩
    obtain ⟨m, hm⟩ : ∃ m : Nat, o.len = (m : Int) := ⟨o.len.toNat, by omega⟩
    rw [hf] at c3
    rw [hm] at c4
    have HQ2 : Hid (R = (⟨0, ((cutB T f m).size : Nat), cutB T f m, []⟩, G)) := by
      show R = _
      rw [HQ1.out, hf, hm, Int.toNat_natCast, Int.toNat_natCast]
    clear HQ HQ1 htx hoff hlen hf hm
    have h00 : ¬ (f : Int) < 0 := by omega
    have h01 : ¬ (m : Int) < 0 := by omega
    have h02 : (0 : Int) ≤ (f : Int) := by omega
    have h03 : (0 : Int) ≤ (m : Int) := by omega
    have hfn : ((f : Int)).toNat = f := Int.toNat_natCast f
    have hmn : ((m : Int)).toNat = m := Int.toNat_natCast m
    have h04 : (0 : Int) ≤ (T.size : Int) := by omega
    obtain ⟨⟨s1, s2⟩, s3, s4, s5⟩ := HF2.out.ba.st4
    clear htz
    go_wp2
    refine bodyPost_ret (results_cell_row rfl _ _ a 33 _ (0, 0) _ rfl (HF2.out.ba.pt4 _ _ _ _) Tryz.underlying33 rfl sizeAns) rfl ?_
    rw [cut_n, cut_q]
    exact OpRes.tell HT0.out HX.out HQ2.out HF2.out _ _ _ _
end
end Go.Proofs.YteimpebfenpifaaGreatDoor
