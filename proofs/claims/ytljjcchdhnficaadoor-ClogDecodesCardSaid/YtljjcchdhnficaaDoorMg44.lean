/-
  Texts put together: ClogU, ClogDecodesWalk.
-/
import Derived.Test.YtljjcchdhnficaaDoorClogT
import Derived.Test.YtljjcchdhnficaaDoorMg19
import Derived.Test.YtljjcchdhnficaaDoorClogLive
import Derived.Test.YtljjcchdhnficaaDoorMg0
namespace Go.Proofs.YtljjcchdhnficaaDoor
open Go.RowKit

theorem vL_cat (l : List UInt8) (k a c : Nat) : vL l k (a + c) = vL l k a ++ vL l (k + a) c := by
  unfold vL
  rw [List.take_add, List.drop_drop]
theorem vL_leL (b : ByteArray) (k n : Nat) (h : k + n ≤ b.size) : leList (valN b k n) n = vL (bl b) k n := by
  rw [valN_bl b k n h]
  have hz : (vL (bl b) k n).length = n := by unfold vL; rw [List.length_take, List.length_drop, bl_size]; omega
  have := leL_leVal (vL (bl b) k n)
  rwa [hz] at this
theorem ent_fwd {b : ByteArray} {k : Nat} (h : entTo b k ≤ b.size) : vL (bl b) k (entTo b k - k) = entL (entAt b k) := by
  unfold entTo at h ⊢
  obtain ⟨n, hn⟩ : ∃ n, n = valN b k 1 := ⟨_, rfl⟩
  have hk : (valB b (k + 1) n).size = n := by
    unfold valB
    rw [if_pos (by omega), ByteArray.size_extract]
    omega
  unfold entL entAt
  simp only [Int.toNat_natCast]
  rw [← hn] at h ⊢
  rw [hk, hn, vL_leL b k 1 (by omega), ← hn, vL_leL b (k + 1 + n + 32) 2 (by omega), vL_leL b (k + 1 + n + 32 + 2) 2 (by omega), valB_bl _ _ _ (by omega), valB_bl _ _ _ (by omega)]
  rw [← vL_cat, ← vL_cat, ← vL_cat, ← vL_cat]
  congr 1
  omega
theorem posTo_le (b : ByteArray) : ∀ j, posTo b j ≤ posTo b (j + 1)
  | j => by show posTo b j ≤ entTo b (posTo b j); unfold entTo; omega
theorem ents_fwd {b : ByteArray} : ∀ j, posTo b j ≤ b.size → (bl b).take (posTo b j) = (bl b).take 9 ++ (entsTo b j).flatMap entL
  | 0, _ => by simp [posTo, entsTo]
  | j + 1, h => by
    have h1 := posTo_le b j
    have ih := ents_fwd j (Nat.le_trans h1 h)
    have he : entTo b (posTo b j) ≤ b.size := h
    have hf := ent_fwd he
    have hp : posTo b (j + 1) = posTo b j + (entTo b (posTo b j) - posTo b j) := by
      have : posTo b (j + 1) = entTo b (posTo b j) := rfl
      omega
    rw [hp, List.take_add, ih]
    unfold vL at hf
    rw [hf, entsTo, List.flatMap_append]
    simp only [List.flatMap_cons, List.flatMap_nil, List.append_nil, List.append_assoc]
theorem body_back {b : ByteArray} (h9 : 9 ≤ b.size) (he : posEnd b (posTo b (valN b 8 1)) = 0) (hc : chkC (valN b 2 6) (entsTo b (valN b 8 1)) = 0) :
    bl (bodyC (valN b 2 6) (entsTo b (valN b 8 1))) = [80, 76] ++ (bl b).drop 2 := by
  obtain ⟨z0, z1, z2, z3⟩ := chkC_zero hc
  have hp : posTo b (valN b 8 1) = b.size := by
    unfold posEnd at he
    split at he
    · cases he
    · split at he
      · assumption
      · cases he
  have hf := ents_fwd (b := b) (valN b 8 1) (by omega)
  rw [hp, ← bl_size, List.take_length] at hf
  unfold bodyC
  rw [entsK_bl _ _ z3, headC_bl z0 z1 z2, entsTo_len, Int.toNat_natCast, vL_leL b 2 6 (by omega), vL_leL b 8 1 (by omega), ← vL_cat, List.append_assoc]
  congr 1
  have h2 : ((bl b).take 9).drop 2 = vL (bl b) 2 (6 + 1) := by
    unfold vL
    rw [List.drop_take]
  rw [← h2]
  conv => rhs; rw [hf]
  rw [List.drop_append_of_le_length (by rw [List.length_take, bl_size]; omega)]
theorem sha_end {a b c : ByteArray} {d : ByteArray} (hs : c.size = d.size) (h : a ++ c = b ++ d) : a = b := by
  have h1 := congrArg bl h
  rw [bl_append, bl_append] at h1
  have hz : (bl a).length = (bl b).length := by
    have := congrArg List.length h1
    rw [List.length_append, List.length_append, bl_size c, bl_size d] at this
    omega
  exact bl_ext (List.append_inj_left h1 hz)
theorem dec_same (s : ByteArray) : decR s = decC s := by
  by_cases h0 : s.size < 41
  · rw [show decR s = ((0, []), 2) from if_pos h0, show decC s = ((0, []), 2) from if_pos h0]
  unfold decR decC
  rw [if_neg h0, if_neg h0]
  by_cases h1 : sha (bdyC s) ≠ digC s
  · rw [if_pos h1, if_pos h1]
  rw [if_neg h1, if_neg h1]
  have h1' : sha (bdyC s) = digC s := Decidable.not_not.1 h1
  have hsz : s = bdyC s ++ digC s := by
    apply bl_ext
    rw [bl_append]
    unfold bdyC digC bl
    rw [ByteArray.data_extract, ByteArray.data_extract, Array.toList_extract, Array.toList_extract]
    simp only [List.extract_eq_take_drop, List.drop_zero]
    have : s.data.toList.length = s.size := bl_size s
    rw [List.take_of_length_le (l := s.data.toList.drop (s.size - 32)) (by rw [List.length_drop]; omega), Nat.sub_zero]
    exact (List.take_append_drop _ _).symm
  have h9 : 9 ≤ (bdyC s).size := by unfold bdyC; rw [ByteArray.size_extract]; omega
  have hd : (digC s).size = 32 := by rw [← h1']; exact sha_size' _
  rw [← h1'] at hsz
  generalize bdyC s = b at *
  by_cases he : posEnd b (posTo b (valN b 8 1)) = 0
  rotate_left
  · rw [if_pos (.inl he), if_pos (.inr (.inl he))]
  by_cases hc : chkC (valN b 2 6) (entsTo b (valN b 8 1)) = 0
  rotate_left
  · have e2 : (encC (valN b 2 6) (entsTo b (valN b 8 1))).2 ≠ 0 := by
      rw [show encC (valN b 2 6) (entsTo b (valN b 8 1)) = (⟨#[]⟩, chkC (valN b 2 6) (entsTo b (valN b 8 1))) from if_neg hc]
      exact hc
    rw [if_pos (.inr (.inl e2)), if_pos (.inr (.inr hc))]
  have e1 : encC (valN b 2 6) (entsTo b (valN b 8 1)) = (bodyC (valN b 2 6) (entsTo b (valN b 8 1)) ++ sha (bodyC (valN b 2 6) (entsTo b (valN b 8 1))), 0) := if_pos hc
  have hbb := body_back h9 he hc
  have hm : valB b 0 2 = markC ↔ bodyC (valN b 2 6) (entsTo b (valN b 8 1)) = b := by
    have hv := valB_bl b 0 2 (by omega)
    have hcut : bl b = vL (bl b) 0 2 ++ (bl b).drop 2 := by
      have := vL_join (bl b) 0 2
      rw [List.drop_zero] at this
      exact this.symm
    have hmk : bl markC = [80, 76] := rfl
    constructor
    · intro h
      apply bl_ext
      rw [hbb, hcut, ← hv, h, hmk]
      rw [List.drop_append_of_le_length (by decide)]
      rfl
    · intro h
      apply bl_ext
      rw [h] at hbb
      rw [hv, hmk]
      have h2 := congrArg (List.take 2) hbb
      unfold vL
      rw [List.drop_zero, h2]
      rfl
  by_cases hk : valB b 0 2 = markC
  · have hb := hm.1 hk
    rw [if_neg, if_neg]
    · rintro (h | h | h)
      · exact h hk
      · exact h he
      · exact h hc
    · rintro (h | h | h)
      · exact h he
      · rw [e1] at h; exact h rfl
      · rw [e1] at h
        apply h
        show bodyC _ _ ++ sha (bodyC _ _) = s
        rw [hb]
        exact hsz.symm
  · have e3 : (encC (valN b 2 6) (entsTo b (valN b 8 1))).1 ≠ s := by
      intro h
      rw [e1] at h
      apply hk
      apply hm.2
      have h' : bodyC (valN b 2 6) (entsTo b (valN b 8 1)) ++ sha (bodyC (valN b 2 6) (entsTo b (valN b 8 1))) = b ++ sha b := h.trans hsz
      exact sha_end (by rw [sha_size', sha_size']) h'
    rw [if_pos (.inr (.inr e3)), if_pos (.inl hk)]
end Go.Proofs.YtljjcchdhnficaaDoor

namespace Go.Proofs.YtljjcchdhnficaaDoor.clogDecodes
open Go.RowKit

theorem dec_len (s : ByteArray) : (decC s).1.2.length ≤ 255 := by
  by_cases h0 : s.size < 41
  · rw [show decC s = ((0, []), 2) from if_pos h0]
    exact Nat.zero_le _
  by_cases h1 : sha (bdyC s) ≠ digC s
  · unfold decC
    rw [if_neg h0, if_pos h1]
    exact Nat.zero_le _
  unfold decC
  rw [if_neg h0, if_neg h1]
  by_cases h2 : valB (bdyC s) 0 2 ≠ markC ∨ posEnd (bdyC s) (posTo (bdyC s) (valN (bdyC s) 8 1)) ≠ 0 ∨ chkC (valN (bdyC s) 2 6) (entsTo (bdyC s) (valN (bdyC s) 8 1)) ≠ 0
  · rw [if_pos h2]
    exact Nat.zero_le _
  · rw [if_neg h2]
    dsimp only
    rw [entsTo_len]
    exact Nat.le_of_lt_succ (valN_one (bdyC s) 8)
theorem dec_any (s : ByteArray) (w : World) (hs2 : s.size ≤ 100000) (hK : Kt w) : Calls Tryd.prog 16 #[.string s] w (DcRes 54 w (decC s)) := by
  by_cases h : s.size < 41
  · exact cdecode_cut s w h
  · exact cdecode_long s w h (by omega) hK
theorem rdec_any (s : ByteArray) (w : World) (hs2 : s.size ≤ 100000) : Calls Tryd.prog 17 #[.string s] w (DcRes 53 w (decC s)) := by
  rw [← dec_same]
  by_cases h : s.size < 41
  · exact crdecode_cut s w h
  · exact crdecode_long s w h hs2
set_option maxRecDepth 100000 in
set_option maxHeartbeats 4000000 in
theorem walk (w : World) (hK : Kt w) (a0 : ByteArray) (w0 : a0.size ≤ 140737488351232) :
    Calls Tryd.prog 4 #[.string a0] w fun e w' => e = .returned (.bool true) ∧ Below w.heap.size w w' := by
  have HK := Lib.hid hK
  have HP := Lib.hid hK.pos
  have L0 := Lib.hid (Below.refl w.heap.size w)
  clear hK
  by_cases hbig : 1100 < a0.size
  · have d0 : decide ((1100 : Int) < (a0.size : Int)) = true := decide_eq_true (by omega)
    clear w0
    go_enter Tryd.func4, Tryd.ntmps4
    go_wp2_with fail
    refine (clive_any _ (HK.out.below L0.out HP.out)).mono ?_
    rintro e vz ⟨rfl, hb⟩
    have LZ := Lib.hid (L0.out.trans (hb.mono L0.out.size))
    clear hb
    go_wp2
    go_ret
    exact ⟨rfl, LZ.out⟩
  have d0 : decide ((1100 : Int) < (a0.size : Int)) = false := decide_eq_false (by omega)
  have HZ : Hid (a0.size ≤ 1100) := by show a0.size ≤ 1100; omega
  clear w0 hbig
  go_enter Tryd.func4, Tryd.ntmps4
  go_wp2_with fail
  refine (rof_any a0 _ (by have := HZ.out; omega)).mono ?_
  rintro e v1 ⟨rfl, hb⟩
  have L1 := Lib.hid (L0.out.trans (hb.mono L0.out.size))
  have HT : Hid ((a0 ++ sha a0).size ≤ 1132) := by
    show (a0 ++ sha a0).size ≤ 1132
    rw [ByteArray.size_append, sha_size']
    have := HZ.out
    omega
  have q1 : ¬ 9223372036854775807 < a0.size + (sha a0).size := by rw [sha_size']; have := HZ.out; omega
  generalize sha a0 = sh at *
  clear hb L0 d0
  go_wp2_with fail
  generalize a0 ++ sh = t0 at *
  clear q1
  have HQ1 := Lib.hid (dec_len a0)
  have HQ2 := Lib.hid (dec_len t0)
  have HC1 := Lib.hid (fun W (h : Kt W) => dec_any a0 W (by have := HZ.out; omega) h)
  have HC2 := Lib.hid (fun W => rdec_any a0 W (by have := HZ.out; omega))
  have HC3 := Lib.hid (fun W (h : Kt W) => dec_any t0 W (by have := HT.out; omega) h)
  have HC4 := Lib.hid (fun W => rdec_any t0 W (by have := HT.out; omega))
  generalize decC a0 = q1 at *
  generalize decC t0 = q2 at *
  obtain ⟨⟨n1, l1⟩, e1⟩ := q1
  obtain ⟨⟨n2, l2⟩, e2⟩ := q2
  refine (HC1.out _ (HK.out.below L1.out HP.out)).mono ?_
  rintro e u2 ⟨v, rfl, hp, hb⟩
  obtain ⟨a2, c2, rfl, hs⟩ := hp.view
  have hx := (Below.refl u2.heap.size u2).alloc (Nat.le_refl _) (.cells #[.int .i64 n1, .slice a2 l1.length c2] 32)
  have hbx := hb.trans (hx.mono hb.size)
  have B2_2 := Lib.hid (Box.new u2 32 #[.int .i64 n1, .slice a2 l1.length c2])
  have S2_2 := Lib.hid (hs.keep hx)
  have L2 := Lib.hid (L1.out.trans (hbx.mono L1.out.size))
  clear hp hb hs hx hbx HC1 L1
  go_wp2_with fail
  generalize World.alloc u2 _ = v2 at *
  generalize u2.heap.size = g2 at *
  go_wp2_with fail
  refine (HC2.out _).mono ?_
  rintro e u3 ⟨v, rfl, hp, hb⟩
  obtain ⟨a3, c3, rfl, hs⟩ := hp.view
  have hx := (Below.refl u3.heap.size u3).alloc (Nat.le_refl _) (.cells #[.int .i64 n1, .slice a3 l1.length c3] 24)
  have hbx := hb.trans (hx.mono hb.size)
  have B3_3 := Lib.hid (Box.new u3 24 #[.int .i64 n1, .slice a3 l1.length c3])
  have S3_3 := Lib.hid (hs.keep hx)
  have L3 := Lib.hid (L2.out.trans (hbx.mono L2.out.size))
  have B2_3 := Lib.hid (B2_2.out.keep hbx B2_2.out.lt)
  have S2_3 := Lib.hid (S2_2.out.keep hbx)
  clear hp hb hs hx hbx HC2 L2 B2_2 S2_2
  go_wp2_with fail
  generalize World.alloc u3 _ = v3 at *
  generalize u3.heap.size = g3 at *
  go_wp2_with fail
  refine (HC3.out _ (HK.out.below L3.out HP.out)).mono ?_
  rintro e u4 ⟨v, rfl, hp, hb⟩
  obtain ⟨a4, c4, rfl, hs⟩ := hp.view
  have hx := (Below.refl u4.heap.size u4).alloc (Nat.le_refl _) (.cells #[.int .i64 n2, .slice a4 l2.length c4] 32)
  have hbx := hb.trans (hx.mono hb.size)
  have B4_4 := Lib.hid (Box.new u4 32 #[.int .i64 n2, .slice a4 l2.length c4])
  have S4_4 := Lib.hid (hs.keep hx)
  have L4 := Lib.hid (L3.out.trans (hbx.mono L3.out.size))
  have B2_4 := Lib.hid (B2_3.out.keep hbx B2_3.out.lt)
  have S2_4 := Lib.hid (S2_3.out.keep hbx)
  have B3_4 := Lib.hid (B3_3.out.keep hbx B3_3.out.lt)
  have S3_4 := Lib.hid (S3_3.out.keep hbx)
  clear hp hb hs hx hbx HC3 L3 B2_3 S2_3 B3_3 S3_3
  go_wp2_with fail
  generalize World.alloc u4 _ = v4 at *
  generalize u4.heap.size = g4 at *
  go_wp2_with fail
  refine (HC4.out _).mono ?_
  rintro e u5 ⟨v, rfl, hp, hb⟩
  obtain ⟨a5, c5, rfl, hs⟩ := hp.view
  have hx := (Below.refl u5.heap.size u5).alloc (Nat.le_refl _) (.cells #[.int .i64 n2, .slice a5 l2.length c5] 24)
  have hbx := hb.trans (hx.mono hb.size)
  have B5_5 := Lib.hid (Box.new u5 24 #[.int .i64 n2, .slice a5 l2.length c5])
  have S5_5 := Lib.hid (hs.keep hx)
  have L5 := Lib.hid (L4.out.trans (hbx.mono L4.out.size))
  have B2_5 := Lib.hid (B2_4.out.keep hbx B2_4.out.lt)
  have S2_5 := Lib.hid (S2_4.out.keep hbx)
  have B3_5 := Lib.hid (B3_4.out.keep hbx B3_4.out.lt)
  have S3_5 := Lib.hid (S3_4.out.keep hbx)
  have B4_5 := Lib.hid (B4_4.out.keep hbx B4_4.out.lt)
  have S4_5 := Lib.hid (S4_4.out.keep hbx)
  clear hp hb hs hx hbx HC4 L4 B2_4 S2_4 B3_4 S3_4 B4_4 S4_4
  go_wp2_with fail
  generalize World.alloc u5 _ = v5 at *
  generalize u5.heap.size = g5 at *
  have k0 := B2_5.out.cell 0 _ rfl
  have k1 := B2_5.out.cell 1 _ rfl
  have k2 := B3_5.out.cell 0 _ rfl
  have k3 := B3_5.out.cell 1 _ rfl
  have k4 := B4_5.out.cell 0 _ rfl
  have k5 := B4_5.out.cell 1 _ rfl
  have k6 := B5_5.out.cell 0 _ rfl
  have k7 := B5_5.out.cell 1 _ rfl
  have hd := (Below.refl v5.heap.size v5).drew
  have B2_6 := Lib.hid (B2_5.out.keep hd B2_5.out.lt)
  have S2_6 := Lib.hid (S2_5.out.keep hd)
  have B3_6 := Lib.hid (B3_5.out.keep hd B3_5.out.lt)
  have S3_6 := Lib.hid (S3_5.out.keep hd)
  have B4_6 := Lib.hid (B4_5.out.keep hd B4_5.out.lt)
  have S4_6 := Lib.hid (S4_5.out.keep hd)
  have B5_6 := Lib.hid (B5_5.out.keep hd B5_5.out.lt)
  have S5_6 := Lib.hid (S5_5.out.keep hd)
  have L6 := Lib.hid (L5.out.trans (hd.mono L5.out.size))
  clear hd B2_5 S2_5 B3_5 S3_5 B4_5 S4_5 B5_5 S5_5 L5
  refine wp_region_tree (fun W => W.cell? ⟨g2, 0, none⟩ = some (.int .i64 n1) ∧ W.cell? ⟨g2, 1, none⟩ = some (.slice a2 l1.length c2) ∧ W.cell? ⟨g3, 0, none⟩ = some (.int .i64 n1) ∧ W.cell? ⟨g3, 1, none⟩ = some (.slice a3 l1.length c3) ∧ W.cell? ⟨g4, 0, none⟩ = some (.int .i64 n2) ∧ W.cell? ⟨g4, 1, none⟩ = some (.slice a4 l2.length c4) ∧ W.cell? ⟨g5, 0, none⟩ = some (.int .i64 n2) ∧ W.cell? ⟨g5, 1, none⟩ = some (.slice a5 l2.length c5)) 36 (.quiet 0 (.quiet 1 (.quiet 2 (.quiet 3 (.quiet 4 (.quiet 5 (.quiet 6 (.quiet 7 (.quiet 9 (.quiet 10 (.make 8 (.make 11 (.quiet 12 (.quiet 13 (.quiet 14 (.quiet 15 (.quiet 16 (.quiet 17 (.quiet 18 (.quiet 19 (.quiet 20 (.quiet 21 (.quiet 22 (.quiet 23 (.quiet 24 (.quiet 25 (.quiet 26 (.quiet 27 (.quiet 29 (.quiet 30 (.make 28 (.make 31 (.quiet 32 (.quiet 33 (.quiet 34 (.quiet 35 .nil)))))))))))))))))))))))))))))))))))) (by kernel_rfl) (by kernel_rfl) ⟨k0, k1, k2, k3, k4, k5, k6, k7⟩ ?_
  simp only [List.drop_succ_cons, List.drop_zero]
  clear k0 k1 k2 k3 k4 k5 k6 k7
  iterate 10 (apply wpTr_step rfl; (intro W hS K hK; obtain ⟨z0, z1, z2, z3, z4, z5, z6, z7⟩ := hS; go_simp; exact hK _ rfl))
  refine wpTr_make rfl (fun K' hK => ?_)
  go_simp
  refine (ctold_any a2 c2 l1 _ S2_6.out (Nat.le_trans HQ1.out (by decide))).mono ?_
  rintro e x7 ⟨v, rfl, hp, hb⟩
  obtain ⟨ta7, tc7, rfl, ht⟩ := hp.view
  have B2_7 := Lib.hid (B2_6.out.keep hb B2_6.out.lt)
  have S2_7 := Lib.hid (S2_6.out.keep hb)
  have B3_7 := Lib.hid (B3_6.out.keep hb B3_6.out.lt)
  have S3_7 := Lib.hid (S3_6.out.keep hb)
  have B4_7 := Lib.hid (B4_6.out.keep hb B4_6.out.lt)
  have S4_7 := Lib.hid (S4_6.out.keep hb)
  have B5_7 := Lib.hid (B5_6.out.keep hb B5_6.out.lt)
  have S5_7 := Lib.hid (S5_6.out.keep hb)
  have L7 := Lib.hid (L6.out.trans (hb.mono L6.out.size))
  have T7 := Lib.hid ht
  clear ht hp hb B2_6 S2_6 B3_6 S3_6 B4_6 S4_6 B5_6 S5_6 L6
  refine hK _ _ _ (fun _ h => h) ⟨B2_7.out.cell 0 _ rfl, B2_7.out.cell 1 _ rfl, B3_7.out.cell 0 _ rfl, B3_7.out.cell 1 _ rfl, B4_7.out.cell 0 _ rfl, B4_7.out.cell 1 _ rfl, B5_7.out.cell 0 _ rfl, B5_7.out.cell 1 _ rfl⟩ ?_
  clear hK K'
  refine wpTr_make rfl (fun K' hK => ?_)
  go_simp
  refine (csame_any ta7 a3 tc7 c3 l1 l1 _ (Nat.le_trans HQ1.out (by decide)) (Nat.le_trans HQ1.out (by decide)) T7.out S3_7.out).mono ?_
  rintro e x7s ⟨rfl, hb⟩
  rw [decide_eq_true rfl]
  have B2_7s := Lib.hid (B2_7.out.keep hb B2_7.out.lt)
  have S2_7s := Lib.hid (S2_7.out.keep hb)
  have B3_7s := Lib.hid (B3_7.out.keep hb B3_7.out.lt)
  have S3_7s := Lib.hid (S3_7.out.keep hb)
  have B4_7s := Lib.hid (B4_7.out.keep hb B4_7.out.lt)
  have S4_7s := Lib.hid (S4_7.out.keep hb)
  have B5_7s := Lib.hid (B5_7.out.keep hb B5_7.out.lt)
  have S5_7s := Lib.hid (S5_7.out.keep hb)
  have L7s := Lib.hid (L7.out.trans (hb.mono L7.out.size))
  clear hb T7 B2_7 S2_7 B3_7 S3_7 B4_7 S4_7 B5_7 S5_7 L7
  refine hK _ _ _ (fun _ h => h) ⟨B2_7s.out.cell 0 _ rfl, B2_7s.out.cell 1 _ rfl, B3_7s.out.cell 0 _ rfl, B3_7s.out.cell 1 _ rfl, B4_7s.out.cell 0 _ rfl, B4_7s.out.cell 1 _ rfl, B5_7s.out.cell 0 _ rfl, B5_7s.out.cell 1 _ rfl⟩ ?_
  clear hK K'
  iterate 18 (apply wpTr_step rfl; (intro W hS K hK; obtain ⟨z0, z1, z2, z3, z4, z5, z6, z7⟩ := hS; go_simp; exact hK _ rfl))
  refine wpTr_make rfl (fun K' hK => ?_)
  go_simp
  refine (ctold_any a4 c4 l2 _ S4_7s.out (Nat.le_trans HQ2.out (by decide))).mono ?_
  rintro e x8 ⟨v, rfl, hp, hb⟩
  obtain ⟨ta8, tc8, rfl, ht⟩ := hp.view
  have B2_8 := Lib.hid (B2_7s.out.keep hb B2_7s.out.lt)
  have S2_8 := Lib.hid (S2_7s.out.keep hb)
  have B3_8 := Lib.hid (B3_7s.out.keep hb B3_7s.out.lt)
  have S3_8 := Lib.hid (S3_7s.out.keep hb)
  have B4_8 := Lib.hid (B4_7s.out.keep hb B4_7s.out.lt)
  have S4_8 := Lib.hid (S4_7s.out.keep hb)
  have B5_8 := Lib.hid (B5_7s.out.keep hb B5_7s.out.lt)
  have S5_8 := Lib.hid (S5_7s.out.keep hb)
  have L8 := Lib.hid (L7s.out.trans (hb.mono L7s.out.size))
  have T8 := Lib.hid ht
  clear ht hp hb B2_7s S2_7s B3_7s S3_7s B4_7s S4_7s B5_7s S5_7s L7s
  refine hK _ _ _ (fun _ h => h) ⟨B2_8.out.cell 0 _ rfl, B2_8.out.cell 1 _ rfl, B3_8.out.cell 0 _ rfl, B3_8.out.cell 1 _ rfl, B4_8.out.cell 0 _ rfl, B4_8.out.cell 1 _ rfl, B5_8.out.cell 0 _ rfl, B5_8.out.cell 1 _ rfl⟩ ?_
  clear hK K'
  refine wpTr_make rfl (fun K' hK => ?_)
  go_simp
  refine (csame_any ta8 a5 tc8 c5 l2 l2 _ (Nat.le_trans HQ2.out (by decide)) (Nat.le_trans HQ2.out (by decide)) T8.out S5_8.out).mono ?_
  rintro e x8s ⟨rfl, hb⟩
  rw [decide_eq_true rfl]
  have B2_8s := Lib.hid (B2_8.out.keep hb B2_8.out.lt)
  have S2_8s := Lib.hid (S2_8.out.keep hb)
  have B3_8s := Lib.hid (B3_8.out.keep hb B3_8.out.lt)
  have S3_8s := Lib.hid (S3_8.out.keep hb)
  have B4_8s := Lib.hid (B4_8.out.keep hb B4_8.out.lt)
  have S4_8s := Lib.hid (S4_8.out.keep hb)
  have B5_8s := Lib.hid (B5_8.out.keep hb B5_8.out.lt)
  have S5_8s := Lib.hid (S5_8.out.keep hb)
  have L8s := Lib.hid (L8.out.trans (hb.mono L8.out.size))
  clear hb T8 B2_8 S2_8 B3_8 S3_8 B4_8 S4_8 B5_8 S5_8 L8
  refine hK _ _ _ (fun _ h => h) ⟨B2_8s.out.cell 0 _ rfl, B2_8s.out.cell 1 _ rfl, B3_8s.out.cell 0 _ rfl, B3_8s.out.cell 1 _ rfl, B4_8s.out.cell 0 _ rfl, B4_8s.out.cell 1 _ rfl, B5_8s.out.cell 0 _ rfl, B5_8s.out.cell 1 _ rfl⟩ ?_
  clear hK K'
  iterate 4 (apply wpTr_step rfl; (intro W hS K hK; obtain ⟨z0, z1, z2, z3, z4, z5, z6, z7⟩ := hS; go_simp; exact hK _ rfl))
  refine wpTr_nil ?_
  go_wp2_with fail
  refine (clive_any _ (HK.out.below L8s.out HP.out)).mono ?_
  rintro e vz ⟨rfl, hb⟩
  have LZ := Lib.hid (L8s.out.trans (hb.mono L8s.out.size))
  clear hb
  go_wp2
  go_ret
  exact ⟨rfl, LZ.out⟩
end Go.Proofs.YtljjcchdhnficaaDoor.clogDecodes
