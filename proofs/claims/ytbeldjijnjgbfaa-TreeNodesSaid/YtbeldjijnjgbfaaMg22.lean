/-
  Texts put together: NodeD, TcA, TcB.
-/
import Derived.Test.YtbeldjijnjgbfaaNodeN
import Derived.Test.YtbeldjijnjgbfaaMg9
import Derived.Test.YtbeldjijnjgbfaaMg1
import Derived.Test.YtbeldjijnjgbfaaMg10
import Derived.Test.YtbeldjijnjgbfaaMg13
import Derived.Test.YtbeldjijnjgbfaaNodeQ
namespace Go.Proofs.Ytbeldjijnjgbfaa
open Go.RowKit Go.ChangeShapes Go.WideShapes Go.ChangeAt

set_option maxRecDepth 100000 in
set_option maxHeartbeats 2000000 in
theorem delete_keys (base g cap : Nat) (l : List ByteArray) (i j : Nat) (w : World) (h : Ks w base (.slice (some ⟨g, 0, none⟩) l.length cap) l) (hi : i < l.length) (hlen : l.length ≤ 100000) (hj : j = i + 1) :
    Calls Try.prog 53 #[.slice (some ⟨g, 0, none⟩) l.length cap, .int .i64 (i : Int), .int .i64 (j : Int)] w fun e w' =>
      e = .returned (.slice (some ⟨g, 0, none⟩) (l.length - 1) cap) ∧ Ks w' base (.slice (some ⟨g, 0, none⟩) (l.length - 1) cap) (l.eraseIdx i) ∧ Chg [g] w w' := by
  have hcap : l.length ≤ cap ∧ cap ≤ maxLen := by
    rcases h.form with ⟨h1, _⟩ | ⟨g', cap', h1, _, _, h2, h3⟩
    · simp at h1
    · simp only [Value.slice.injEq, Option.some.injEq, Addr.mk.injEq, and_true, true_and] at h1
      obtain ⟨rfl, rfl⟩ := h1
      exact ⟨h2, h3⟩
  have HK := Lib.hid h
  have HE : Hid ((l.eraseIdx i).length = l.length - 1) := by show _ = _; rw [List.length_eraseIdx, if_pos hi]
  clear h
  obtain ⟨hc1, hc2⟩ := hcap
  have hij : i < j := by omega
  have hjl : j ≤ l.length := by omega
  have hic : i ≤ cap := by omega
  have hjc : j ≤ cap := by omega
  have HJ := Lib.hid hj
  clear hj
  unfold maxLen at hc2
  obtain ⟨A, hA, hA2⟩ : ∃ A : Addr, (if cap = j then some (⟨g, 0, none⟩ : Addr) else some ⟨g, j, none⟩) = some A ∧ Hid (A = ⟨g, i + 1, none⟩ ∨ l.length = i + 1) := by
    by_cases h : cap = j
    · exact ⟨⟨g, 0, none⟩, by simp [h], .inr (by have := HJ.out; omega)⟩
    · exact ⟨⟨g, j, none⟩, by simp [h], .inl (by rw [HJ.out])⟩
  go_enter Try.func53, Try.ntmps53
  go_wp2_with fail
  go_region_law (refine step_keys_cut rfl _ _ rfl base g cap l i HK.out hi (by simp [Act.eval, Act.put]) A (cap - j) (by simp [Act.eval, Act.put]; have := HJ.out; omega) hA2.out ?_; intro w1 z hk hc; have HK1 := Lib.hid hk; have HC1 : Hid (Chg [g] w w1) := ⟨hc.os, hc.tape, hc.output, hc.size, hc.block⟩; clear hk hc)
  have hq1 : l.length - 1 ≤ l.length := by omega
  have hq2 : l.length - 1 ≤ cap := by omega
  have hq3 : l.length ≤ cap := by omega
  have hq4 : ((l.length - 1 : Nat) : Int) ≤ (l.length : Int) := by omega
  have hq5 : ¬ cap = l.length - 1 := by omega
  have hq6 : l.length - (l.length - 1) = 1 := by omega
  generalize hn : l.length - 1 = n1 at *
  have HN1 := Lib.hid hn
  clear hn
  have HNN : Hid (l.length = n1 + 1) := by have := HN1.out; show _ = _; omega
  go_wp2_with (with_reducible refine wp_keys_clear _ rfl (.tmp 31) rfl base g cap (l.eraseIdx i) z (cap - n1) n1 l.length rfl HE.out HNN.out HK1.out ?_)
  intro w2 hk2 hc2
  have HK2 := Lib.hid hk2
  have HC2 := Lib.hid (HC1.out.trans hc2)
  clear hk2 hc2
  go_wp2
  go_ret
  have e := HN1.out
  rw [e]
  exact ⟨rfl, HK2.out, HC2.out⟩

set_option maxRecDepth 100000 in
set_option maxHeartbeats 2000000 in
theorem without_any (ka : Option Addr) (kc : Nat) (va : Option Addr) (vc : Nat) (d : NodeD) (key : ByteArray) (w : World) (h : NodeIn w ka va d) (hz : ∀ s ∈ d.keys ++ d.vals, s.size ≤ maxLen) :
    Calls Try.prog 32 #[nodeV ka kc va vc d, .string key] w (NodeTo (withoutD d key) w) := by
  have H := Lib.hid h
  have HZ := Lib.hid hz
  have hkl := h.kl
  have HB0 : Hid (∀ o, Below w.heap.size w (w.alloc o)) := fun o => (Below.refl _ _).alloc (Nat.le_refl _) o
  clear h hz
  have HV : Hid (Value.agg #[.bool d.leaf, .slice ka d.keys.length kc, .slice va d.vals.length vc] = nodeV ka kc va vc d) := rfl
  obtain ⟨PS, hPS⟩ : ∃ PS, PS = NodeTo (withoutD d key) w := ⟨_, rfl⟩
  rw [← hPS]
  have HPS := Lib.hid hPS
  clear hPS
  unfold nodeV
  go_enter Try.func32, Try.ntmps32
  go_wp2_with fail
  rw [HV.out]
  generalize hwx : World.alloc (World.alloc w _) _ = wx
  have HX : Hid (Box wx w.heap.size 51 #[.bool d.leaf, .slice ka d.keys.length kc, .slice va d.vals.length vc]) := by show Box _ _ _ _; rw [← hwx]; exact (Box.new w _ _).alloc _
  have HR : Hid (Box wx (w.heap.size + 1) 51 #[.bool false, .slice none 0 0, .slice none 0 0]) := by show Box _ _ _ _; rw [← hwx]; exact box_second _ _ _ _
  have HBX : Hid (Below w.heap.size w wx) := by show Below _ _ _; rw [← hwx]; exact (HB0.out _).trans (((Below.refl _ _).alloc (Nat.le_refl _) _).mono (by rw [size_alloc]; omega))
  clear hwx
  refine (own_any ka kc va vc d _ (H.out.keep HBX.out)).mono ?_
  rintro e w1 ⟨kv, vv, rfl, hk, hv, hn, hb⟩
  have HX1 := Lib.hid (HX.out.keep hb HX.out.lt)
  have HR1 := HR.out.keep hb HR.out.lt
  have HB1 := Lib.hid (HBX.out.trans (hb.mono HBX.out.size))
  have HLT := HR.out.lt
  have HLB0 : wx.heap.size ≤ w1.heap.size := hb.size
  obtain ⟨B, hB⟩ : ∃ B, B = wx.heap.size := ⟨_, rfl⟩
  rw [← hB] at hk hv HLT HLB0
  have HLB := Lib.hid HLB0
  clear HLB0
  clear hb HX HR HBX hB
  obtain ⟨⟨a1, c1, rfl⟩, ⟨a2, c2, rfl⟩⟩ := own_rows hk hv
  have HM2 := Lib.hid (MNode.mk' (leaf := d.leaf) HR1 hk hv hn HLT)
  have HBA : Hid (∀ o, Below w1.heap.size w1 (w1.alloc o)) := fun o => (Below.refl _ _).alloc (Nat.le_refl _) o
  have n0 : ∀ o, (w1.alloc o).cell? ⟨w.heap.size, 0, none⟩ = some (.bool d.leaf) := fun o => (HX1.out.keep (HBA.out o) HX1.out.lt).cell 0 _ rfl
  have n1 : ∀ o, (w1.alloc o).cell? ⟨w.heap.size, 1, none⟩ = some (.slice ka d.keys.length kc) := fun o => (HX1.out.keep (HBA.out o) HX1.out.lt).cell 1 _ rfl
  have n2 : ∀ o, (w1.alloc o).cell? ⟨w.heap.size, 2, none⟩ = some (.slice va d.vals.length vc) := fun o => (HX1.out.keep (HBA.out o) HX1.out.lt).cell 2 _ rfl
  have HBY : Hid (Below w.heap.size w (w1.alloc (.cells #[.bool d.leaf, .slice a1 d.keys.length c1, .slice a2 d.vals.length c2] 51 (0, 0)))) := HB1.out.trans ((HBA.out _).mono HB1.out.size)
  clear hk hv hn HR1 HX1 HBA
  go_wp2_with fail
  rw [HV.out]
  generalize hwy : World.alloc w1 _ = wy
  have HM := HM2
  rw [hwy] at HM HBY
  obtain ⟨bm, hbm⟩ : ∃ bm, bm = w1.heap.size := ⟨_, rfl⟩
  rw [← hbm] at HM ⊢
  have HBM := Lib.hid hbm
  clear hwy HM2 hbm n0 n1 n2
  refine (maybe_any ka kc va vc d _ (H.out.keep HBY.out) HZ.out).mono ?_
  rintro e w3 ⟨rfl, hb⟩
  have HM3 := Lib.hid (HM.out.keep hb)
  have HB3 := Lib.hid (HBY.out.trans (hb.mono HBY.out.size))
  clear hb HM HBY
  have m0 := HM3.out.box.cell 0 _ rfl
  have m1 := HM3.out.box.cell 1 _ rfl
  have m2 := HM3.out.box.cell 2 _ rfl
  have r0 := HM3.out.res.cell 0 _ rfl
  have r1 := HM3.out.res.cell 1 _ rfl
  have r2 := HM3.out.res.cell 2 _ rfl
  have f0 := HM3.out.res.free 0
  have f1 := HM3.out.res.free 1
  have f2 := HM3.out.res.free 2
  cases hm : mayD d
  · have HQ : Hid (withoutD d key = ⟨d.leaf, d.keys, d.vals⟩) := by show _ = _; unfold withoutD; rw [hm]; rfl
    have HE := Lib.hid (HM3.out.end w.heap.size (by omega))
    have HBE := Lib.hid (HB3.out.trans ((chg_set3 w3 (w.heap.size + 1) (.bool d.leaf) (.slice a1 d.keys.length c1) (.slice a2 d.vals.length c2)).below HB3.out.size (fun k hk => by simp at hk; omega)))
    clear hm
    go_wp2
    refine bodyPost_ret (results_cell_row rfl _ _ (w.heap.size + 1) 51 _ (0, 0) _ rfl HE.out.1 Try.underlying51 rfl sizeNode) rfl ?_
    rw [HPS.out, HQ.out]
    exact ⟨_, rfl, HE.out.2, HBE.out⟩
  · have HU := Lib.hid (may_up hm)
    have HMB := Lib.hid (may_bounds hm)
    have hQ : withoutD d key = if isK d.keys key = true then ⟨d.leaf, d.keys.eraseIdx (cntK d.keys key), d.vals.eraseIdx (cntK d.keys key)⟩ else d := by
      unfold withoutD
      cases hi : isK d.keys key
      · rw [if_neg (by simp), if_neg (by simp)]
      · rw [if_pos ⟨hm, rfl⟩, if_pos rfl]
    have hil : isK d.keys key = true → cntK d.keys key < d.keys.length := fun h => by
      unfold isK at h
      have := of_decide_eq_true h
      exact (List.getElem?_eq_some_iff.1 this).1
    clear hm
    go_wp2_with fail
    have hsl : Sl w3 Value.string a1 d.keys := by
      obtain ⟨a, c, e, s⟩ := ks_form2 HM3.out.kr
      injection e with e1 _ e2
      rw [e1]; exact s
    refine (bsearch_any a1 c1 d.keys key _ hsl hkl HU.out).mono ?_
    rintro e w4 ⟨rfl, hb⟩
    have HM4 := Lib.hid (HM3.out.keep hb)
    have HB4 := Lib.hid (HB3.out.trans (hb.mono HB3.out.size))
    clear hb hsl HM3 HB3 m0 m1 m2 r0 r1 r2 f0 f1 f2
    generalize cntK d.keys key = c at *
    have m0 := HM4.out.box.cell 0 _ rfl
    have m1 := HM4.out.box.cell 1 _ rfl
    have m2 := HM4.out.box.cell 2 _ rfl
    cases hi : isK d.keys key
    · rw [hi] at hQ
      have HQ : Hid (withoutD d key = ⟨d.leaf, d.keys, d.vals⟩) := hQ
      clear hQ hil hi
      have r0 := HM4.out.res.cell 0 _ rfl
      have r1 := HM4.out.res.cell 1 _ rfl
      have r2 := HM4.out.res.cell 2 _ rfl
      have f0 := HM4.out.res.free 0
      have f1 := HM4.out.res.free 1
      have f2 := HM4.out.res.free 2
      have HE := Lib.hid (HM4.out.end w.heap.size (by omega))
      have HBE := Lib.hid (HB4.out.trans ((chg_set3 w4 (w.heap.size + 1) (.bool d.leaf) (.slice a1 d.keys.length c1) (.slice a2 d.vals.length c2)).below HB4.out.size (fun k hk => by simp at hk; omega)))
      go_wp2
      refine bodyPost_ret (results_cell_row rfl _ _ (w.heap.size + 1) 51 _ (0, 0) _ rfl HE.out.1 Try.underlying51 rfl sizeNode) rfl ?_
      rw [HPS.out, HQ.out]
      exact ⟨_, rfl, HE.out.2, HBE.out⟩
    · rw [hi] at hQ
      have HQ : Hid (withoutD d key = ⟨d.leaf, d.keys.eraseIdx c, d.vals.eraseIdx c⟩) := hQ
      have hck := hil hi
      clear hQ hil hi
      have hcv : c < d.vals.length := by have := HMB.out.eq; omega
      have hvl : d.vals.length ≤ 100000 := H.out.vl
      have HBB : Hid (w.heap.size ≤ bm) := by have := HB1.out.size; have := HBM.out; show _ ≤ _; omega
      obtain ⟨g, hag⟩ : ∃ g, a1 = some ⟨g, 0, none⟩ := by
        rcases HM4.out.kr.form with ⟨h1, h2⟩ | ⟨g, cap, h1, _⟩
        · rw [h2] at hck; simp at hck
        · injection h1 with h1 _ _; exact ⟨g, h1⟩
      subst hag
      obtain ⟨g2, hag2⟩ : ∃ g, a2 = some ⟨g, 0, none⟩ := by
        rcases HM4.out.vr.form with ⟨h1, h2⟩ | ⟨g, cap, h1, _⟩
        · rw [h2] at hcv; simp at hcv
        · injection h1 with h1 _ _; exact ⟨g, h1⟩
      subst hag2
      have wc : wrap64 ((c : Int) + 1) = ((c + 1 : Nat) : Int) := by rw [IntWalk.wrap64_in _ (by omega)]; omega
      go_wp2_with fail
      rw [show ((c : Int) + 1) = ((c + 1 : Nat) : Int) by omega]
      refine (delete_keys B g c1 d.keys c (c + 1) _ HM4.out.kr hck hkl rfl).mono ?_
      rintro e w5 ⟨rfl, hk5, hS⟩
      have hel : (d.keys.eraseIdx c).length = d.keys.length - 1 := by rw [List.length_eraseIdx, if_pos hck]
      rw [← hel] at hk5 ⊢
      have hSo : ∀ k ∈ [g], (Value.slice (some ⟨g, 0, none⟩) d.keys.length c1).ownBlock = some k := fun k hk => by simp at hk; subst hk; rfl
      have HX5 := Lib.hid (HM4.out.boxK [g] hS hSo)
      have HM5 := Lib.hid (HM4.out.newK hk5 [g] hS hSo (fun k hk => .inl hk))
      have HB5 := Lib.hid ((HB4.out.trans (HM4.out.belowK [g] hS hSo (by omega))).setCell (p := ⟨bm, 1, none⟩) HBB.out (.slice (some ⟨g, 0, none⟩) (d.keys.eraseIdx c).length c1))
      clear hk5 hS hSo m0 m1 m2 HM4 HB4 hel
      generalize (d.keys.eraseIdx c).length = n5 at *
      have x1 := HX5.out.cell 1 _ rfl
      have y1 := HX5.out.free 1
      have m2 := HM5.out.box.cell 2 _ rfl
      go_wp2_with fail
      obtain ⟨w6, hw6⟩ : ∃ w6, w6 = w5.setCell ⟨bm, 1, none⟩ (.slice (some ⟨g, 0, none⟩) n5 c1) := ⟨_, rfl⟩
      rw [← hw6] at HM5 HB5 ⊢
      clear hw6 x1 y1 HX5 m2
      try rw [show ((c : Int) + 1) = ((c + 1 : Nat) : Int) by omega]
      refine (delete_keys B g2 c2 d.vals c (c + 1) _ HM5.out.vr hcv hvl rfl).mono ?_
      rintro e w7 ⟨rfl, hk7, hS⟩
      have hel : (d.vals.eraseIdx c).length = d.vals.length - 1 := by rw [List.length_eraseIdx, if_pos hcv]
      rw [← hel] at hk7 ⊢
      have hSo : ∀ k ∈ [g2], (Value.slice (some ⟨g2, 0, none⟩) d.vals.length c2).ownBlock = some k := fun k hk => by simp at hk; subst hk; rfl
      have HX7 := Lib.hid (HM5.out.boxV [g2] hS hSo)
      have HM7 := Lib.hid (HM5.out.newV hk7 [g2] hS hSo (fun k hk => .inl hk))
      have HB7 := Lib.hid ((HB5.out.trans (HM5.out.belowV [g2] hS hSo (by omega))).setCell (p := ⟨bm, 2, none⟩) HBB.out (.slice (some ⟨g2, 0, none⟩) (d.vals.eraseIdx c).length c2))
      clear hk7 hS hSo HM5 HB5 hel
      generalize (d.vals.eraseIdx c).length = n7 at *
      have x2 := HX7.out.cell 2 _ rfl
      have y2 := HX7.out.free 2
      have m0 := HM7.out.box.cell 0 _ rfl
      have m1 := HM7.out.box.cell 1 _ rfl
      have m2 := HM7.out.box.cell 2 _ rfl
      have r0 := HM7.out.res.cell 0 _ rfl
      have r1 := HM7.out.res.cell 1 _ rfl
      have r2 := HM7.out.res.cell 2 _ rfl
      have f0 := HM7.out.res.free 0
      have f1 := HM7.out.res.free 1
      have f2 := HM7.out.res.free 2
      have HE := Lib.hid (HM7.out.end w.heap.size (by omega))
      have HBE := Lib.hid (HB7.out.trans ((chg_set3 _ (w.heap.size + 1) (.bool d.leaf) (.slice (some ⟨g, 0, none⟩) n5 c1) (.slice (some ⟨g2, 0, none⟩) n7 c2)).below HB7.out.size (fun k hk => by simp at hk; omega)))
      clear HX7 HM7 HB7
      go_wp2
      refine bodyPost_ret (results_cell_row rfl _ _ (w.heap.size + 1) 51 _ (0, 0) _ rfl HE.out.1 Try.underlying51 rfl sizeNode) rfl ?_
      rw [HPS.out, HQ.out]
      exact ⟨_, rfl, HE.out.2, HBE.out⟩
end Go.Proofs.Ytbeldjijnjgbfaa

namespace Go.Proofs.Ytbeldjijnjgbfaa
open Go Go.RowKit Go.ChangeShapes Go.WideShapes Go.ChangeAt

def numI (s : ByteArray) : Int := match numT s with
  | none => -1
  | some n => n
theorem numF_step (s : ByteArray) (k q : Nat) (h : k < s.size) : numF (s.data.toList.drop k) q = if s[k] < 48 ∨ 57 < s[k] then none else numF (s.data.toList.drop (k + 1)) (10 * q + (s[k].toNat - 48)) := by
  rw [List.drop_eq_getElem_cons (by simpa using h), numF]
  rfl
theorem numI_none {s : ByteArray} (h : numF s.data.toList 0 = none) : numI s = -1 := by unfold numI numT; rw [h]
theorem numI_some {s : ByteArray} {q : Nat} (h : numF s.data.toList 0 = some q) : numI s = if s.size = 6 then (q : Int) else -1 := by
  unfold numI numT
  rw [h]
  by_cases h6 : s.size = 6 <;> simp [h6]
set_option maxHeartbeats 2000000 in
theorem knumber_any (s : ByteArray) (w : World) (hs : s.size ≤ maxLen) : Calls Try.prog 33 #[.string s] w fun e w' => e = .returned (.int .i64 (numI s)) ∧ w = w' := by
  unfold maxLen at hs
  obtain ⟨R, hR⟩ : ∃ R, R = numI s := ⟨_, rfl⟩
  rw [← hR]
  have HR := Lib.hid hR
  clear hR
  go_enter Try.func33, Try.ntmps33
  go_wp2_with fail
  go_loop [3, 4] (fun n i => ∃ (k q : Nat) (m : Int), k ≤ s.size ∧ i = .int .i64 k ∧ n = .int .i64 m ∧ Hid (s.size = 6 → m = q ∧ q < 10 ^ k) ∧ Hid (numF s.data.toList 0 = numF (s.data.toList.drop k) q)) (fun _ i => s.size - (RowKit.intOf i).toNat)
  case atStart => exact ⟨0, 0, 0, Nat.zero_le _, rfl, rfl, fun _ => ⟨rfl, by decide⟩, rfl⟩
  case round =>
    obtain ⟨k, q, m, hk, rfl, rfl, HM, HE⟩ := hrel
    by_cases hlt : k < s.size
    · have HS := Lib.hid (numF_step s k q hlt)
      have h1 : (k : Int) < (s.size : Int) := by omega
      by_cases h48 : s[k].toNat < 48
      · have HF : Hid (R = -1) := by
          show _ = _
          rw [HR.out]
          refine numI_none ?_
          rw [HE.out, HS.out, if_pos (.inl (UInt8.lt_iff_toNat_lt.2 h48))]
        go_wp2
        go_ret
        exact ⟨ret_int HF.out.symm, rfl⟩
      · by_cases h57 : 57 < s[k].toNat
        · have HF : Hid (R = -1) := by
            show _ = _
            rw [HR.out]
            refine numI_none ?_
            rw [HE.out, HS.out, if_pos (.inr (UInt8.lt_iff_toNat_lt.2 h57))]
          go_wp2
          go_ret
          exact ⟨ret_int HF.out.symm, rfl⟩
        · have HE2 : Hid (numF s.data.toList 0 = numF (s.data.toList.drop (k + 1)) (10 * q + (s[k].toNat - 48))) := by
            show _ = _
            rw [HE.out, HS.out, if_neg (fun h => by rcases h with h | h; exact h48 (UInt8.lt_iff_toNat_lt.1 h); exact h57 (UInt8.lt_iff_toNat_lt.1 h))]
          have HM2 : Hid (s.size = 6 → wrap64 (wrap64 (10 * m) + ((s[k].toNat : Int) - 48)) = ((10 * q + (s[k].toNat - 48) : Nat) : Int) ∧ 10 * q + (s[k].toNat - 48) < 10 ^ (k + 1)) := by
            intro h6
            obtain ⟨e, hq⟩ := HM.out h6
            have h5 : 10 ^ k ≤ 10 ^ 5 := Nat.pow_le_pow_right (by decide) (by omega)
            have h10 : (10 : Nat) ^ 5 = 100000 := by decide
            have hp : 10 ^ (k + 1) = 10 * 10 ^ k := by rw [Nat.pow_succ, Nat.mul_comm]
            rw [e, IntWalk.wrap64_in (10 * (q : Int)) (by omega), IntWalk.wrap64_in _ (by omega)]
            exact ⟨by omega, by omega⟩
          clear HE HS
          go_wp2
          go_round
          case rel => exact ⟨k + 1, _, _, by omega, by go_num, rfl, HM2, HE2⟩
          case measure => simp [RowKit.intOf]; omega
    · have hks : k = s.size := by omega
      have HE2 : Hid (numF s.data.toList 0 = some q) := by
        show _ = _
        rw [HE.out, List.drop_of_length_le (by simp only [Array.length_toList]; have : s.size = s.data.size := rfl; omega)]
        rfl
      have HN := Lib.hid (numI_some HE2.out)
      clear HE HE2
      subst hks
      by_cases h6 : s.size = 6
      · have HF : Hid (R = m) := by
          show _ = _
          rw [HR.out, HN.out, if_pos h6]
          exact (HM.out h6).1.symm
        have e6 : ((s.size : Int) != 6) = false := by rw [h6]; decide
        go_wp2
        go_ret
        exact ⟨ret_int HF.out.symm, rfl⟩
      · have HF : Hid (R = -1) := by
          show _ = _
          rw [HR.out, HN.out, if_neg h6]
        have e6 : ((s.size : Int) != 6) = true := by simpa using fun h => h6 (by exact_mod_cast h)
        go_wp2
        go_ret
        exact ⟨ret_int HF.out.symm, rfl⟩
end Go.Proofs.Ytbeldjijnjgbfaa

namespace Go.Proofs.Ytbeldjijnjgbfaa
open Go Go.RowKit Go.ChangeShapes Go.WideShapes Go.ChangeAt

set_option maxRecDepth 100000 in
set_option maxHeartbeats 2000000 in
theorem kdigits_any (n : Nat) (hn : n ≤ 1000000) (w : World) : Calls Try.prog 98 #[.int .i64 (n : Int)] w fun e w' => e = .returned (.string (dig6 n)) ∧ Below w.heap.size w w' := by
  obtain ⟨R, hR⟩ : ∃ R, R = dig6 n := ⟨_, rfl⟩
  rw [← hR]
  have HR := Lib.hid hR
  clear hR
  go_enter Try.func98, Try.ntmps98
  go_wp2_with fail
  go_loopw [0, 3, 4] (fun n' s i wr => ∃ (k q : Nat) (t : ByteArray), k ≤ 6 ∧ q ≤ 1000000 ∧ t.size = k ∧ n' = .int .i64 q ∧ i = .int .i64 k ∧ s = .string t ∧ Hid (R = digF (6 - k) q t) ∧ Hid (Below w.heap.size w wr)) (fun _ _ i _ => 6 - (RowKit.intOf i).toNat)
  case atStart => exact ⟨0, n, _, Nat.zero_le _, hn, rfl, rfl, rfl, rfl, HR, Below.refl _ _⟩
  case round =>
    obtain ⟨k, q, t, hk, hq, ht, rfl, rfl, rfl, HE, HL⟩ := hrel
    by_cases hlt : k < 6
    · obtain ⟨dc, hdc⟩ : ∃ dc, dc = UInt8.ofNat (48 + q % 10) := ⟨_, rfl⟩
      have e0 : (48 + (q : Int) % 10) = ((dc.toNat : Nat) : Int) := by rw [hdc, UInt8.toNat_ofNat']; omega
      have hcv : (convert 127 9 (.slice (some ⟨wr.heap.size, 0, none⟩) 1 1)).run Try.prog (wr.alloc (.cells #[.int .u8 (48 + (q : Int) % 10)] 5 (0, 0))) = .ok (.string ⟨#[dc]⟩) (wr.alloc (.cells #[.int .u8 (48 + (q : Int) % 10)] 5 (0, 0))) := by
        rw [e0]
        have h := World.ownsRow_lit (e := 5) (size := 1) wr #[byV (dc)] 1 (Nat.le_refl wr.heap.size) (by unfold maxLen; omega) (by rfl)
        have hbf : Buf (wr.alloc (.cells #[byV (dc)] 5 (0, 0))) wr.heap.size (.slice (some ⟨wr.heap.size, 0, none⟩) 1 1) [dc] := h
        exact hbf.text
      have HB2 : Hid (Below w.heap.size w (wr.alloc (.cells #[.int .u8 (48 + (q : Int) % 10)] 5 (0, 0)))) := HL.out.alloc HL.out.size _
      have HE2 : Hid (R = digF (6 - (k + 1)) (q / 10) (⟨#[dc]⟩ ++ t)) := by
        show _ = _
        rw [HE.out, hdc, show 6 - k = (6 - (k + 1)) + 1 from by omega, digF]
      have h1 : (⟨#[dc]⟩ : ByteArray).size = 1 := rfl
      have hsz : ((⟨#[dc]⟩ : ByteArray).size : Int) + (t.size : Int) ≤ 1000002 := by omega
      have h3 : ((⟨#[dc]⟩ : ByteArray) ++ t).size = k + 1 := by rw [ByteArray.size_append]; omega
      clear hdc HE HL e0
      go_wp2
      go_roundw
      case rel => exact ⟨k + 1, q / 10, _, by omega, by omega, h3, by go_num, by go_num, rfl, HE2, HB2⟩
      case measure => simp [RowKit.intOf]; omega
    · have hk6 : k = 6 := by omega
      subst hk6
      have HF : Hid (R = t) := HE.out
      go_wp2
      go_ret
      exact ⟨ret_str HF.out.symm, HL.out⟩

/-- What a store may hold. -/
structure StOk (S : StD) : Prop where
  r0 : 0 ≤ S.room
  r1 : S.room ≤ 100000
  len : S.l.length ≤ 100000
  txt : ∀ t ∈ S.l, t.size ≤ 100000
/-- Block kb is the store, v its texts. -/
structure KpAt (w : World) (kb : Nat) (v : Value) (S : StD) : Prop where
  ok : StOk S
  box : Box w kb 28 #[v, .int .i64 S.room]
  row : Ks w 0 v S.l
  ne : v.ownBlock ≠ some kb
theorem KpAt.keep {w w' : World} {kb : Nat} {v : Value} {S : StD} (h : KpAt w kb v S) (hb : Below w.heap.size w w') : KpAt w' kb v S := ⟨h.ok, h.box.keep hb h.box.lt, h.row.keep hb, h.ne⟩
/-- The store, in blocks G. -/
def KpF (kb : Nat) (S : StD) (G : List Nat) (w : World) : Prop := ∃ v, KpAt w kb v S ∧ G = kb :: v.ownBlock.toList
theorem fixed_kp (kb : Nat) (S : StD) : Fixed (KpF kb S) := by
  refine ⟨?_, ?_⟩
  · rintro G F w1 w2 ⟨v, h, rfl⟩ hc hn
    exact ⟨v, ⟨h.ok, h.box.of (hc.block kb h.box.lt (hn kb (by simp))), h.row.chg hc (fun k hk => hn k (by simp [hk])), h.ne⟩, rfl⟩
  · rintro G w ⟨v, h, rfl⟩ k hk
    rcases List.mem_cons.1 hk with rfl | hk
    · exact h.box.lt
    · exact h.row.lt k (by simpa using hk)
theorem KpF.keep {kb : Nat} {S : StD} {G : List Nat} {w w' : World} (h : KpF kb S G w) (hb : Below w.heap.size w w') : KpF kb S G w' := by
  obtain ⟨v, h, e⟩ := h
  exact ⟨v, h.keep hb, e⟩
theorem getS_eq (S : StD) (r : ByteArray) : getS S r = if numI r < 0 ∨ (S.l.length : Int) ≤ numI r then (noT, 7) else (S.l.getD (numI r).toNat noT, 0) := by
  unfold getS numI
  cases hn : numT r with
  | none => simp
  | some n =>
    simp only
    by_cases h : n < S.l.length
    · rw [if_neg (by omega), List.getElem?_eq_getElem h]
      simp [List.getD, h]
    · rw [if_pos (by omega), List.getElem?_eq_none (by omega)]
set_option maxHeartbeats 2000000 in
theorem kget_any (kb : Nat) (v : Value) (S : StD) (ref : ByteArray) (w : World) (h : KpAt w kb v S) (hr : ref.size ≤ maxLen) :
    Calls Try.prog 21 #[.pointer (some ⟨kb, 0, none⟩), .string ref] w fun e w' => e = .returned (.tuple #[.string (getS S ref).1, .int .i64 (getS S ref).2]) ∧ w = w' := by
  have c0 := h.box.cell 0 _ rfl
  obtain ⟨a, c, rfl, hs⟩ := h.row.view
  have HS := Lib.hid hs
  have HG := Lib.hid (getS_eq S ref)
  have hl := h.ok.len
  obtain ⟨g, hg⟩ : ∃ g, g = getS S ref := ⟨_, rfl⟩
  rw [← hg] at HG ⊢
  clear h hs hg
  go_enter Try.func21, Try.ntmps21
  go_wp2_with fail
  refine (knumber_any ref _ hr).mono ?_
  rintro e w1 ⟨rfl, rfl⟩
  generalize numI ref = n at *
  by_cases h0 : n < 0
  · have HQ : Hid (g = (noT, 7)) := by show _ = _; rw [HG.out, if_pos (.inl h0)]
    go_wp2
    go_ret2
    exact ⟨by rw [HQ.out]; rfl, rfl⟩
  · by_cases h1 : (S.l.length : Int) ≤ n
    · have HQ : Hid (g = (noT, 7)) := by show _ = _; rw [HG.out, if_pos (.inr h1)]
      go_wp2
      go_ret2
      exact ⟨by rw [HQ.out]; rfl, rfl⟩
    · obtain ⟨k, rfl⟩ : ∃ k : Nat, n = k := ⟨n.toNat, by omega⟩
      have hk : k < S.l.length := by omega
      have HQ : Hid (g = (S.l[k], 0)) := by
        show _ = _
        rw [HG.out, if_neg (by omega), Int.toNat_natCast]
        simp [List.getD, hk]
      obtain ⟨b, off, rfl, _, hc⟩ := HS.out.get k hk
      go_wp2
      go_ret2
      exact ⟨by rw [HQ.out]; rfl, rfl⟩
end Go.Proofs.Ytbeldjijnjgbfaa
