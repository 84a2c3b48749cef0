/-
  The reference's Within; live of package path.
-/
import Derived.Test.YtjimjaimfejonaaDoorPathX
namespace Go.Proofs.YtjimjaimfejonaaDoor
open Go Go.RowKit Go.Shelf

theorem take_step {l m : List ByteArray} {k : Nat} (h1 : k < l.length) (h2 : k < m.length) : (m.take (k + 1) = l.take (k + 1)) ↔ (m.take k = l.take k ∧ m[k] = l[k]) := by
  rw [List.take_succ_eq_append_getElem h1, List.take_succ_eq_append_getElem h2]
  constructor
  · intro e
    have := List.append_inj e (by rw [List.length_take, List.length_take]; omega)
    exact ⟨this.1, by simpa using this.2⟩
  · rintro ⟨e1, e2⟩; rw [e1, e2]

set_option maxRecDepth 100000 in
set_option maxHeartbeats 1000000 in
theorem rwithin_any (a b : ByteArray) (ha : a.size ≤ 5000) (hb : b.size ≤ 5000) (w : World) : Calls Tryd.prog 16 #[.string a, .string b] w fun e w' => e = .returned (.bool (witD a b)) ∧ Below w.heap.size w w' := by
  obtain ⟨R, hR⟩ : ∃ R, R = witD a b := ⟨_, rfl⟩
  rw [← hR]
  have hla := split_len a
  have hlb := split_len b
  have HF : Hid ((¬ ((splitD a).2 = 0 ∧ (splitD b).2 = 0 ∧ (splitD a).1.length ≤ (splitD b).1.length) → R = false) ∧ ((splitD a).2 = 0 → (splitD b).2 = 0 → (splitD a).1.length ≤ (splitD b).1.length → R = decide ((splitD b).1.take (splitD a).1.length = (splitD a).1))) := by
    refine ⟨fun h => hR.trans ?_, fun h1 h2 h3 => hR.trans (witD_is h1 h2 h3)⟩
    by_cases h1 : (splitD a).2 = 0
    · by_cases h2 : (splitD b).2 = 0
      · exact witD_no3 (by
          rcases Nat.lt_or_ge (splitD b).1.length (splitD a).1.length with e | e
          · exact e
          · exact absurd ⟨h1, h2, e⟩ h)
      · exact witD_no2 h2
    · exact witD_no1 h1
  clear hR
  go_enter Tryd.func16, Tryd.ntmps16
  go_wp2_with fail
  refine (rsplit_any a ha _).mono ?_
  rintro e w1 ⟨v, rfl, hk, hb'⟩
  obtain ⟨xa, xc, rfl, hs1, _⟩ := hk.shape
  have HB := Lib.hid hb'
  have HS1 := Lib.hid hs1
  clear hb' hk hs1
  go_wp2_with fail
  refine (rsplit_any b hb _).mono ?_
  rintro e w2 ⟨v, rfl, hk, hb'⟩
  obtain ⟨ya, yc, rfl, hs2, _⟩ := hk.shape
  have HB2 := Lib.hid (HB.out.trans (hb'.mono HB.out.size))
  have HS2 := Lib.hid hs2
  have HS1 := Lib.hid (HS1.out.keepB hb')
  clear hb' hk hs2
  generalize (splitD a).1 = l at *
  generalize (splitD b).1 = m at *
  generalize (splitD a).2 = ea at *
  generalize (splitD b).2 = eb at *
  by_cases h1 : ea = 0
  · by_cases h2 : eb = 0
    · subst h1 h2
      by_cases h3 : m.length < l.length
      · have HG := Lib.hid (HF.out.1 (by omega))
        go_wp2
        go_ret
        exact ⟨ret_bool HG.out.symm, HB2.out⟩
      · have HG := Lib.hid (HF.out.2 rfl rfl (by omega))
        have hle : l.length ≤ m.length := by omega
        have h3' : ¬ (m.length : Int) < (l.length : Int) := by omega
        have hd : (m.length < l.length) = False := eq_false (by omega)
        clear HF h3
        go_wp2
        go_loopw [4, 9] (fun _ i wr => ∃ k : Nat, k ≤ l.length ∧ i = .int .i64 k ∧ Hid (m.take k = l.take k) ∧ Hid (Below w2.heap.size w2 wr)) (fun _ i _ => l.length - (intOf i).toNat)
        case atStart => exact ⟨0, Nat.zero_le _, rfl, rfl, Below.refl _ _⟩
        case round =>
          obtain ⟨k, hk, rfl, HT, HL⟩ := hrel
          by_cases hlt : k < l.length
          · have hl0 : l ≠ [] := by intro e; rw [e] at hlt; simp at hlt
            have hm0 : m ≠ [] := by intro e; rw [e] at hle; simp only [List.length_nil] at hle; omega
            obtain ⟨b1, o1, rfl, hb1, hc1⟩ := (HS1.out.keepB HL.out) hl0
            obtain ⟨b2, o2, rfl, hb2, hc2⟩ := (HS2.out.keepB HL.out) hm0
            have hltm : k < m.length := by omega
            have q1 : wr.drew.cell? ⟨b1, o1 + k, none⟩ = some (.string l[k]) := hc1 k _ (List.getElem?_eq_getElem hlt)
            have q2 : wr.drew.cell? ⟨b2, o2 + k, none⟩ = some (.string m[k]) := hc2 k _ (List.getElem?_eq_getElem hltm)
            have HST := Lib.hid (take_step hlt hltm)
            have HBD : Hid (Below w2.heap.size w2 wr.drew) := ⟨HL.out.os, HL.out.tape, HL.out.output, HL.out.size, HL.out.block⟩
            have HNE : Hid (l[k] ≠ m[k] → m.take l.length ≠ l) := fun hne e => hne (by
              have := congrArg (fun z => z[k]?) e
              simp only [List.getElem?_take, if_pos hlt] at this
              rw [List.getElem?_eq_getElem hltm, List.getElem?_eq_getElem hlt] at this
              injection this with this
              exact this.symm)
            clear hc1 hc2 hb1 hb2 hl0 hm0
            generalize l[k] = x at *
            generalize m[k] = y at *
            have hki : (0 : Int) ≤ (k : Int) := by omega
            have hkl : (k : Int) < (l.length : Int) := by omega
            have hkm : (k : Int) < (m.length : Int) := by omega
            by_cases hxy : x = y
            · subst hxy
              have HS2' := Lib.hid (HST.out.2 ⟨HT.out, rfl⟩)
              go_wp2_with fail
              refine wp_region_sched (fun W => W.cell? ⟨b1, o1 + k, none⟩ = some (.string x) ∧ W.cell? ⟨b2, o2 + k, none⟩ = some (.string x)) 8 [(0, false), (1, false), (2, false), (3, false), (4, false), (5, false), (6, false), (7, false)] (by kernel_rfl) (by kernel_rfl) ⟨q1, q2⟩ ?_
              simp only [List.drop_succ_cons, List.drop_zero]
              iterate 8 (apply wpSch_step rfl; (intro W hS K hK; obtain ⟨r1, r2⟩ := hS; go_simp; exact hK _ rfl))
              refine wpSch_nil ?_
              clear q1 q2
              go_wp2
              go_roundw
              case rel => exact ⟨k + 1, by omega, by go_num, HS2', HBD⟩
              case measure => simp [intOf]; omega
            · have hne : (x.toList == y.toList) = false := by
                rw [beq_eq_false_iff_ne, ByteArray.toList_eq, ByteArray.toList_eq]
                intro e
                exact hxy (pb_ext e)
              have HFF := Lib.hid (HG.out.trans (decide_eq_false (HNE.out hxy)))
              clear hxy
              go_wp2_with fail
              refine wp_region_sched (fun W => W.cell? ⟨b1, o1 + k, none⟩ = some (.string x) ∧ W.cell? ⟨b2, o2 + k, none⟩ = some (.string y)) 8 [(0, false), (1, false), (2, false), (3, false), (4, false), (5, false), (6, false), (7, false)] (by kernel_rfl) (by kernel_rfl) ⟨q1, q2⟩ ?_
              simp only [List.drop_succ_cons, List.drop_zero]
              iterate 8 (apply wpSch_step rfl; (intro W hS K hK; obtain ⟨r1, r2⟩ := hS; go_simp; exact hK _ rfl))
              refine wpSch_nil ?_
              clear q1 q2
              have HE := Lib.hid (HB2.out.trans (HBD.out.mono HB2.out.size))
              go_wp2
              go_ret
              exact ⟨ret_bool HFF.out.symm, HE.out⟩
          · have hke : k = l.length := by omega
            have HFF : Hid (R = true) := by
              show _ = _
              rw [HG.out, ← hke, HT.out, hke, List.take_length]
              simp
            have HE := Lib.hid (HB2.out.trans (HL.out.mono HB2.out.size))
            clear hke
            go_wp2
            go_ret
            exact ⟨ret_bool HFF.out.symm, HE.out⟩
    · subst h1
      have HG := Lib.hid (HF.out.1 (fun e => h2 e.2.1))
      have hq : (eb != 0) = true := by simpa using h2
      clear h2 HF
      go_wp2
      go_ret
      exact ⟨ret_bool HG.out.symm, HB2.out⟩
  · have HG := Lib.hid (HF.out.1 (fun e => h1 e.1))
    have hq : (ea != 0) = true := by simpa using h1
    clear h1 HF
    go_wp2
    go_ret
    exact ⟨ret_bool HG.out.symm, HB2.out⟩
end Go.Proofs.YtjimjaimfejonaaDoor
