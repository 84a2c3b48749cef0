/-
  Texts put together: PathY, MrK.
-/
import Derived.Test.YteimpebfenpifaaGreatDoorMg15
import Derived.Test.YteimpebfenpifaaGreatDoorMg32
import Derived.Test.YteimpebfenpifaaGreatDoorMg35
namespace Go.Proofs.YteimpebfenpifaaGreatDoor
open Go Go.RowKit Go.Shelf

theorem take_step {l m : List ByteArray} {k : Nat} (h1 : k < l.length) (h2 : k < m.length) : (m.take (k + 1) = l.take (k + 1)) ↔ (m.take k = l.take k ∧ m[k] = l[k]) := by
  rw [List.take_succ_eq_append_getElem h1, List.take_succ_eq_append_getElem h2]
  constructor
  · intro e
    have := List.append_inj e (by rw [List.length_take, List.length_take]; omega)
    exact ⟨this.1, by simpa using this.2⟩
  · rintro ⟨e1, e2⟩; rw [e1, e2]

set_option maxRecDepth 100000 in
set_option maxHeartbeats 1000000 in
theorem rwithin_any (a b : ByteArray) (ha : a.size ≤ 100000) (hb : b.size ≤ 100000) (w : World) : Calls Tryz.prog 57 #[.string a, .string b] w fun e w' => e = .returned (.bool (witD a b)) ∧ Below w.heap.size w w' := by
  obtain ⟨R, hR⟩ : ∃ R, R = witD a b := ⟨_, rfl⟩
  rw [← hR]
  have hla := split_len a
  have hlb := split_len b
  have HF : Hid ((¬ ((splitD a).2 = 0 ∧ (splitD b).2 = 0 ∧ (splitD a).1.length ≤ (splitD b).1.length) → R = false) ∧ ((splitD a).2 = 0 → (splitD b).2 = 0 → (splitD a).1.length ≤ (splitD b).1.length → R = decide ((splitD b).1.take (splitD a).1.length = (splitD a).1))) := by
    refine ⟨fun h => hR.trans ?_, fun h1 h2 h3 => hR.trans (witD_is h1 h2 h3)⟩
    by_cases h1 : (splitD a).2 = 0
    · by_cases h2 : (splitD b).2 = 0
      · exact witD_no3 (by
          rcases Nat.lt_or_ge (splitD b).1.length (splitD a).1.length with e | e
          · exact e
          · exact absurd ⟨h1, h2, e⟩ h)
      · exact witD_no2 h2
    · exact witD_no1 h1
  clear hR
  go_enter Tryz.func57, Tryz.ntmps57
  go_wp2_with fail
  refine (rsplit_any a ha _).mono ?_
  rintro e w1 ⟨v, rfl, hk, hb'⟩
  obtain ⟨xa, xc, rfl, hs1, _⟩ := hk.shape
  have HB := Lib.hid hb'
  have HS1 := Lib.hid hs1
  clear hb' hk hs1
  go_wp2_with fail
  refine (rsplit_any b hb _).mono ?_
  rintro e w2 ⟨v, rfl, hk, hb'⟩
  obtain ⟨ya, yc, rfl, hs2, _⟩ := hk.shape
  have HB2 := Lib.hid (HB.out.trans (hb'.mono HB.out.size))
  have HS2 := Lib.hid hs2
  have HS1 := Lib.hid (HS1.out.keepB hb')
  clear hb' hk hs2
  generalize (splitD a).1 = l at *
  generalize (splitD b).1 = m at *
  generalize (splitD a).2 = ea at *
  generalize (splitD b).2 = eb at *
  by_cases h1 : ea = 0
  · by_cases h2 : eb = 0
    · subst h1 h2
      by_cases h3 : m.length < l.length
      · have HG := Lib.hid (HF.out.1 (by omega))
        go_wp2
        go_ret
        exact ⟨ret_bool HG.out.symm, HB2.out⟩
      · have HG := Lib.hid (HF.out.2 rfl rfl (by omega))
        have hle : l.length ≤ m.length := by omega
        have h3' : ¬ (m.length : Int) < (l.length : Int) := by omega
        have hd : (m.length < l.length) = False := eq_false (by omega)
        clear HF h3
        go_wp2
        go_loopw [4, 9] (fun _ i wr => ∃ k : Nat, k ≤ l.length ∧ i = .int .i64 k ∧ Hid (m.take k = l.take k) ∧ Hid (Below w2.heap.size w2 wr)) (fun _ i _ => l.length - (intOf i).toNat)
        case atStart => exact ⟨0, Nat.zero_le _, rfl, rfl, Below.refl _ _⟩
        case round =>
          obtain ⟨k, hk, rfl, HT, HL⟩ := hrel
          by_cases hlt : k < l.length
          · have hl0 : l ≠ [] := by intro e; rw [e] at hlt; simp at hlt
            have hm0 : m ≠ [] := by intro e; rw [e] at hle; simp only [List.length_nil] at hle; omega
            obtain ⟨b1, o1, rfl, hb1, hc1⟩ := (HS1.out.keepB HL.out) hl0
            obtain ⟨b2, o2, rfl, hb2, hc2⟩ := (HS2.out.keepB HL.out) hm0
            have hltm : k < m.length := by omega
            have q1 : wr.drew.cell? ⟨b1, o1 + k, none⟩ = some (.string l[k]) := hc1 k _ (List.getElem?_eq_getElem hlt)
            have q2 : wr.drew.cell? ⟨b2, o2 + k, none⟩ = some (.string m[k]) := hc2 k _ (List.getElem?_eq_getElem hltm)
            have HST := Lib.hid (take_step hlt hltm)
            have HBD : Hid (Below w2.heap.size w2 wr.drew) := ⟨HL.out.os, HL.out.tape, HL.out.output, HL.out.size, HL.out.block⟩
            have HNE : Hid (l[k] ≠ m[k] → m.take l.length ≠ l) := fun hne e => hne (by
              have := congrArg (fun z => z[k]?) e
              simp only [List.getElem?_take, if_pos hlt] at this
              rw [List.getElem?_eq_getElem hltm, List.getElem?_eq_getElem hlt] at this
              injection this with this
              exact this.symm)
            clear hc1 hc2 hb1 hb2 hl0 hm0
            generalize l[k] = x at *
            generalize m[k] = y at *
            have hki : (0 : Int) ≤ (k : Int) := by omega
            have hkl : (k : Int) < (l.length : Int) := by omega
            have hkm : (k : Int) < (m.length : Int) := by omega
            by_cases hxy : x = y
            · subst hxy
              have HS2' := Lib.hid (HST.out.2 ⟨HT.out, rfl⟩)
              go_wp2_with fail
              refine wp_region_sched (fun W => W.cell? ⟨b1, o1 + k, none⟩ = some (.string x) ∧ W.cell? ⟨b2, o2 + k, none⟩ = some (.string x)) 8 [(0, false), (1, false), (2, false), (3, false), (4, false), (5, false), (6, false), (7, false)] (by kernel_rfl) (by kernel_rfl) ⟨q1, q2⟩ ?_
              simp only [List.drop_succ_cons, List.drop_zero]
              iterate 8 (apply wpSch_step rfl; (intro W hS K hK; obtain ⟨r1, r2⟩ := hS; go_simp; exact hK _ rfl))
              refine wpSch_nil ?_
              clear q1 q2
              go_wp2
              go_roundw
              case rel => exact ⟨k + 1, by omega, by go_num, HS2', HBD⟩
              case measure => simp [intOf]; omega
            · have hne : (x.toList == y.toList) = false := by
                rw [beq_eq_false_iff_ne, ByteArray.toList_eq, ByteArray.toList_eq]
                intro e
                exact hxy (pb_ext e)
              have HFF := Lib.hid (HG.out.trans (decide_eq_false (HNE.out hxy)))
              clear hxy
              go_wp2_with fail
              refine wp_region_sched (fun W => W.cell? ⟨b1, o1 + k, none⟩ = some (.string x) ∧ W.cell? ⟨b2, o2 + k, none⟩ = some (.string y)) 8 [(0, false), (1, false), (2, false), (3, false), (4, false), (5, false), (6, false), (7, false)] (by kernel_rfl) (by kernel_rfl) ⟨q1, q2⟩ ?_
              simp only [List.drop_succ_cons, List.drop_zero]
              iterate 8 (apply wpSch_step rfl; (intro W hS K hK; obtain ⟨r1, r2⟩ := hS; go_simp; exact hK _ rfl))
              refine wpSch_nil ?_
              clear q1 q2
              have HE := Lib.hid (HB2.out.trans (HBD.out.mono HB2.out.size))
              go_wp2
              go_ret
              exact ⟨ret_bool HFF.out.symm, HE.out⟩
          · have hke : k = l.length := by omega
            have HFF : Hid (R = true) := by
              show _ = _
              rw [HG.out, ← hke, HT.out, hke, List.take_length]
              simp
            have HE := Lib.hid (HB2.out.trans (HL.out.mono HB2.out.size))
            clear hke
            go_wp2
            go_ret
            exact ⟨ret_bool HFF.out.symm, HE.out⟩
    · subst h1
      have HG := Lib.hid (HF.out.1 (fun e => h2 e.2.1))
      have hq : (eb != 0) = true := by simpa using h2
      clear h2 HF
      go_wp2
      go_ret
      exact ⟨ret_bool HG.out.symm, HB2.out⟩
  · have HG := Lib.hid (HF.out.1 (fun e => h1 e.1))
    have hq : (ea != 0) = true := by simpa using h1
    clear h1 HF
    go_wp2
    go_ret
    exact ⟨ret_bool HG.out.symm, HB2.out⟩
end Go.Proofs.YteimpebfenpifaaGreatDoor

namespace Go.Proofs.YteimpebfenpifaaGreatDoor
open Go Go.RowKit Go.ChangeShapes Go.WideShapes Go.ChangeAt

theorem join_app {a : PathD} (h : a ≠ []) (t : PathD) : joinD (a ++ t) = joinD a ++ mkB (accL t) := by
  have h2 : a ++ t ≠ [] := by simp [h]
  rw [accB_join _ h, accB_join _ h2]
  apply pb_ext
  unfold accB mkB
  rw [pb_append, pb_mk, pb_mk, pb_mk]
  simp [accL]
theorem join_mv {a b t : PathD} (ha : a ≠ []) (hb : b ≠ []) : joinD b ++ (joinD (a ++ t)).extract (joinD a).size (joinD (a ++ t)).size = joinD (b ++ t) := by
  rw [join_app hb]
  congr 1
  apply pb_ext
  rw [pb_cut, join_app ha, pb_append, ByteArray.size_append]
  have h1 := pb_size (joinD a)
  have h2 := pb_size (mkB (accL t))
  rw [← h1, List.drop_left, List.take_of_length_le (by omega)]
def mvx (a b : PathD) (x : EnD) : EnD := (mvP a b x.1, x.2)
def mvK (a b : PathD) (E : List EnD) (k : Nat) : List EnD := (E.take k).map (mvx a b) ++ E.drop k
theorem mvK_len (a b : PathD) (E : List EnD) (k : Nat) : (mvK a b E k).length = E.length := by
  unfold mvK
  rw [List.length_append, List.length_map, List.length_take, List.length_drop]
  omega
theorem mvK_zero (a b : PathD) (E : List EnD) : mvK a b E 0 = E := by unfold mvK; simp
theorem mvK_all (a b : PathD) (E : List EnD) : mvK a b E E.length = E.map (mvx a b) := by unfold mvK; simp
theorem mvK_get {a b : PathD} {E : List EnD} {k : Nat} (h : k < E.length) : (mvK a b E k)[k]? = some E[k] := by
  unfold mvK
  rw [List.getElem?_append_right (by simp; omega)]
  simp [Nat.min_eq_left (Nat.le_of_lt h), h]
theorem mvK_succ {a b : PathD} {E : List EnD} {k : Nat} (h : k < E.length) : mvK a b E (k + 1) = (mvK a b E k).set k (mvx a b E[k]) := by
  unfold mvK
  rw [List.take_succ_eq_append_getElem h, List.map_append, List.set_append_right _ _ (by simp; omega), List.append_assoc]
  congr 1
  have h1 : k - ((E.take k).map (mvx a b)).length = 0 := by simp; omega
  rw [h1, List.drop_eq_getElem_cons h]
  rfl
theorem mvK_same {a b : PathD} {E : List EnD} {k : Nat} (h : k < E.length) (hp : ¬ a <+: E[k].1) : mvK a b E (k + 1) = mvK a b E k := by
  rw [mvK_succ h]
  have h1 : mvx a b E[k] = E[k] := by unfold mvx; rw [mv_not hp]
  rw [h1]
  have h2 := mvK_get (a := a) (b := b) h
  apply List.ext_getElem?
  intro i
  rw [List.getElem?_set]
  by_cases e : k = i
  · subst e
    rw [if_pos rfl, if_pos (by rw [mvK_len]; exact h), h2]
  · rw [if_neg e]
structure RnJ (w : World) (p : RmP) (E : List EnD) (T : List Th) (wr : World) : Prop where
  r : RmAt wr p ⟨E, T⟩
  c : Chg p.fp w wr
theorem RnJ.set {w wr : World} {p : RmP} {E : List EnD} {T : List Th} {g n cap : Nat} (h : RnJ w p E T wr) (hev : p.ev = .slice (some ⟨g, 0, none⟩) n cap) {k : Nat} (hk : k < E.length) (x : PathD) : RnJ w p (E.set k (x, (E[k]?.getD ([], 0)).2)) T (wr.setCell ⟨g, k * 2, none⟩ (.string (joinD x))) := by
  have hs := rm_chg wr g (k * 2) (.string (joinD x))
  have hob : p.ev.ownBlock = some g := by rw [hev]; rfl
  have hne := h.r.ne g hob
  refine ⟨⟨h.r.box.of (hs.block p.b h.r.box.lt (by simpa using hne.1)), ?_, h.r.t.of fun j hj hl => hs.block j hl (by rw [List.mem_singleton]; intro e; rw [e] at hj; exact hne.2 hj), h.r.ne, h.r.nt⟩, h.c.trans (hs.mono (fun j hj => by rw [List.mem_singleton] at hj; rw [hj]; exact fp_mem.2 (.inr (.inl hob))))⟩
  have he := h.r.e
  rw [hev] at he ⊢
  exact he.set k hk x
theorem RnJ.keep {w wr w' : World} {p : RmP} {E : List EnD} {T : List Th} (h : RnJ w p E T wr) (hb : Below wr.heap.size wr w') : RnJ w p E T w' := ⟨h.r.keep hb, h.c.trans (Chg.of hb (Nat.le_refl _))⟩
set_option maxRecDepth 100000 in
set_option maxHeartbeats 4000000 in
theorem rrename_any (p : RmP) (G : GD) (w : World) (h : RmAt w p G) (hw : WfG G) (hk : G.E.length ≤ 100000) (hj : ∀ x ∈ G.E, (joinD x.1).size ≤ 90000) (s t : ByteArray) (hs : (splitD s).2 = 0) (hs0 : (splitD s).1 ≠ []) (ht : (splitD t).2 = 0) (ht0 : (splitD t).1 ≠ []) (hz : s.size ≤ 50000) (hzt : t.size ≤ 40000) :
    Calls Tryz.prog 58 #[.pointer (some ⟨p.b, 0, none⟩), .string s, .string t] w fun e w' => e = .returned (.tuple #[]) ∧ RmTo p (moveG G s t) w w' := by
  have HK := Lib.hid hk
  have HZ := Lib.hid hz
  have HZT := Lib.hid hzt
  have HJZ := Lib.hid hj
  have HJS : Hid (joinD (splitD s).1 = s) := join_split hs
  have HJT : Hid (joinD (splitD t).1 = t) := join_split ht
  have HNM := Lib.hid hw.names
  have HWT : Hid (∀ x ∈ G.E, witD s (joinD x.1) = decide ((splitD s).1 <+: x.1)) := fun x hx => by
    unfold witD
    rw [split_join (hw.names x hx)]
    by_cases hp : (splitD s).1 <+: x.1
    · rw [decide_eq_true hp]; exact decide_eq_true ⟨hs, rfl, hp⟩
    · rw [decide_eq_false hp]; exact decide_eq_false (fun e => hp e.2.2)
  have HG : Hid (moveG G s t = ⟨G.E.map (mvx (splitD s).1 (splitD t).1), G.T⟩) := rfl
  have HA : Hid (RnJ w p (mvK (splitD s).1 (splitD t).1 G.E 0) G.T w) := ⟨by rw [mvK_zero]; exact h, Chg.refl _ _⟩
  have HS0 := Lib.hid hs0
  have HT0 := Lib.hid ht0
  generalize moveG G s t = G' at *
  generalize (splitD s).1 = a at *
  generalize (splitD t).1 = b at *
  clear h hw hk hj hs hs0 ht ht0 hz hzt
  go_enter Tryz.func58, Tryz.ntmps58
  go_wp2_with fail
  go_loopw [6] (fun i wr => ∃ k : Nat, ∃ wz : World, wz = wr ∧ k ≤ G.E.length ∧ i = .int .i64 k ∧ Hid (RnJ w p (mvK a b G.E k) G.T wr)) (fun i _ => G.E.length - (intOf i).toNat)
  case atStart => exact ⟨0, _, rfl, Nat.zero_le _, rfl, HA⟩
  case round =>
    clear HA
    obtain ⟨k, wr, rfl, hk, rfl, HD⟩ := hrel
    have HLN := mvK_len a b G.E k
    have c0 := HD.out.r.box.cell 0 _ rfl
    obtain ⟨ea, ec, hev⟩ := HD.out.r.e.shape
    have hev : p.ev = .slice ea (mvK a b G.E k).length ec := hev
    rw [HLN] at hev
    have HE := Lib.hid HD.out.r.e
    rw [hev] at c0 HE
    by_cases hlt : k < G.E.length
    · obtain ⟨g, rfl, -, c1, -, f1, -⟩ := HE.out.at (i := k) (by rw [HLN]; exact hlt)
      have hget : (mvK a b G.E k)[k]'(by rw [HLN]; exact hlt) = G.E[k] := by
        have h1 := mvK_get (a := a) (b := b) hlt
        rw [List.getElem?_eq_getElem (by rw [HLN]; exact hlt)] at h1
        exact Option.some.inj h1
      rw [hget] at c1
      have HW := Lib.hid (HWT.out _ (List.getElem_mem hlt))
      have HSZ := Lib.hid (HJZ.out _ (List.getElem_mem hlt))
      have HMS := Lib.hid (mvK_succ (a := a) (b := b) hlt)
      have HME := Lib.hid (fun h => mvK_same (a := a) (b := b) hlt h)
      have HGT : Hid ((mvK a b G.E k)[k]?.getD ([], 0) = G.E[k]) := by show _ = _; rw [mvK_get hlt]; rfl
      have hkk : k + 1 ≤ 200000 := by have := HK.out; omega
      have h0 : (0 : Int) ≤ (k : Int) := by omega
      have h1 : (k : Int) < (G.E.length : Int) := by omega
      have HLT := Lib.hid hlt
      have HEV := Lib.hid hev
      generalize G.E[k] = x at *
      obtain ⟨x1, x2⟩ := x
      dsimp only at *
      clear hget hlt hev HE
      go_wp2_with fail
      refine (rwithin_any s (joinD x1) (by have := HZ.out; omega) (by have := HSZ.out; omega) wr).mono ?_
      rintro e w2 ⟨rfl, hb⟩
      rw [HW.out]
      have HD2 := Lib.hid (HD.out.keep hb)
      clear hb HD c0 c1 f1
      by_cases hp : a <+: x1
      case neg =>
        rw [decide_eq_false hp]
        have HM2 := Lib.hid (HME.out hp)
        clear hp HMS HME
        go_wp2
        go_roundw
        case rel => exact ⟨k + 1, _, rfl, HLT.out, by go_num, by rw [HM2.out]; exact HD2⟩
        case measure => have := HLT.out; simp [intOf]; omega
      rw [decide_eq_true hp]
      obtain ⟨r, rfl⟩ := hp
      have hmv : mvx a b (a ++ r, x2) = (b ++ r, x2) := by unfold mvx; rw [mv_pre]
      rw [hmv] at HMS
      have hjm := join_mv (t := r) HS0.out HT0.out
      rw [HJS.out, HJT.out] at hjm
      have hsz : s.size ≤ (joinD (a ++ r)).size := by rw [join_app HS0.out, HJS.out, ByteArray.size_append]; omega
      have HXZ := Lib.hid HSZ.out
      have HXD := Lib.hid (HD2.out.keep (⟨rfl, rfl, rfl, Nat.le_refl _, fun _ _ => rfl⟩ : Below w2.heap.size w2 w2.drew))
      have hkl : k < (mvK a b G.E k).length := by rw [HLN]; exact HLT.out
      have hE2 := HXD.out.r.e
      rw [HEV.out] at hE2
      obtain ⟨g', hg', -, c1, -, f1, -⟩ := hE2.at (i := k) hkl
      injection hg' with hg'
      injection hg' with hg'
      subst hg'
      have hx : (mvK a b G.E k)[k]'hkl = (a ++ r, x2) := by
        have h1 := HGT.out
        rw [List.getElem?_eq_getElem hkl] at h1
        exact h1
      have c2 : w2.drew.cell? ⟨g, k * 2, none⟩ = some (.string (joinD (a ++ r))) := by
        have h1 := c1
        dsimp only at h1
        rw [hx] at h1
        exact h1
      clear c1 hx hE2
      generalize joinD (a ++ r) = X at *
      have hsl : (s.size : Int) ≤ (X.size : Int) := by omega
      have hs0 : (0 : Int) ≤ (s.size : Int) := by omega
      have hcz : (t.size : Int) + ((X.extract s.size X.size).size : Int) ≤ 200000 := by
        have h1 := HZT.out
        have h2 := HXZ.out
        rw [ByteArray.size_extract]
        omega
      have hcz2 : (9223372036854775807 < t.size + (X.size - s.size)) = False := eq_false (by have h1 := HZT.out; have h2 := HXZ.out; omega)
      have HNX := Lib.hid (HXD.out.set HEV.out (k := k) (by rw [HLN]; exact HLT.out) (b ++ r))
      rw [HGT.out, ← hjm, ← HMS.out] at HNX
      have c0 : w2.drew.cell? ⟨p.b, 0, none⟩ = some (.slice (some ⟨g, 0, none⟩) G.E.length ec) := by rw [← HEV.out]; exact HXD.out.r.box.cell 0 _ rfl
      clear hmv hjm hkl HMS HME HGT HSZ HD2 HXD
      go_wp2_with fail
      refine wp_region_tree (fun W => W.cell? ⟨p.b, 0, none⟩ = some (.slice (some ⟨g, 0, none⟩) G.E.length ec) ∧ W.cell? ⟨g, k * 2, none⟩ = some (.string X)) 18 (.quiet 0 (.quiet 1 (.quiet 2 (.quiet 3 (.quiet 4 (.quiet 5 (.quiet 6 (.quiet 7 (.quiet 8 (.quiet 9 (.quiet 10 (.quiet 11 (.quiet 12 (.quiet 13 (.quiet 14 (.quiet 15 (.quiet 16 (.quiet 17 .nil)))))))))))))))))) (by kernel_rfl) (by kernel_rfl) ⟨c0, c2⟩ ?_
      simp only [List.drop_succ_cons, List.drop_zero]
      iterate 18 (apply wpTr_step rfl; (intro W hS K hK; obtain ⟨u0, u1⟩ := hS; go_simp; exact hK _ rfl))
      refine wpTr_nil ?_
      go_wp2
      go_roundw
      case rel => exact ⟨k + 1, _, rfl, HLT.out, by go_num, HNX⟩
      case measure => have := HLT.out; simp [intOf]; omega
    · have hke : k = G.E.length := by omega
      rw [hke, mvK_all] at HD
      subst hke
      have HT : Hid (RmTo p G' w wr) := by rw [HG.out]; exact ⟨p, rfl, HD.out.r, HD.out.c, fun _ h => .inl h⟩
      clear hlt
      go_wp2
      go_end0
      exact ⟨rfl, HT.out⟩
end Go.Proofs.YteimpebfenpifaaGreatDoor
