/-
  Texts put together: MoC, PathX.
-/
import Derived.Test.YteimpebfenpifaaGreatDoorMg12
import Derived.Test.YteimpebfenpifaaGreatDoorMoH
import Derived.Test.YteimpebfenpifaaGreatDoorMg9
import Derived.BigRegion
namespace Go.Proofs.YteimpebfenpifaaGreatDoor
open Go.RowKit Go.ChangeShapes Go.WideShapes Go.ChangeAt

theorem Rel.nat {M : MoD} {G : GD} {k : Nat} (h : Rel M G k) {n : Int} {t : ThD} (ht : findL M.l n = some t) : ∃ j : Nat, n = (j : Int) ∧ ∃ l, atE G l = some j := by
  have h0 := h.num n t ht
  have e : n = (n.toNat : Int) := (Int.toNat_of_nonneg h0.1).symm
  refine ⟨n.toNat, e, (h.dom _).1 ?_⟩
  rw [← e, ht]; rfl
theorem Rel.clo {M : MoD} {G : GD} {k : Nat} (h : Rel M G k) {n : Int} {t : ThD} (ht : findL M.l n = some t) {c : ByteArray} {j : Int} (hc : findL t.ents c = some j) : ∃ u, findL M.l j = some u := by
  obtain ⟨m, rfl, l, hl⟩ := h.nat ht
  rw [h.ent l m t hl ht c] at hc
  cases e : atE G (l ++ [c]) with
  | none => rw [e] at hc; cases hc
  | some j2 =>
    rw [e] at hc
    rw [← Option.some.inj hc]
    exact Option.isSome_iff_exists.1 ((h.dom j2).2 ⟨_, e⟩)
theorem Rel.root0 {M : MoD} {G : GD} {k : Nat} (h : Rel M G k) : ∃ t, findL M.l 0 = some t := by
  have := (h.dom 0).2 ⟨[], atE_nil G⟩
  exact Option.isSome_iff_exists.1 this
theorem Rel.lastB {M : MoD} {G : GD} {k : Nat} (h : Rel M G k) : 0 ≤ M.last ∧ M.last ≤ k := by
  have h1 := h.last
  have h2 := h.bT
  obtain ⟨t, ht⟩ := h.root0
  have := h.num 0 t ht
  omega
theorem Rel.numB {M : MoD} {G : GD} {k : Nat} (h : Rel M G k) {n : Int} {t : ThD} (ht : findL M.l n = some t) : 0 ≤ n ∧ n ≤ k := by
  have h1 := h.num n t ht
  have h2 := h.lastB
  omega
theorem TrAt.look {w : World} {x : TrD} (h : TrAt w x) {n : Int} {r : RowD} (hr : findL x.rows n = some r) (h1 : 0 ≤ n) (h2 : n ≤ 4611686018427387904) :
    (Instr.lookup 56 (.map (some x.m)) (.int .i64 n) false).run Tryz.prog w = .ok (.pointer (some ⟨r.p, 0, none⟩)) w := by
  have := MapAt.look h.map (k := n) (mint_wf h1 h2)
  rw [x.findP, hr] at this
  exact this
theorem EmAt.look {w : World} {me : Nat} {e : List (ByteArray × Int)} (h : MapAt EnS w me e) {c : ByteArray} (hc : c.size ≤ maxLen) :
    (Instr.lookup 65 (.map (some me)) (.string c) true).run Tryz.prog w = .ok (.tuple #[.int .i64 ((findL e c).getD 0), .bool (findL e c).isSome]) w := MapAt.look_ok h hc
theorem RowAt.dirBox {w : World} {r : RowD} (h : RowAt w r) (hd : r.t.dir = true) : ∃ me, r.em = some me ∧ MapAt EnS w me r.t.ents := by
  obtain ⟨h1, h2, h3⟩ := h
  rw [hd] at h3
  obtain ⟨me, e⟩ := Option.isSome_iff_exists.1 h3
  refine ⟨me, e, ?_⟩
  rw [e] at h2
  exact h2
theorem name_len {c : ByteArray} (h : nameD c) : c.size ≤ maxLen := Nat.le_trans h.1.2.1 (by decide)

theorem stepM_cons (M : MoD) (n : Int) (x : ByteArray) (r : PathD) : stepM M n (x :: r) = if dirOf M n = false then (0, 11) else match findL (entsOf M n) x with
    | none => (0, 8)
    | some k => stepM M k r := rfl

section
variable {x : TrD} {G : GD} {k : Nat} {w : World} (h : TrAt w x) (hr : Rel x.M G k) (hk : k ≤ 1000000)
include h hr hk
set_option maxRecDepth 100000 in
set_option maxHeartbeats 2000000 in
theorem lead_any (p : ByteArray) (hp : p.size ≤ 100000) : Calls Tryz.prog 75 #[.pointer (some ⟨x.b, 0, none⟩), .string p] w fun e w' =>
    e = .returned (.tuple #[.int .i64 (leadM x.M p).1, .int .i64 (leadM x.M p).2]) ∧ Below w.heap.size w w' := by
  obtain ⟨R, hR⟩ : ∃ R, R = leadM x.M p := ⟨_, rfl⟩
  rw [← hR]
  have HR := Lib.hid hr
  have HK := Lib.hid hk
  have H := Lib.hid h
  by_cases h0 : (splitD p).2 = 0
  · have HF := Lib.hid (hR.trans (if_pos h0))
    have HNM : Hid (∀ c ∈ (splitD p).1, nameD c) := names_ok h0
    have hlen := split_len p
    have E0 := Lib.hid h0
    obtain ⟨l, hl⟩ : ∃ l, l = (splitD p).1 := ⟨_, rfl⟩
    have HL := Lib.hid hl
    rw [← hl] at HF HNM hlen
    clear h0 hR hl h hr hk
    go_enter Tryz.func75, Tryz.ntmps75
    go_wp2_with fail
    refine (split_any p (by omega) _).mono ?_
    rintro e w1 ⟨v, rfl, hks, hb⟩
    rw [E0.out]
    rw [← HL.out] at hks
    obtain ⟨xa, xc, rfl, hs1, _⟩ := hks.shape
    have HB := Lib.hid hb
    have HS := Lib.hid hs1
    have HT := Lib.hid (H.out.keep hb)
    clear hb hks hs1
    go_wp2
    go_loopw [8, 10, 11, 12, 13, 24] (fun n _ _ _ _ i wr => ∃ (j : Nat) (cn : Int), j ≤ l.length ∧ i = .int .i64 j ∧ n = .int .i64 cn ∧ Hid (stepM x.M cn (l.drop j) = stepM x.M 0 l) ∧ Hid (∃ t, findL x.M.l cn = some t) ∧ wr = w1) (fun _ _ _ _ _ i _ => l.length - (intOf i).toNat)
    case atStart => exact ⟨0, 0, Nat.zero_le _, rfl, rfl, rfl, HR.out.root0, rfl⟩
    case round =>
      obtain ⟨j, cn, hj, rfl, rfl, HSt, HCn, rfl⟩ := hrel
      by_cases hlt : j < l.length
      · have hl0 : l ≠ [] := by intro e; rw [e] at hlt; simp at hlt
        obtain ⟨b1, o1, rfl, hb1, hc1⟩ := HS.out hl0
        have q1 := hc1 j _ (List.getElem?_eq_getElem hlt)
        obtain ⟨t, ht⟩ := HCn.out
        obtain ⟨r, hrr, hrt⟩ := TrD.row ht
        have hra := HT.out.at_ hrr
        have hnb := HR.out.numB ht
        have hkk := HK.out
        have hlk := HT.out.look hrr hnb.1 (by omega)
        have t0 : wr.cell? ⟨x.b, 0, none⟩ = some (.map (some x.m)) := HT.out.box.cell 0 _ rfl
        have d0 : wr.cell? ⟨r.p, 0, none⟩ = some (.bool t.dir) := by rw [← hrt]; exact hra.1.cell 0 _ rfl
        have d1 : wr.cell? ⟨r.p, 1, none⟩ = some (.map r.em) := hra.1.cell 1 _ rfl
        have hdrop : l.drop j = l[j] :: l.drop (j + 1) := List.drop_eq_getElem_cons hlt
        have HNJ := HNM.out l[j] (List.getElem_mem hlt)
        have HS1 := HSt.out
        rw [hdrop] at HS1
        rw [stepM_cons] at HS1
        have hdo : dirOf x.M cn = t.dir := by unfold dirOf; rw [ht]
        have heo : entsOf x.M cn = t.ents := by unfold entsOf; rw [ht]
        rw [hdo, heo] at HS1
        have hki : (0 : Int) ≤ (j : Int) := by omega
        have hkl : (j : Int) < (l.length : Int) := by omega
        generalize l[j] = c at *
        clear hl0 hc1 hb1 hnb hkk hdrop hdo heo
        have hfr : r.t.ents = t.ents := by rw [hrt]
        have hfd : r.t.dir = t.dir := by rw [hrt]
        cases hd : t.dir with
        | false =>
          rw [if_pos hd] at HS1
          rw [hd] at d0
          have HG := Lib.hid (HF.out.trans HS1.symm)
          clear HS1
          go_wp2
          go_ret2
          exact ⟨by rw [HG.out]; rfl, HB.out⟩
        | true =>
          rw [if_neg (by rw [hd]; simp)] at HS1
          rw [hd] at d0
          obtain ⟨me, hme, hma⟩ := hra.dirBox (by rw [hfd, hd])
          rw [hfr] at hma
          rw [hme] at d1
          have lk2 := EmAt.look hma (name_len HNJ)
          have HCL := Lib.hid (fun j2 hj2 => HR.out.clo ht (c := c) (j := j2) hj2)
          clear hma hra hfd hfr hrt hrr ht
          cases hf : findL t.ents c with
          | none =>
            rw [hf] at HS1 lk2
            have HG := Lib.hid (HF.out.trans HS1.symm)
            clear HS1 hf
            go_wp2
            go_ret2
            exact ⟨by rw [HG.out]; rfl, HB.out⟩
          | some k2 =>
            rw [hf] at HS1 lk2
            have HG := Lib.hid HS1
            have HC2 := Lib.hid (HCL.out k2 hf)
            clear HS1 hf
            go_wp2
            go_roundw
            case rel => exact ⟨j + 1, k2, by omega, by go_num, rfl, HG.out, HC2.out, trivial⟩
            case measure => simp [intOf]; omega
      · have hjj : j = l.length := by omega
        have hd0 : l.drop j = [] := List.drop_of_length_le (by omega)
        have HG : Hid (R = (cn, 0)) := by
          have := HSt.out
          rw [hd0] at this
          exact HF.out.trans this.symm
        subst hjj
        clear hd0
        go_wp2
        go_ret2
        exact ⟨by rw [HG.out]; rfl, HB.out⟩
  · have HF := Lib.hid (hR.trans (if_neg h0))
    have hq : ((splitD p).2 != 0) = true := by simpa using h0
    clear h0 hR h hr hk
    go_enter Tryz.func75, Tryz.ntmps75
    go_wp2_with fail
    refine (split_any p (by omega) _).mono ?_
    rintro e w1 ⟨v, rfl, hks, hb⟩
    obtain ⟨xa, xc, rfl, _, _⟩ := hks.shape
    have HB := Lib.hid hb
    clear hb hks
    go_wp2
    go_ret2
    exact ⟨by rw [HF.out]; rfl, HB.out⟩
end
end Go.Proofs.YteimpebfenpifaaGreatDoor

namespace Go.Proofs.YteimpebfenpifaaGreatDoor
open Go Go.RowKit Go.Shelf

theorem witD_no1 {a b : ByteArray} (h : (splitD a).2 ≠ 0) : witD a b = false := decide_eq_false (fun e => h e.1)
theorem witD_no2 {a b : ByteArray} (h : (splitD b).2 ≠ 0) : witD a b = false := decide_eq_false (fun e => h e.2.1)
theorem witD_no3 {a b : ByteArray} (h : (splitD b).1.length < (splitD a).1.length) : witD a b = false := decide_eq_false (fun e => by have := e.2.2.length_le; omega)
theorem witD_is {a b : ByteArray} (h1 : (splitD a).2 = 0) (h2 : (splitD b).2 = 0) (_h3 : (splitD a).1.length ≤ (splitD b).1.length) : witD a b = decide ((splitD b).1.take (splitD a).1.length = (splitD a).1) := by
  apply decide_eq_decide.2
  constructor
  · rintro ⟨-, -, e⟩
    exact (List.prefix_iff_eq_take.1 e).symm
  · intro e
    exact ⟨h1, h2, List.prefix_iff_eq_take.2 e.symm⟩

theorem Sl.getD {w : World} {b off : Nat} {l : List ByteArray} (h : ∀ i x, l[i]? = some x → w.cell? ⟨b, off + i, none⟩ = some (.string x)) : ∀ j, j < l.length → w.cell? ⟨b, off + j, none⟩ = some (.string (l.getD j ByteArray.empty)) := fun j hj => by
  rw [List.getD_eq_getElem?_getD, List.getElem?_eq_getElem hj]
  exact h j _ (List.getElem?_eq_getElem hj)

set_option maxRecDepth 100000 in
set_option maxHeartbeats 1000000 in
theorem within_any (a b : ByteArray) (ha : a.size ≤ 100000) (hb : b.size ≤ 100000) (w : World) : Calls Tryz.prog 23 #[.string a, .string b] w fun e w' => e = .returned (.bool (witD a b)) ∧ Below w.heap.size w w' := by
  obtain ⟨R, hR⟩ : ∃ R, R = witD a b := ⟨_, rfl⟩
  rw [← hR]
  by_cases h1 : (splitD a).2 = 0
  · have E1 := Lib.hid h1
    have hla := split_len a
    have hlb := split_len b
    by_cases h2 : (splitD b).2 = 0
    · have E2 := Lib.hid h2
      by_cases h3 : (splitD b).1.length < (splitD a).1.length
      · have HF := Lib.hid (hR.trans (witD_no3 h3))
        clear hR h1 h2
        go_enter Tryz.func23, Tryz.ntmps23
        go_wp2_with fail
        refine (split_any a (by omega) _).mono ?_
        rintro e w1 ⟨v, rfl, hk, hb⟩
        rw [E1.out]
        obtain ⟨xa, xc, rfl, _, _⟩ := hk.shape
        have HB := Lib.hid hb
        clear hb hk
        go_wp2_with fail
        refine (split_any b (by omega) _).mono ?_
        rintro e w2 ⟨v, rfl, hk, hb⟩
        rw [E2.out]
        obtain ⟨ya, yc, rfl, _, _⟩ := hk.shape
        have HB2 := Lib.hid (HB.out.trans (hb.mono HB.out.size))
        clear hb hk
        go_wp2
        go_ret
        exact ⟨ret_bool HF.out.symm, HB2.out⟩
      · have HF := Lib.hid (hR.trans (witD_is h1 h2 (by omega)))
        generalize hl1 : (splitD a).1 = l1 at *
        generalize hl2 : (splitD b).1 = l2 at *
        have L1 := Lib.hid hl1
        have L2 := Lib.hid hl2
        clear hR h1 h2 hl1 hl2
        go_enter Tryz.func23, Tryz.ntmps23
        go_wp2_with fail
        refine (split_any a (by omega) _).mono ?_
        rintro e w1 ⟨v, rfl, hk, hb⟩
        rw [E1.out]
        rw [L1.out] at hk
        obtain ⟨xa, xc, rfl, hs1, _⟩ := hk.shape
        have HB := Lib.hid hb
        have HS1 := Lib.hid hs1
        clear hb hk hs1
        go_wp2_with fail
        refine (split_any b (by omega) _).mono ?_
        rintro e w2 ⟨v, rfl, hk, hb⟩
        rw [E2.out]
        rw [L2.out] at hk
        obtain ⟨ya, yc, rfl, hs2, hyc⟩ := hk.shape
        have HB2 := Lib.hid (HB.out.trans (hb.mono HB.out.size))
        have HS2 := Lib.hid hs2
        have HS1 := Lib.hid (HS1.out.keepB hb)
        clear hb hk hs2
        have hyl : (l1.length : Int) ≤ (yc : Int) := by omega
        have HQ : Hid (∀ u, Below w2.heap.size w2 u → Calls Tryz.prog 38 #[.slice xa l1.length xc, .slice ya l1.length yc] u fun e w' => e = .returned (.bool (decide (l2.take l1.length = l1))) ∧ Below u.heap.size u w') := fun u hu => by
          by_cases h0 : l1 = []
          · subst h0
            refine (Tryz.slices_Equal_string_empty xa ya xc 0 yc u (by omega)).mono fun e w' ⟨h1, h2⟩ => ⟨?_, h2 ▸ Below.refl _ _⟩
            rw [h1]; simp
          · have hl20 : l2 ≠ [] := by
              intro e
              rw [e] at h3
              have : 0 < l1.length := by cases l1 with | nil => exact absurd rfl h0 | cons _ _ => simp
              simp only [List.length_nil] at h3
              omega
            obtain ⟨b1, o1, rfl, hb1, hc1⟩ := (HS1.out.keepB hu) h0
            obtain ⟨b2, o2, rfl, hb2, hc2⟩ := (HS2.out.keepB hu) hl20
            refine (Tryz.slices_Equal_string b1 o1 l1.length xc b2 o2 l1.length yc l1 l2 u (Nat.le_refl _) (by omega) (by omega) (by omega) (Sl.getD hc1) (Sl.getD hc2)).mono fun e w' ⟨h1, q, h2⟩ => ⟨?_, ?_⟩
            · rw [h1, List.take_length]
              congr 2
              apply decide_eq_decide.2
              exact ⟨fun e => e.symm, fun e => e.symm⟩
            · subst h2
              exact ⟨rfl, rfl, rfl, Nat.le_refl _, fun _ _ => rfl⟩
        clear HS1 HS2 hyc
        have h3' : ¬ (l2.length : Int) < (l1.length : Int) := by omega
        generalize hr : decide (l2.take l1.length = l1) = r at *
        clear hr
        go_wp2_with fail
        refine (HQ.out _ (Below.refl _ _)).mono ?_
        rintro e w3 ⟨rfl, hb⟩
        have HB3 := Lib.hid (HB2.out.trans (hb.mono HB2.out.size))
        clear hb
        go_wp2
        go_ret
        exact ⟨ret_bool HF.out.symm, HB3.out⟩
    · have HF := Lib.hid (hR.trans (witD_no2 h2))
      have hq : ((splitD b).2 != 0) = true := by simpa using h2
      clear hR h1 h2
      go_enter Tryz.func23, Tryz.ntmps23
      go_wp2_with fail
      refine (split_any a (by omega) _).mono ?_
      rintro e w1 ⟨v, rfl, hk, hb⟩
      rw [E1.out]
      obtain ⟨xa, xc, rfl, _, _⟩ := hk.shape
      have HB := Lib.hid hb
      clear hb hk
      go_wp2_with fail
      refine (split_any b (by omega) _).mono ?_
      rintro e w2 ⟨v, rfl, hk, hb⟩
      obtain ⟨ya, yc, rfl, _, _⟩ := hk.shape
      have HB2 := Lib.hid (HB.out.trans (hb.mono HB.out.size))
      clear hb hk
      go_wp2
      go_ret
      exact ⟨ret_bool HF.out.symm, HB2.out⟩
  · have HF := Lib.hid (hR.trans (witD_no1 h1))
    have hq : ((splitD a).2 != 0) = true := by simpa using h1
    clear hR h1
    go_enter Tryz.func23, Tryz.ntmps23
    go_wp2_with fail
    refine (split_any a (by omega) _).mono ?_
    rintro e w1 ⟨v, rfl, hk, hb⟩
    obtain ⟨xa, xc, rfl, _, _⟩ := hk.shape
    have HB := Lib.hid hb
    clear hb hk
    go_wp2
    go_ret
    exact ⟨ret_bool HF.out.symm, HB.out⟩
end Go.Proofs.YteimpebfenpifaaGreatDoor
