/-
  The law's small; does: a change of a tree, and of the document's pairs.
-/
import Derived.Test.YtbeldjijnjgbfaaMg40
namespace Go.Proofs.Ytbeldjijnjgbfaa
open Go Go.RowKit Go.ChangeShapes Go.WideShapes Go.ChangeAt

/-- The changes l lie in a row at a. -/
def RowT (w : World) (a : Option Addr) (l : List OpT) : Prop := ∀ i (hi : i < l.length), ∃ b off, a = some ⟨b, off, none⟩ ∧ w.cell? ⟨b, off + i * 3, none⟩ = some (.int .i64 l[i].1) ∧ w.cell? ⟨b, off + i * 3 + 1, none⟩ = some (.string l[i].2.1) ∧ w.cell? ⟨b, off + i * 3 + 2, none⟩ = some (.string l[i].2.2)
theorem SlE.rowT {w w' : World} {a : Option Addr} {l : List OpT} (h : SlE w 3 OpTK a l) (hb : Below w.heap.size w w') : RowT w' a l := fun i hi => by
  obtain ⟨b, off, h1, _, h3, h4, h5, _⟩ := h.top hb i hi
  exact ⟨b, off, h1, h3, h4, h5⟩
def okT (x : OpT) : Bool := decide (x.2.1.size ≤ 400) && decide (x.2.2.size ≤ 200)
def smT (l : List OpT) : Bool := l.all okT && decide (l.length ≤ 120)
theorem all_take {l : List OpT} {j : Nat} (hj : j < l.length) (h : (l.take j).all okT = true) (hx : okT l[j] = true) : (l.take (j + 1)).all okT = true := by
  rw [List.take_succ_eq_append_getElem hj, List.all_append, h]
  simp [hx]
theorem all_bad {l : List OpT} {j : Nat} (hj : j < l.length) (hx : okT l[j] = false) : smT l = false := by
  unfold smT
  have : l.all okT = false := by
    rw [List.all_eq_false]
    exact ⟨l[j], List.getElem_mem hj, by simp [hx]⟩
  rw [this]; rfl
set_option maxRecDepth 100000 in
set_option maxHeartbeats 4000000 in
theorem small_any (a : Option Addr) (c : Nat) (l : List OpT) (w : World) (h : RowT w a l) (hl : l.length ≤ maxLen) :
    Calls Try.prog 9 #[.slice a l.length c] w fun e w' => e = .returned (.bool (smT l)) ∧ w = w' := by
  have H := Lib.hid h
  unfold maxLen at hl
  clear h
  go_enter Try.func9, Try.ntmps9
  go_wp2_with fail
  go_loopw [3] (fun i wr => ∃ j : Nat, j ≤ l.length ∧ i = .int .i64 j ∧ Hid ((l.take j).all okT = true) ∧ Hid (w = wr)) (fun i _ => ((l.length : Int) - RowKit.intOf i).toNat)
  case atStart => exact ⟨0, Nat.zero_le _, rfl, rfl, rfl⟩
  case round =>
    obtain ⟨j, hj, rfl, HR, HW⟩ := hrel
    have hw := HW.out
    subst hw
    by_cases hlt : j < l.length
    · obtain ⟨b, off, rfl, c0, c1, c2⟩ := H.out j hlt
      have HT : Hid (okT l[j] = true → (l.take (j + 1)).all okT = true) := fun hx => all_take hlt HR.out hx
      have HF : Hid (okT l[j] = false → smT l = false) := fun hx => all_bad hlt hx
      have h0j : (0 : Int) ≤ (j : Int) := by omega
      have h1j : (j : Int) < (l.length : Int) := by omega
      have HO : Hid (okT l[j] = (decide (l[j].2.1.size ≤ 400) && decide (l[j].2.2.size ≤ 200))) := rfl
      generalize l[j] = x at *
      obtain ⟨d, k, u⟩ := x
      clear HR
      by_cases h4 : k.size ≤ 400
      · have d1 : ¬ (400 : Int) < (k.size : Int) := by omega
        by_cases h2 : u.size ≤ 200
        · have d2 : ¬ (200 : Int) < (u.size : Int) := by omega
          have HN : Hid ((l.take (j + 1)).all okT = true) := HT.out (by rw [HO.out]; simp [h4, h2])
          clear HT HF HO h4 h2
          go_wp2
          go_roundw
          case rel => exact ⟨j + 1, by omega, by go_num, HN, by exact trivial⟩
          case measure => simp [RowKit.intOf]; omega
        · have d2 : (200 : Int) < (u.size : Int) := by omega
          have HN : Hid (smT l = false) := HF.out (by rw [HO.out]; simp [h2])
          clear HT HF HO h4 h2
          go_wp2
          go_ret
          exact ⟨ret_bool HN.out.symm, rfl⟩
      · have d1 : (400 : Int) < (k.size : Int) := by omega
        have HN : Hid (smT l = false) := HF.out (by rw [HO.out]; simp [h4])
        clear HT HF HO h4
        go_wp2
        go_ret
        exact ⟨ret_bool HN.out.symm, rfl⟩
    · have hjl : j = l.length := by omega
      have HE : Hid (smT l = decide (l.length ≤ 120)) := by
        show _ = _
        have := HR.out
        rw [List.take_of_length_le (by omega)] at this
        unfold smT; rw [this]; rfl
      subst hjl
      go_wp2
      go_ret
      rw [HE.out]
      exact ⟨ret_bool (decide_eq_decide.2 (by omega)), rfl⟩
/-- A change of a tree, and of the document's pairs. -/
def doesT (S : StD) (root : ByteArray) (l : List Ent) (o : OpT) : (ByteArray × List Ent × Bool) × StD :=
  let P := if o.1 = 0 then putT S root o.2.1 o.2.2 else delT S root o.2.1
  let Q := if o.1 = 0 then rputT l o.2.1 o.2.2 else rdelT l o.2.1
  if P.1.2 ≠ 0 then ((root, l, decide (P.1.2 = Q.2) && decide (P.1.1 = noT)), P.2) else ((P.1.1, Q.1, decide (P.1.2 = Q.2)), P.2)
def DoTo (kb : Nat) (F : List Nat) (X : (ByteArray × List Ent × Bool) × StD) (w : World) (e : Ending) (w' : World) : Prop :=
  ∃ v' F', e = .returned (.tuple #[.string X.1.1, v', .bool X.1.2.2]) ∧ KpF kb X.2 F' w' ∧ Chg F w w' ∧ (∀ k ∈ F', k ∈ F ∨ w.heap.size ≤ k) ∧ PqZ (· ∉ F') w' v' X.1.2.1
set_option maxRecDepth 100000 in
set_option maxHeartbeats 8000000 in
theorem does_put (kb : Nat) (F : List Nat) (S : StD) (root : ByteArray) (v : Value) (l : List Ent) (d : Int) (key val : ByteArray) (w : World) (h : KpF kb S F w) (hp : PqZ (· ∉ F) w v l) (hr : root.size ≤ maxLen) (hl : l.length ≤ 100000) (hk : key.size ≤ maxLen) (hv : val.size ≤ maxLen) (hz : d = 0) :
    Calls Try.prog 11 #[.pointer (some ⟨kb, 0, none⟩), .string root, v, topV (d, key, val)] w (DoTo kb F (doesT S root l (d, key, val)) w) := by
  obtain ⟨a, c, rfl⟩ := hp.form
  have HP := Lib.hid hp
  have HL := Lib.hid hl
  obtain ⟨X, hX⟩ : ∃ X, X = doesT S root l (d, key, val) := ⟨_, rfl⟩
  obtain ⟨PS, hPS⟩ : ∃ PS, PS = DoTo kb F X w := ⟨_, rfl⟩
  rw [← hX, ← hPS]
  obtain ⟨P, hP⟩ : ∃ P, P = putT S root key val := ⟨_, rfl⟩
  obtain ⟨Q, hQ⟩ : ∃ Q, Q = rputT l key val := ⟨_, rfl⟩
  have HX : Hid (X = if P.1.2 ≠ 0 then ((root, l, decide (P.1.2 = Q.2) && decide (P.1.1 = noT)), P.2) else ((P.1.1, Q.1, decide (P.1.2 = Q.2)), P.2)) := by
    show _ = _
    rw [hX, hP, hQ]
    unfold doesT
    simp only [if_pos hz]
  have HPS := Lib.hid hPS
  have HPP := Lib.hid hP
  have HQQ := Lib.hid hQ
  clear hX hPS hP hQ hp
  have hq0 : (d == (0 : Int)) = true := by simp [hz]
  clear hz
  obtain ⟨gb, hgb⟩ : ∃ gb, gb = w.heap.size := ⟨_, rfl⟩
  obtain ⟨w1, hw1⟩ : ∃ w1, w1 = w.alloc (.cells #[.int .i64 d, .string key, .string val] 33 (0, 0)) := ⟨_, rfl⟩
  have hb1 : Below w.heap.size w w1 := by rw [hw1]; exact (Below.refl _ _).alloc (Nat.le_refl _) _
  have BX : Box w1 gb 33 #[.int .i64 d, .string key, .string val] := by rw [hw1, hgb]; exact Box.new _ _ _
  have HK1 := Lib.hid (h.keep hb1)
  have HFL := Lib.hid ((fixed_kp kb S).lt F w h)
  have HP1 := Lib.hid (HP.out.keep hb1)
  have HB1 := Lib.hid hb1
  have HBX := Lib.hid BX
  have c0 := BX.cell 0 _ rfl
  have c1 := BX.cell 1 _ rfl
  have c2 := BX.cell 2 _ rfl
  have hw2 := hw1.symm
  have hg2 := hgb.symm
  have HG := Lib.hid hgb
  clear hw1 hgb hb1 BX h HP
  unfold topV
  go_enter Try.func11, Try.ntmps11
  go_wp2_with fail
  try rw [hw2, hg2]
  clear hw2 hg2
  refine (tputs_any kb F S root key val w1 HK1.out hr hk hv).mono ?_
  rintro e w2 ⟨rfl, F2, k2, h2, n2⟩
  rw [← HPP.out] at k2 ⊢
  obtain ⟨⟨ns, ev⟩, S2⟩ := P
  have HB2 : Hid (Box w2 gb 33 #[.int .i64 d, .string key, .string val]) := HBX.out.of (h2.block gb HBX.out.lt (fun hm => by have := HFL.out gb hm; rw [HG.out] at this; omega))
  have HP2 := Lib.hid (HP1.out.tod h2 n2)
  have HK2 := Lib.hid k2
  have HC2 := Lib.hid ((Chg.of HB1.out (Nat.le_refl _)).trans h2)
  have HN2 : Hid (∀ k ∈ F2, k ∈ F ∨ w.heap.size ≤ k) := fun k hk => by
    rcases n2 k hk with h | h
    · exact .inl h
    · exact .inr (Nat.le_trans HB1.out.size h)
  clear k2 h2 n2 HK1 HP1 HB1 HBX HFL c0 c1 c2
  have c1 := HB2.out.cell 1 _ rfl
  have c2 := HB2.out.cell 2 _ rfl
  go_wp2_with fail
  refine (rput_any (· ∉ F2) _ l key val w2 HP2.out hl hk hv).mono ?_
  rintro e w3 ⟨v3, rfl, q3, o3, b3⟩
  rw [← HQQ.out] at q3 ⊢
  obtain ⟨m, fv⟩ := Q
  have HK3 := Lib.hid (HK2.out.keep b3)
  have HC3 := Lib.hid (HC2.out.trans (Chg.of b3 (Nat.le_refl _)))
  have HP3 := Lib.hid (HP2.out.keep b3)
  have HQ3 : Hid (PqZ (· ∉ F2) w3 v3 m) := ⟨q3, fun k hk hm => by
    rcases o3 k hk with h | h
    · exact HP2.out.bz k h hm
    · have := (fixed_kp kb S2).lt F2 w2 HK2.out k hm; omega⟩
  clear q3 o3 b3 HK2 HC2 HP2 HB2 c1 c2
  by_cases he : ev = 0
  · have e0 : (ev != (0 : Int)) = false := by simp [he]
    have HXX : Hid (X = ((ns, m, decide (ev = fv)), S2)) := by show _ = _; rw [HX.out]; simp only [he]; rfl
    have HD : Hid ((ev == fv) = decide (ev = fv)) := by show _ = _; by_cases h : ev = fv <;> simp [h]
    clear HX he
    go_wp2
    go_ret3
    rw [HPS.out, HXX.out]
    refine ⟨_, F2, ?_, HK3.out, HC3.out, HN2.out, HQ3.out⟩
    rw [← HD.out]
    rfl
  · have e0 : (ev != (0 : Int)) = true := by simp [he]
    have HXX : Hid (X = ((root, l, decide (ev = fv) && decide (ns = noT)), S2)) := by show _ = _; rw [HX.out]; rw [if_pos (by simpa using he)]
    clear HX he
    by_cases hef : ev = fv
    · have e1 : (ev == fv) = true := by simp [hef]
      have HEF := Lib.hid hef
      clear hef
      have HD : Hid (ns.toList.isEmpty = decide (ns = noT)) := by
        have e := beq_key ns noT
        have e0 : noT.toList = [] := by rw [ByteArray.toList_eq]
        rw [e0] at e
        show _ = _
        rw [← e]
        cases ns.toList <;> rfl
      go_wp2
      go_ret3
      rw [HPS.out, HXX.out]
      refine ⟨_, F2, ?_, HK3.out, HC3.out, HN2.out, HP3.out⟩
      rw [decide_eq_true HEF.out, Bool.true_and, ← HD.out]
      rfl
    · have e1 : (ev == fv) = false := by simp [hef]
      have HEF := Lib.hid hef
      clear hef
      go_wp2
      go_ret3
      rw [HPS.out, HXX.out]
      refine ⟨_, F2, ?_, HK3.out, HC3.out, HN2.out, HP3.out⟩
      rw [decide_eq_false HEF.out, Bool.false_and]
      rfl
set_option maxRecDepth 100000 in
set_option maxHeartbeats 8000000 in
theorem does_del (kb : Nat) (F : List Nat) (S : StD) (root : ByteArray) (v : Value) (l : List Ent) (d : Int) (key val : ByteArray) (w : World) (h : KpF kb S F w) (hp : PqZ (· ∉ F) w v l) (hr : root.size ≤ maxLen) (hl : l.length ≤ 100000) (hk : key.size ≤ maxLen) (_hv : val.size ≤ maxLen) (hz : d ≠ 0) :
    Calls Try.prog 11 #[.pointer (some ⟨kb, 0, none⟩), .string root, v, topV (d, key, val)] w (DoTo kb F (doesT S root l (d, key, val)) w) := by
  obtain ⟨a, c, rfl⟩ := hp.form
  have HP := Lib.hid hp
  have HL := Lib.hid hl
  obtain ⟨X, hX⟩ : ∃ X, X = doesT S root l (d, key, val) := ⟨_, rfl⟩
  obtain ⟨PS, hPS⟩ : ∃ PS, PS = DoTo kb F X w := ⟨_, rfl⟩
  rw [← hX, ← hPS]
  obtain ⟨P, hP⟩ : ∃ P, P = delT S root key := ⟨_, rfl⟩
  obtain ⟨Q, hQ⟩ : ∃ Q, Q = rdelT l key := ⟨_, rfl⟩
  have HX : Hid (X = if P.1.2 ≠ 0 then ((root, l, decide (P.1.2 = Q.2) && decide (P.1.1 = noT)), P.2) else ((P.1.1, Q.1, decide (P.1.2 = Q.2)), P.2)) := by
    show _ = _
    rw [hX, hP, hQ]
    unfold doesT
    simp only [if_neg hz]
  have HPS := Lib.hid hPS
  have HPP := Lib.hid hP
  have HQQ := Lib.hid hQ
  clear hX hPS hP hQ hp
  have hq0 : (d == (0 : Int)) = false := by simp [hz]
  clear hz
  obtain ⟨gb, hgb⟩ : ∃ gb, gb = w.heap.size := ⟨_, rfl⟩
  obtain ⟨w1, hw1⟩ : ∃ w1, w1 = w.alloc (.cells #[.int .i64 d, .string key, .string val] 33 (0, 0)) := ⟨_, rfl⟩
  have hb1 : Below w.heap.size w w1 := by rw [hw1]; exact (Below.refl _ _).alloc (Nat.le_refl _) _
  have BX : Box w1 gb 33 #[.int .i64 d, .string key, .string val] := by rw [hw1, hgb]; exact Box.new _ _ _
  have HK1 := Lib.hid (h.keep hb1)
  have HFL := Lib.hid ((fixed_kp kb S).lt F w h)
  have HP1 := Lib.hid (HP.out.keep hb1)
  have HB1 := Lib.hid hb1
  have HBX := Lib.hid BX
  have c0 := BX.cell 0 _ rfl
  have c1 := BX.cell 1 _ rfl
  have c2 := BX.cell 2 _ rfl
  have hw2 := hw1.symm
  have hg2 := hgb.symm
  have HG := Lib.hid hgb
  clear hw1 hgb hb1 BX h HP
  unfold topV
  go_enter Try.func11, Try.ntmps11
  go_wp2_with fail
  try rw [hw2, hg2]
  clear hw2 hg2
  refine (tdel_any kb F S root key w1 HK1.out hr hk).mono ?_
  rintro e w2 ⟨rfl, F2, k2, h2, n2⟩
  rw [← HPP.out] at k2 ⊢
  obtain ⟨⟨ns, ev⟩, S2⟩ := P
  have HB2 : Hid (Box w2 gb 33 #[.int .i64 d, .string key, .string val]) := HBX.out.of (h2.block gb HBX.out.lt (fun hm => by have := HFL.out gb hm; rw [HG.out] at this; omega))
  have HP2 := Lib.hid (HP1.out.tod h2 n2)
  have HK2 := Lib.hid k2
  have HC2 := Lib.hid ((Chg.of HB1.out (Nat.le_refl _)).trans h2)
  have HN2 : Hid (∀ k ∈ F2, k ∈ F ∨ w.heap.size ≤ k) := fun k hk => by
    rcases n2 k hk with h | h
    · exact .inl h
    · exact .inr (Nat.le_trans HB1.out.size h)
  clear k2 h2 n2 HK1 HP1 HB1 HBX HFL c0 c1 c2
  have c1 := HB2.out.cell 1 _ rfl
  have c2 := HB2.out.cell 2 _ rfl
  go_wp2_with fail
  refine (rdel_any (· ∉ F2) _ l key w2 HP2.out hl).mono ?_
  rintro e w3 ⟨v3, rfl, q3, o3, b3⟩
  rw [← HQQ.out] at q3 ⊢
  obtain ⟨m, fv⟩ := Q
  have HK3 := Lib.hid (HK2.out.keep b3)
  have HC3 := Lib.hid (HC2.out.trans (Chg.of b3 (Nat.le_refl _)))
  have HP3 := Lib.hid (HP2.out.keep b3)
  have HQ3 : Hid (PqZ (· ∉ F2) w3 v3 m) := ⟨q3, fun k hk hm => by
    rcases o3 k hk with h | h
    · exact HP2.out.bz k h hm
    · have := (fixed_kp kb S2).lt F2 w2 HK2.out k hm; omega⟩
  clear q3 o3 b3 HK2 HC2 HP2 HB2 c1 c2
  by_cases he : ev = 0
  · have e0 : (ev != (0 : Int)) = false := by simp [he]
    have HXX : Hid (X = ((ns, m, decide (ev = fv)), S2)) := by show _ = _; rw [HX.out]; simp only [he]; rfl
    have HD : Hid ((ev == fv) = decide (ev = fv)) := by show _ = _; by_cases h : ev = fv <;> simp [h]
    clear HX he
    go_wp2
    go_ret3
    rw [HPS.out, HXX.out]
    refine ⟨_, F2, ?_, HK3.out, HC3.out, HN2.out, HQ3.out⟩
    rw [← HD.out]
    rfl
  · have e0 : (ev != (0 : Int)) = true := by simp [he]
    have HXX : Hid (X = ((root, l, decide (ev = fv) && decide (ns = noT)), S2)) := by show _ = _; rw [HX.out]; rw [if_pos (by simpa using he)]
    clear HX he
    by_cases hef : ev = fv
    · have e1 : (ev == fv) = true := by simp [hef]
      have HEF := Lib.hid hef
      clear hef
      have HD : Hid (ns.toList.isEmpty = decide (ns = noT)) := by
        have e := beq_key ns noT
        have e0 : noT.toList = [] := by rw [ByteArray.toList_eq]
        rw [e0] at e
        show _ = _
        rw [← e]
        cases ns.toList <;> rfl
      go_wp2
      go_ret3
      rw [HPS.out, HXX.out]
      refine ⟨_, F2, ?_, HK3.out, HC3.out, HN2.out, HP3.out⟩
      rw [decide_eq_true HEF.out, Bool.true_and, ← HD.out]
      rfl
    · have e1 : (ev == fv) = false := by simp [hef]
      have HEF := Lib.hid hef
      clear hef
      go_wp2
      go_ret3
      rw [HPS.out, HXX.out]
      refine ⟨_, F2, ?_, HK3.out, HC3.out, HN2.out, HP3.out⟩
      rw [decide_eq_false HEF.out, Bool.false_and]
      rfl
theorem does_any (kb : Nat) (F : List Nat) (S : StD) (root : ByteArray) (v : Value) (l : List Ent) (o : OpT) (w : World) (h : KpF kb S F w) (hp : PqZ (· ∉ F) w v l) (hr : root.size ≤ maxLen) (hl : l.length ≤ 100000) (hk : o.2.1.size ≤ maxLen) (hv : o.2.2.size ≤ maxLen) :
    Calls Try.prog 11 #[.pointer (some ⟨kb, 0, none⟩), .string root, v, topV o] w (DoTo kb F (doesT S root l o) w) := by
  obtain ⟨d, key, val⟩ := o
  by_cases hz : d = 0
  · exact does_put kb F S root v l d key val w h hp hr hl hk hv hz
  · exact does_del kb F S root v l d key val w h hp hr hl hk hv hz
end Go.Proofs.Ytbeldjijnjgbfaa
