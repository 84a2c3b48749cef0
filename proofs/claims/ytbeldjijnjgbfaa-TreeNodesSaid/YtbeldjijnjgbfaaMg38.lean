/-
  Texts put together: Tde, Tdf, Tdg.
-/
import Derived.Test.YtbeldjijnjgbfaaTda
namespace Go.Proofs.Ytbeldjijnjgbfaa
open Go Go.RowKit Go.ChangeShapes Go.WideShapes Go.ChangeAt

abbrev bA : ByteArray := ⟨#[97]⟩
abbrev bB : ByteArray := ⟨#[98]⟩
abbrev b1 : ByteArray := ⟨#[49]⟩
abbrev b2 : ByteArray := ⟨#[50]⟩
abbrev bNo : ByteArray := ⟨#[110, 111, 119, 104, 101, 114, 101]⟩
abbrev lr0 : ByteArray := ⟨#[48, 48, 48, 48, 48, 48]⟩
abbrev lr1 : ByteArray := ⟨#[48, 48, 48, 48, 48, 49]⟩
abbrev lr2 : ByteArray := ⟨#[48, 48, 48, 48, 48, 50]⟩
def lS0 : StD := ⟨[], 100⟩
def lS1 : StD := (putT lS0 noT bB b2).2
def lS2 : StD := (putT lS1 lr0 bA b1).2
def lS3 : StD := (delT lS2 lr1 bB).2
theorem lf1 : putT lS0 noT bB b2 = ((lr0, 0), lS1) := Prod.ext (by kernel_rfl) rfl
theorem lf2 : putT lS1 lr0 bA b1 = ((lr1, 0), lS2) := Prod.ext (by kernel_rfl) rfl
theorem lf3 : getT lS2 lr1 bA = (b1, 0) := by kernel_rfl
theorem lf4 : getT lS2 lr0 bA = (noT, 8) := by kernel_rfl
theorem lf5 : (scanT lS2 lr1 noT 9).1.length = 2 ∧ (scanT lS2 lr1 noT 9).2 = 0 := ⟨by kernel_rfl, by kernel_rfl⟩
theorem lf6 : delT lS2 lr1 bB = ((lr2, 0), lS3) := Prod.ext (by kernel_rfl) rfl
theorem lf7 : delT lS3 lr2 bB = ((noT, 8), lS3) := by kernel_rfl
theorem lf8 : delT lS3 lr2 bA = ((noT, 0), lS3) := by kernel_rfl
theorem lf9 : putT lS3 lr1 noT noT = ((noT, 1), lS3) := by kernel_rfl
theorem lf10 : refsT lS3 lr1 = ([lr1], 0) := by kernel_rfl
theorem lf11 : getT lS3 bNo bA = (noT, 7) := by kernel_rfl
set_option maxRecDepth 100000 in
set_option maxHeartbeats 8000000 in
theorem live_any (w : World) : Calls Try.prog 10 #[] w fun e w' => e = .returned (.bool true) ∧ Below w.heap.size w w' := by
  obtain ⟨w1, hw1⟩ : ∃ w1, w1 = w.alloc (.cells #[.slice none 0 0, .int .i64 100] 28 (0, 0)) := ⟨_, rfl⟩
  obtain ⟨kb, hkb⟩ : ∃ kb, kb = w.heap.size := ⟨_, rfl⟩
  have HK : Hid (KpF kb lS0 [kb] w1) := by
    refine ⟨.slice none 0 0, ⟨⟨by decide, by decide, Nat.zero_le _, fun t ht => (nomatch ht)⟩, ?_, Ks.nil _ _, fun h => (nomatch h)⟩, rfl⟩
    rw [hw1, hkb]; exact Box.new _ _ _
  have HM : Hid (∀ i ∈ [kb], w.heap.size ≤ i) := fun i hi => by rw [List.mem_singleton] at hi; omega
  have HB : Hid (Below w.heap.size w w1) := by show Below _ _ _; rw [hw1]; exact (Below.refl _ _).alloc (Nat.le_refl _) _
  have hw2 := hw1.symm
  have hk2 := hkb.symm
  clear hw1 hkb
  go_enter Try.func10, Try.ntmps10
  go_wp2_with fail
  refine (tputs_any kb _ lS0 noT bB b2 _ HK.out (by decide) (by decide) (by decide)).mono ?_
  rintro e w9 ⟨rfl, F9, k9, c9, n9⟩
  rw [lf1] at k9 ⊢
  have HK2 := Lib.hid k9
  have HM2 : Hid (∀ i ∈ F9, w.heap.size ≤ i) := fun i hi => by
    rcases n9 i hi with h | h
    · exact HM.out i h
    · exact Nat.le_trans HB.out.size h
  have HB2 := Lib.hid (HB.out.trans (c9.below HB.out.size HM.out))
  clear k9 c9 n9 HK HM HB
  have HK := HK2
  have HM := HM2
  have HB := HB2
  clear HK2 HM2 HB2
  go_wp2_with fail
  refine (tputs_any kb _ lS1 lr0 bA b1 _ HK.out (by decide) (by decide) (by decide)).mono ?_
  rintro e w9 ⟨rfl, F9, k9, c9, n9⟩
  rw [lf2] at k9 ⊢
  have HK2 := Lib.hid k9
  have HM2 : Hid (∀ i ∈ F9, w.heap.size ≤ i) := fun i hi => by
    rcases n9 i hi with h | h
    · exact HM.out i h
    · exact Nat.le_trans HB.out.size h
  have HB2 := Lib.hid (HB.out.trans (c9.below HB.out.size HM.out))
  clear k9 c9 n9 HK HM HB
  have HK := HK2
  have HM := HM2
  have HB := HB2
  clear HK2 HM2 HB2
  go_wp2_with fail
  refine (tget_any kb _ lS2 lr1 bA _ HK.out (by decide) (by decide)).mono ?_
  rintro e w9 ⟨rfl, hb9⟩
  rw [lf3]
  have HK2 := Lib.hid (HK.out.keep hb9)
  have HB2 := Lib.hid (HB.out.trans (hb9.mono HB.out.size))
  clear hb9 HK HB
  have HK := HK2
  have HB := HB2
  clear HK2 HB2
  go_wp2_with fail
  refine (tget_any kb _ lS2 lr0 bA _ HK.out (by decide) (by decide)).mono ?_
  rintro e w9 ⟨rfl, hb9⟩
  rw [lf4]
  have HK2 := Lib.hid (HK.out.keep hb9)
  have HB2 := Lib.hid (HB.out.trans (hb9.mono HB.out.size))
  clear hb9 HK HB
  have HK := HK2
  have HB := HB2
  clear HK2 HB2
  go_wp2_with fail
  refine (scan_any kb _ lS2 lr1 noT 9 _ HK.out (by decide) (by decide)).mono ?_
  rintro e w9 ⟨v, rfl, hz9, hb9⟩
  obtain ⟨va, vc, rfl, _⟩ := hz9.form
  rw [lf5.1, lf5.2]
  clear hz9
  have HK2 := Lib.hid (HK.out.keep hb9)
  have HB2 := Lib.hid (HB.out.trans (hb9.mono HB.out.size))
  clear hb9 HK HB
  have HK := HK2
  have HB := HB2
  clear HK2 HB2
  go_wp2_with fail
  refine (tdel_any kb _ lS2 lr1 bB _ HK.out (by decide) (by decide)).mono ?_
  rintro e w9 ⟨rfl, F9, k9, c9, n9⟩
  rw [lf6] at k9 ⊢
  have HK2 := Lib.hid k9
  have HM2 : Hid (∀ i ∈ F9, w.heap.size ≤ i) := fun i hi => by
    rcases n9 i hi with h | h
    · exact HM.out i h
    · exact Nat.le_trans HB.out.size h
  have HB2 := Lib.hid (HB.out.trans (c9.below HB.out.size HM.out))
  clear k9 c9 n9 HK HM HB
  have HK := HK2
  have HM := HM2
  have HB := HB2
  clear HK2 HM2 HB2
  go_wp2_with fail
  refine (tdel_any kb _ lS3 lr2 bB _ HK.out (by decide) (by decide)).mono ?_
  rintro e w9 ⟨rfl, F9, k9, c9, n9⟩
  rw [lf7] at k9 ⊢
  have HK2 := Lib.hid k9
  have HM2 : Hid (∀ i ∈ F9, w.heap.size ≤ i) := fun i hi => by
    rcases n9 i hi with h | h
    · exact HM.out i h
    · exact Nat.le_trans HB.out.size h
  have HB2 := Lib.hid (HB.out.trans (c9.below HB.out.size HM.out))
  clear k9 c9 n9 HK HM HB
  have HK := HK2
  have HM := HM2
  have HB := HB2
  clear HK2 HM2 HB2
  go_wp2_with fail
  refine (tdel_any kb _ lS3 lr2 bA _ HK.out (by decide) (by decide)).mono ?_
  rintro e w9 ⟨rfl, F9, k9, c9, n9⟩
  rw [lf8] at k9 ⊢
  have HK2 := Lib.hid k9
  have HM2 : Hid (∀ i ∈ F9, w.heap.size ≤ i) := fun i hi => by
    rcases n9 i hi with h | h
    · exact HM.out i h
    · exact Nat.le_trans HB.out.size h
  have HB2 := Lib.hid (HB.out.trans (c9.below HB.out.size HM.out))
  clear k9 c9 n9 HK HM HB
  have HK := HK2
  have HM := HM2
  have HB := HB2
  clear HK2 HM2 HB2
  go_wp2_with fail
  refine (tputs_any kb _ lS3 lr1 noT noT _ HK.out (by decide) (by decide) (by decide)).mono ?_
  rintro e w9 ⟨rfl, F9, k9, c9, n9⟩
  rw [lf9] at k9 ⊢
  have HK2 := Lib.hid k9
  have HM2 : Hid (∀ i ∈ F9, w.heap.size ≤ i) := fun i hi => by
    rcases n9 i hi with h | h
    · exact HM.out i h
    · exact Nat.le_trans HB.out.size h
  have HB2 := Lib.hid (HB.out.trans (c9.below HB.out.size HM.out))
  clear k9 c9 n9 HK HM HB
  have HK := HK2
  have HM := HM2
  have HB := HB2
  clear HK2 HM2 HB2
  go_wp2_with fail
  refine (refs_any kb _ lS3 lr1 _ HK.out (by decide)).mono ?_
  rintro e w9 ⟨v, rfl, hz9, hb9⟩
  rw [lf10] at hz9 ⊢
  obtain ⟨_, q⟩ | ⟨rg, rc, hrv, _⟩ := hz9.form
  · exact nomatch q
  subst hrv
  have HR := Lib.hid hz9
  clear hz9
  have HK2 := Lib.hid (HK.out.keep hb9)
  have HB2 := Lib.hid (HB.out.trans (hb9.mono HB.out.size))
  clear hb9 HK HB
  have HK := HK2
  have HB := HB2
  clear HK2 HB2
  go_wp2_with fail
  refine (tget_any kb _ lS3 bNo bA _ HK.out (by decide) (by decide)).mono ?_
  rintro e w9 ⟨rfl, hb9⟩
  rw [lf11]
  have HR2 := Lib.hid (HR.out.keep hb9)
  have HK2 := Lib.hid (HK.out.keep hb9)
  have HB2 := Lib.hid (HB.out.trans (hb9.mono HB.out.size))
  clear hb9 HK HB HR
  have HR := HR2
  clear HR2
  have HK := HK2
  have HB := HB2
  clear HK2 HB2
  go_wp2_with fail
  refine (tget_nil _ _ _).mono ?_
  rintro e w9 ⟨rfl, rfl⟩
  have c0 := HR.out.cellAt 0 (by decide)
  have HRB := Lib.hid HB.out
  clear HK HM HB HR
  go_wp2
  go_ret
  exact ⟨rfl, HRB.out⟩
end Go.Proofs.Ytbeldjijnjgbfaa

namespace Go.Proofs.Ytbeldjijnjgbfaa
open Go Go.RowKit Go.ChangeShapes Go.WideShapes Go.ChangeAt


def kPq : RwK Ent := ⟨68, 2, fun x => [.string x.1, .string x.2]⟩
theorem kPq_ok : RwOk kPq := by
  refine ⟨⟨.agg #[.string ⟨#[]⟩, .string ⟨#[]⟩], 32, by kernel_rfl, rfl, by decide⟩, by decide, fun _ => rfl, fun x u hu => ?_⟩
  simp only [kPq, List.mem_cons, List.not_mem_nil, or_false] at hu
  rcases hu with rfl | rfl <;> rfl
/-- The value v is a slice of the reference's pairs; of its block Z holds. -/
structure PqZ (Z : Nat → Prop) (w : World) (v : Value) (l : List Ent) : Prop where
  row : Rw kPq w 0 v l
  bz : ∀ k, v.ownBlock = some k → Z k
section
variable {Z Z' : Nat → Prop} {w w' : World} {v : Value} {l : List Ent} {F F' S : List Nat}
theorem PqZ.keep (h : PqZ Z w v l) (hb : Below w.heap.size w w') : PqZ Z w' v l := ⟨h.row.keep hb, h.bz⟩
theorem PqZ.tod (h : PqZ (· ∉ F) w v l) (hc : Chg F w w') (hn : ∀ k ∈ F', k ∈ F ∨ w.heap.size ≤ k) : PqZ (· ∉ F') w' v l :=
  ⟨h.row.chg hc h.bz, fun k hk hm => by rcases hn k hm with h5 | h5; exact h.bz k hk h5; have := h.row.lt k hk; omega⟩
theorem PqZ.mono (h : PqZ Z w v l) (hz : ∀ k, k < w.heap.size → Z k → Z' k) : PqZ Z' w v l := ⟨h.row, fun k hk => hz k (h.row.lt k hk) (h.bz k hk)⟩
theorem PqZ.form (h : PqZ Z w v l) : ∃ a c, v = .slice a l.length c := by
  obtain ⟨a, c, e, _⟩ := h.row.form
  exact ⟨a, c, e⟩
theorem PqZ.nil (Z : Nat → Prop) (w : World) : PqZ Z w (.slice none 0 0) [] := ⟨Rw.nil _ _, fun k hk => by cases hk⟩
theorem PqZ.at {a : Option Addr} {c : Nat} (h : PqZ Z w (.slice a l.length c) l) (j : Nat) (hj : j < l.length) : ∃ g, a = some ⟨g, 0, none⟩ ∧ w.cell? ⟨g, j * 2, none⟩ = some (.string l[j].1) ∧ w.cell? ⟨g, j * 2 + 1, none⟩ = some (.string l[j].2) := by
  obtain ⟨g, cap, e, _, hc⟩ := h.row.at kPq_ok j _ (List.getElem?_eq_getElem hj)
  injection e with e _ _
  exact ⟨g, e, hc 0 _ rfl, hc 1 _ rfl⟩
end
def keyT (s : ByteArray) : Bool := decide (0 < s.size ∧ s.size ≤ 300)
theorem tkey_any (s : ByteArray) (w : World) (hs : s.size ≤ maxLen) : Calls Try.prog 41 #[.string s] w fun e w' => e = .returned (.bool (keyT s)) ∧ w = w' := by
  unfold maxLen at hs
  by_cases h0 : 0 < s.size
  · have e : keyT s = decide (s.size ≤ 300) := by unfold keyT; simp [h0]
    rw [e]
    have h1 : (1 : Int) ≤ (s.size : Int) := by omega
    go_enter Try.func41, Try.ntmps41
    go_wp2
    go_ret
    exact ⟨ret_bool (decide_eq_decide.2 (by omega)), rfl⟩
  · have e : keyT s = false := by unfold keyT; simp [h0]
    rw [e]
    have h1 : ¬ (1 : Int) ≤ (s.size : Int) := by omega
    go_enter Try.func41, Try.ntmps41
    go_wp2
    go_ret
    exact ⟨rfl, rfl⟩
/-- P10.1, of the document's pairs. -/
def rgetT (l : List Ent) (key : ByteArray) : ByteArray × Int := match lookT l key with | some v => (v, 0) | none => (noT, 8)
theorem rget_yes {x : Ent} {r : List Ent} {key : ByteArray} (h : x.1 = key) : rgetT (x :: r) key = (x.2, 0) := by unfold rgetT lookT; rw [List.find?_cons_of_pos (by simpa using h)]; rfl
theorem rget_no {x : Ent} {r : List Ent} {key : ByteArray} (h : x.1 ≠ key) : rgetT (x :: r) key = rgetT r key := by unfold rgetT lookT; rw [List.find?_cons_of_neg (by simpa using h)]
set_option maxRecDepth 100000 in
set_option maxHeartbeats 4000000 in
theorem rget_any (Z : Nat → Prop) (v : Value) (l : List Ent) (key : ByteArray) (w : World) (h : PqZ Z w v l) (hl : l.length ≤ 100000) :
    Calls Try.prog 13 #[v, .string key] w fun e w' => e = .returned (.tuple #[.string (rgetT l key).1, .int .i64 (rgetT l key).2]) ∧ w = w' := by
  obtain ⟨a, c, rfl⟩ := h.form
  have H := Lib.hid h
  obtain ⟨R, hR⟩ : ∃ R, R = rgetT l key := ⟨_, rfl⟩
  rw [← hR]
  have HR : Hid (R = rgetT (l.drop 0) key) := hR
  clear h hR
  go_enter Try.func13, Try.ntmps13
  go_wp2_with fail
  go_loopw [6] (fun i wr => ∃ j : Nat, j ≤ l.length ∧ i = .int .i64 j ∧ Hid (R = rgetT (l.drop j) key) ∧ Hid (w = wr)) (fun i _ => ((l.length : Int) - RowKit.intOf i).toNat)
  case atStart => exact ⟨0, Nat.zero_le _, rfl, HR, rfl⟩
  case round =>
    clear HR
    obtain ⟨j, hj, rfl, HR, HW⟩ := hrel
    have hw := HW.out
    subst hw
    by_cases hlt : j < l.length
    · obtain ⟨g, rfl, c0, c1⟩ := H.out.at j hlt
      have HRJ : R = rgetT (l[j] :: l.drop (j + 1)) key := by rw [HR.out, List.drop_eq_getElem_cons hlt]
      have h0j : (0 : Int) ≤ (j : Int) := by omega
      have h1j : (j : Int) < (l.length : Int) := by omega
      obtain ⟨k, hk⟩ : ∃ k, k = l[j].1 := ⟨_, rfl⟩
      obtain ⟨u, hu⟩ : ∃ u, u = l[j].2 := ⟨_, rfl⟩
      rw [← hk] at c0
      rw [← hu] at c1
      by_cases he : k = key
      · have hq : (k.toList == key.toList) = true := by rw [beq_key]; simpa using he
        have HRF : Hid (R = (u, 0)) := by show _ = _; rw [HRJ, rget_yes (by rw [← hk]; exact he), hu]
        clear HRJ hk hu he HR
        go_wp2
        go_ret2
        rw [HRF.out]
        exact ⟨rfl, rfl⟩
      · have hq : (k.toList == key.toList) = false := by rw [beq_key]; simpa using he
        have HRN : Hid (R = rgetT (l.drop (j + 1)) key) := by show _ = _; rw [HRJ, rget_no (by rw [← hk]; exact he)]
        clear HRJ hk hu he HR
        go_wp2
        go_roundw
        case rel => exact ⟨j + 1, by omega, by go_num, HRN, by exact trivial⟩
        case measure => simp [RowKit.intOf]; omega
    · have hjl : j = l.length := by omega
      have HRE : Hid (R = (noT, 8)) := by show _ = _; rw [HR.out, List.drop_of_length_le (by omega)]; rfl
      subst hjl
      go_wp2
      go_ret2
      rw [HRE.out]
      exact ⟨rfl, rfl⟩
end Go.Proofs.Ytbeldjijnjgbfaa

namespace Go.Proofs.Ytbeldjijnjgbfaa
open Go Go.RowKit Go.ChangeShapes Go.WideShapes Go.ChangeAt

/-- What a call of the reference tells: a list, and a number. -/
def PqTo (v : Value) (R : List Ent × Int) (w : World) (e : Ending) (w' : World) : Prop :=
  ∃ v', e = .returned (.tuple #[v', .int .i64 R.2]) ∧ Rw kPq w' 0 v' R.1 ∧ (∀ k, v'.ownBlock = some k → v.ownBlock = some k ∨ w.heap.size ≤ k) ∧ Below w.heap.size w w'
/-- P10.2. -/
def rdelT (l : List Ent) (key : ByteArray) : List Ent × Int := if (dropE key l).length = l.length then (l, 8) else (dropE key l, 0)
theorem drop_yes {x : Ent} {r : List Ent} {key : ByteArray} (h : x.1 = key) : dropE key (x :: r) = dropE key r := by unfold dropE; rw [List.filter_cons_of_neg (by simpa using h)]
theorem drop_no {x : Ent} {r : List Ent} {key : ByteArray} (h : x.1 ≠ key) : dropE key (x :: r) = x :: dropE key r := by unfold dropE; rw [List.filter_cons_of_pos (by simpa using h)]
set_option maxRecDepth 100000 in
set_option maxHeartbeats 4000000 in
theorem rdel_any (Z : Nat → Prop) (v : Value) (l : List Ent) (key : ByteArray) (w : World) (h : PqZ Z w v l) (hl : l.length ≤ 100000) :
    Calls Try.prog 25 #[v, .string key] w (PqTo v (rdelT l key) w) := by
  obtain ⟨a, c, rfl⟩ := h.form
  have H := Lib.hid h
  have HL := Lib.hid hl
  obtain ⟨R, hR⟩ : ∃ R, R = dropE key l := ⟨_, rfl⟩
  obtain ⟨PS, hPS⟩ : ∃ PS, PS = PqTo (.slice a l.length c) (rdelT l key) w := ⟨_, rfl⟩
  rw [← hPS]
  have HPS := Lib.hid hPS
  have HRR : Hid (rdelT l key = if R.length = l.length then (l, 8) else (R, 0)) := by show _ = _; rw [hR]; rfl
  have HR : Hid (R = [] ++ dropE key (l.drop 0)) := by show _ = _; rw [hR]; rfl
  clear h hR hPS
  go_enter Try.func25, Try.ntmps25
  go_wp2_with fail
  go_loopw [6, 7] (fun lv i wr => ∃ (j : Nat) (acc : List Ent), j ≤ l.length ∧ acc.length ≤ j ∧ i = .int .i64 j ∧ Hid (R = acc ++ dropE key (l.drop j)) ∧ Hid (Rw kPq wr w.heap.size lv acc) ∧ Hid (Below w.heap.size w wr)) (fun _ i _ => ((l.length : Int) - RowKit.intOf i).toNat)
  case atStart => exact ⟨0, [], Nat.zero_le _, Nat.le_refl _, rfl, HR, Rw.nil _ _, Below.refl _ _⟩
  case round =>
    clear HR
    obtain ⟨j, acc, hj, hal, rfl, HR, HP, HB⟩ := hrel
    obtain ⟨la, lc, rfl, _, _⟩ := HP.out.form
    by_cases hlt : j < l.length
    · have HRJ : R = acc ++ dropE key (l[j] :: l.drop (j + 1)) := by rw [HR.out, List.drop_eq_getElem_cons hlt]
      obtain ⟨g, hga, c0, c1⟩ := (H.out.keep HB.out).at j hlt
      have hga : a = some ⟨g, 0, none⟩ := hga
      subst hga
      have h0j : (0 : Int) ≤ (j : Int) := by omega
      have h1j : (j : Int) < (l.length : Int) := by omega
      obtain ⟨k, hk⟩ : ∃ k, k = l[j].1 := ⟨_, rfl⟩
      obtain ⟨u, hu⟩ : ∃ u, u = l[j].2 := ⟨_, rfl⟩
      have hku : l[j] = (k, u) := by rw [hk, hu]
      have HCA : Hid (∀ W, Below w.heap.size w W → W.cell? ⟨g, j * 2, none⟩ = some (.string k) ∧ W.cell? ⟨g, j * 2 + 1, none⟩ = some (.string u)) := fun W hb => by
        obtain ⟨g2, hg2, d0, d1⟩ := (H.out.keep hb).at j hlt
        injection hg2 with hg2
        injection hg2 with hg2 _ _
        subst hg2
        rw [hk, hu]
        exact ⟨d0, d1⟩
      rw [← hk] at c0
      rw [← hu] at c1
      by_cases he : k = key
      · have hq : (k.toList == key.toList) = true := by rw [beq_key]; simpa using he
        have HRN : Hid (R = acc ++ dropE key (l.drop (j + 1))) := by show _ = _; rw [HRJ, drop_yes (by rw [← hk]; exact he)]
        clear HRJ hk hu he HR hku HCA
        go_wp2
        go_roundw
        case rel => exact ⟨j + 1, acc, by omega, by omega, by go_num, HRN, HP, HB⟩
        case measure => simp [RowKit.intOf]; omega
      · have hq : (k.toList == key.toList) = false := by rw [beq_key]; simpa using he
        have HRN : Hid (R = (acc ++ [(k, u)]) ++ dropE key (l.drop (j + 1))) := by show _ = _; rw [HRJ, drop_no (by rw [← hk]; exact he), hku]; simp
        have hla : acc.length + 1 ≤ j + 1 := by omega
        have hl1 : acc.length + 1 ≤ 100000 := by have := HL.out; omega
        clear HRJ hk hu he HR hku HCA
        obtain ⟨W4a, hW4a⟩ : ∃ W, W = wr.alloc (.cells #[.string k, .string u] 68 (0, 0)) := ⟨_, rfl⟩
        have BX4 : Hid (Box W4a wr.heap.size 68 #[.string k, .string u]) := by show Box _ _ _ _; rw [hW4a]; exact Box.new _ _ _
        have hb4 : Below wr.heap.size wr W4a := by rw [hW4a]; exact (Below.refl _ _).alloc (Nat.le_refl _) _
        have HW4 := Lib.hid hW4a.symm
        have HP4a := Lib.hid (HP.out.keep hb4)
        have HB4a := Lib.hid (HB.out.trans (hb4.mono HB.out.size))
        clear hW4a hb4
        go_wp2_with (at_builtin; refine wp_rw_push kPq_ok Try.underlying29 _ rfl _ _ rfl w.heap.size _ acc rfl (by rw [HW4.out]; exact HP4a.out) wr.heap.size 1 (k, u) rfl ?c1 (by omega) (by rw [HW4.out]; exact HB4a.out.size) ?_)
        case c1 =>
          intro j2 u hj2
          try rw [HW4.out]
          first | exact hj2 | exact BX4.out.cell j2 u (by rw [← hj2]; show #[Value.string k, Value.string u][j2]? = [Value.string k, Value.string u][j2]?; simp)
        intro v4 W4 hk4 hg4 ho4
        rw [HW4.out] at hg4
        have hlb4 := HP4a.out.own_block
        have hc4 := Chg.grown hg4 (fun k (hk : _ = some k) => (by simpa using hk : k ∈ (Value.ownBlock _).toList))
        have HB4 := Lib.hid (HB4a.out.trans (hc4.below HB4a.out.size (fun k hk => hlb4 k (by simpa using hk))))
        have HP4 := Lib.hid hk4
        obtain ⟨la4, lc4, rfl, _, _⟩ := HP4.out.form
        clear hk4 hg4 ho4 hlb4 hc4 BX4 HW4 HP4a HB4a
        clear c0 c1 HP HB
        go_wp2
        go_roundw
        case rel => exact ⟨j + 1, _, by omega, by simpa using hla, by go_num, HRN, HP4, HB4⟩
        case measure => simp [RowKit.intOf]; omega
    · have hjl : j = l.length := by omega
      have HRE : Hid (R = acc) := by show _ = _; rw [HR.out, List.drop_of_length_le (by omega)]; exact List.append_nil _
      subst hjl
      by_cases hq : acc.length = l.length
      · have e1 : ((acc.length : Int) == (l.length : Int)) = true := by rw [beq_iff_eq]; omega
        have HQ := Lib.hid hq
        clear hq
        go_wp2
        rw [HPS.out, HRR.out, HRE.out, if_pos HQ.out]
        refine ⟨_, rfl, (H.out.keep HB.out).row, fun k hk => .inl hk, HB.out⟩
      · have e1 : ((acc.length : Int) == (l.length : Int)) = false := by rw [beq_eq_false_iff_ne]; omega
        have HQ := Lib.hid hq
        clear hq
        go_wp2
        rw [HPS.out, HRR.out, HRE.out, if_neg HQ.out]
        refine ⟨_, rfl, HP.out.low (Nat.zero_le _), fun k hk => .inr (HP.out.own_block k hk), HB.out⟩
/-- P10.3. -/
def rscanF (fr : ByteArray) (many : Int) : List Ent → List Ent → List Ent
  | [], acc => acc
  | x :: r, acc => if (acc.length : Int) < many then rscanF fr many r (if ltK x.1 fr = false then acc ++ [x] else acc) else acc
theorem rscan_end {fr : ByteArray} {many : Int} {l acc : List Ent} (h : ¬ (acc.length : Int) < many) : rscanF fr many l acc = acc := by
  cases l with
  | nil => rfl
  | cons x r => rw [rscanF, if_neg h]
theorem rscan_is {fr : ByteArray} {many : Int} : ∀ (l acc : List Ent), (acc.length : Int) ≤ max many 0 → rscanF fr many l acc = (acc ++ l.filter (fun x => !ltK x.1 fr)).take many.toNat
  | [], acc, h => by
    rw [rscanF, List.filter_nil, List.append_nil, List.take_of_length_le (by omega)]
  | x :: r, acc, h => by
    by_cases hm : (acc.length : Int) < many
    · rw [rscanF, if_pos hm]
      cases hx : ltK x.1 fr
      · rw [if_pos rfl, rscan_is r _ (by rw [List.length_append, List.length_singleton]; omega), List.filter_cons_of_pos (by rw [hx]; rfl)]
        simp
      · rw [if_neg (by simp), rscan_is r _ h, List.filter_cons_of_neg (by simp [hx])]
    · rw [rscan_end hm, List.take_append_of_le_length (by omega), List.take_of_length_le (by omega)]
set_option maxRecDepth 100000 in
set_option maxHeartbeats 4000000 in
theorem rscan_any (Z : Nat → Prop) (v : Value) (l : List Ent) (fr : ByteArray) (many : Int) (w : World) (h : PqZ Z w v l) (hl : l.length ≤ 100000) :
    Calls Try.prog 17 #[v, .string fr, .int .i64 many] w fun e w' => ∃ v', e = .returned v' ∧ PqZ (w.heap.size ≤ ·) w' v' ((l.filter (fun x => !ltK x.1 fr)).take many.toNat) ∧ Below w.heap.size w w' := by
  obtain ⟨a, c, rfl⟩ := h.form
  have H := Lib.hid h
  have HL := Lib.hid hl
  obtain ⟨R, hR⟩ : ∃ R, R = (l.filter (fun x => !ltK x.1 fr)).take many.toNat := ⟨_, rfl⟩
  rw [← hR]
  obtain ⟨PS, hPS⟩ : ∃ PS : Ending → World → Prop, PS = fun e w' => ∃ v', e = .returned v' ∧ PqZ (w.heap.size ≤ ·) w' v' R ∧ Below w.heap.size w w' := ⟨_, rfl⟩
  have hgoal : Calls Try.prog 17 #[.slice a l.length c, .string fr, .int .i64 many] w PS := by
    have HPS := Lib.hid hPS
    have HR : Hid (R = rscanF fr many (l.drop 0) []) := by show _ = _; rw [hR, List.drop_zero, rscan_is l [] (by simp; omega)]; rfl
    clear h hR hPS
    go_enter Try.func17, Try.ntmps17
    go_wp2_with fail
    go_loopw [7, 8] (fun lv i wr => ∃ (j : Nat) (acc : List Ent), j ≤ l.length ∧ acc.length ≤ j ∧ i = .int .i64 j ∧ Hid (R = rscanF fr many (l.drop j) acc) ∧ Hid (Rw kPq wr w.heap.size lv acc) ∧ Hid (Below w.heap.size w wr)) (fun _ i _ => ((l.length : Int) - RowKit.intOf i).toNat)
    case atStart => exact ⟨0, [], Nat.zero_le _, Nat.le_refl _, rfl, HR, Rw.nil _ _, Below.refl _ _⟩
    case round =>
      clear HR
      obtain ⟨j, acc, hj, hal, rfl, HR, HP, HB⟩ := hrel
      obtain ⟨la, lc, rfl, _, _⟩ := HP.out.form
      by_cases hlt : j < l.length
      · have HRJ : R = rscanF fr many (l[j] :: l.drop (j + 1)) acc := by rw [HR.out, List.drop_eq_getElem_cons hlt]
        obtain ⟨g, hga, c0, c1⟩ := (H.out.keep HB.out).at j hlt
        have hga : a = some ⟨g, 0, none⟩ := hga
        subst hga
        have h0j : (0 : Int) ≤ (j : Int) := by omega
        have h1j : (j : Int) < (l.length : Int) := by omega
        obtain ⟨k, hk⟩ : ∃ k, k = l[j].1 := ⟨_, rfl⟩
        obtain ⟨u, hu⟩ : ∃ u, u = l[j].2 := ⟨_, rfl⟩
        have hku : l[j] = (k, u) := by rw [hk, hu]
        have HCA : Hid (∀ W, Below w.heap.size w W → W.cell? ⟨g, j * 2, none⟩ = some (.string k) ∧ W.cell? ⟨g, j * 2 + 1, none⟩ = some (.string u)) := fun W hb => by
          obtain ⟨g2, hg2, d0, d1⟩ := (H.out.keep hb).at j hlt
          injection hg2 with hg2
          injection hg2 with hg2 _ _
          subst hg2
          rw [hk, hu]
          exact ⟨d0, d1⟩
        rw [← hk] at c0
        rw [← hu] at c1
        have hge := fun W => str_geq k fr W
        by_cases hm : (acc.length : Int) < many
        · rw [rscanF, if_pos hm, hku] at HRJ
          cases hx : ltK k fr
          · have hq : ∀ W, (binOp .geq 9 (.string k) (.string fr)).run Try.prog W = .ok (.bool true) W := fun W => by rw [hge W, hx]; rfl
            have HRN : Hid (R = rscanF fr many (l.drop (j + 1)) (acc ++ [(k, u)])) := by show _ = _; rw [HRJ, if_pos hx]
            have hla : acc.length + 1 ≤ j + 1 := by omega
            have hl1 : acc.length + 1 ≤ 100000 := by have := HL.out; omega
            clear HRJ hk hu HR hku HCA hge hx
            obtain ⟨W4a, hW4a⟩ : ∃ W, W = wr.alloc (.cells #[.string k, .string u] 68 (0, 0)) := ⟨_, rfl⟩
            have BX4 : Hid (Box W4a wr.heap.size 68 #[.string k, .string u]) := by show Box _ _ _ _; rw [hW4a]; exact Box.new _ _ _
            have hb4 : Below wr.heap.size wr W4a := by rw [hW4a]; exact (Below.refl _ _).alloc (Nat.le_refl _) _
            have HW4 := Lib.hid hW4a.symm
            have HP4a := Lib.hid (HP.out.keep hb4)
            have HB4a := Lib.hid (HB.out.trans (hb4.mono HB.out.size))
            clear hW4a hb4
            go_wp2_with (at_builtin; refine wp_rw_push kPq_ok Try.underlying29 _ rfl _ _ rfl w.heap.size _ acc rfl (by rw [HW4.out]; exact HP4a.out) wr.heap.size 1 (k, u) rfl ?c1 (by omega) (by rw [HW4.out]; exact HB4a.out.size) ?_)
            case c1 =>
              intro j2 u hj2
              try rw [HW4.out]
              first | exact hj2 | exact BX4.out.cell j2 u (by rw [← hj2]; show #[Value.string k, Value.string u][j2]? = [Value.string k, Value.string u][j2]?; simp)
            intro v4 W4 hk4 hg4 ho4
            rw [HW4.out] at hg4
            have hlb4 := HP4a.out.own_block
            have hc4 := Chg.grown hg4 (fun k (hk : _ = some k) => (by simpa using hk : k ∈ (Value.ownBlock _).toList))
            have HB4 := Lib.hid (HB4a.out.trans (hc4.below HB4a.out.size (fun k hk => hlb4 k (by simpa using hk))))
            have HP4 := Lib.hid hk4
            obtain ⟨la4, lc4, rfl, _, _⟩ := HP4.out.form
            clear hk4 hg4 ho4 hlb4 hc4 BX4 HW4 HP4a HB4a
            clear c0 c1 HP HB
            go_wp2
            go_roundw
            case rel => exact ⟨j + 1, _, by omega, by simpa using hla, by go_num, HRN, HP4, HB4⟩
            case measure => simp [RowKit.intOf]; omega
          · have hq : ∀ W, (binOp .geq 9 (.string k) (.string fr)).run Try.prog W = .ok (.bool false) W := fun W => by rw [hge W, hx]; rfl
            have HRN : Hid (R = rscanF fr many (l.drop (j + 1)) acc) := by show _ = _; rw [HRJ, if_neg (by rw [hx]; decide)]
            clear HRJ hk hu HR hku HCA hge hx
            go_wp2
            go_roundw
            case rel => exact ⟨j + 1, acc, by omega, by omega, by go_num, HRN, HP, HB⟩
            case measure => simp [RowKit.intOf]; omega
        · have HRE : Hid (R = acc) := by show _ = _; rw [HR.out, rscan_end hm]
          clear HRJ hk hu HR hku HCA hge
          go_wp2
          rw [HPS.out, HRE.out]
          exact ⟨_, rfl, ⟨HP.out.low (Nat.zero_le _), HP.out.own_block⟩, HB.out⟩
      · have hjl : j = l.length := by omega
        have HRE : Hid (R = acc) := by show _ = _; rw [HR.out, List.drop_of_length_le (by omega)]; rfl
        subst hjl
        go_wp2
        rw [HPS.out, HRE.out]
        exact ⟨_, rfl, ⟨HP.out.low (Nat.zero_le _), HP.out.own_block⟩, HB.out⟩
  rw [hPS] at hgoal
  exact hgoal
end Go.Proofs.Ytbeldjijnjgbfaa
