/-
  Texts put together: PathP, PathQ, PathW.
-/
import Derived.Test.YteimpebfenpifaaGreatDoorMg8
namespace Go.Proofs.YteimpebfenpifaaGreatDoor
open Go Go.RowKit Go.Shelf

theorem inter_cons (p q : List UInt8) (r : List (List UInt8)) : ([47] : List UInt8).intercalate (p :: q :: r) = p ++ 47 :: ([47] : List UInt8).intercalate (q :: r) := by simp [List.intercalate, List.intersperse]
theorem inter_snoc : ∀ (l : List (List UInt8)) (x : List UInt8), l ≠ [] → ([47] : List UInt8).intercalate (l ++ [x]) = ([47] : List UInt8).intercalate l ++ 47 :: x
  | [p], x, _ => by rw [List.singleton_append, inter_cons]; simp [List.intercalate, List.intersperse]
  | p :: q :: r, x, _ => by
    have ih := inter_snoc (q :: r) x (by simp)
    rw [List.cons_append, List.cons_append, inter_cons, inter_cons, ← List.cons_append, ih]
    simp
theorem map_pb_mk (l : List (List UInt8)) : (l.map mkB).map pb = l := by
  rw [List.map_map]
  have : pb ∘ mkB = id := by funext x; simp [mkB, pb_mk]
  rw [this, List.map_id]
theorem pb_head {s : ByteArray} (h : (pb s).head? = some 47) : pb s = 47 :: pb (restP s) := by
  cases hl : pb s with
  | nil => rw [hl] at h; cases h
  | cons c r =>
    rw [hl] at h
    injection h with h
    subst h
    congr 1
    unfold restP
    rw [pb_cut, hl, List.drop_succ_cons, List.drop_zero, List.take_of_length_le]
    have := pb_size s
    rw [hl, List.length_cons] at this
    omega
/-- What is split is joined as it was. -/
theorem join_split {s : ByteArray} (h : (splitD s).2 = 0) : joinD (splitD s).1 = s := by
  apply pb_ext
  rw [pb_joinD]
  by_cases hp : (pb s).head? = some 47
  · by_cases hz : (restP s).size = 0
    · rw [split_root hp hz, pb_head hp]
      have : pb (restP s) = [] := List.eq_nil_of_length_eq_zero (by rw [pb_size]; exact hz)
      rw [this]
      rfl
    · by_cases hk : ∀ x ∈ piecesB (restP s), okN x
      · rw [split_ok hp hz hk, pb_head hp]
        unfold piecesB
        rw [map_pb_mk, pieces_join]
      · have hb : ∃ x ∈ piecesB (restP s), ¬ okN x := by
          apply Classical.byContradiction
          intro e
          exact hk fun x hx => Classical.byContradiction fun hn => e ⟨x, hx, hn⟩
        rw [split_bad hp hz hb] at h
        cases h
  · rw [split_none hp] at h
    cases h
theorem join_size (l : List ByteArray) : (joinD l).size = 1 + (([47] : List UInt8).intercalate (l.map pb)).length := by
  rw [← pb_size, pb_joinD, List.length_cons]; omega
theorem join_front (l : List ByteArray) : (joinD l.dropLast).size ≤ (joinD l).size := by
  rw [join_size, join_size]
  rcases List.eq_nil_or_concat l with rfl | ⟨r, x, rfl⟩
  · exact Nat.le_refl _
  · rw [List.concat_eq_append, List.dropLast_concat, List.map_append, List.map_cons, List.map_nil]
    by_cases h : r.map pb = []
    · rw [h]; simp
    · rw [inter_snoc _ _ h, List.length_append]; omega

/-- Parent's answer. -/
structure ParD where
  p : ByteArray
  n : ByteArray
  e : Int
def parV (d : ParD) : Value := .tuple #[.string d.p, .string d.n, .int .i64 d.e]
def parD (s : ByteArray) : ParD :=
  if (splitD s).2 ≠ 0 then ⟨⟨#[]⟩, ⟨#[]⟩, (splitD s).2⟩ else if (splitD s).1 = [] then ⟨⟨#[]⟩, ⟨#[]⟩, 1⟩ else ⟨joinD (splitD s).1.dropLast, (splitD s).1.getLastD ⟨#[]⟩, 0⟩
def witD (a b : ByteArray) : Bool := decide ((splitD a).2 = 0 ∧ (splitD b).2 = 0 ∧ (splitD a).1 <+: (splitD b).1)
theorem split_len (s : ByteArray) : (splitD s).1.length ≤ s.size + 1 := by
  unfold splitD
  split
  · simp
  · split
    · simp
    · split
      · unfold piecesB
        rw [List.length_map]
        have := pieces_len (pb (restP s))
        have h2 : (pb (restP s)).length ≤ s.size := by rw [pb_size]; unfold restP; rw [ByteArray.size_extract]; omega
        show (pieces (pb (restP s))).length ≤ _
        omega
      · simp

theorem Ks.sl {w : World} {base : Nat} {a : Option Addr} {n c : Nat} {l : List ByteArray} (h : Ks w base (.slice a n c) l) : n = l.length ∧ Sl w Value.string a l ∧ l.length ≤ c ∨ l = [] ∧ n = 0 := by
  rcases h.form with ⟨h1, h2⟩ | ⟨g, cap, h1, _, _, h4, _⟩
  · injection h1 with _ h3 _
    exact .inr ⟨h2, h3⟩
  · obtain ⟨a', cap', h5, h6⟩ := h.view
    injection h1 with e1 e2 e3
    injection h5 with f1 f2 f3
    subst e1 e3
    rw [← f1] at h6
    exact .inl ⟨e2, h6, h4⟩
/-- A row's shape, with its capacity. -/
theorem Ks.shape {w : World} {base : Nat} {v : Value} {l : List ByteArray} (h : Ks w base v l) : ∃ a c, v = .slice a l.length c ∧ Sl w Value.string a l ∧ l.length ≤ c := by
  rcases h.form with ⟨rfl, rfl⟩ | ⟨g, cap, rfl, _, _, h4, _⟩
  · exact ⟨none, 0, rfl, Sl.nil, Nat.le_refl _⟩
  · obtain ⟨a', cap', h5, h6⟩ := h.view
    injection h5 with f1 f2 f3
    subst f1 f3
    exact ⟨_, _, rfl, h6, h4⟩
theorem Sl.front {w : World} {a : Option Addr} {l : List ByteArray} (h : Sl w Value.string a l) (k : Nat) : Sl w Value.string a (l.take k) := by
  intro hne
  have hl : l ≠ [] := by rintro rfl; simp at hne
  obtain ⟨b, off, rfl, hb, hc⟩ := h hl
  refine ⟨b, off, rfl, hb, fun i x hx => hc i x ?_⟩
  rw [List.getElem?_take] at hx
  split at hx
  · exact hx
  · cases hx
theorem Sl.keepB {w w' : World} {a : Option Addr} {l : List ByteArray} (h : Sl w Value.string a l) (hb : Below w.heap.size w w') : Sl w' Value.string a l := by
  intro hne
  obtain ⟨b, off, rfl, hlt, hc⟩ := h hne
  exact ⟨b, off, rfl, Nat.lt_of_lt_of_le hlt hb.size, fun i x hx => (hb.cell (p := ⟨b, off + i, none⟩) hlt).trans (hc i x hx)⟩
end Go.Proofs.YteimpebfenpifaaGreatDoor

namespace Go.Proofs.YteimpebfenpifaaGreatDoor
open Go Go.RowKit Go.Shelf

theorem parD_err {s : ByteArray} (h : (splitD s).2 ≠ 0) : parD s = ⟨⟨#[]⟩, ⟨#[]⟩, (splitD s).2⟩ := if_pos h
theorem parD_root {s : ByteArray} (h : (splitD s).2 = 0) (h2 : (splitD s).1 = []) : parD s = ⟨⟨#[]⟩, ⟨#[]⟩, 1⟩ := by
  unfold parD; rw [if_neg (fun e => e h), if_pos h2]
theorem parD_ok {s : ByteArray} (h : (splitD s).2 = 0) (h2 : (splitD s).1 ≠ []) : parD s = ⟨joinD (splitD s).1.dropLast, (splitD s).1.getLastD ⟨#[]⟩, 0⟩ := by
  unfold parD; rw [if_neg (fun e => e h), if_neg h2]

theorem results_three {fn : Func} {t u v : Tmp} (h : fn.results = #[.tmp t, .tmp u, .tmp v]) (tmps : Array Value) (P : Program) (w : World) :
    (results fn tmps).run P w = .ok (.tuple #[tmps.getD t undef, tmps.getD u undef, tmps.getD v undef]) w := by
  simp [results, h]

theorem last_at {l : List ByteArray} {m : Nat} (h : l.length = m + 1) : l[m]? = some (l.getLastD ⟨#[]⟩) := by
  rcases List.eq_nil_or_concat l with rfl | ⟨r, x, rfl⟩
  · simp at h
  · rw [List.concat_eq_append] at h ⊢
    rw [List.length_append] at h
    have hm : r.length = m := by simpa using h
    subst hm
    simp
theorem front_take {l : List ByteArray} {m : Nat} (h : l.length = m + 1) : l.take m = l.dropLast := by
  rw [List.dropLast_eq_take, h]; rfl

set_option maxRecDepth 100000 in
set_option maxHeartbeats 1000000 in
theorem parent_any (s : ByteArray) (hs : s.size ≤ 100000) (w : World) : Calls Tryz.prog 91 #[.string s] w fun e w' => e = .returned (parV (parD s)) ∧ Below w.heap.size w w' := by
  obtain ⟨R, hR⟩ : ∃ R, R = parD s := ⟨_, rfl⟩
  rw [← hR]
  by_cases h0 : (splitD s).2 = 0
  · rcases Nat.eq_zero_or_pos (splitD s).1.length with hl | hl
    · have HF := Lib.hid (hR.trans (parD_root h0 (List.eq_nil_of_length_eq_zero hl)))
      have e1 : (splitD s).1 = [] := List.eq_nil_of_length_eq_zero hl
      have E0 := Lib.hid h0
      have E1 := Lib.hid e1
      clear hR h0 hl e1
      go_enter Tryz.func91, Tryz.ntmps91
      go_wp2_with fail
      refine (split_any s (by omega) _).mono ?_
      rintro e w1 ⟨v, rfl, hk, hb⟩
      rw [E0.out]
      rw [E1.out] at hk
      obtain ⟨a, c, rfl, _, _⟩ := hk.shape
      have HB := Lib.hid hb
      clear hb hk
      go_wp2
      refine bodyPost_ret (results_three rfl _ _ _) rfl ?_
      exact ⟨by rw [HF.out]; rfl, HB.out⟩
    · obtain ⟨m, hm⟩ : ∃ m, (splitD s).1.length = m + 1 := ⟨_, (Nat.succ_pred_eq_of_pos hl).symm⟩
      have HF := Lib.hid (hR.trans (parD_ok h0 (by intro e; rw [e] at hm; simp at hm)))
      have hlen := split_len s
      have hjz : (joinD (splitD s).1.dropLast).size ≤ 1000000 := by
        have h1 := join_front (splitD s).1
        rw [join_split h0] at h1
        omega
      have E0 := Lib.hid h0
      generalize hll : (splitD s).1 = l at *
      have HLL := Lib.hid hll
      have HJZ := Lib.hid hjz
      have HM := Lib.hid hm
      have hm1 : m ≤ 100001 := by omega
      clear hR h0 hl hm hjz hlen hll
      go_enter Tryz.func91, Tryz.ntmps91
      go_wp2_with fail
      refine (split_any s (by omega) _).mono ?_
      rintro e w1 ⟨v, rfl, hk, hb⟩
      rw [E0.out]
      rw [HLL.out] at hk
      obtain ⟨xa, xc, rfl, hsl, hc⟩ := hk.shape
      have HB := Lib.hid hb
      rw [HM.out]
      rw [HM.out] at hc
      have hne : l ≠ [] := by intro e; have := HM.out; rw [e] at this; simp at this
      obtain ⟨bb, off, rfl, hbl, hcell⟩ := hsl hne
      have hlast : w1.cell? ⟨bb, off + m, none⟩ = some (.string (l.getLastD ⟨#[]⟩)) := hcell m _ (last_at HM.out)
      have HSL : Hid (Sl w1 Value.string (some ⟨bb, off, none⟩) l.dropLast) := by
        have := hsl.front m
        rw [front_take HM.out] at this
        exact this
      have HDL : Hid (l.dropLast.length = m) := by show _ = _; rw [List.length_dropLast, HM.out]; rfl
      have HLB := Lib.hid hbl
      generalize l.getLastD ⟨#[]⟩ = z at *
      clear hb hk hsl hcell hbl hne
      have hm0 : ¬ (m : Int) + 1 = 0 := by omega
      have hw2 : IntKind.i64.wrap ((m : Int) + 1) = m + 1 := i64_small _ (by omega) (by omega)
      have hmc : (m : Int) ≤ (xc : Int) := by omega
      have hmi : (m : Int) < (m : Int) + 1 := by omega
      have hmz : (0 : Int) ≤ (m : Int) := by omega
      go_wp2_with fail
      have c0 : w1.drew.cell? ⟨bb, off + m, none⟩ = some (.string z) := hlast
      clear hlast
      refine wp_region_sched (fun W => W.cell? ⟨bb, off + m, none⟩ = some (.string z)) 9 [(0, false), (1, false), (2, false), (4, false), (5, false), (6, false), (7, false), (3, true), (8, false)] (by kernel_rfl) (by kernel_rfl) c0 ?_
      simp only [List.drop_succ_cons, List.drop_zero]
      iterate 7 (apply wpSch_step rfl; (intro W hS K hK; go_simp; exact hK _ rfl))
      refine wpSch_make rfl (fun K' hK => ?_)
      go_simp
      have HJ := Lib.hid (join_any (some ⟨bb, off, none⟩) xc l.dropLast w1.drew HSL.out (by rw [HDL.out]; omega) HJZ.out)
      rw [HDL.out] at HJ
      refine HJ.out.mono ?_
      rintro e w2 ⟨rfl, hb⟩
      have c0 := (hb.cell (p := ⟨bb, off + m, none⟩) HLB.out).trans c0
      have HB2 := Lib.hid (HB.out.trans ((show Below w1.heap.size w1 w2 from ⟨hb.os, hb.tape, hb.output, hb.size, hb.block⟩).mono HB.out.size))
      refine hK _ _ _ (fun _ h => h) c0 ?_
      clear hK K' hb HJ
      apply wpSch_step rfl
      · intro W hS K hK
        go_simp
        exact hK _ rfl
      refine wpSch_nil ?_
      go_wp2
      refine bodyPost_ret (results_three rfl _ _ _) rfl ?_
      exact ⟨by rw [HF.out]; rfl, HB2.out⟩
  · have HF := Lib.hid (hR.trans (parD_err h0))
    have hq : ((splitD s).2 != 0) = true := by simpa using h0
    clear hR h0
    go_enter Tryz.func91, Tryz.ntmps91
    go_wp2_with fail
    refine (split_any s (by omega) _).mono ?_
    rintro e w1 ⟨v, rfl, hk, hb⟩
    obtain ⟨xa, xc, rfl, _, _⟩ := hk.shape
    have HB := Lib.hid hb
    clear hb hk
    go_wp2
    refine bodyPost_ret (results_three rfl _ _ _) rfl ?_
    exact ⟨by rw [HF.out]; rfl, HB.out⟩
end Go.Proofs.YteimpebfenpifaaGreatDoor

namespace Go.Proofs.YteimpebfenpifaaGreatDoor
open Go Go.RowKit Go.Shelf

/-- What the reference joins, name by name. -/
def accL (l : List ByteArray) : List UInt8 := l.flatMap fun x => 47 :: pb x
def accB (l : List ByteArray) : ByteArray := mkB (accL l)
theorem accL_snoc (l : List ByteArray) (x : ByteArray) : accL (l ++ [x]) = accL l ++ (47 :: pb x) := by
  unfold accL; rw [List.flatMap_append]; simp
theorem accB_snoc (l : List ByteArray) (k : Nat) (h : k < l.length) : accB (l.take (k + 1)) = accB (l.take k) ++ ⟨#[47]⟩ ++ l[k] := by
  apply pb_ext
  rw [List.take_succ_eq_append_getElem h, accB, mkB, pb_mk, accL_snoc, pb_append, pb_append, accB, mkB, pb_mk, List.append_assoc]
  rfl
theorem accB_join : ∀ (l : List ByteArray), l ≠ [] → joinD l = accB l := by
  intro l hl
  apply pb_ext
  rw [pb_joinD, accB, mkB, pb_mk]
  induction l with
  | nil => exact absurd rfl hl
  | cons x r ih =>
    cases r with
    | nil => simp [accL, List.intercalate]
    | cons y r =>
      have := ih (by simp)
      rw [List.map_cons, List.map_cons, inter_cons]
      rw [List.map_cons] at this
      rw [this]
      simp [accL]
theorem accB_size (l : List ByteArray) (k : Nat) : (accB (l.take k)).size ≤ (accB l).size := by
  rw [← pb_size, ← pb_size, accB, mkB, pb_mk, accB, mkB, pb_mk]
  have : accL l = accL (l.take k) ++ accL (l.drop k) := by
    unfold accL
    rw [← List.flatMap_append, List.take_append_drop]
  rw [this, List.length_append]
  omega

set_option maxHeartbeats 1000000 in
theorem rjoin_any (a : Option Addr) (c : Nat) (l : List ByteArray) (w : World) (h : Sl w Value.string a l) (hz : (joinD l).size ≤ 1000000) (hl : l.length ≤ 1000000) :
    Calls Tryz.prog 82 #[.slice a l.length c] w fun e w' => e = .returned (.string (joinD l)) ∧ w = w' := by
  by_cases h0 : l = []
  · subst h0
    clear h hz
    go_enter Tryz.func82, Tryz.ntmps82
    go_wp2
    go_ret
    exact ⟨rfl, rfl⟩
  · have hj := accB_join l h0
    rw [hj] at hz ⊢
    have HS := Lib.hid h
    have HZ := Lib.hid hz
    have hlp : 0 < l.length := by cases l with | nil => exact absurd rfl h0 | cons _ _ => simp
    have hl0 : ¬ (l.length : Int) = 0 := by omega
    have H0 := Lib.hid h0
    obtain ⟨R, hR⟩ : ∃ R, R = accB l := ⟨_, rfl⟩
    rw [← hR]
    have HR := Lib.hid hR
    clear h hz hj h0 hR
    go_enter Tryz.func82, Tryz.ntmps82
    go_wp2
    go_loop [3, 4] (fun sv i => ∃ k : Nat, k ≤ l.length ∧ i = .int .i64 k ∧ sv = .string (accB (l.take k))) (fun _ i => l.length - (intOf i).toNat)
    case atStart => exact ⟨0, Nat.zero_le _, rfl, rfl⟩
    case round =>
      obtain ⟨k, hk, rfl, rfl⟩ := hrel
      by_cases hlt : k < l.length
      · obtain ⟨b, off, rfl, hb, hcell⟩ := HS.out H0.out
        have q1 : w.cell? ⟨b, off + k, none⟩ = some (.string l[k]) := hcell k _ (List.getElem?_eq_getElem hlt)
        have HN := Lib.hid (accB_snoc l k hlt)
        have hz1 : (accB (l.take k)).size ≤ 1000000 := Nat.le_trans (accB_size l k) HZ.out
        have hz2 : (accB (l.take k) ++ (⟨#[47]⟩ : ByteArray)).size = (accB (l.take k)).size + 1 := by rw [ByteArray.size_append]; rfl
        have hz3 : (accB (l.take k) ++ (⟨#[47]⟩ : ByteArray) ++ l[k]).size ≤ 1000000 := by rw [← HN.out]; exact Nat.le_trans (accB_size l (k + 1)) HZ.out
        rw [ByteArray.size_append, hz2] at hz3
        generalize accB (l.take k) = t at *
        generalize l[k] = x at *
        have hq1 : ¬ 9223372036854775807 < t.size + 1 := by omega
        have hq2 : ¬ 9223372036854775807 < t.size + 1 + x.size := by omega
        clear hcell hb hz1 hz3
        go_wp2
        go_round
        case rel => exact ⟨k + 1, by omega, by go_num, by rw [HN.out]⟩
        case measure => simp [intOf]; omega
      · have hke : k = l.length := by omega
        have HF : Hid (accB (l.take k) = R) := by show _ = _; rw [hke, List.take_length, HR.out]
        clear hke
        go_wp2
        go_ret
        exact ⟨by rw [← HF.out]; rfl, rfl⟩

set_option maxRecDepth 100000 in
set_option maxHeartbeats 1000000 in
theorem rparent_any (s : ByteArray) (hs : s.size ≤ 100000) (w : World) : Calls Tryz.prog 83 #[.string s] w fun e w' => e = .returned (parV (parD s)) ∧ Below w.heap.size w w' := by
  obtain ⟨R, hR⟩ : ∃ R, R = parD s := ⟨_, rfl⟩
  rw [← hR]
  by_cases h0 : (splitD s).2 = 0
  · rcases Nat.eq_zero_or_pos (splitD s).1.length with hl | hl
    · have HF := Lib.hid (hR.trans (parD_root h0 (List.eq_nil_of_length_eq_zero hl)))
      have e1 : (splitD s).1 = [] := List.eq_nil_of_length_eq_zero hl
      have E0 := Lib.hid h0
      have E1 := Lib.hid e1
      clear hR h0 hl e1
      go_enter Tryz.func83, Tryz.ntmps83
      go_wp2_with fail
      refine (rsplit_any s hs _).mono ?_
      rintro e w1 ⟨v, rfl, hk, hb⟩
      rw [E0.out]
      rw [E1.out] at hk
      obtain ⟨a, c, rfl, _, _⟩ := hk.shape
      have HB := Lib.hid hb
      clear hb hk
      go_wp2
      refine bodyPost_ret (results_three rfl _ _ _) rfl ?_
      exact ⟨by rw [HF.out]; rfl, HB.out⟩
    · obtain ⟨m, hm⟩ : ∃ m, (splitD s).1.length = m + 1 := ⟨_, (Nat.succ_pred_eq_of_pos hl).symm⟩
      have HF := Lib.hid (hR.trans (parD_ok h0 (by intro e; rw [e] at hm; simp at hm)))
      have hlen := split_len s
      have hjz : (joinD (splitD s).1.dropLast).size ≤ 1000000 := by
        have h1 := join_front (splitD s).1
        rw [join_split h0] at h1
        omega
      have E0 := Lib.hid h0
      generalize hll : (splitD s).1 = l at *
      have HLL := Lib.hid hll
      have HJZ := Lib.hid hjz
      have HM := Lib.hid hm
      have hm1 : m ≤ 100001 := by omega
      clear hR h0 hl hm hjz hlen hll
      go_enter Tryz.func83, Tryz.ntmps83
      go_wp2_with fail
      refine (rsplit_any s hs _).mono ?_
      rintro e w1 ⟨v, rfl, hk, hb⟩
      rw [E0.out]
      rw [HLL.out] at hk
      obtain ⟨xa, xc, rfl, hsl, hc⟩ := hk.shape
      have HB := Lib.hid hb
      rw [HM.out]
      rw [HM.out] at hc
      have hne : l ≠ [] := by intro e; have := HM.out; rw [e] at this; simp at this
      obtain ⟨bb, off, rfl, hbl, hcell⟩ := hsl hne
      have hlast : w1.cell? ⟨bb, off + m, none⟩ = some (.string (l.getLastD ⟨#[]⟩)) := hcell m _ (last_at HM.out)
      have HSL : Hid (Sl w1 Value.string (some ⟨bb, off, none⟩) l.dropLast) := by
        have := hsl.front m
        rw [front_take HM.out] at this
        exact this
      have HDL : Hid (l.dropLast.length = m) := by show _ = _; rw [List.length_dropLast, HM.out]; rfl
      generalize l.getLastD ⟨#[]⟩ = z at *
      clear hb hk hsl hcell hbl hne
      have hm0 : ¬ (m : Int) + 1 = 0 := by omega
      have hw2 : IntKind.i64.wrap ((m : Int) + 1) = m + 1 := i64_small _ (by omega) (by omega)
      have hw3 : IntKind.i64.wrap (m : Int) = m := i64_small _ (by omega) (by omega)
      have hmc : (m : Int) ≤ (xc : Int) := by omega
      have hmi : (m : Int) < (m : Int) + 1 := by omega
      have hmz : (0 : Int) ≤ (m : Int) := by omega
      go_wp2_with fail
      have c0 : w1.drew.cell? ⟨bb, off + m, none⟩ = some (.string z) := hlast
      clear hlast
      refine wp_region_sched (fun W => W.cell? ⟨bb, off + m, none⟩ = some (.string z)) 13 [(0, false), (1, false), (2, false), (3, false), (4, false), (6, false), (7, false), (8, false), (9, false), (10, false), (11, false), (5, true), (12, false)] (by kernel_rfl) (by kernel_rfl) c0 ?_
      simp only [List.drop_succ_cons, List.drop_zero]
      iterate 11 (apply wpSch_step rfl; (intro W hS K hK; go_simp; exact hK _ rfl))
      refine wpSch_make rfl (fun K' hK => ?_)
      go_simp
      have HJ := Lib.hid (rjoin_any (some ⟨bb, off, none⟩) xc l.dropLast w1.drew HSL.out HJZ.out (by rw [HDL.out]; omega))
      rw [HDL.out] at HJ
      refine HJ.out.mono ?_
      rintro e w2 ⟨rfl, rfl⟩
      refine hK _ _ _ (fun _ h => h) c0 ?_
      clear hK K' HJ
      apply wpSch_step rfl
      · intro W hS K hK
        go_simp
        exact hK _ rfl
      refine wpSch_nil ?_
      have HB2 : Hid (Below w.heap.size w w1.drew) := ⟨HB.out.os, HB.out.tape, HB.out.output, HB.out.size, HB.out.block⟩
      go_wp2
      refine bodyPost_ret (results_three rfl _ _ _) rfl ?_
      exact ⟨by rw [HF.out]; rfl, HB2.out⟩
  · have HF := Lib.hid (hR.trans (parD_err h0))
    have hq : ((splitD s).2 != 0) = true := by simpa using h0
    clear hR h0
    go_enter Tryz.func83, Tryz.ntmps83
    go_wp2_with fail
    refine (rsplit_any s hs _).mono ?_
    rintro e w1 ⟨v, rfl, hk, hb⟩
    obtain ⟨xa, xc, rfl, _, _⟩ := hk.shape
    have HB := Lib.hid hb
    clear hb hk
    go_wp2
    refine bodyPost_ret (results_three rfl _ _ _) rfl ?_
    exact ⟨by rw [HF.out]; rfl, HB.out⟩
end Go.Proofs.YteimpebfenpifaaGreatDoor
